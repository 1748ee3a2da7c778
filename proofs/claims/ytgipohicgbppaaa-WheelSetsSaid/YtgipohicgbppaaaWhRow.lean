/- Layer 11: what comes in as a list of timers. -/
import Derived.Test.YtgipohicgbppaaaWhP
import Derived.Carry
import Derived.Deep.SlicePairs
import Derived.ProofKit
namespace Go.Proofs.Ytgipohicgbppaaa
open Go.RowKit Go.Shelf Go.ChangeShapes Go.WideShapes Go.Deep
section
variable {H : Type} {enc : TypeId × Value → H}
def numOf : Value → Int
  | .int _ n => n
  | _ => 0
theorem laidOut : laidOutB Try.prog = true := by kernel_rfl
theorem cellsTm : Try.prog.cellsOf 38 = 2 := by kernel_rfl
theorem cellsI : Try.prog.cellsOf 3 = 1 := by kernel_rfl
theorem cellsU : Try.prog.cellsOf 23 = 1 := by kernel_rfl
theorem open_tms {W : World} {v : Value} {d : DataW H} {ps : List MemPlace} (hv : ∃ a len cap, v = .slice a len cap) (h : DataW.Trod enc Try.prog W 0 (fun _ => true) true 22 v d ps) :
    ∃ (X : List Tm) (pa : Option Addr) (cap : Nat), v = .slice pa X.length cap ∧ X.length ≤ cap ∧ Rd W pa X ∧ (pa = none → cap = 0) := by
  obtain ⟨a0, l0, c0, rfl⟩ := hv
  obtain ⟨n, h⟩ := h
  rcases open_slice_pairs Try.underlying22 Try.underlying38 cellsTm rfl rfl cellsI cellsU h with ⟨hc, _⟩ | ⟨a, len, cap, m, k, V0, V1, D0, D1, P0, P1, hc, _, hl, hm, hmm, hx, hall⟩
  · simp [Value.cells] at hc
    obtain ⟨rfl, rfl, rfl⟩ := hc
    exact ⟨[], none, 0, rfl, Nat.le_refl _, Rd.nil _ _, fun _ => rfl⟩
  · simp [Value.cells] at hc
    obtain ⟨rfl, rfl, rfl⟩ := hc
    simp only [if_true] at hmm
    subst hmm
    refine ⟨(List.range l0).map fun i => (numOf (V0 i), numOf (V1 i)), some a, m, by simp, by simpa using hl, ⟨fun hx => ?_⟩, fun h => by cases h⟩
    have hpos : 0 < l0 := by
      rcases Nat.eq_zero_or_pos l0 with h | h
      · subst h; simp at hx
      · exact h
    obtain ⟨b, o, spot⟩ := a
    have hspot : spot = none := by simpa [Addr.add] using World.cell?_spot (hall 0 (by omega)).1
    subst hspot
    refine ⟨b, o, rfl, ?_, fun i hi => ?_⟩
    · have := World.block_lt_of_cell? W _ (hall 0 (by omega)).1
      simpa [Addr.add] using this
    · simp only [List.length_map, List.length_range] at hi
      have ha := hall i (by omega)
      obtain ⟨n0, e0, _, _⟩ := DataW.trod_int Try.underlying3 ha.2.2.1
      obtain ⟨n1, e1, _, _⟩ := DataW.trod_int Try.underlying23 ha.2.2.2
      simp only [List.cons.injEq, and_true] at e0 e1
      have f0 := ha.1
      have f1 := ha.2.1
      rw [e0, addr_add] at f0
      rw [e1, addr_add] at f1
      simp only [List.getElem_map, List.getElem_range, e0, e1, numOf]
      exact ⟨f0, by rw [Nat.add_assoc]; exact f1⟩
end
end Go.Proofs.Ytgipohicgbppaaa
