/- Lists of numbers that come in; a map of the call's own, behind what follows. -/
import Derived.Test.YtllojkdacinhfaaLsOpen
import Derived.Maps.Own
import Derived.Maps.OwnOps
import Derived.Maps.OwnSet
namespace Go.Proofs.Ytllojkdacinhfaa
open Go.RowKit Go.Shelf Go.ChangeShapes Go.WideShapes Go.Deep Go.Joins
set_option linter.unusedVariables false
structure RdI (q : IntKind) (w : World) (pa : Option Addr) (X : List Int) : Prop where
  out : X ≠ [] → ∃ b o, pa = some ⟨b, o, none⟩ ∧ b < w.heap.size ∧ ∀ i (h : i < X.length), w.cell? ⟨b, o + i, none⟩ = some (.int q X[i])
theorem RdI.at {q : IntKind} {w : World} {pa : Option Addr} {X : List Int} (h : RdI q w pa X) (i : Nat) (hi : i < X.length) : ∃ b o, pa = some ⟨b, o, none⟩ ∧ b < w.heap.size ∧ w.cell? ⟨b, o + i, none⟩ = some (.int q X[i]) := by
  obtain ⟨b, o, e, hb, hc⟩ := h.out (by intro e; rw [e] at hi; exact absurd hi (by simp))
  exact ⟨b, o, e, hb, hc i hi⟩
theorem RdI.lift {q : IntKind} {w w' : World} {pa : Option Addr} {X : List Int} (h : RdI q w pa X) {M : Nat} (hb : Below M w w') (hM : w.heap.size ≤ M) : RdI q w' pa X := ⟨fun hx => by
  obtain ⟨b, o, e, hlt, hc⟩ := h.out hx
  exact ⟨b, o, e, Nat.lt_of_lt_of_le hlt hb.size, fun i hi => (hb.cell (p := ⟨b, o + i, none⟩) (by show b < M; omega)).trans (hc i hi)⟩⟩
theorem lsMap_lift {H : Type} {P : Program} {k : TypeId} {R : Value → Option (DataW H × List MemPlace)} {b n : Nat} {D : DataW H} {w w' : World} (h : w.ownsMap P k R b n D) (hb : Below w.heap.size w w') : w'.ownsMap P k R b n D := by
  obtain ⟨es, clock, h1, h2⟩ := h
  have hlt : b < w.heap.size := (Array.getElem?_eq_some_iff.1 h1).1
  exact ⟨es, clock, (hb.block b hlt).trans h1, h2⟩
section
variable {H : Type} {enc : TypeId × Value → H}
theorem open_ints {t e : TypeId} {q : IntKind} (ht : Try.prog.underlying t = some (.slice e)) (he : Try.prog.underlying e = some (.int q)) (hC : Try.prog.cellsOf e = 1) {W : World} {v : Value} {d : DataW H} {ps : List MemPlace} (hv : ∃ a len cap, v = .slice a len cap)
    (h : DataW.Trod enc Try.prog W 0 (fun _ => true) true t v d ps) :
    ∃ (X : List Int) (pa : Option Addr) (cap : Nat), v = .slice pa X.length cap ∧ X.length ≤ cap ∧ RdI q W pa X ∧ (∀ x ∈ X, (Lit.int q x).wf = true) ∧ X.length ≤ 9223372036854775807 := by
  obtain ⟨a0, l0, c0, rfl⟩ := hv
  obtain ⟨n, h⟩ := h
  rcases open_slice ht h with ⟨hc, _⟩ | ⟨a, len, cap, m, nf, D, Pl, hc, _, hl, hm, hmm, hx, hall⟩
  · simp [Value.cells] at hc
    obtain ⟨rfl, rfl, rfl⟩ := hc
    exact ⟨[], none, 0, rfl, Nat.le_refl _, ⟨fun h => absurd rfl h⟩, fun x hx => absurd hx (by simp), by simp⟩
  · simp [Value.cells] at hc
    obtain ⟨rfl, rfl, rfl⟩ := hc
    simp only [if_true] at hmm
    subst hmm
    rw [hC] at hall
    have key : ∀ i, i < m → ∃ x : Int, (Lit.int q x).wf = true ∧ W.cell? ((a.add (i * 1)).add 0) = some (.int q x) := by
      intro i hi
      obtain ⟨cs, hcs, htr⟩ := hall i hi
      obtain ⟨_, hcl, hat⟩ := World.cells?_some hcs
      obtain ⟨z, e1, _, hw⟩ := DataW.trod_int he htr
      refine ⟨z, hw, ?_⟩
      rw [hat 0 (by omega), e1]; rfl
    obtain ⟨f, hf⟩ : ∃ f : Nat → Int, ∀ i, i < m → (Lit.int q (f i)).wf = true ∧ W.cell? ((a.add (i * 1)).add 0) = some (.int q (f i)) :=
      ⟨fun i => if h : i < m then Classical.choose (key i h) else 0, fun i h => by
        simp only [dif_pos h]
        exact Classical.choose_spec (key i h)⟩
    clear key hall
    refine ⟨(List.range l0).map f, some a, m, by simp, by simpa using hl, ⟨fun hx => ?_⟩, fun x hx => ?_, by unfold maxLen at hm; simp; omega⟩
    · have hpos : 0 < l0 := by
        rcases Nat.eq_zero_or_pos l0 with h | h
        · subst h; simp at hx
        · exact h
      obtain ⟨b, o, spot⟩ := a
      have hk0 := (hf 0 (by omega)).2
      have hspot : spot = none := by simpa [Addr.add] using World.cell?_spot hk0
      subst hspot
      refine ⟨b, o, rfl, by simpa [Addr.add] using World.block_lt_of_cell? W _ hk0, fun i hi => ?_⟩
      have hi2 : i < l0 := by simpa using hi
      have hs := (hf i (by omega)).2
      simp only [lsAdd, Nat.add_zero, Nat.mul_one] at hs
      simp only [List.getElem_map, List.getElem_range]
      exact hs
    · obtain ⟨i, hi, rfl⟩ := List.mem_map.1 hx
      have hi2 : i < l0 := by simpa using hi
      exact (hf i (by omega)).1
end
end Go.Proofs.Ytllojkdacinhfaa
