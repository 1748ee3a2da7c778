/- What comes in as a list of api.Kept, or as one. -/
import Derived.Test.YtllojkdacinhfaaKeA
import Derived.Test.YtllojkdacinhfaaLsOpen
namespace Go.Proofs.Ytllojkdacinhfaa.Ke
open Go.RowKit Go.Shelf Go.Proofs.Ytllojkdacinhfaa Go.ChangeShapes Go.WideShapes Go.Deep Go.Joins
set_option linter.unusedVariables false
set_option linter.unusedSimpArgs false
section
variable {H : Type} {enc : TypeId × Value → H}
/-- What a value of the type is. -/
def Fit (x : El) : Prop := (-9223372036854775808 ≤ x.1 ∧ x.1 ≤ 9223372036854775807) ∧ (0 ≤ x.2.1 ∧ x.2.1 ≤ 18446744073709551615) ∧ (-9223372036854775808 ≤ x.2.2 ∧ x.2.2 ≤ 9223372036854775807)
theorem cellsEl : Try.prog.cellsOf 27 = 3 := by kernel_rfl
theorem open_list {W : World} {v : Value} {d : DataW H} {ps : List MemPlace} (hv : ∃ a len cap, v = .slice a len cap) (h : DataW.Trod enc Try.prog W 0 (fun _ => true) true 24 v d ps) :
    ∃ (X : List El) (pa : Option Addr) (cap : Nat), v = .slice pa X.length cap ∧ X.length ≤ cap ∧ Rd W pa X ∧ (pa = none → cap = 0) ∧ (∀ x ∈ X, Fit x) ∧ X.length ≤ 9223372036854775807 := by
  obtain ⟨a0, l0, c0, rfl⟩ := hv
  obtain ⟨n, h⟩ := h
  rcases open_slice Try.underlying24 h with ⟨hc, _⟩ | ⟨a, len, cap, m, nf, D, Pl, hc, _, hl, hm, hmm, hx, hall⟩
  · simp [Value.cells] at hc
    obtain ⟨rfl, rfl, rfl⟩ := hc
    exact ⟨[], none, 0, rfl, Nat.le_refl _, Rd.nil _ _, fun _ => rfl, fun x hx => absurd hx (by simp), by simp⟩
  · simp [Value.cells] at hc
    obtain ⟨rfl, rfl, rfl⟩ := hc
    simp only [if_true] at hmm
    subst hmm
    have key : ∀ i, i < m → ∃ x : El, Fit x ∧ W.cell? ((a.add (i * 3)).add 0) = some (.int .i64 x.1) ∧ W.cell? ((a.add (i * 3)).add 1) = some (.int .u64 x.2.1) ∧ W.cell? ((a.add (i * 3)).add 2) = some (.int .i64 x.2.2) := by
      intro i hi
      obtain ⟨cs', hcs, htr⟩ := hall i hi
      rw [cellsEl] at hcs
      have hf := fun j f hj => lsField Try.underlying27 (by kernel_rfl) rfl hcs htr j f hj
      obtain ⟨u0, y0, n0, g0, t0⟩ := hf 0 _ rfl
      obtain ⟨z0, e0, _, s0⟩ := DataW.trod_int Try.underlying3 t0
      simp only [List.cons.injEq, and_true] at e0
      subst e0
      obtain ⟨u1, y1, n1, g1, t1⟩ := hf 1 _ rfl
      obtain ⟨z1, e1, _, s1⟩ := DataW.trod_int Try.underlying25 t1
      simp only [List.cons.injEq, and_true] at e1
      subst e1
      obtain ⟨u2, y2, n2, g2, t2⟩ := hf 2 _ rfl
      obtain ⟨z2, e2, _, s2⟩ := DataW.trod_int Try.underlying3 t2
      simp only [List.cons.injEq, and_true] at e2
      subst e2
      exact ⟨(z0, z1, z2), ⟨bounds_i64 s0, bounds_u64 s1, bounds_i64 s2⟩, g0, g1, g2⟩
    obtain ⟨f, hf⟩ : ∃ f : Nat → El, ∀ i, i < m → Fit (f i) ∧ W.cell? ((a.add (i * 3)).add 0) = some (.int .i64 (f i).1) ∧ W.cell? ((a.add (i * 3)).add 1) = some (.int .u64 (f i).2.1) ∧ W.cell? ((a.add (i * 3)).add 2) = some (.int .i64 (f i).2.2) :=
      ⟨fun i => if h : i < m then Classical.choose (key i h) else ((0 : Int), (0 : Int), (0 : Int)), fun i h => by
        simp only [dif_pos h]
        exact Classical.choose_spec (key i h)⟩
    clear key hall
    refine ⟨(List.range l0).map f, some a, m, by simp, by simpa using hl, ⟨fun hx => ?_⟩, (fun h => by cases h), fun x hx => ?_, by unfold maxLen at hm; simp; omega⟩
    · have hpos : 0 < l0 := by
        rcases Nat.eq_zero_or_pos l0 with h | h
        · subst h; simp at hx
        · exact h
      obtain ⟨b, o, spot⟩ := a
      have hk0 := (hf 0 (by omega)).2.1
      have hspot : spot = none := by simpa [Addr.add] using World.cell?_spot hk0
      subst hspot
      refine ⟨b, o, rfl, by simpa [Addr.add] using World.block_lt_of_cell? W _ hk0, fun i hi => ?_⟩
      have hi2 : i < l0 := by simpa using hi
      have hs := (hf i (by omega)).2
      simp only [lsAdd, Nat.add_zero] at hs
      simp only [List.getElem_map, List.getElem_range]
      exact hs
    · obtain ⟨i, hi, rfl⟩ := List.mem_map.1 hx
      have hi2 : i < l0 := by simpa using hi
      exact (hf i (by omega)).1
theorem open_one {r : Reach} {b0 : Nat} {W : World} {v : Value} {d : DataW H} {ps : List MemPlace} (hv : Value.okWide Try.prog W r b0 27 v) (h : DataW.Trod enc Try.prog W 0 (fun _ => true) true 27 v d ps) :
    ∃ x : El, v = eV x ∧ Fit x := by
  obtain ⟨v0, v1, v2, y0, y1, y2, n, rfl, _, _, h0, h1, h2⟩ := open_agg3 Try.underlying27 (by kernel_rfl) cellsEl hv h
  obtain ⟨z0, e0, _, s0⟩ := DataW.trod_int Try.underlying3 h0
  obtain ⟨z1, e1, _, s1⟩ := DataW.trod_int Try.underlying25 h1
  obtain ⟨z2, e2, _, s2⟩ := DataW.trod_int Try.underlying3 h2
  simp only [List.cons.injEq, and_true] at e0 e1 e2
  exact ⟨(z0, z1, z2), by rw [e0, e1, e2], ⟨bounds_i64 s0, bounds_u64 s1, bounds_i64 s2⟩⟩
end
end Go.Proofs.Ytllojkdacinhfaa.Ke
