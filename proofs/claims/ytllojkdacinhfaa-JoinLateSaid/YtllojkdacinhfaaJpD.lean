/- What comes in as a list of api.Join, or as one. -/
import Derived.Test.YtllojkdacinhfaaJpA
import Derived.Test.YtllojkdacinhfaaLsOpen
namespace Go.Proofs.Ytllojkdacinhfaa.Jp
open Go.RowKit Go.Shelf Go.Proofs.Ytllojkdacinhfaa Go.ChangeShapes Go.WideShapes Go.Deep Go.Joins
set_option linter.unusedVariables false
set_option linter.unusedSimpArgs false
section
variable {H : Type} {enc : TypeId × Value → H}
/-- What a value of the type is. -/
def Fit (x : El) : Prop := x.1.size ≤ maxLen ∧ (-9223372036854775808 ≤ x.2.1 ∧ x.2.1 ≤ 9223372036854775807) ∧ (-9223372036854775808 ≤ x.2.2.1 ∧ x.2.2.1 ≤ 9223372036854775807) ∧ (-9223372036854775808 ≤ x.2.2.2 ∧ x.2.2.2 ≤ 9223372036854775807)
theorem cellsEl : Try.prog.cellsOf 23 = 4 := by kernel_rfl
theorem open_one {r : Reach} {b0 : Nat} {W : World} {v : Value} {d : DataW H} {ps : List MemPlace} (hv : Value.okWide Try.prog W r b0 23 v) (h : DataW.Trod enc Try.prog W 0 (fun _ => true) true 23 v d ps) :
    ∃ x : El, v = eV x ∧ Fit x := by
  obtain ⟨v0, v1, v2, v3, y0, y1, y2, y3, n, rfl, _, _, h0, h1, h2, h3⟩ := open_agg4 Try.underlying23 (by kernel_rfl) cellsEl hv h
  obtain ⟨z0, e0, _, s0⟩ := DataW.trod_string Try.underlying9 h0
  obtain ⟨z1, e1, _, s1⟩ := DataW.trod_int Try.underlying3 h1
  obtain ⟨z2, e2, _, s2⟩ := DataW.trod_int Try.underlying3 h2
  obtain ⟨z3, e3, _, s3⟩ := DataW.trod_int Try.underlying3 h3
  simp only [List.cons.injEq, and_true] at e0 e1 e2 e3
  exact ⟨(z0, z1, z2, z3), by rw [e0, e1, e2, e3], ⟨s0, bounds_i64 s1, bounds_i64 s2, bounds_i64 s3⟩⟩
end
end Go.Proofs.Ytllojkdacinhfaa.Jp
