/- Layer 11: what comes in as a timer. -/
import Derived.Test.YtgipohicgbppaaaWhRow
import Derived.Lib.SmallJoins
namespace Go.Proofs.Ytgipohicgbppaaa
open Go.RowKit Go.Shelf Go.ChangeShapes Go.WideShapes Go.Deep Go.Joins
section
variable {H : Type} {enc : TypeId × Value → H}
theorem open_tm {r : Reach} {b0 : Nat} {W : World} {v : Value} {d : DataW H} {ps : List MemPlace} (hv : Value.okWide Try.prog W r b0 38 v) (h : DataW.Trod enc Try.prog W 0 (fun _ => true) true 38 v d ps) :
    ∃ x : Tm, v = tmV x := by
  obtain ⟨v0, v1, y0, y1, n, rfl, _, _, h0, h1⟩ := open_agg2 Try.underlying38 (by kernel_rfl) cellsTm hv h
  obtain ⟨n0, e0, _, _⟩ := DataW.trod_int Try.underlying3 h0
  obtain ⟨n1, e1, _, _⟩ := DataW.trod_int Try.underlying23 h1
  simp only [List.cons.injEq, and_true] at e0 e1
  exact ⟨(n0, n1), by rw [e0, e1]⟩
end
end Go.Proofs.Ytgipohicgbppaaa
