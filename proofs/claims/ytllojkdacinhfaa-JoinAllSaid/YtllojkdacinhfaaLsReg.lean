/- A drawn region by hand: one operation at a time, the frame written out anew behind each. -/
import Derived.Test.YtllojkdacinhfaaLsBase
namespace Go.Proofs.Ytllojkdacinhfaa
open Go.RowKit Go.Shelf
section
variable {P : Program} {ops : Array Oper} {Q : Exit → Act → World → Prop} {md : Region.Mode} {S : World → Prop}
theorem rgTake {i d : Nat} {oi : Oper} {v : Value} {fuel : Nat} {listed : Array Bool} {ts : List Value} {df : List Deferred} {w : World} (hi : ops[i]? = some oi) (hd : oi.dst = some d)
    (hs : Region.noSelect ops = true) (hf : Region.free md ops listed i = true) (hr : (Region.ready md ops listed).contains i = true)
    (hQ : ∀ c a w, Q (.panic c) (a.put (some d) v) w → Q (.panic c) a w) (hy : YieldsIf P ops S oi v { tmps := ts.toArray, defers := df }) (hS : S w)
    (h : wpAnyH P md ops Q S fuel (listed.setIfInBounds i true) { tmps := (ts.set d v).toArray, defers := df } w) : wpAnyH P md ops Q S (fuel + 1) listed { tmps := ts.toArray, defers := df } w := by
  refine wpAnyH_take hi hs hf hr (by rw [hd]; exact hQ) hy hS ?_
  rw [hd]
  simp only [Act.put, List.setIfInBounds_toArray]
  exact h
end
end Go.Proofs.Ytllojkdacinhfaa
