/- A part of a way to reckon what a Go program does without its memory (JoA). -/
import Derived.Test.YtllojkdacinhfaaJoM
import Derived.Test.YtllojkdacinhfaaJoW
namespace Go.Av
open Go
set_option autoImplicit false
set_option linter.all false
theorem FnIs.callw3 {P : Program} {f : FuncId} {ac : AC} {nt : Nat} {rs : List RA} (hi : FnIs P f ac nt rs) (p q r : List Nat) {args env : List V} {H : List Entry} {K : KV} (he0 : env = args ++ List.replicate (nt - args.length) undefV) (h : Wf H → awp P H.length (wkP p (wkP q (wkP r ac))) (finW H.length rs K) env H) : BCall P f args H K := by
  obtain ⟨⟨fn, h1, h2, h3, h4, rfl⟩, h5⟩ := hi
  exact call_of2 h1 h2 (by rw [strip_wkP, strip_wkP, strip_wkP]; exact h5) h3 h4 he0 h
section
variable {X : List Ke} {H : List Entry} {a b : Nat}
def kin (j : Jo) : Jo := (j.1.take 10, j.2)
@[go_sem] theorem kin1 (j : Jo) : (kin j).1 = j.1.take 10 := (rfl)
@[go_sem] theorem kin2 (j : Jo) : (kin j).2 = j.2 := (rfl)
theorem s_Kind {j : Jo} {K : KV} (hj : j.1.length ≤ 9223372036854775807) (hK : K (joV (kin j)) (H ++ [.box [.str (j.1.take 10), .int .i64 j.2.1, .int .i64 j.2.2.1, .int .i64 j.2.2.2], .box [.str (j.1.take 10), .int .i64 j.2.1, .int .i64 j.2.2.1, .int .i64 j.2.2.2]])) : BCall AP n_trystlaw09_Kind [joV j] H K := by
  refine a_trystlaw09_Kind fun hw => ?_
  simp (disch := first | omega | (simp only [go_sem, List.length_append, List.length_take, List.length_drop, List.length_cons, List.length_nil] <;> omega)) only [go_sem, Nat.reduceAdd, Nat.reduceSub, Nat.reduceMul, Nat.reduceEqDiff, Nat.reduceLeDiff, Nat.reduceLT, Nat.reduceBEq, Int.reduceAdd, Int.reduceSub, Int.reduceMul, Int.reduceNeg, Int.reduceLT, Int.reduceLE, Int.reduceEq, Int.reduceToNat, c_trystlaw09_Kind]
  by_cases h : 10 < (j.1.length : Int)
  · simp (disch := first | omega | (simp only [go_sem, List.length_append, List.length_take, List.length_drop, List.length_cons, List.length_nil] <;> omega)) only [go_sem, Nat.reduceAdd, Nat.reduceSub, Nat.reduceMul, Nat.reduceEqDiff, Nat.reduceLeDiff, Nat.reduceLT, Nat.reduceBEq, Int.reduceAdd, Int.reduceSub, Int.reduceMul, Int.reduceNeg, Int.reduceLT, Int.reduceLE, Int.reduceEq, Int.reduceToNat]
    refine wk_refl ?_
    simp (disch := first | omega | (simp only [go_sem, List.length_append, List.length_take, List.length_drop, List.length_cons, List.length_nil] <;> omega)) only [go_sem, Nat.reduceAdd, Nat.reduceSub, Nat.reduceMul, Nat.reduceEqDiff, Nat.reduceLeDiff, Nat.reduceLT, Nat.reduceBEq, Int.reduceAdd, Int.reduceSub, Int.reduceMul, Int.reduceNeg, Int.reduceLT, Int.reduceLE, Int.reduceEq, Int.reduceToNat, resK]
    simpa only [go_sem] using hK
  · have ht : j.1.take 10 = j.1 := List.take_of_length_le (by omega)
    simp (disch := first | omega | (simp only [go_sem, List.length_append, List.length_take, List.length_drop, List.length_cons, List.length_nil] <;> omega)) only [go_sem, Nat.reduceAdd, Nat.reduceSub, Nat.reduceMul, Nat.reduceEqDiff, Nat.reduceLeDiff, Nat.reduceLT, Nat.reduceBEq, Int.reduceAdd, Int.reduceSub, Int.reduceMul, Int.reduceNeg, Int.reduceLT, Int.reduceLE, Int.reduceEq, Int.reduceToNat]
    refine wk_refl ?_
    rw [ht] at hK
    simp (disch := first | omega | (simp only [go_sem, List.length_append, List.length_take, List.length_drop, List.length_cons, List.length_nil] <;> omega)) only [go_sem, Nat.reduceAdd, Nat.reduceSub, Nat.reduceMul, Nat.reduceEqDiff, Nat.reduceLeDiff, Nat.reduceLT, Nat.reduceBEq, Int.reduceAdd, Int.reduceSub, Int.reduceMul, Int.reduceNeg, Int.reduceLT, Int.reduceLE, Int.reduceEq, Int.reduceToNat, resK]
    simpa only [go_sem, ht] using hK
theorem s_KindD {j : Jo} {K : KV} (hj : j.1.length ≤ 9223372036854775807) (hK : K (joV (kin j)) (H ++ [.box [.str (j.1.take 10), .int .i64 j.2.1, .int .i64 j.2.2.1, .int .i64 j.2.2.2], .box [.str (j.1.take 10), .int .i64 j.2.1, .int .i64 j.2.2.1, .int .i64 j.2.2.2]])) : DCall AP n_trystlaw09_Kind [joV j] H K :=
  ⟨_, [_, _], s_Kind hj ⟨rfl, rfl⟩, hK⟩
theorem s_Few {K : KV} (hX : X.length ≤ 9223372036854775807) (hK : K (.own H.length (X.take 31).length) (H ++ [.row 27 3 ((X.take 31).map elV)])) : BCall AP n_trystlaw09_Few [.sl 3 (X.map elV)] H K := by
  refine a_trystlaw09_Few fun hw => ?_
  simp (disch := first | omega | (simp only [go_sem, List.length_append, List.length_take, List.length_drop, List.length_cons, List.length_nil] <;> omega)) only [go_sem, Nat.reduceAdd, Nat.reduceSub, Nat.reduceMul, Nat.reduceEqDiff, Nat.reduceLeDiff, Nat.reduceLT, Nat.reduceBEq, Int.reduceAdd, Int.reduceSub, Int.reduceMul, Int.reduceNeg, Int.reduceLT, Int.reduceLE, Int.reduceEq, Int.reduceToNat, c_trystlaw09_Few]
  by_cases h : 31 < (X.length : Int)
  · simp (disch := first | omega | (simp only [go_sem, List.length_append, List.length_take, List.length_drop, List.length_cons, List.length_nil] <;> omega)) only [go_sem, Nat.reduceAdd, Nat.reduceSub, Nat.reduceMul, Nat.reduceEqDiff, Nat.reduceLeDiff, Nat.reduceLT, Nat.reduceBEq, Int.reduceAdd, Int.reduceSub, Int.reduceMul, Int.reduceNeg, Int.reduceLT, Int.reduceLE, Int.reduceEq, Int.reduceToNat]
    refine fin_all ?_
    simp (disch := first | omega | (simp only [go_sem, List.length_append, List.length_take, List.length_drop, List.length_cons, List.length_nil] <;> omega)) only [go_sem, Nat.reduceAdd, Nat.reduceSub, Nat.reduceMul, Nat.reduceEqDiff, Nat.reduceLeDiff, Nat.reduceLT, Nat.reduceBEq, Int.reduceAdd, Int.reduceSub, Int.reduceMul, Int.reduceNeg, Int.reduceLT, Int.reduceLE, Int.reduceEq, Int.reduceToNat]
    simpa only [go_sem, List.length_map, List.length_take] using hK
  · have ht : X.take 31 = X := List.take_of_length_le (by omega)
    rw [ht] at hK
    simp (disch := first | omega | (simp only [go_sem, List.length_append, List.length_take, List.length_drop, List.length_cons, List.length_nil] <;> omega)) only [go_sem, Nat.reduceAdd, Nat.reduceSub, Nat.reduceMul, Nat.reduceEqDiff, Nat.reduceLeDiff, Nat.reduceLT, Nat.reduceBEq, Int.reduceAdd, Int.reduceSub, Int.reduceMul, Int.reduceNeg, Int.reduceLT, Int.reduceLE, Int.reduceEq, Int.reduceToNat]
    refine fin_all ?_
    simp (disch := first | omega | (simp only [go_sem, List.length_append, List.length_take, List.length_drop, List.length_cons, List.length_nil] <;> omega)) only [go_sem, Nat.reduceAdd, Nat.reduceSub, Nat.reduceMul, Nat.reduceEqDiff, Nat.reduceLeDiff, Nat.reduceLT, Nat.reduceBEq, Int.reduceAdd, Int.reduceSub, Int.reduceMul, Int.reduceNeg, Int.reduceLT, Int.reduceLE, Int.reduceEq, Int.reduceToNat]
    simpa only [go_sem, List.length_map] using hK
theorem s_FewD {K : KV} (hX : X.length ≤ 9223372036854775807) (hK : K (.own H.length (X.take 31).length) (H ++ [.row 27 3 ((X.take 31).map elV)])) : DCall AP n_trystlaw09_Few [.sl 3 (X.map elV)] H K :=
  ⟨_, [_], s_Few hX ⟨rfl, rfl⟩, hK⟩
end
end Go.Av
