/- A part of a way to reckon what a Go program does without its memory (Ev). -/
import Derived.Test.YthonnheklgmkaaaEu
import Derived.Test.YthonnheklgmkaaaEa
namespace Go.Av
open Go
set_option autoImplicit false
set_option linter.all false
theorem topicB_len {s : List UInt8} (h : topicB s = true) : s.length ≤ 40 := by
  unfold topicB Go.Proofs.Ythonnheklgmkaaa.topicL Go.Proofs.Ythonnheklgmkaaa.isL at h
  simp only [Bool.and_eq_true, decide_eq_true_eq] at h
  omega
theorem layE_pos (e : Ev) : 1 ≤ (layE e).length := by
  simp [layE, layT, pkS, Go.Proofs.Ythonnheklgmkaaa.pkL_length]
  omega
theorem fieldB_len {s : List UInt8} (h : fieldB s = true) : s.length ≤ 16 := by
  unfold fieldB at h
  simp only [Bool.and_eq_true, decide_eq_true_eq] at h
  exact h.1
theorem may_lens {e : Ev} (hm : mayE e = true) : e.1.length ≤ 40 ∧ e.2.1.length ≤ 16 ∧ e.2.2.2.length ≤ 8 ∧ ∀ f ∈ e.2.2.2, f.1.length ≤ 16 ∧ mayV f.2 = true := by
  unfold mayE mayFs at hm
  simp only [Bool.and_eq_true, Bool.not_eq_true', List.any_eq_false, Bool.or_eq_true, not_or, Bool.not_eq_false, decide_eq_true_eq] at hm
  refine ⟨topicB_len hm.1, fieldB_len hm.2.1, hm.2.2.2.1, fun f hf => ?_⟩
  have := hm.2.2.2.2.1 f hf
  exact ⟨fieldB_len (by simpa using this.1), by simpa using this.2⟩
theorem rt_may {e : Ev} (he : evB e) (hm : mayE e = true) : RT evR (layE e) e := by
  obtain ⟨h1, h2, h3, h4⟩ := may_lens hm
  exact rt_ev he h1 h2 h3 fun f hf => ⟨may_fB he hm f hf, (h4 f hf).1⟩
theorem takE_cut {e : Ev} (he : evB e) (hm : mayE e = true) {m : Nat} (h : m < (layE e).length) : takE ((layE e).take m) = (z0, 0, 3) := by
  have := (rt_may he hm).cut m h
  unfold takE
  simp only
  rw [if_neg (by rw [this]; decide), this]
theorem law_short {e : Ev} {n : Int} {H : List Entry} (he : evA e) (hn : 0 ≤ n ∧ n ≤ 65535) : Pure AP n_trystlaw04_EventShort [evV e, .int .u16 n] H (.bool true) := by
  intro K hK
  refine a_trystlaw04_EventShort fun hw => ?_
  simp (disch := first | omega | (simp only [go_sem, true_and, and_true, List.length_append, List.length_take, List.length_set, List.length_drop, List.length_replicate, List.length_cons, List.length_nil, List.length_replicate] <;> omega)) only [go_sem, true_and, Nat.reduceAdd, Nat.reduceSub, Nat.reduceMul, Nat.reduceEqDiff, Nat.reduceLeDiff, Nat.reduceLT, Nat.reduceBEq, Int.reduceAdd, Int.reduceSub, Int.reduceMul, Int.reduceNeg, Int.reduceLT, Int.reduceLE, Int.reduceEq, Int.reduceToNat, c_trystlaw04_EventShort]
  refine s_Few4 he.1 _ ?_
  have hA := few_B he
  simp (disch := first | omega | (simp only [go_sem, true_and, and_true, List.length_append, List.length_take, List.length_set, List.length_drop, List.length_replicate, List.length_cons, List.length_nil, List.length_replicate] <;> omega)) only [go_sem, true_and, Nat.reduceAdd, Nat.reduceSub, Nat.reduceMul, Nat.reduceEqDiff, Nat.reduceLeDiff, Nat.reduceLT, Nat.reduceBEq, Int.reduceAdd, Int.reduceSub, Int.reduceMul, Int.reduceNeg, Int.reduceLT, Int.reduceLE, Int.reduceEq, Int.reduceToNat]
  generalize fewE e = A at *
  refine s_Lay (e := A) hA _ ?_
  have lA := hA.2.2.2.1
  cases hm : mayE A
  · simp (disch := first | omega | (simp only [go_sem, true_and, and_true, List.length_append, List.length_take, List.length_set, List.length_drop, List.length_replicate, List.length_cons, List.length_nil, List.length_replicate] <;> omega)) only [go_sem, true_and, Nat.reduceAdd, Nat.reduceSub, Nat.reduceMul, Nat.reduceEqDiff, Nat.reduceLeDiff, Nat.reduceLT, Nat.reduceBEq, Int.reduceAdd, Int.reduceSub, Int.reduceMul, Int.reduceNeg, Int.reduceLT, Int.reduceLE, Int.reduceEq, Int.reduceToNat, Bool.false_eq_true, if_false, decide_true, decide_false]
    refine awake_ok _ _ ?_
    simp (disch := first | omega | (simp only [go_sem, true_and, and_true, List.length_append, List.length_take, List.length_set, List.length_drop, List.length_replicate, List.length_cons, List.length_nil, List.length_replicate] <;> omega)) only [go_sem, true_and, Nat.reduceAdd, Nat.reduceSub, Nat.reduceMul, Nat.reduceEqDiff, Nat.reduceLeDiff, Nat.reduceLT, Nat.reduceBEq, Int.reduceAdd, Int.reduceSub, Int.reduceMul, Int.reduceNeg, Int.reduceLT, Int.reduceLE, Int.reduceEq, Int.reduceToNat]
    refine fin_tmp hw ?_ (fin_eq hK ?_)
    · simp (disch := first | omega | (simp only [go_sem, true_and, and_true, List.length_append, List.length_take, List.length_set, List.length_drop, List.length_replicate, List.length_cons, List.length_nil, List.length_replicate] <;> omega)) only [go_sem, true_and, Nat.reduceAdd, Nat.reduceSub, Nat.reduceMul, Nat.reduceEqDiff, Nat.reduceLeDiff, Nat.reduceLT, Nat.reduceBEq, Int.reduceAdd, Int.reduceSub, Int.reduceMul, Int.reduceNeg, Int.reduceLT, Int.reduceLE, Int.reduceEq, Int.reduceToNat]
    · simp (disch := first | omega | (simp only [go_sem, true_and, and_true, List.length_append, List.length_take, List.length_set, List.length_drop, List.length_replicate, List.length_cons, List.length_nil, List.length_replicate] <;> omega)) only [go_sem, true_and, Nat.reduceAdd, Nat.reduceSub, Nat.reduceMul, Nat.reduceEqDiff, Nat.reduceLeDiff, Nat.reduceLT, Nat.reduceBEq, Int.reduceAdd, Int.reduceSub, Int.reduceMul, Int.reduceNeg, Int.reduceLT, Int.reduceLE, Int.reduceEq, Int.reduceToNat]
  simp (disch := first | omega | (simp only [go_sem, true_and, and_true, List.length_append, List.length_take, List.length_set, List.length_drop, List.length_replicate, List.length_cons, List.length_nil, List.length_replicate] <;> omega)) only [go_sem, true_and, Nat.reduceAdd, Nat.reduceSub, Nat.reduceMul, Nat.reduceEqDiff, Nat.reduceLeDiff, Nat.reduceLT, Nat.reduceBEq, Int.reduceAdd, Int.reduceSub, Int.reduceMul, Int.reduceNeg, Int.reduceLT, Int.reduceLE, Int.reduceEq, Int.reduceToNat, if_true, decide_true, decide_false]
  have l1 := layE_len hA
  have l2 := layE_pos A
  have h0 : ¬ (layE A).length = 0 := by omega
  obtain ⟨m, hm1, hm2⟩ : ∃ m : Nat, n % ((layE A).length : Int) = (m : Int) ∧ m < (layE A).length := ⟨(n % ((layE A).length : Int)).toNat, by
    have := Int.emod_nonneg n (b := ((layE A).length : Int)) (by omega)
    omega, by
    have := Int.emod_lt_of_pos n (b := ((layE A).length : Int)) (by omega)
    have := Int.emod_nonneg n (b := ((layE A).length : Int)) (by omega)
    omega⟩
  simp (disch := first | omega | (simp only [go_sem, true_and, and_true, List.length_append, List.length_take, List.length_set, List.length_drop, List.length_replicate, List.length_cons, List.length_nil, List.length_replicate] <;> omega)) only [go_sem, true_and, Nat.reduceAdd, Nat.reduceSub, Nat.reduceMul, Nat.reduceEqDiff, Nat.reduceLeDiff, Nat.reduceLT, Nat.reduceBEq, Int.reduceAdd, Int.reduceSub, Int.reduceMul, Int.reduceNeg, Int.reduceLT, Int.reduceLE, Int.reduceEq, Int.reduceToNat, h0, decide_false, hm1]
  refine s_Take (by simp; omega) _ ?_
  rw [takE_cut hA hm hm2]
  simp (disch := first | omega | (simp only [go_sem, true_and, and_true, List.length_append, List.length_take, List.length_set, List.length_drop, List.length_replicate, List.length_cons, List.length_nil, List.length_replicate] <;> omega)) only [go_sem, true_and, Nat.reduceAdd, Nat.reduceSub, Nat.reduceMul, Nat.reduceEqDiff, Nat.reduceLeDiff, Nat.reduceLT, Nat.reduceBEq, Int.reduceAdd, Int.reduceSub, Int.reduceMul, Int.reduceNeg, Int.reduceLT, Int.reduceLE, Int.reduceEq, Int.reduceToNat]
  refine bcall_less (b := [evV z0, evV z0]) (r_Same (a := z0) (b := z0) (by simp [z0]) (by simp [z0]) _ ?_) (by repeat' (first | exact .nil _ | exact .slx _ _ | exact .refl _ | exact .nil | refine .cons ?_ ?_ | refine .agg ?_ | refine .tup ?_))
  rw [sameE_eq rfl]
  simp (disch := first | omega | (simp only [go_sem, true_and, and_true, List.length_append, List.length_take, List.length_set, List.length_drop, List.length_replicate, List.length_cons, List.length_nil, List.length_replicate] <;> omega)) only [go_sem, true_and, Nat.reduceAdd, Nat.reduceSub, Nat.reduceMul, Nat.reduceEqDiff, Nat.reduceLeDiff, Nat.reduceLT, Nat.reduceBEq, Int.reduceAdd, Int.reduceSub, Int.reduceMul, Int.reduceNeg, Int.reduceLT, Int.reduceLE, Int.reduceEq, Int.reduceToNat]
  refine awake_ok _ _ ?_
  simp (disch := first | omega | (simp only [go_sem, true_and, and_true, List.length_append, List.length_take, List.length_set, List.length_drop, List.length_replicate, List.length_cons, List.length_nil, List.length_replicate] <;> omega)) only [go_sem, true_and, Nat.reduceAdd, Nat.reduceSub, Nat.reduceMul, Nat.reduceEqDiff, Nat.reduceLeDiff, Nat.reduceLT, Nat.reduceBEq, Int.reduceAdd, Int.reduceSub, Int.reduceMul, Int.reduceNeg, Int.reduceLT, Int.reduceLE, Int.reduceEq, Int.reduceToNat]
  refine fin_tmp hw ?_ (fin_eq hK ?_)
  · simp (disch := first | omega | (simp only [go_sem, true_and, and_true, List.length_append, List.length_take, List.length_set, List.length_drop, List.length_replicate, List.length_cons, List.length_nil, List.length_replicate] <;> omega)) only [go_sem, true_and, Nat.reduceAdd, Nat.reduceSub, Nat.reduceMul, Nat.reduceEqDiff, Nat.reduceLeDiff, Nat.reduceLT, Nat.reduceBEq, Int.reduceAdd, Int.reduceSub, Int.reduceMul, Int.reduceNeg, Int.reduceLT, Int.reduceLE, Int.reduceEq, Int.reduceToNat]
  · simp (disch := first | omega | (simp only [go_sem, true_and, and_true, List.length_append, List.length_take, List.length_set, List.length_drop, List.length_replicate, List.length_cons, List.length_nil, List.length_replicate] <;> omega)) only [go_sem, true_and, Nat.reduceAdd, Nat.reduceSub, Nat.reduceMul, Nat.reduceEqDiff, Nat.reduceLeDiff, Nat.reduceLT, Nat.reduceBEq, Int.reduceAdd, Int.reduceSub, Int.reduceMul, Int.reduceNeg, Int.reduceLT, Int.reduceLE, Int.reduceEq, Int.reduceToNat]
end Go.Av
