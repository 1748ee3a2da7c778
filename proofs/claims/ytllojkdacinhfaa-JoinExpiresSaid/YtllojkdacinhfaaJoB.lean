/- A part of a way to reckon what a Go program does without its memory (JoB). -/
import Derived.Test.YtllojkdacinhfaaJoA
namespace Go.Av
open Go
set_option autoImplicit false
set_option linter.all false
set_option maxRecDepth 20000 in
set_option maxHeartbeats 4000000 in
theorem law_expires {j : Jo} {X : List Ke} {now : Int} {H : List Entry} (hj : j.1.length ≤ 9223372036854775807) (hX : X.length ≤ 9223372036854775807) : Pure AP n_trystlaw09_JoinExpires [joV j, .sl 3 (X.map elV), .int .i64 now] H (.bool true) := by
  intro K hK
  refine k_trystlaw09_JoinExpires.callw3 [1, 1] [1, 1, 1] [1, 1, 1, 1, 1] rfl fun hw => ?_
  simp (disch := first | omega | (simp only [go_sem, List.length_append, List.length_take, List.length_drop, List.length_cons, List.length_nil] <;> omega)) only [go_sem, Nat.reduceAdd, Nat.reduceSub, Nat.reduceMul, Nat.reduceEqDiff, Nat.reduceLeDiff, Nat.reduceLT, Nat.reduceBEq, Int.reduceAdd, Int.reduceSub, Int.reduceMul, Int.reduceNeg, Int.reduceLT, Int.reduceLE, Int.reduceEq, Int.reduceToNat, c_trystlaw09_JoinExpires]
  refine s_Kind (j := j) hj ?_
  simp (disch := first | omega | (simp only [go_sem, List.length_append, List.length_take, List.length_drop, List.length_cons, List.length_nil] <;> omega)) only [go_sem, Nat.reduceAdd, Nat.reduceSub, Nat.reduceMul, Nat.reduceEqDiff, Nat.reduceLeDiff, Nat.reduceLT, Nat.reduceBEq, Int.reduceAdd, Int.reduceSub, Int.reduceMul, Int.reduceNeg, Int.reduceLT, Int.reduceLE, Int.reduceEq, Int.reduceToNat]
  refine s_Few hX ?_
  have hL : (X.take 31).length ≤ 31 := by simp; omega
  generalize X.take 31 = L at *
  simp (disch := first | omega | (simp only [go_sem, List.length_append, List.length_take, List.length_drop, List.length_cons, List.length_nil] <;> omega)) only [go_sem, Nat.reduceAdd, Nat.reduceSub, Nat.reduceMul, Nat.reduceEqDiff, Nat.reduceLeDiff, Nat.reduceLT, Nat.reduceBEq, Int.reduceAdd, Int.reduceSub, Int.reduceMul, Int.reduceNeg, Int.reduceLT, Int.reduceLE, Int.reduceEq, Int.reduceToNat]
  refine wk_own (H := H) 1 3 rfl rfl rfl (by first | omega | (simp only [go_sem, List.length_append, List.length_take, List.length_drop, Nat.reduceAdd, Nat.reduceSub, Nat.reduceMul, Nat.reduceEqDiff, Nat.reduceLeDiff, Nat.reduceLT, Nat.reduceBEq, Int.reduceAdd, Int.reduceSub, Int.reduceMul, Int.reduceNeg, Int.reduceLT, Int.reduceLE, Int.reduceEq, Int.reduceToNat] <;> omega)) (wk_refl ?_)
  simp (disch := first | omega | (simp only [go_sem, List.length_append, List.length_take, List.length_drop, List.length_cons, List.length_nil] <;> omega)) only [go_sem, Nat.reduceAdd, Nat.reduceSub, Nat.reduceMul, Nat.reduceEqDiff, Nat.reduceLeDiff, Nat.reduceLT, Nat.reduceBEq, Int.reduceAdd, Int.reduceSub, Int.reduceMul, Int.reduceNeg, Int.reduceLT, Int.reduceLE, Int.reduceEq, Int.reduceToNat]
  have hL' : L.length ≤ 1000000 := by omega
  cases hx : expOk (kin j) L now
  · refine s_Expire_no (j := kin j) hL' hx _ ?_
    simp (disch := first | omega | (simp only [go_sem, List.length_append, List.length_take, List.length_drop, List.length_cons, List.length_nil] <;> omega)) only [go_sem, Nat.reduceAdd, Nat.reduceSub, Nat.reduceMul, Nat.reduceEqDiff, Nat.reduceLeDiff, Nat.reduceLT, Nat.reduceBEq, Int.reduceAdd, Int.reduceSub, Int.reduceMul, Int.reduceNeg, Int.reduceLT, Int.reduceLE, Int.reduceEq, Int.reduceToNat]
    refine wk_refl ?_
    simp (disch := first | omega | (simp only [go_sem, List.length_append, List.length_take, List.length_drop, List.length_cons, List.length_nil] <;> omega)) only [go_sem, Nat.reduceAdd, Nat.reduceSub, Nat.reduceMul, Nat.reduceEqDiff, Nat.reduceLeDiff, Nat.reduceLT, Nat.reduceBEq, Int.reduceAdd, Int.reduceSub, Int.reduceMul, Int.reduceNeg, Int.reduceLT, Int.reduceLE, Int.reduceEq, Int.reduceToNat]
    refine r_Check (j := kin j) hL' _ ?_
    rw [expOk, chk_same] at hx
    simp (disch := first | omega | (simp only [go_sem, List.length_append, List.length_take, List.length_drop, List.length_cons, List.length_nil] <;> omega)) only [go_sem, Nat.reduceAdd, Nat.reduceSub, Nat.reduceMul, Nat.reduceEqDiff, Nat.reduceLeDiff, Nat.reduceLT, Nat.reduceBEq, Int.reduceAdd, Int.reduceSub, Int.reduceMul, Int.reduceNeg, Int.reduceLT, Int.reduceLE, Int.reduceEq, Int.reduceToNat]
    cases hc : chkR (kin j) L
    · simp (disch := first | omega | (simp only [go_sem, List.length_append, List.length_take, List.length_drop, List.length_cons, List.length_nil] <;> omega)) only [go_sem, Nat.reduceAdd, Nat.reduceSub, Nat.reduceMul, Nat.reduceEqDiff, Nat.reduceLeDiff, Nat.reduceLT, Nat.reduceBEq, Int.reduceAdd, Int.reduceSub, Int.reduceMul, Int.reduceNeg, Int.reduceLT, Int.reduceLE, Int.reduceEq, Int.reduceToNat]
      refine awake_ok _ _ ?_
      simp (disch := first | omega | (simp only [go_sem, List.length_append, List.length_take, List.length_drop, List.length_cons, List.length_nil] <;> omega)) only [go_sem, Nat.reduceAdd, Nat.reduceSub, Nat.reduceMul, Nat.reduceEqDiff, Nat.reduceLeDiff, Nat.reduceLT, Nat.reduceBEq, Int.reduceAdd, Int.reduceSub, Int.reduceMul, Int.reduceNeg, Int.reduceLT, Int.reduceLE, Int.reduceEq, Int.reduceToNat]
      refine fin_tmp hw ?_ (fin_eq hK ?_)
      · simp (disch := first | omega | (simp only [go_sem, List.length_append, List.length_take, List.length_drop, List.length_cons, List.length_nil] <;> omega)) only [go_sem, Nat.reduceAdd, Nat.reduceSub, Nat.reduceMul, Nat.reduceEqDiff, Nat.reduceLeDiff, Nat.reduceLT, Nat.reduceBEq, Int.reduceAdd, Int.reduceSub, Int.reduceMul, Int.reduceNeg, Int.reduceLT, Int.reduceLE, Int.reduceEq, Int.reduceToNat]
      · simp (disch := first | omega | (simp only [go_sem, List.length_append, List.length_take, List.length_drop, List.length_cons, List.length_nil] <;> omega)) only [go_sem, Nat.reduceAdd, Nat.reduceSub, Nat.reduceMul, Nat.reduceEqDiff, Nat.reduceLeDiff, Nat.reduceLT, Nat.reduceBEq, Int.reduceAdd, Int.reduceSub, Int.reduceMul, Int.reduceNeg, Int.reduceLT, Int.reduceLE, Int.reduceEq, Int.reduceToNat]
    · have hxx : ¬ (0 ≤ now ∧ now ≤ 1099511627775 ∧ ¬ (0 < L.length ∧ now < (L.getD (L.length - 1) default).2.2)) := by
        rintro ⟨h1, h2, h3⟩
        simp [hc, timeB, lateB, h1, h2, -List.getD_eq_getElem?_getD] at hx
        omega
      simp (disch := first | omega | (simp only [go_sem, List.length_append, List.length_take, List.length_drop, List.length_cons, List.length_nil] <;> omega)) only [go_sem, Nat.reduceAdd, Nat.reduceSub, Nat.reduceMul, Nat.reduceEqDiff, Nat.reduceLeDiff, Nat.reduceLT, Nat.reduceBEq, Int.reduceAdd, Int.reduceSub, Int.reduceMul, Int.reduceNeg, Int.reduceLT, Int.reduceLE, Int.reduceEq, Int.reduceToNat]
      repeat' ((first | refine br_cd ?_ ?_ | refine br_gd ?_ ?_ | refine br_pd ?_ ?_ | refine br_cb ?_ ?_ | refine br_gb ?_ ?_ | refine br_pb ?_ ?_) <;> (intro hq; simp (disch := first | omega | (simp only [go_sem, List.length_append, List.length_take, List.length_drop, List.length_cons, List.length_nil] <;> omega)) only [go_sem, Nat.reduceAdd, Nat.reduceSub, Nat.reduceMul, Nat.reduceEqDiff, Nat.reduceLeDiff, Nat.reduceLT, Nat.reduceBEq, Int.reduceAdd, Int.reduceSub, Int.reduceMul, Int.reduceNeg, Int.reduceLT, Int.reduceLE, Int.reduceEq, Int.reduceToNat, hq]))
      all_goals first
        | (exfalso; omega)
        | (refine awake_ok _ _ ?_
           simp (disch := first | omega | (simp only [go_sem, List.length_append, List.length_take, List.length_drop, List.length_cons, List.length_nil] <;> omega)) only [go_sem, Nat.reduceAdd, Nat.reduceSub, Nat.reduceMul, Nat.reduceEqDiff, Nat.reduceLeDiff, Nat.reduceLT, Nat.reduceBEq, Int.reduceAdd, Int.reduceSub, Int.reduceMul, Int.reduceNeg, Int.reduceLT, Int.reduceLE, Int.reduceEq, Int.reduceToNat]
           refine fin_tmp hw ?_ (fin_eq hK ?_)
           · simp (disch := first | omega | (simp only [go_sem, List.length_append, List.length_take, List.length_drop, List.length_cons, List.length_nil] <;> omega)) only [go_sem, Nat.reduceAdd, Nat.reduceSub, Nat.reduceMul, Nat.reduceEqDiff, Nat.reduceLeDiff, Nat.reduceLT, Nat.reduceBEq, Int.reduceAdd, Int.reduceSub, Int.reduceMul, Int.reduceNeg, Int.reduceLT, Int.reduceLE, Int.reduceEq, Int.reduceToNat]
           · simp (disch := first | omega | (simp only [go_sem, List.length_append, List.length_take, List.length_drop, List.length_cons, List.length_nil] <;> omega)) only [go_sem, Nat.reduceAdd, Nat.reduceSub, Nat.reduceMul, Nat.reduceEqDiff, Nat.reduceLeDiff, Nat.reduceLT, Nat.reduceBEq, Int.reduceAdd, Int.reduceSub, Int.reduceMul, Int.reduceNeg, Int.reduceLT, Int.reduceLE, Int.reduceEq, Int.reduceToNat])
  · have hx0 := hx
    rw [expOk, chk_same] at hx
    simp only [Bool.and_eq_true, Bool.not_eq_true', timeB, decide_eq_true_eq] at hx
    obtain ⟨hc, ⟨h1, h2⟩, h3⟩ := hx
    have h3' : ¬ (0 < L.length ∧ now < (L.getD (L.length - 1) default).2.2) := by
      simp [lateB, -List.getD_eq_getElem?_getD] at h3
      omega
    obtain ⟨c1, c2, c3, c4, c5⟩ := chk_kept hc
    have hbx : ∀ y ∈ L, 0 ≤ y.2.2 ∧ y.2.2 ≤ 1099511627775 := fun y hy => by
      obtain ⟨q, hq, rfl⟩ := List.mem_iff_getElem.1 hy
      have := (c1 q hq).1
      simp only [keptB, timeB, Bool.and_eq_true, decide_eq_true_eq] at this
      simpa [hq] using this.2.2
    have hpq := exp_eq (now := now) hc
    have hSl : (L.filter (stillB (kin j).2.2.2 now)).length ≤ 1000 := Nat.le_trans (List.length_filter_le _ _) (by omega)
    have hTl : (L.filter fun x => !stillB (kin j).2.2.2 now x).length ≤ 1000 := Nat.le_trans (List.length_filter_le _ _) (by omega)
    refine s_Expire (j := kin j) hL' hx0 ?_
    rw [hpq.1, hpq.2]
    clear hpq hx0
    generalize hS : L.filter (stillB (kin j).2.2.2 now) = S at *
    generalize hT : (L.filter fun x => !stillB (kin j).2.2.2 now x) = T at *
    simp (disch := first | omega | (simp only [go_sem, List.length_append, List.length_take, List.length_drop, List.length_cons, List.length_nil] <;> omega)) only [go_sem, Nat.reduceAdd, Nat.reduceSub, Nat.reduceMul, Nat.reduceEqDiff, Nat.reduceLeDiff, Nat.reduceLT, Nat.reduceBEq, Int.reduceAdd, Int.reduceSub, Int.reduceMul, Int.reduceNeg, Int.reduceLT, Int.reduceLE, Int.reduceEq, Int.reduceToNat]
    refine wk_own (H := H) 7 6 rfl rfl rfl (by first | omega | (simp only [go_sem, List.length_append, List.length_take, List.length_drop, Nat.reduceAdd, Nat.reduceSub, Nat.reduceMul, Nat.reduceEqDiff, Nat.reduceLeDiff, Nat.reduceLT, Nat.reduceBEq, Int.reduceAdd, Int.reduceSub, Int.reduceMul, Int.reduceNeg, Int.reduceLT, Int.reduceLE, Int.reduceEq, Int.reduceToNat] <;> omega)) (wk_own (H := H) 8 7 rfl rfl rfl (by first | omega | (simp only [go_sem, List.length_append, List.length_take, List.length_drop, Nat.reduceAdd, Nat.reduceSub, Nat.reduceMul, Nat.reduceEqDiff, Nat.reduceLeDiff, Nat.reduceLT, Nat.reduceBEq, Int.reduceAdd, Int.reduceSub, Int.reduceMul, Int.reduceNeg, Int.reduceLT, Int.reduceLE, Int.reduceEq, Int.reduceToNat] <;> omega)) (wk_refl ?_))
    simp (disch := first | omega | (simp only [go_sem, List.length_append, List.length_take, List.length_drop, List.length_cons, List.length_nil] <;> omega)) only [go_sem, Nat.reduceAdd, Nat.reduceSub, Nat.reduceMul, Nat.reduceEqDiff, Nat.reduceLeDiff, Nat.reduceLT, Nat.reduceBEq, Int.reduceAdd, Int.reduceSub, Int.reduceMul, Int.reduceNeg, Int.reduceLT, Int.reduceLE, Int.reduceEq, Int.reduceToNat]
    refine r_Check (j := kin j) hL' _ ?_
    simp (disch := first | omega | (simp only [go_sem, List.length_append, List.length_take, List.length_drop, List.length_cons, List.length_nil] <;> omega)) only [go_sem, Nat.reduceAdd, Nat.reduceSub, Nat.reduceMul, Nat.reduceEqDiff, Nat.reduceLeDiff, Nat.reduceLT, Nat.reduceBEq, Int.reduceAdd, Int.reduceSub, Int.reduceMul, Int.reduceNeg, Int.reduceLT, Int.reduceLE, Int.reduceEq, Int.reduceToNat, hc]
    repeat' ((first | refine br_cd ?_ ?_ | refine br_gd ?_ ?_ | refine br_pd ?_ ?_ | refine br_cb ?_ ?_ | refine br_gb ?_ ?_ | refine br_pb ?_ ?_) <;> (intro hq; simp (disch := first | omega | (simp only [go_sem, List.length_append, List.length_take, List.length_drop, List.length_cons, List.length_nil] <;> omega)) only [go_sem, Nat.reduceAdd, Nat.reduceSub, Nat.reduceMul, Nat.reduceEqDiff, Nat.reduceLeDiff, Nat.reduceLT, Nat.reduceBEq, Int.reduceAdd, Int.reduceSub, Int.reduceMul, Int.reduceNeg, Int.reduceLT, Int.reduceLE, Int.reduceEq, Int.reduceToNat, hq]))
    all_goals first
      | (exfalso; omega)
      | skip
    all_goals
      refine r_Expire_w (j := kin j) (now := now) hL' c3 hbx fun _ e h6 h7 => fin_all ?_
      simp only [nths, h6, h7, hS, hT]
      clear h6 h7
      simp (disch := first | omega | (simp only [go_sem, List.length_append, List.length_take, List.length_drop, List.length_cons, List.length_nil] <;> omega)) only [go_sem, Nat.reduceAdd, Nat.reduceSub, Nat.reduceMul, Nat.reduceEqDiff, Nat.reduceLeDiff, Nat.reduceLT, Nat.reduceBEq, Int.reduceAdd, Int.reduceSub, Int.reduceMul, Int.reduceNeg, Int.reduceLT, Int.reduceLE, Int.reduceEq, Int.reduceToNat]
      refine wk_own (H := H) 10 9 rfl rfl rfl (by first | omega | (simp only [go_sem, List.length_append, List.length_take, List.length_drop, Nat.reduceAdd, Nat.reduceSub, Nat.reduceMul, Nat.reduceEqDiff, Nat.reduceLeDiff, Nat.reduceLT, Nat.reduceBEq, Int.reduceAdd, Int.reduceSub, Int.reduceMul, Int.reduceNeg, Int.reduceLT, Int.reduceLE, Int.reduceEq, Int.reduceToNat] <;> omega)) (wk_own (H := H) 11 10 rfl rfl rfl (by first | omega | (simp only [go_sem, List.length_append, List.length_take, List.length_drop, Nat.reduceAdd, Nat.reduceSub, Nat.reduceMul, Nat.reduceEqDiff, Nat.reduceLeDiff, Nat.reduceLT, Nat.reduceBEq, Int.reduceAdd, Int.reduceSub, Int.reduceMul, Int.reduceNeg, Int.reduceLT, Int.reduceLE, Int.reduceEq, Int.reduceToNat] <;> omega)) (wk_refl ?_))
      simp (disch := first | omega | (simp only [go_sem, List.length_append, List.length_take, List.length_drop, List.length_cons, List.length_nil] <;> omega)) only [go_sem, Nat.reduceAdd, Nat.reduceSub, Nat.reduceMul, Nat.reduceEqDiff, Nat.reduceLeDiff, Nat.reduceLT, Nat.reduceBEq, Int.reduceAdd, Int.reduceSub, Int.reduceMul, Int.reduceNeg, Int.reduceLT, Int.reduceLE, Int.reduceEq, Int.reduceToNat]
      refine r_Same (X := S) (Y := S) (by first | omega | (simp only [go_sem, List.length_append, List.length_take, List.length_drop, Nat.reduceAdd, Nat.reduceSub, Nat.reduceMul, Nat.reduceEqDiff, Nat.reduceLeDiff, Nat.reduceLT, Nat.reduceBEq, Int.reduceAdd, Int.reduceSub, Int.reduceMul, Int.reduceNeg, Int.reduceLT, Int.reduceLE, Int.reduceEq, Int.reduceToNat] <;> omega)) _ ?_
      simp (disch := first | omega | (simp only [go_sem, List.length_append, List.length_take, List.length_drop, List.length_cons, List.length_nil] <;> omega)) only [go_sem, Nat.reduceAdd, Nat.reduceSub, Nat.reduceMul, Nat.reduceEqDiff, Nat.reduceLeDiff, Nat.reduceLT, Nat.reduceBEq, Int.reduceAdd, Int.reduceSub, Int.reduceMul, Int.reduceNeg, Int.reduceLT, Int.reduceLE, Int.reduceEq, Int.reduceToNat, sameB]
      refine r_Same (X := T) (Y := T) (by first | omega | (simp only [go_sem, List.length_append, List.length_take, List.length_drop, Nat.reduceAdd, Nat.reduceSub, Nat.reduceMul, Nat.reduceEqDiff, Nat.reduceLeDiff, Nat.reduceLT, Nat.reduceBEq, Int.reduceAdd, Int.reduceSub, Int.reduceMul, Int.reduceNeg, Int.reduceLT, Int.reduceLE, Int.reduceEq, Int.reduceToNat] <;> omega)) _ ?_
      simp (disch := first | omega | (simp only [go_sem, List.length_append, List.length_take, List.length_drop, List.length_cons, List.length_nil] <;> omega)) only [go_sem, Nat.reduceAdd, Nat.reduceSub, Nat.reduceMul, Nat.reduceEqDiff, Nat.reduceLeDiff, Nat.reduceLT, Nat.reduceBEq, Int.reduceAdd, Int.reduceSub, Int.reduceMul, Int.reduceNeg, Int.reduceLT, Int.reduceLE, Int.reduceEq, Int.reduceToNat, sameB]
      refine awake_ok _ _ ?_
      simp (disch := first | omega | (simp only [go_sem, List.length_append, List.length_take, List.length_drop, List.length_cons, List.length_nil] <;> omega)) only [go_sem, Nat.reduceAdd, Nat.reduceSub, Nat.reduceMul, Nat.reduceEqDiff, Nat.reduceLeDiff, Nat.reduceLT, Nat.reduceBEq, Int.reduceAdd, Int.reduceSub, Int.reduceMul, Int.reduceNeg, Int.reduceLT, Int.reduceLE, Int.reduceEq, Int.reduceToNat]
      refine fin_tmp hw ?_ (fin_eq hK ?_)
      · simp (disch := first | omega | (simp only [go_sem, List.length_append, List.length_take, List.length_drop, List.length_cons, List.length_nil] <;> omega)) only [go_sem, Nat.reduceAdd, Nat.reduceSub, Nat.reduceMul, Nat.reduceEqDiff, Nat.reduceLeDiff, Nat.reduceLT, Nat.reduceBEq, Int.reduceAdd, Int.reduceSub, Int.reduceMul, Int.reduceNeg, Int.reduceLT, Int.reduceLE, Int.reduceEq, Int.reduceToNat]
      · simp (disch := first | omega | (simp only [go_sem, List.length_append, List.length_take, List.length_drop, List.length_cons, List.length_nil] <;> omega)) only [go_sem, Nat.reduceAdd, Nat.reduceSub, Nat.reduceMul, Nat.reduceEqDiff, Nat.reduceLeDiff, Nat.reduceLT, Nat.reduceBEq, Int.reduceAdd, Int.reduceSub, Int.reduceMul, Int.reduceNeg, Int.reduceLT, Int.reduceLE, Int.reduceEq, Int.reduceToNat]
end Go.Av
