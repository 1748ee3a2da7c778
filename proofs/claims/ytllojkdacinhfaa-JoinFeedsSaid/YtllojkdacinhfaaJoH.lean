/- A part of a way to reckon what a Go program does without its memory (JoH). -/
import Derived.Test.YtllojkdacinhfaaJoE
namespace Go.Av
open Go
set_option autoImplicit false
set_option linter.all false
def chkR (j : Jo) (X : List Ke) : Bool := mayB j && (decide (X.length < 30) && (((List.range X.length).all fun i => keptB j.2.1 (X.getD i default) && okAt X i) && !metB j X))
theorem chk_not {j : Jo} {X : List Ke} {i : Nat} (hi : i < X.length) (h : keptB j.2.1 (X.getD i default) = false ∨ okAt X i = false) : chkR j X = false := by
  have : ((List.range X.length).all fun i => keptB j.2.1 (X.getD i default) && okAt X i) = false := by
    rw [← Bool.not_eq_true]
    intro hh
    have := (List.all_eq_true.1 hh) i (by simpa using hi)
    rcases h with h | h <;> rw [h] at this <;> simp at this
  simp only [chkR, this, Bool.false_and, Bool.and_false]
section
variable {X : List Ke} {H : List Entry} {a b : Nat}
set_option maxRecDepth 20000 in
set_option maxHeartbeats 2000000 in
theorem r_Check {j : Jo} (hX : X.length ≤ 1000000) : Pure AP n_trystref09_Check [joV j, .sl 3 (X.map elV)] H (.bool (chkR j X)) := by
  intro K hK
  refine a_trystref09_Check fun hw => ?_
  simp (disch := first | omega | (simp only [go_sem, List.length_append, List.length_take, List.length_drop, List.length_cons, List.length_nil] <;> omega)) only [go_sem, Nat.reduceAdd, Nat.reduceSub, Nat.reduceMul, Nat.reduceEqDiff, Nat.reduceLeDiff, Nat.reduceLT, Nat.reduceBEq, Int.reduceAdd, Int.reduceSub, Int.reduceMul, Int.reduceNeg, Int.reduceLT, Int.reduceLE, Int.reduceEq, Int.reduceToNat, c_trystref09_Check]
  refine r_May (j := j) _ ?_
  simp (disch := first | omega | (simp only [go_sem, List.length_append, List.length_take, List.length_drop, List.length_cons, List.length_nil] <;> omega)) only [go_sem, Nat.reduceAdd, Nat.reduceSub, Nat.reduceMul, Nat.reduceEqDiff, Nat.reduceLeDiff, Nat.reduceLT, Nat.reduceBEq, Int.reduceAdd, Int.reduceSub, Int.reduceMul, Int.reduceNeg, Int.reduceLT, Int.reduceLE, Int.reduceEq, Int.reduceToNat]
  cases hm : mayB j
  · simp (disch := first | omega | (simp only [go_sem, List.length_append, List.length_take, List.length_drop, List.length_cons, List.length_nil] <;> omega)) only [go_sem, Nat.reduceAdd, Nat.reduceSub, Nat.reduceMul, Nat.reduceEqDiff, Nat.reduceLeDiff, Nat.reduceLT, Nat.reduceBEq, Int.reduceAdd, Int.reduceSub, Int.reduceMul, Int.reduceNeg, Int.reduceLT, Int.reduceLE, Int.reduceEq, Int.reduceToNat]
    refine fin_tmp hw ?_ (fin_eq hK ?_)
    · simp (disch := first | omega | (simp only [go_sem, List.length_append, List.length_take, List.length_drop, List.length_cons, List.length_nil] <;> omega)) only [go_sem, Nat.reduceAdd, Nat.reduceSub, Nat.reduceMul, Nat.reduceEqDiff, Nat.reduceLeDiff, Nat.reduceLT, Nat.reduceBEq, Int.reduceAdd, Int.reduceSub, Int.reduceMul, Int.reduceNeg, Int.reduceLT, Int.reduceLE, Int.reduceEq, Int.reduceToNat]
    · simp (disch := first | omega | (simp only [go_sem, List.length_append, List.length_take, List.length_drop, List.length_cons, List.length_nil] <;> omega)) only [go_sem, Nat.reduceAdd, Nat.reduceSub, Nat.reduceMul, Nat.reduceEqDiff, Nat.reduceLeDiff, Nat.reduceLT, Nat.reduceBEq, Int.reduceAdd, Int.reduceSub, Int.reduceMul, Int.reduceNeg, Int.reduceLT, Int.reduceLE, Int.reduceEq, Int.reduceToNat]
      simp [chkR, hm]
  simp (disch := first | omega | (simp only [go_sem, List.length_append, List.length_take, List.length_drop, List.length_cons, List.length_nil] <;> omega)) only [go_sem, Nat.reduceAdd, Nat.reduceSub, Nat.reduceMul, Nat.reduceEqDiff, Nat.reduceLeDiff, Nat.reduceLT, Nat.reduceBEq, Int.reduceAdd, Int.reduceSub, Int.reduceMul, Int.reduceNeg, Int.reduceLT, Int.reduceLE, Int.reduceEq, Int.reduceToNat]
  by_cases h30 : (30 : Int) ≤ X.length
  · simp (disch := first | omega | (simp only [go_sem, List.length_append, List.length_take, List.length_drop, List.length_cons, List.length_nil] <;> omega)) only [go_sem, Nat.reduceAdd, Nat.reduceSub, Nat.reduceMul, Nat.reduceEqDiff, Nat.reduceLeDiff, Nat.reduceLT, Nat.reduceBEq, Int.reduceAdd, Int.reduceSub, Int.reduceMul, Int.reduceNeg, Int.reduceLT, Int.reduceLE, Int.reduceEq, Int.reduceToNat]
    refine fin_tmp hw ?_ (fin_eq hK ?_)
    · simp (disch := first | omega | (simp only [go_sem, List.length_append, List.length_take, List.length_drop, List.length_cons, List.length_nil] <;> omega)) only [go_sem, Nat.reduceAdd, Nat.reduceSub, Nat.reduceMul, Nat.reduceEqDiff, Nat.reduceLeDiff, Nat.reduceLT, Nat.reduceBEq, Int.reduceAdd, Int.reduceSub, Int.reduceMul, Int.reduceNeg, Int.reduceLT, Int.reduceLE, Int.reduceEq, Int.reduceToNat]
    · simp (disch := first | omega | (simp only [go_sem, List.length_append, List.length_take, List.length_drop, List.length_cons, List.length_nil] <;> omega)) only [go_sem, Nat.reduceAdd, Nat.reduceSub, Nat.reduceMul, Nat.reduceEqDiff, Nat.reduceLeDiff, Nat.reduceLT, Nat.reduceBEq, Int.reduceAdd, Int.reduceSub, Int.reduceMul, Int.reduceNeg, Int.reduceLT, Int.reduceLE, Int.reduceEq, Int.reduceToNat]
      have : ¬ X.length < 30 := by omega
      simp [chkR, this]
  simp (disch := first | omega | (simp only [go_sem, List.length_append, List.length_take, List.length_drop, List.length_cons, List.length_nil] <;> omega)) only [go_sem, Nat.reduceAdd, Nat.reduceSub, Nat.reduceMul, Nat.reduceEqDiff, Nat.reduceLeDiff, Nat.reduceLT, Nat.reduceBEq, Int.reduceAdd, Int.reduceSub, Int.reduceMul, Int.reduceNeg, Int.reduceLT, Int.reduceLE, Int.reduceEq, Int.reduceToNat]
  refine loop_in (fun m e H' => ∃ i : Nat, m = X.length - i ∧ e = slots 0 97 [(1, .sl 3 (X.map elV)), (2, .ptr H.length 0), (5, .int .i64 i)] ∧
    H' = H ++ [.box [.str j.1, .int .i64 j.2.1, .int .i64 j.2.2.1, .int .i64 j.2.2.2]] ∧ i ≤ X.length ∧ ∀ q < i, (keptB j.2.1 (X.getD q default) && okAt X q) = true) (n := X.length) ⟨0, by omega, rfl, rfl, by omega, fun q hq => by omega⟩ (by first | omega | (simp only [go_sem, List.length_append, List.length_take, List.length_drop, Nat.reduceAdd, Nat.reduceSub, Nat.reduceMul, Nat.reduceEqDiff, Nat.reduceLeDiff, Nat.reduceLT, Nat.reduceBEq, Int.reduceAdd, Int.reduceSub, Int.reduceMul, Int.reduceNeg, Int.reduceLT, Int.reduceLE, Int.reduceEq, Int.reduceToNat] <;> omega)) ?_ ?_ ?_
  · simp (disch := (simp only [go_sem, Nat.reduceAdd, Nat.reduceSub, Nat.reduceMul, Nat.reduceEqDiff, Nat.reduceLeDiff, Nat.reduceLT, Nat.reduceBEq, Int.reduceAdd, Int.reduceSub, Int.reduceMul, Int.reduceNeg, Int.reduceLT, Int.reduceLE, Int.reduceEq, Int.reduceToNat] <;> omega)) only [go_sem, x_eLeS, x_hLeS, Int.natCast_zero, Int.natCast_add, Int.natCast_one, Nat.reduceAdd, Nat.reduceSub, Nat.reduceMul, Nat.reduceEqDiff, Nat.reduceLeDiff, Nat.reduceLT, Nat.reduceBEq, Int.reduceAdd, Int.reduceSub, Int.reduceMul, Int.reduceNeg, Int.reduceLT, Int.reduceLE, Int.reduceEq, Int.reduceToNat]
  · exact hLe_app hw (by first | omega | (simp only [go_sem, List.length_append, List.length_take, List.length_drop, Nat.reduceAdd, Nat.reduceSub, Nat.reduceMul, Nat.reduceEqDiff, Nat.reduceLeDiff, Nat.reduceLT, Nat.reduceBEq, Int.reduceAdd, Int.reduceSub, Int.reduceMul, Int.reduceNeg, Int.reduceLT, Int.reduceLE, Int.reduceEq, Int.reduceToNat] <;> omega)) (by simp (disch := (simp only [go_sem, Nat.reduceAdd, Nat.reduceSub, Nat.reduceMul, Nat.reduceEqDiff, Nat.reduceLeDiff, Nat.reduceLT, Nat.reduceBEq, Int.reduceAdd, Int.reduceSub, Int.reduceMul, Int.reduceNeg, Int.reduceLT, Int.reduceLE, Int.reduceEq, Int.reduceToNat] <;> omega)) only [go_sem, x_eLeS, x_hLeS, Int.natCast_zero, Int.natCast_add, Int.natCast_one, Nat.reduceAdd, Nat.reduceSub, Nat.reduceMul, Nat.reduceEqDiff, Nat.reduceLeDiff, Nat.reduceLT, Nat.reduceBEq, Int.reduceAdd, Int.reduceSub, Int.reduceMul, Int.reduceNeg, Int.reduceLT, Int.reduceLE, Int.reduceEq, Int.reduceToNat])
  · rintro J hJ m e H' ⟨i, rfl, rfl, rfl, hi1, hq⟩
    simp (disch := first | omega | (simp only [go_sem, List.length_append, List.length_take, List.length_drop, List.length_cons, List.length_nil] <;> omega)) only [go_sem, Nat.reduceAdd, Nat.reduceSub, Nat.reduceMul, Nat.reduceEqDiff, Nat.reduceLeDiff, Nat.reduceLT, Nat.reduceBEq, Int.reduceAdd, Int.reduceSub, Int.reduceMul, Int.reduceNeg, Int.reduceLT, Int.reduceLE, Int.reduceEq, Int.reduceToNat]
    by_cases h2 : (i : Int) < X.length
    · simp (disch := first | omega | (simp only [go_sem, List.length_append, List.length_take, List.length_drop, List.length_cons, List.length_nil] <;> omega)) only [go_sem, Nat.reduceAdd, Nat.reduceSub, Nat.reduceMul, Nat.reduceEqDiff, Nat.reduceLeDiff, Nat.reduceLT, Nat.reduceBEq, Int.reduceAdd, Int.reduceSub, Int.reduceMul, Int.reduceNeg, Int.reduceLT, Int.reduceLE, Int.reduceEq, Int.reduceToNat]
      cases hk : keptB j.2.1 (X.getD i default)
      · repeat' ((first | refine br_cd ?_ ?_ | refine br_gd ?_ ?_ | refine br_pd ?_ ?_ | refine br_cb ?_ ?_ | refine br_gb ?_ ?_ | refine br_pb ?_ ?_) <;> (intro hq; simp (disch := first | omega | (simp only [go_sem, List.length_append, List.length_take, List.length_drop, List.length_cons, List.length_nil] <;> omega)) only [go_sem, Nat.reduceAdd, Nat.reduceSub, Nat.reduceMul, Nat.reduceEqDiff, Nat.reduceLeDiff, Nat.reduceLT, Nat.reduceBEq, Int.reduceAdd, Int.reduceSub, Int.reduceMul, Int.reduceNeg, Int.reduceLT, Int.reduceLE, Int.reduceEq, Int.reduceToNat, hq]))
        all_goals (try (exfalso; rw [← Bool.not_eq_true] at hk; apply hk; simp only [keptB, timeB, Bool.and_eq_true, decide_eq_true_eq]; omega))
        all_goals refine fin_tmp hw ?_ (fin_eq hK ?_)
        all_goals simp (disch := first | omega | (simp only [go_sem, List.length_append, List.length_take, List.length_drop, List.length_cons, List.length_nil] <;> omega)) only [go_sem, Nat.reduceAdd, Nat.reduceSub, Nat.reduceMul, Nat.reduceEqDiff, Nat.reduceLeDiff, Nat.reduceLT, Nat.reduceBEq, Int.reduceAdd, Int.reduceSub, Int.reduceMul, Int.reduceNeg, Int.reduceLT, Int.reduceLE, Int.reduceEq, Int.reduceToNat]
        all_goals rw [chk_not (by omega) (.inl hk)]
      · have hk' := hk
        simp only [keptB, timeB, Bool.and_eq_true, decide_eq_true_eq] at hk'
        obtain ⟨k1, k2, k3, k4⟩ := hk'
        by_cases hi0 : (0 : Int) < i
        · by_cases hs : (X.getD i default).2.2 < (X.getD (i - 1) default).2.2
          · simp (disch := first | omega | (simp only [go_sem, List.length_append, List.length_take, List.length_drop, List.length_cons, List.length_nil] <;> omega)) only [go_sem, Nat.reduceAdd, Nat.reduceSub, Nat.reduceMul, Nat.reduceEqDiff, Nat.reduceLeDiff, Nat.reduceLT, Nat.reduceBEq, Int.reduceAdd, Int.reduceSub, Int.reduceMul, Int.reduceNeg, Int.reduceLT, Int.reduceLE, Int.reduceEq, Int.reduceToNat, hs]
            refine fin_tmp hw ?_ (fin_eq hK ?_)
            · simp (disch := first | omega | (simp only [go_sem, List.length_append, List.length_take, List.length_drop, List.length_cons, List.length_nil] <;> omega)) only [go_sem, Nat.reduceAdd, Nat.reduceSub, Nat.reduceMul, Nat.reduceEqDiff, Nat.reduceLeDiff, Nat.reduceLT, Nat.reduceBEq, Int.reduceAdd, Int.reduceSub, Int.reduceMul, Int.reduceNeg, Int.reduceLT, Int.reduceLE, Int.reduceEq, Int.reduceToNat]
            · simp (disch := first | omega | (simp only [go_sem, List.length_append, List.length_take, List.length_drop, List.length_cons, List.length_nil] <;> omega)) only [go_sem, Nat.reduceAdd, Nat.reduceSub, Nat.reduceMul, Nat.reduceEqDiff, Nat.reduceLeDiff, Nat.reduceLT, Nat.reduceBEq, Int.reduceAdd, Int.reduceSub, Int.reduceMul, Int.reduceNeg, Int.reduceLT, Int.reduceLE, Int.reduceEq, Int.reduceToNat]
              have : okAt X i = false := by simp only [okAt, hs]; simp; intro h; omega
              rw [chk_not (by omega) (.inr this)]
          · simp (disch := first | omega | (simp only [go_sem, List.length_append, List.length_take, List.length_drop, List.length_cons, List.length_nil] <;> omega)) only [go_sem, Nat.reduceAdd, Nat.reduceSub, Nat.reduceMul, Nat.reduceEqDiff, Nat.reduceLeDiff, Nat.reduceLT, Nat.reduceBEq, Int.reduceAdd, Int.reduceSub, Int.reduceMul, Int.reduceNeg, Int.reduceLT, Int.reduceLE, Int.reduceEq, Int.reduceToNat, hs]
            refine loop_in (fun m e H' => ∃ k : Nat, m = i - k ∧ e = slots 0 97 [(1, .sl 3 (X.map elV)), (2, .ptr H.length 0), (5, .int .i64 i), (6, .int .i64 k)] ∧
              H' = H ++ [.box [.str j.1, .int .i64 j.2.1, .int .i64 j.2.2.1, .int .i64 j.2.2.2]] ∧ k ≤ i ∧ ∀ q < k, (X.getD q default).2.1 ≠ (X.getD i default).2.1) (n := i) ⟨0, by omega, rfl, rfl, by omega, fun q hq => by omega⟩ (by first | omega | (simp only [go_sem, List.length_append, List.length_take, List.length_drop, Nat.reduceAdd, Nat.reduceSub, Nat.reduceMul, Nat.reduceEqDiff, Nat.reduceLeDiff, Nat.reduceLT, Nat.reduceBEq, Int.reduceAdd, Int.reduceSub, Int.reduceMul, Int.reduceNeg, Int.reduceLT, Int.reduceLE, Int.reduceEq, Int.reduceToNat] <;> omega)) ?_ ?_ ?_
            · simp (disch := (simp only [go_sem, Nat.reduceAdd, Nat.reduceSub, Nat.reduceMul, Nat.reduceEqDiff, Nat.reduceLeDiff, Nat.reduceLT, Nat.reduceBEq, Int.reduceAdd, Int.reduceSub, Int.reduceMul, Int.reduceNeg, Int.reduceLT, Int.reduceLE, Int.reduceEq, Int.reduceToNat] <;> omega)) only [go_sem, x_eLeS, x_hLeS, Int.natCast_zero, Int.natCast_add, Int.natCast_one, Nat.reduceAdd, Nat.reduceSub, Nat.reduceMul, Nat.reduceEqDiff, Nat.reduceLeDiff, Nat.reduceLT, Nat.reduceBEq, Int.reduceAdd, Int.reduceSub, Int.reduceMul, Int.reduceNeg, Int.reduceLT, Int.reduceLE, Int.reduceEq, Int.reduceToNat]
            · exact hLe_app hw (by first | omega | (simp only [go_sem, List.length_append, List.length_take, List.length_drop, Nat.reduceAdd, Nat.reduceSub, Nat.reduceMul, Nat.reduceEqDiff, Nat.reduceLeDiff, Nat.reduceLT, Nat.reduceBEq, Int.reduceAdd, Int.reduceSub, Int.reduceMul, Int.reduceNeg, Int.reduceLT, Int.reduceLE, Int.reduceEq, Int.reduceToNat] <;> omega)) (by simp (disch := (simp only [go_sem, Nat.reduceAdd, Nat.reduceSub, Nat.reduceMul, Nat.reduceEqDiff, Nat.reduceLeDiff, Nat.reduceLT, Nat.reduceBEq, Int.reduceAdd, Int.reduceSub, Int.reduceMul, Int.reduceNeg, Int.reduceLT, Int.reduceLE, Int.reduceEq, Int.reduceToNat] <;> omega)) only [go_sem, x_eLeS, x_hLeS, Int.natCast_zero, Int.natCast_add, Int.natCast_one, Nat.reduceAdd, Nat.reduceSub, Nat.reduceMul, Nat.reduceEqDiff, Nat.reduceLeDiff, Nat.reduceLT, Nat.reduceBEq, Int.reduceAdd, Int.reduceSub, Int.reduceMul, Int.reduceNeg, Int.reduceLT, Int.reduceLE, Int.reduceEq, Int.reduceToNat])
            · rintro J2 hJ2 m2 e2 H2 ⟨k, rfl, rfl, rfl, hk1, hd⟩
              simp (disch := first | omega | (simp only [go_sem, List.length_append, List.length_take, List.length_drop, List.length_cons, List.length_nil] <;> omega)) only [go_sem, Nat.reduceAdd, Nat.reduceSub, Nat.reduceMul, Nat.reduceEqDiff, Nat.reduceLeDiff, Nat.reduceLT, Nat.reduceBEq, Int.reduceAdd, Int.reduceSub, Int.reduceMul, Int.reduceNeg, Int.reduceLT, Int.reduceLE, Int.reduceEq, Int.reduceToNat]
              by_cases h3 : (k : Int) < i
              · simp (disch := first | omega | (simp only [go_sem, List.length_append, List.length_take, List.length_drop, List.length_cons, List.length_nil] <;> omega)) only [go_sem, Nat.reduceAdd, Nat.reduceSub, Nat.reduceMul, Nat.reduceEqDiff, Nat.reduceLeDiff, Nat.reduceLT, Nat.reduceBEq, Int.reduceAdd, Int.reduceSub, Int.reduceMul, Int.reduceNeg, Int.reduceLT, Int.reduceLE, Int.reduceEq, Int.reduceToNat]
                by_cases h4 : (X.getD k default).2.1 = (X.getD i default).2.1
                · simp (disch := first | omega | (simp only [go_sem, List.length_append, List.length_take, List.length_drop, List.length_cons, List.length_nil] <;> omega)) only [go_sem, Nat.reduceAdd, Nat.reduceSub, Nat.reduceMul, Nat.reduceEqDiff, Nat.reduceLeDiff, Nat.reduceLT, Nat.reduceBEq, Int.reduceAdd, Int.reduceSub, Int.reduceMul, Int.reduceNeg, Int.reduceLT, Int.reduceLE, Int.reduceEq, Int.reduceToNat, h4]
                  refine fin_tmp hw ?_ (fin_eq hK ?_)
                  · simp (disch := first | omega | (simp only [go_sem, List.length_append, List.length_take, List.length_drop, List.length_cons, List.length_nil] <;> omega)) only [go_sem, Nat.reduceAdd, Nat.reduceSub, Nat.reduceMul, Nat.reduceEqDiff, Nat.reduceLeDiff, Nat.reduceLT, Nat.reduceBEq, Int.reduceAdd, Int.reduceSub, Int.reduceMul, Int.reduceNeg, Int.reduceLT, Int.reduceLE, Int.reduceEq, Int.reduceToNat]
                  · simp (disch := first | omega | (simp only [go_sem, List.length_append, List.length_take, List.length_drop, List.length_cons, List.length_nil] <;> omega)) only [go_sem, Nat.reduceAdd, Nat.reduceSub, Nat.reduceMul, Nat.reduceEqDiff, Nat.reduceLeDiff, Nat.reduceLT, Nat.reduceBEq, Int.reduceAdd, Int.reduceSub, Int.reduceMul, Int.reduceNeg, Int.reduceLT, Int.reduceLE, Int.reduceEq, Int.reduceToNat]
                    have hh : hasB (X.take i) (X.getD i default).2.1 = true := by
                      unfold hasB
                      rw [List.any_eq_true]
                      refine ⟨X.getD k default, ?_, by simpa using h4⟩
                      have hkx : k < X.length := by omega
                      rw [show X.getD k default = (X.take i)[k]'(by simp; omega) by simp [hkx]]
                      exact List.getElem_mem _
                    have : okAt X i = false := by simp only [okAt, hh]; simp
                    rw [chk_not (by omega) (.inr this)]
                · simp (disch := first | omega | (simp only [go_sem, List.length_append, List.length_take, List.length_drop, List.length_cons, List.length_nil] <;> omega)) only [go_sem, Nat.reduceAdd, Nat.reduceSub, Nat.reduceMul, Nat.reduceEqDiff, Nat.reduceLeDiff, Nat.reduceLT, Nat.reduceBEq, Int.reduceAdd, Int.reduceSub, Int.reduceMul, Int.reduceNeg, Int.reduceLT, Int.reduceLE, Int.reduceEq, Int.reduceToNat, h4]
                  refine round_end (hJ2 _ _ _ ⟨k + 1, rfl, rfl, rfl, by omega, fun q hq2 => ?_⟩) (by omega) (by first | omega | (simp only [go_sem, List.length_append, List.length_take, List.length_drop, Nat.reduceAdd, Nat.reduceSub, Nat.reduceMul, Nat.reduceEqDiff, Nat.reduceLeDiff, Nat.reduceLT, Nat.reduceBEq, Int.reduceAdd, Int.reduceSub, Int.reduceMul, Int.reduceNeg, Int.reduceLT, Int.reduceLE, Int.reduceEq, Int.reduceToNat] <;> omega)) ?_ ?_
                  · rcases Nat.lt_succ_iff_lt_or_eq.1 hq2 with k | rfl
                    · exact hd q k
                    · exact h4
                  · simp (disch := (simp only [go_sem, Nat.reduceAdd, Nat.reduceSub, Nat.reduceMul, Nat.reduceEqDiff, Nat.reduceLeDiff, Nat.reduceLT, Nat.reduceBEq, Int.reduceAdd, Int.reduceSub, Int.reduceMul, Int.reduceNeg, Int.reduceLT, Int.reduceLE, Int.reduceEq, Int.reduceToNat] <;> omega)) only [go_sem, x_eLeS, x_hLeS, Int.natCast_zero, Int.natCast_add, Int.natCast_one, Nat.reduceAdd, Nat.reduceSub, Nat.reduceMul, Nat.reduceEqDiff, Nat.reduceLeDiff, Nat.reduceLT, Nat.reduceBEq, Int.reduceAdd, Int.reduceSub, Int.reduceMul, Int.reduceNeg, Int.reduceLT, Int.reduceLE, Int.reduceEq, Int.reduceToNat]
                  · exact hLe_app hw (by first | omega | (simp only [go_sem, List.length_append, List.length_take, List.length_drop, Nat.reduceAdd, Nat.reduceSub, Nat.reduceMul, Nat.reduceEqDiff, Nat.reduceLeDiff, Nat.reduceLT, Nat.reduceBEq, Int.reduceAdd, Int.reduceSub, Int.reduceMul, Int.reduceNeg, Int.reduceLT, Int.reduceLE, Int.reduceEq, Int.reduceToNat] <;> omega)) (by simp (disch := (simp only [go_sem, Nat.reduceAdd, Nat.reduceSub, Nat.reduceMul, Nat.reduceEqDiff, Nat.reduceLeDiff, Nat.reduceLT, Nat.reduceBEq, Int.reduceAdd, Int.reduceSub, Int.reduceMul, Int.reduceNeg, Int.reduceLT, Int.reduceLE, Int.reduceEq, Int.reduceToNat] <;> omega)) only [go_sem, x_eLeS, x_hLeS, Int.natCast_zero, Int.natCast_add, Int.natCast_one, Nat.reduceAdd, Nat.reduceSub, Nat.reduceMul, Nat.reduceEqDiff, Nat.reduceLeDiff, Nat.reduceLT, Nat.reduceBEq, Int.reduceAdd, Int.reduceSub, Int.reduceMul, Int.reduceNeg, Int.reduceLT, Int.reduceLE, Int.reduceEq, Int.reduceToNat])
              · simp (disch := first | omega | (simp only [go_sem, List.length_append, List.length_take, List.length_drop, List.length_cons, List.length_nil] <;> omega)) only [go_sem, Nat.reduceAdd, Nat.reduceSub, Nat.reduceMul, Nat.reduceEqDiff, Nat.reduceLeDiff, Nat.reduceLT, Nat.reduceBEq, Int.reduceAdd, Int.reduceSub, Int.reduceMul, Int.reduceNeg, Int.reduceLT, Int.reduceLE, Int.reduceEq, Int.reduceToNat]
                have hki : k = i := by omega
                subst hki
                have hh : hasB (X.take k) (X.getD k default).2.1 = false := by
                  rw [← Bool.not_eq_true]
                  unfold hasB
                  rw [List.any_eq_true]
                  rintro ⟨y, hy, he⟩
                  obtain ⟨q, hq3, rfl⟩ := List.mem_iff_getElem.1 hy
                  have hq4 : q < k := by simp at hq3; omega
                  have hq5 : q < X.length := by omega
                  have := hd q hq4
                  rw [show X.getD q default = X[q] by simp [hq5]] at this
                  simp only [List.getElem_take, decide_eq_true_eq] at he
                  exact this he
                have ho : okAt X k = true := by simp only [okAt, hh]; simp only [hs, decide_false, Bool.and_false, Bool.or_false, Bool.not_false]
                refine round_end (hJ _ _ _ ⟨k + 1, rfl, rfl, rfl, by omega, fun q hq2 => ?_⟩) (by omega) (by first | omega | (simp only [go_sem, List.length_append, List.length_take, List.length_drop, Nat.reduceAdd, Nat.reduceSub, Nat.reduceMul, Nat.reduceEqDiff, Nat.reduceLeDiff, Nat.reduceLT, Nat.reduceBEq, Int.reduceAdd, Int.reduceSub, Int.reduceMul, Int.reduceNeg, Int.reduceLT, Int.reduceLE, Int.reduceEq, Int.reduceToNat] <;> omega)) ?_ ?_
                · rcases Nat.lt_succ_iff_lt_or_eq.1 hq2 with k | rfl
                  · exact hq q k
                  · rw [hk, ho]; rfl
                · simp (disch := (simp only [go_sem, Nat.reduceAdd, Nat.reduceSub, Nat.reduceMul, Nat.reduceEqDiff, Nat.reduceLeDiff, Nat.reduceLT, Nat.reduceBEq, Int.reduceAdd, Int.reduceSub, Int.reduceMul, Int.reduceNeg, Int.reduceLT, Int.reduceLE, Int.reduceEq, Int.reduceToNat] <;> omega)) only [go_sem, x_eLeS, x_hLeS, Int.natCast_zero, Int.natCast_add, Int.natCast_one, Nat.reduceAdd, Nat.reduceSub, Nat.reduceMul, Nat.reduceEqDiff, Nat.reduceLeDiff, Nat.reduceLT, Nat.reduceBEq, Int.reduceAdd, Int.reduceSub, Int.reduceMul, Int.reduceNeg, Int.reduceLT, Int.reduceLE, Int.reduceEq, Int.reduceToNat]
                · exact hLe_app hw (by first | omega | (simp only [go_sem, List.length_append, List.length_take, List.length_drop, Nat.reduceAdd, Nat.reduceSub, Nat.reduceMul, Nat.reduceEqDiff, Nat.reduceLeDiff, Nat.reduceLT, Nat.reduceBEq, Int.reduceAdd, Int.reduceSub, Int.reduceMul, Int.reduceNeg, Int.reduceLT, Int.reduceLE, Int.reduceEq, Int.reduceToNat] <;> omega)) (by simp (disch := (simp only [go_sem, Nat.reduceAdd, Nat.reduceSub, Nat.reduceMul, Nat.reduceEqDiff, Nat.reduceLeDiff, Nat.reduceLT, Nat.reduceBEq, Int.reduceAdd, Int.reduceSub, Int.reduceMul, Int.reduceNeg, Int.reduceLT, Int.reduceLE, Int.reduceEq, Int.reduceToNat] <;> omega)) only [go_sem, x_eLeS, x_hLeS, Int.natCast_zero, Int.natCast_add, Int.natCast_one, Nat.reduceAdd, Nat.reduceSub, Nat.reduceMul, Nat.reduceEqDiff, Nat.reduceLeDiff, Nat.reduceLT, Nat.reduceBEq, Int.reduceAdd, Int.reduceSub, Int.reduceMul, Int.reduceNeg, Int.reduceLT, Int.reduceLE, Int.reduceEq, Int.reduceToNat])
        · simp (disch := first | omega | (simp only [go_sem, List.length_append, List.length_take, List.length_drop, List.length_cons, List.length_nil] <;> omega)) only [go_sem, Nat.reduceAdd, Nat.reduceSub, Nat.reduceMul, Nat.reduceEqDiff, Nat.reduceLeDiff, Nat.reduceLT, Nat.reduceBEq, Int.reduceAdd, Int.reduceSub, Int.reduceMul, Int.reduceNeg, Int.reduceLT, Int.reduceLE, Int.reduceEq, Int.reduceToNat]
          refine loop_in (fun m e H' => ∃ k : Nat, m = i - k ∧ e = slots 0 97 [(1, .sl 3 (X.map elV)), (2, .ptr H.length 0), (5, .int .i64 i), (6, .int .i64 k)] ∧
            H' = H ++ [.box [.str j.1, .int .i64 j.2.1, .int .i64 j.2.2.1, .int .i64 j.2.2.2]] ∧ k ≤ i ∧ ∀ q < k, (X.getD q default).2.1 ≠ (X.getD i default).2.1) (n := i) ⟨0, by omega, rfl, rfl, by omega, fun q hq => by omega⟩ (by first | omega | (simp only [go_sem, List.length_append, List.length_take, List.length_drop, Nat.reduceAdd, Nat.reduceSub, Nat.reduceMul, Nat.reduceEqDiff, Nat.reduceLeDiff, Nat.reduceLT, Nat.reduceBEq, Int.reduceAdd, Int.reduceSub, Int.reduceMul, Int.reduceNeg, Int.reduceLT, Int.reduceLE, Int.reduceEq, Int.reduceToNat] <;> omega)) ?_ ?_ ?_
          · simp (disch := (simp only [go_sem, Nat.reduceAdd, Nat.reduceSub, Nat.reduceMul, Nat.reduceEqDiff, Nat.reduceLeDiff, Nat.reduceLT, Nat.reduceBEq, Int.reduceAdd, Int.reduceSub, Int.reduceMul, Int.reduceNeg, Int.reduceLT, Int.reduceLE, Int.reduceEq, Int.reduceToNat] <;> omega)) only [go_sem, x_eLeS, x_hLeS, Int.natCast_zero, Int.natCast_add, Int.natCast_one, Nat.reduceAdd, Nat.reduceSub, Nat.reduceMul, Nat.reduceEqDiff, Nat.reduceLeDiff, Nat.reduceLT, Nat.reduceBEq, Int.reduceAdd, Int.reduceSub, Int.reduceMul, Int.reduceNeg, Int.reduceLT, Int.reduceLE, Int.reduceEq, Int.reduceToNat]
          · exact hLe_app hw (by first | omega | (simp only [go_sem, List.length_append, List.length_take, List.length_drop, Nat.reduceAdd, Nat.reduceSub, Nat.reduceMul, Nat.reduceEqDiff, Nat.reduceLeDiff, Nat.reduceLT, Nat.reduceBEq, Int.reduceAdd, Int.reduceSub, Int.reduceMul, Int.reduceNeg, Int.reduceLT, Int.reduceLE, Int.reduceEq, Int.reduceToNat] <;> omega)) (by simp (disch := (simp only [go_sem, Nat.reduceAdd, Nat.reduceSub, Nat.reduceMul, Nat.reduceEqDiff, Nat.reduceLeDiff, Nat.reduceLT, Nat.reduceBEq, Int.reduceAdd, Int.reduceSub, Int.reduceMul, Int.reduceNeg, Int.reduceLT, Int.reduceLE, Int.reduceEq, Int.reduceToNat] <;> omega)) only [go_sem, x_eLeS, x_hLeS, Int.natCast_zero, Int.natCast_add, Int.natCast_one, Nat.reduceAdd, Nat.reduceSub, Nat.reduceMul, Nat.reduceEqDiff, Nat.reduceLeDiff, Nat.reduceLT, Nat.reduceBEq, Int.reduceAdd, Int.reduceSub, Int.reduceMul, Int.reduceNeg, Int.reduceLT, Int.reduceLE, Int.reduceEq, Int.reduceToNat])
          · rintro J2 hJ2 m2 e2 H2 ⟨k, rfl, rfl, rfl, hk1, hd⟩
            simp (disch := first | omega | (simp only [go_sem, List.length_append, List.length_take, List.length_drop, List.length_cons, List.length_nil] <;> omega)) only [go_sem, Nat.reduceAdd, Nat.reduceSub, Nat.reduceMul, Nat.reduceEqDiff, Nat.reduceLeDiff, Nat.reduceLT, Nat.reduceBEq, Int.reduceAdd, Int.reduceSub, Int.reduceMul, Int.reduceNeg, Int.reduceLT, Int.reduceLE, Int.reduceEq, Int.reduceToNat]
            have hki : k = i := by omega
            subst hki
            have hh : hasB (X.take k) (X.getD k default).2.1 = false := by
              rw [← Bool.not_eq_true]
              unfold hasB
              rw [List.any_eq_true]
              rintro ⟨y, hy, he⟩
              obtain ⟨q, hq3, rfl⟩ := List.mem_iff_getElem.1 hy
              have hq4 : q < k := by simp at hq3; omega
              have hq5 : q < X.length := by omega
              have := hd q hq4
              rw [show X.getD q default = X[q] by simp [hq5]] at this
              simp only [List.getElem_take, decide_eq_true_eq] at he
              exact this he
            have ho : okAt X k = true := by simp only [okAt, hh]; simp; omega
            refine round_end (hJ _ _ _ ⟨k + 1, rfl, rfl, rfl, by omega, fun q hq2 => ?_⟩) (by omega) (by first | omega | (simp only [go_sem, List.length_append, List.length_take, List.length_drop, Nat.reduceAdd, Nat.reduceSub, Nat.reduceMul, Nat.reduceEqDiff, Nat.reduceLeDiff, Nat.reduceLT, Nat.reduceBEq, Int.reduceAdd, Int.reduceSub, Int.reduceMul, Int.reduceNeg, Int.reduceLT, Int.reduceLE, Int.reduceEq, Int.reduceToNat] <;> omega)) ?_ ?_
            · rcases Nat.lt_succ_iff_lt_or_eq.1 hq2 with k | rfl
              · exact hq q k
              · rw [hk, ho]; rfl
            · simp (disch := (simp only [go_sem, Nat.reduceAdd, Nat.reduceSub, Nat.reduceMul, Nat.reduceEqDiff, Nat.reduceLeDiff, Nat.reduceLT, Nat.reduceBEq, Int.reduceAdd, Int.reduceSub, Int.reduceMul, Int.reduceNeg, Int.reduceLT, Int.reduceLE, Int.reduceEq, Int.reduceToNat] <;> omega)) only [go_sem, x_eLeS, x_hLeS, Int.natCast_zero, Int.natCast_add, Int.natCast_one, Nat.reduceAdd, Nat.reduceSub, Nat.reduceMul, Nat.reduceEqDiff, Nat.reduceLeDiff, Nat.reduceLT, Nat.reduceBEq, Int.reduceAdd, Int.reduceSub, Int.reduceMul, Int.reduceNeg, Int.reduceLT, Int.reduceLE, Int.reduceEq, Int.reduceToNat]
            · exact hLe_app hw (by first | omega | (simp only [go_sem, List.length_append, List.length_take, List.length_drop, Nat.reduceAdd, Nat.reduceSub, Nat.reduceMul, Nat.reduceEqDiff, Nat.reduceLeDiff, Nat.reduceLT, Nat.reduceBEq, Int.reduceAdd, Int.reduceSub, Int.reduceMul, Int.reduceNeg, Int.reduceLT, Int.reduceLE, Int.reduceEq, Int.reduceToNat] <;> omega)) (by simp (disch := (simp only [go_sem, Nat.reduceAdd, Nat.reduceSub, Nat.reduceMul, Nat.reduceEqDiff, Nat.reduceLeDiff, Nat.reduceLT, Nat.reduceBEq, Int.reduceAdd, Int.reduceSub, Int.reduceMul, Int.reduceNeg, Int.reduceLT, Int.reduceLE, Int.reduceEq, Int.reduceToNat] <;> omega)) only [go_sem, x_eLeS, x_hLeS, Int.natCast_zero, Int.natCast_add, Int.natCast_one, Nat.reduceAdd, Nat.reduceSub, Nat.reduceMul, Nat.reduceEqDiff, Nat.reduceLeDiff, Nat.reduceLT, Nat.reduceBEq, Int.reduceAdd, Int.reduceSub, Int.reduceMul, Int.reduceNeg, Int.reduceLT, Int.reduceLE, Int.reduceEq, Int.reduceToNat])
    · simp (disch := first | omega | (simp only [go_sem, List.length_append, List.length_take, List.length_drop, List.length_cons, List.length_nil] <;> omega)) only [go_sem, Nat.reduceAdd, Nat.reduceSub, Nat.reduceMul, Nat.reduceEqDiff, Nat.reduceLeDiff, Nat.reduceLT, Nat.reduceBEq, Int.reduceAdd, Int.reduceSub, Int.reduceMul, Int.reduceNeg, Int.reduceLT, Int.reduceLE, Int.reduceEq, Int.reduceToNat]
      have hi : i = X.length := by omega
      subst hi
      refine r_Firing hX _ ?_
      simp (disch := first | omega | (simp only [go_sem, List.length_append, List.length_take, List.length_drop, List.length_cons, List.length_nil] <;> omega)) only [go_sem, Nat.reduceAdd, Nat.reduceSub, Nat.reduceMul, Nat.reduceEqDiff, Nat.reduceLeDiff, Nat.reduceLT, Nat.reduceBEq, Int.reduceAdd, Int.reduceSub, Int.reduceMul, Int.reduceNeg, Int.reduceLT, Int.reduceLE, Int.reduceEq, Int.reduceToNat]
      have hall : ((List.range X.length).all fun i => keptB j.2.1 (X.getD i default) && okAt X i) = true := by
        rw [List.all_eq_true]
        intro q hq2
        exact hq q (by simpa using hq2)
      have hl30 : X.length < 30 := by omega
      refine fin_tmp hw ?_ (fin_eq hK ?_)
      · simp (disch := first | omega | (simp only [go_sem, List.length_append, List.length_take, List.length_drop, List.length_cons, List.length_nil] <;> omega)) only [go_sem, Nat.reduceAdd, Nat.reduceSub, Nat.reduceMul, Nat.reduceEqDiff, Nat.reduceLeDiff, Nat.reduceLT, Nat.reduceBEq, Int.reduceAdd, Int.reduceSub, Int.reduceMul, Int.reduceNeg, Int.reduceLT, Int.reduceLE, Int.reduceEq, Int.reduceToNat]
      · simp (disch := first | omega | (simp only [go_sem, List.length_append, List.length_take, List.length_drop, List.length_cons, List.length_nil] <;> omega)) only [go_sem, Nat.reduceAdd, Nat.reduceSub, Nat.reduceMul, Nat.reduceEqDiff, Nat.reduceLeDiff, Nat.reduceLT, Nat.reduceBEq, Int.reduceAdd, Int.reduceSub, Int.reduceMul, Int.reduceNeg, Int.reduceLT, Int.reduceLE, Int.reduceEq, Int.reduceToNat]
        simp only [chkR, hm, hall, hl30, decide_true, Bool.true_and]
end
end Go.Av
