/- A part of a way to reckon what a Go program does without its memory (O8). -/
import Derived.Test.YtoicgilcdlakkaaO6
import Derived.Test.YtoicgilcdlakkaaO7
namespace Go.Av
open Go
set_option autoImplicit false
set_option linter.all false
abbrev otA (x : Ot) : Prop := otOk x ∧ (0 ≤ x.1 ∧ x.1 ≤ 18446744073709551615)
theorem few_osB {X : List Ot} (h : ∀ x ∈ X, otA x) : osB (fewO X) := by
  refine ⟨by simp [fewO]; omega, fun x hx => ?_⟩
  simp only [fewO, List.mem_map] at hx
  obtain ⟨y, hy, rfl⟩ := hx
  have := (h y (List.mem_of_mem_take hy)).2
  exact ⟨by simp [oneO]; omega, by simp [oneO]; omega, this⟩
theorem osB_ids {X : List Ot} (h : osB X) : idsOk X := fun x hx => by have := (h.2 x hx).2.1; omega
theorem law_turns {X : List Ot} {a b : Int} {H : List Entry} (hX : X.length ≤ 9223372036854775807) (hx : ∀ x ∈ X, otA x) : Pure AP n_trystlaw15_OutboxTurns [.sl 5 (X.map otV), .int .u64 a, .int .u64 b] H (.bool true) := by
  intro K hK
  refine a_trystlaw15_OutboxTurns fun hw => ?_
  simp (disch := first | omega | (simp only [go_sem, push_cast, and_true] <;> omega) | fail) only [go_sem, c_trystlaw15_OutboxTurns]
  refine s_FewO hX (fun x h => (hx x h).1) _ ?_
  have hY := few_osB hx
  generalize fewO X = Y at *
  have hl := hY.1
  simp (disch := first | omega | (simp only [go_sem, push_cast, and_true] <;> omega) | fail) only [go_sem]
  refine s_Ack hY _ ?_
  simp (disch := first | omega | (simp only [go_sem, push_cast, and_true] <;> omega) | fail) only [go_sem]
  refine s_Ack hY _ ?_
  have fin : ∀ {e : List V} {G : List Entry}, nth e 6 = .bool true → WkP H.length (resK (rsT [6]) [] K) e (H ++ G) := fun {e G} h => by
    refine fin_tmp hw ?_ (fin_eq hK ?_)
    · simp [nths, h, idsLts, idsLt]
    · simp [oneV, nths, h]
  have fin0 : ∀ {e : List V}, nth e 6 = .bool true → WkP H.length (resK (rsT [6]) [] K) e H := fun {e} h => by
    have := fin (G := []) h
    simpa using this
  rw [ack_eq Y a, ack_eq Y b]
  by_cases hc : chkO Y = true
  rotate_left
  · simp (disch := first | omega | (simp only [go_sem, push_cast, and_true] <;> omega) | fail) only [go_sem, if_neg hc, decide_true, Bool.not_true, decide_false, Bool.not_false]
    refine awake_ok _ _ ?_
    simp (disch := first | omega | (simp only [go_sem, push_cast, and_true] <;> omega) | fail) only [go_sem]
    exact fin0 rfl
  simp only [if_pos hc]
  cases ha : hasI Y a
  · simp (disch := first | omega | (simp only [go_sem, push_cast, and_true] <;> omega) | fail) only [go_sem, Bool.false_eq_true, if_false, decide_true, Bool.not_true, decide_false, Bool.not_false]
    refine awake_ok _ _ ?_
    simp (disch := first | omega | (simp only [go_sem, push_cast, and_true] <;> omega) | fail) only [go_sem]
    exact fin0 rfl
  cases hb : hasI Y b
  · simp (disch := first | omega | (simp only [go_sem, push_cast, and_true] <;> omega) | fail) only [go_sem, Bool.false_eq_true, if_false, if_true, decide_true, Bool.not_true, decide_false, Bool.not_false]
    refine awake_ok _ _ ?_
    simp (disch := first | omega | (simp only [go_sem, push_cast, and_true] <;> omega) | fail) only [go_sem]
    exact fin0 rfl
  by_cases hab : a = b
  · simp (disch := first | omega | (simp only [go_sem, push_cast, and_true] <;> omega) | fail) only [go_sem, if_true, hab, decide_true, Bool.not_true, decide_false, Bool.not_false]
    refine awake_ok _ _ ?_
    simp (disch := first | omega | (simp only [go_sem, push_cast, and_true] <;> omega) | fail) only [go_sem]
    exact fin0 rfl
  simp (disch := first | omega | (simp only [go_sem, push_cast, and_true] <;> omega) | fail) only [go_sem, if_true, hab, decide_true, Bool.not_true, decide_false, Bool.not_false]
  have oa := osB_filter (p := fun x => !isI a x) hY
  have ob := osB_filter (p := fun x => !isI b x) hY
  have ca := chk_filter (p := fun x => !isI a x) hc
  have cb := chk_filter (p := fun x => !isI b x) hc
  rw [show Y.filter (fun x => !isI a x) = outI Y a from rfl] at oa ca
  rw [show Y.filter (fun x => !isI b x) = outI Y b from rfl] at ob cb
  have hba : ¬ b = a := fun h => hab h.symm
  have h1 : hasI (outI Y a) b = true := by rw [has_out, hb]; simp [hab]
  have h2 : hasI (outI Y b) a = true := by rw [has_out, ha]; simp [hba]
  have h3 : hasI (outI Y a) a = false := by rw [has_out]; simp
  have o2 := osB_filter (p := fun x => !isI b x) oa
  rw [show (outI Y a).filter (fun x => !isI b x) = outI (outI Y a) b from rfl] at o2
  have l1 := out_len hc ha
  have l2 := out_len ca h1
  refine s_Ack oa _ ?_
  rw [ack_eq, if_pos ca, h1]
  simp (disch := first | omega | (simp only [go_sem, push_cast, and_true] <;> omega) | fail) only [go_sem, if_true]
  refine s_Ack ob _ ?_
  rw [ack_eq, if_pos cb, h2]
  simp (disch := first | omega | (simp only [go_sem, push_cast, and_true] <;> omega) | fail) only [go_sem, if_true]
  refine s_Ack oa _ ?_
  rw [ack_eq, if_pos ca, h3, out_comm Y b a]
  simp (disch := first | omega | (simp only [go_sem, push_cast, and_true] <;> omega) | fail) only [go_sem, Bool.false_eq_true, if_false]
  refine r_Same (A := outI (outI Y a) b) (B := outI (outI Y a) b) (by omega) (by omega) (osB_ids o2) (osB_ids o2) _ ?_
  rw [sameL_eq rfl]
  have h4 : hasI (outI (outI Y a) b) a = false := by rw [has_out, h3]; simp
  have e1 : ((outI (outI Y a) b).length : Int) = (Y.length : Int) - 2 := by omega
  simp (disch := first | omega | (simp only [go_sem, push_cast, and_true] <;> omega) | fail) only [go_sem, decide_true, e1]
  refine s_Find (by omega) _ ?_
  rw [not_has h4]
  simp (disch := first | omega | (simp only [go_sem, push_cast, and_true] <;> omega) | fail) only [go_sem]
  refine awake_ok _ _ ?_
  simp (disch := first | omega | (simp only [go_sem, push_cast, and_true] <;> omega) | fail) only [go_sem]
  exact fin0 rfl
end Go.Av
