/- A part of a way to reckon what a Go program does without its memory (P3). -/
import Derived.Test.YtoicgilcdlakkaaP2
namespace Go.Av
open Go
set_option autoImplicit false
set_option linter.all false
theorem one_B {x : Ot} (h : otA x) : otB (oneO x) := ⟨by simp [oneO]; omega, by simp [oneO]; omega, h.2⟩
theorem few_idem (X : List Ot) : fewO (fewO X) = fewO X := by
  unfold fewO
  rw [List.take_of_length_le (by simp; omega), List.map_map]
  congr 1
  funext y
  simp [oneO, List.take_take]
theorem osB_add {X : List Ot} {x : Ot} (hX : osB X) (hx : otB x) : idsOk (addO X x).1 ∧ (addO X x).1.length ≤ 200 := by
  have h1 := osB_ids hX
  have h2 := hX.1
  unfold addO
  split
  · split
    · exact ⟨fun y hy => by simp at hy, by simp⟩
    · split
      · exact ⟨fun y hy => by simp at hy, by simp⟩
      · refine ⟨fun y hy => ?_, by simp; omega⟩
        rcases List.mem_append.1 hy with hy | hy
        · exact h1 y hy
        · have := hx.2.1
          simp at hy
          subst hy
          omega
  · exact ⟨fun y hy => by simp at hy, by simp⟩
theorem osB_again {X : List Ot} {x : Ot} {now : Int} (hX : osB X) (hx : otB x) : idsOk (againO X x now).1 ∧ (againO X x now).1.length ≤ 200 := by
  have h1 := osB_ids hX
  have h2 := hX.1
  unfold againO
  split
  · split
    · exact ⟨fun y hy => by simp at hy, by simp⟩
    · split
      · exact ⟨fun y hy => by simp at hy, by simp⟩
      · refine ⟨fun y hy => ?_, by simp [withO]; omega⟩
        simp only [withO, List.mem_append, List.mem_singleton] at hy
        rcases hy with (hy | hy) | hy
        · exact h1 y (List.mem_of_mem_take hy)
        · have := hx.2.1
          subst hy
          simp only [tryO]
          omega
        · exact h1 y (List.mem_of_mem_drop hy)
  · exact ⟨fun y hy => by simp at hy, by simp⟩
set_option maxRecDepth 100000 in
theorem law_adds {X : List Ot} {x : Ot} {now : Int} {H : List Entry} (hX : X.length ≤ 9223372036854775807) (hx : ∀ x ∈ X, otA x) (hx1 : otA x) : Pure AP n_trystlaw15_OutboxAdds [.sl 5 (X.map otV), otV x, .int .i64 now] H (.bool true) := by
  intro K hK
  refine a_trystlaw15_OutboxAdds fun hw => ?_
  simp (disch := first | omega | (simp only [go_sem, push_cast, and_true] <;> omega) | fail) only [go_sem, c_trystlaw15_OutboxAdds]
  refine (s_FewO hX (fun x h => (hx x h).1)).dcall ?_
  simp (disch := first | omega | (simp only [go_sem, push_cast, and_true] <;> omega) | fail) only [go_sem]
  refine (s_One hx1.1).dcall ?_
  have hY := few_osB hx
  have hid := few_idem X
  have h1 := one_B hx1
  have hok : ∀ y ∈ fewO X, otOk y := fun y hy => by
    have := hY.2 y hy
    exact ⟨by have := this.1; omega, by have := this.2.1; omega⟩
  generalize fewO X = Y at *
  generalize oneO x = z at *
  have hl := hY.1
  have iY := osB_ids hY
  obtain ⟨ia, la⟩ := osB_add hY h1
  obtain ⟨ig, lg⟩ := osB_again (now := now) hY h1
  simp (disch := first | omega | (simp only [go_sem, push_cast, and_true] <;> omega) | fail) only [go_sem]
  refine s_FewO (by omega) hok _ ?_
  rw [hid]
  simp (disch := first | omega | (simp only [go_sem, push_cast, and_true] <;> omega) | fail) only [go_sem]
  refine s_Add hY h1 _ ?_
  simp (disch := first | omega | (simp only [go_sem, push_cast, and_true] <;> omega) | fail) only [go_sem]
  refine r_Add hY h1 _ ?_
  simp (disch := first | omega | (simp only [go_sem, push_cast, and_true] <;> omega) | fail) only [go_sem]
  refine s_Again hY h1 _ ?_
  simp (disch := first | omega | (simp only [go_sem, push_cast, and_true] <;> omega) | fail) only [go_sem]
  refine r_Again hY h1 _ ?_
  simp (disch := first | omega | (simp only [go_sem, push_cast, and_true] <;> omega) | fail) only [go_sem]
  refine (r_Same (by omega) (by omega) ia ia).dcall ?_
  rw [sameL_eq rfl]
  simp (disch := first | omega | (simp only [go_sem, push_cast, and_true] <;> omega) | fail) only [go_sem, decide_true]
  refine (r_Same (by omega) (by omega) ig ig).dcall ?_
  rw [sameL_eq rfl]
  simp (disch := first | omega | (simp only [go_sem, push_cast, and_true] <;> omega) | fail) only [go_sem, decide_true]
  refine (s_Check hY).dcall ?_
  simp (disch := first | omega | (simp only [go_sem, push_cast, and_true] <;> omega) | fail) only [go_sem]
  refine (r_MayO hY).dcall ?_
  have hbe : ((decide ((if chkO Y = true then (0 : Int) else 1) = 0)) == chkO Y) = true := by
    cases chkO Y <;> rfl
  simp (disch := first | omega | (simp only [go_sem, push_cast, and_true] <;> omega) | fail) only [go_sem, hbe]
  refine (s_Find (by omega)).dcall ?_
  simp (disch := first | omega | (simp only [go_sem, push_cast, and_true] <;> omega) | fail) only [go_sem]
  refine (r_Find (by omega)).dcall ?_
  simp (disch := first | omega | (simp only [go_sem, push_cast, and_true] <;> omega) | fail) only [go_sem, decide_true]
  refine (s_Same (by omega) (by omega) iY ia).dcall ?_
  simp (disch := first | omega | (simp only [go_sem, push_cast, and_true] <;> omega) | fail) only [go_sem]
  refine (r_Same (by omega) (by omega) iY ia).dcall ?_
  simp (disch := first | omega | (simp only [go_sem, push_cast, and_true] <;> omega) | fail) only [go_sem, beq_self_eq_true]
  refine (r_Same (by omega) (by omega) iY iY).dcall ?_
  rw [sameL_eq rfl]
  simp (disch := first | omega | (simp only [go_sem, push_cast, and_true] <;> omega) | fail) only [go_sem]
  refine (awake_ok _).dcall ?_
  simp (disch := first | omega | (simp only [go_sem, push_cast, and_true] <;> omega) | fail) only [go_sem]
  refine fin_tmp hw ?_ (fin_eq hK ?_)
  · simp (disch := first | omega | (simp only [go_sem, push_cast, and_true] <;> omega) | fail) only [go_sem]
  · simp (disch := first | omega | (simp only [go_sem, push_cast, and_true] <;> omega) | fail) only [go_sem]
end Go.Av
