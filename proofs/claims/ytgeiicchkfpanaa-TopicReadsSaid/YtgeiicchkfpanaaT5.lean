/- A part of a way to reckon what a Go program does without its memory (T5). -/
import Derived.Test.YtgeiicchkfpanaaT3
import Derived.Test.YtgeiicchkfpanaaT4
import Derived.Test.YtgeiicchkfpanaaFit
namespace Go.Av
open Go
set_option autoImplicit false
set_option linter.all false
abbrev tpI (t : Tp) : Prop := tpOk t ∧ (-9223372036854775808 ≤ t.2.1 ∧ t.2.1 ≤ 9223372036854775807)
theorem few_tsB {X : List Tp} (h : ∀ x ∈ X, tpI x) : tsB (fewTs X) := by
  refine ⟨by simp [fewTs]; omega, fun x hx => ?_⟩
  simp only [fewTs, List.mem_map] at hx
  obtain ⟨y, hy, rfl⟩ := hx
  have := (h y (List.mem_of_mem_take hy)).2
  refine ⟨by simp [fewT]; omega, by simp [fewT]; omega, fun s hs => ?_, this⟩
  simp only [fewT, List.mem_map] at hs
  obtain ⟨z, _, rfl⟩ := hs
  simp; omega
theorem findT_at {X : List Tp} (h : chkT X = true) {i : Nat} (hi : i < X.length) : findT X (X.getD i default).1 = ((i : Int), 0) := by
  unfold findT
  rw [if_pos h, chkT_idx h hi, if_pos (by omega)]
set_option maxHeartbeats 2000000 in
set_option maxRecDepth 100000 in
theorem law_bounds {X : List Tp} {a : Int} {H : List Entry} (hX : X.length ≤ 9223372036854775807) (hx : ∀ x ∈ X, tpI x) (ha : -9223372036854775808 ≤ a ∧ a ≤ 9223372036854775807) : Pure AP n_trystlaw12_TopicBounds [.sl 3 (X.map tpV), .int .i64 a] H (.bool true) := by
  intro K hK
  refine a_trystlaw12_TopicBounds fun hw => ?_
  simp (disch := first | omega | (simp only [go_sem, push_cast, and_true] <;> omega) | fail) only [go_sem, c_trystlaw12_TopicBounds]
  refine s_FewTs hX (fun x h => (hx x h).1) _ ?_
  have hY := few_tsB hx
  generalize fewTs X = Y at *
  have hl : Y.length ≤ 21 := hY.1
  simp (disch := first | omega | (simp only [go_sem, push_cast, and_true] <;> omega) | fail) only [go_sem]
  refine s_CheckT hY _ ?_
  by_cases hc : chkT Y = true
  rotate_left
  · have hf : findT Y [97] = (0, 1) := by unfold findT; rw [if_neg hc]
    have hr : readT Y [97] a = (z0, 1) := by
      unfold readT
      rw [hf]
      rfl
    simp (disch := first | omega | (simp only [go_sem, push_cast, and_true] <;> omega) | fail) only [go_sem, if_neg hc, decide_false, Bool.not_false]
    refine s_ReadT hY _ ?_
    rw [hr]
    simp (disch := first | omega | (simp only [go_sem, push_cast, and_true] <;> omega) | fail) only [go_sem, decide_true]
    refine awake_ok _ _ ?_
    simp (disch := first | omega | (simp only [go_sem, push_cast, and_true] <;> omega) | fail) only [go_sem]
    refine fin_tmp hw ?_ (fin_eq hK ?_)
    · simp (disch := first | omega | (simp only [go_sem, push_cast, and_true] <;> omega) | fail) only [go_sem]
    · simp (disch := first | omega | (simp only [go_sem, push_cast, and_true] <;> omega) | fail) only [go_sem]
  simp (disch := first | omega | (simp only [go_sem, push_cast, and_true] <;> omega) | fail) only [go_sem, if_pos hc, decide_true, Bool.not_true]
  refine loop_in (fun m e' H' => ∃ i : Nat, m = Y.length - i ∧ e' = slots 0 104 [(0, .sl 3 (Y.map tpV)), (1, .int .i64 a), (4, .bool false), (7, .int .i64 (i : Int))] ∧ H' = H ∧ i ≤ Y.length) (n := Y.length) ⟨0, rfl, rfl, rfl, by omega⟩ (by first | omega | (simp only [go_sem, push_cast] <;> omega)) ?_ hw ?_
  · simp (disch := first | (simp only [go_sem] <;> omega) | fail) only [go_sem, x_eLeS, x_hLeS, Int.natCast_zero, Int.natCast_add, Int.natCast_one]
  · rintro J hJ m e' H' ⟨i, rfl, rfl, rfl, hi1⟩
    by_cases h : (i : Int) < Y.length
    rotate_left
    · simp (disch := first | omega | (simp only [go_sem, push_cast, and_true] <;> omega) | fail) only [go_sem]
      refine awake_ok _ _ ?_
      simp (disch := first | omega | (simp only [go_sem, push_cast, and_true] <;> omega) | fail) only [go_sem]
      refine fin_tmp0 hw ?_ (fin_eq hK ?_)
      · simp (disch := first | omega | (simp only [go_sem, push_cast, and_true] <;> omega) | fail) only [go_sem]
      · simp (disch := first | omega | (simp only [go_sem, push_cast, and_true] <;> omega) | fail) only [go_sem]
    have hil : i < Y.length := by omega
    have hm := getD_mem (X := Y) (i := i) hil
    have hf := findT_at hc hil
    obtain ⟨⟨he1, he2⟩, he3⟩ := chkT_el hc hm
    obtain ⟨b1, b2, b3, b4⟩ := hY.2 _ hm
    have hnx := hJ (Y.length - (i + 1)) _ _ ⟨i + 1, rfl, rfl, rfl, by omega⟩
    clear hJ
    generalize hD : Y.getD i default = D at *
    have hE : endT Y D.1 = (D.2.1 + D.2.2.length, 0) := by
      unfold endT
      rw [hf]
      simp only [if_true, Int.toNat_natCast, hD]
    simp (disch := first | omega | (simp only [go_sem, push_cast, and_true] <;> omega) | fail) only [go_sem, hD]
    refine s_EndT hY _ ?_
    rw [hE]
    simp (disch := first | omega | (simp only [go_sem, push_cast, and_true] <;> omega) | fail) only [go_sem, hD]
    refine s_ReadT hY _ ?_
    by_cases h1 : a < D.2.1
    · have hR : readT Y D.1 a = (z0, 8) := by
        unfold readT
        rw [hf]
        simp only [if_true, Int.toNat_natCast, hD]
        rw [if_pos h1]
      rw [hR]
      simp (disch := first | omega | (simp only [go_sem, push_cast, and_true] <;> omega) | fail) only [go_sem, hD, h1, decide_true, decide_false, Bool.not_true, Bool.not_false]
      refine round_end hnx (by omega) (by first | omega | (simp only [go_sem, push_cast] <;> omega)) ?_ (hLe_drop hw)
      simp (disch := first | (simp only [go_sem] <;> omega) | fail) only [go_sem, x_eLeS, x_hLeS, Int.natCast_zero, Int.natCast_add, Int.natCast_one]
    by_cases h2 : D.2.1 + (D.2.2.length : Int) ≤ a
    · have hR : readT Y D.1 a = (z0, 9) := by
        unfold readT
        rw [hf]
        simp only [if_true, Int.toNat_natCast, hD]
        rw [if_neg h1, if_pos h2]
      rw [hR]
      simp (disch := first | omega | (simp only [go_sem, push_cast, and_true] <;> omega) | fail) only [go_sem, hD, h1, h2, decide_true, decide_false, Bool.not_true, Bool.not_false]
      refine round_end hnx (by omega) (by first | omega | (simp only [go_sem, push_cast] <;> omega)) ?_ (hLe_drop hw)
      simp (disch := first | (simp only [go_sem] <;> omega) | fail) only [go_sem, x_eLeS, x_hLeS, Int.natCast_zero, Int.natCast_add, Int.natCast_one]
    · obtain ⟨q, hq, hql⟩ : ∃ q : Nat, a - D.2.1 = (q : Int) ∧ q < D.2.2.length := ⟨(a - D.2.1).toNat, by omega, by omega⟩
      obtain ⟨e1, e2⟩ := he3 _ (getD_mem (X := D.2.2) (i := q) hql)
      have hR : readT Y D.1 a = ((takE (D.2.2.getD q default)).1, 0) := by
        unfold readT
        rw [hf]
        simp only [if_true, Int.toNat_natCast, hD]
        rw [if_neg h1, if_neg h2, hq, Int.toNat_natCast, e1]
      rw [hR]
      simp (disch := first | omega | (simp only [go_sem, push_cast, and_true] <;> omega) | fail) only [go_sem, hD, h1, h2, e2, decide_true, decide_false, Bool.not_true, Bool.not_false]
      refine round_end hnx (by omega) (by first | omega | (simp only [go_sem, push_cast] <;> omega)) ?_ (hLe_drop hw)
      simp (disch := first | (simp only [go_sem] <;> omega) | fail) only [go_sem, x_eLeS, x_hLeS, Int.natCast_zero, Int.natCast_add, Int.natCast_one]
end Go.Av
