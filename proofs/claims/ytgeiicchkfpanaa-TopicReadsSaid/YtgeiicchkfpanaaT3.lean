/- A part of a way to reckon what a Go program does without its memory (T3). -/
import Derived.Test.YtgeiicchkfpanaaT2
namespace Go.Av
open Go
set_option autoImplicit false
set_option linter.all false
noncomputable def endT (X : List Tp) (n : List UInt8) : Int × Int := if (findT X n).2 = 0 then ((X.getD (findT X n).1.toNat default).2.1 + (X.getD (findT X n).1.toNat default).2.2.length, 0) else (0, (findT X n).2)
theorem findT_ok {X : List Tp} {n : List UInt8} (h : (findT X n).2 = 0) : chkT X = true ∧ ∃ p : Nat, (findT X n).1 = (p : Int) ∧ p < X.length := by
  unfold findT at h ⊢
  by_cases hc : chkT X = true
  · rw [if_pos hc] at h ⊢
    by_cases h2 : 0 ≤ idx (isNT n) X
    · rw [if_pos h2] at h ⊢
      have hb := idx_bounds (isNT n) X
      exact ⟨hc, (idx (isNT n) X).toNat, by simp only; omega, by omega⟩
    · rw [if_neg h2] at h
      cases h
  · rw [if_neg hc] at h
    cases h
theorem s_EndT {X : List Tp} {n : List UInt8} {H : List Entry} (hX : tsB X) : Pure AP n_topic_End [.sl 3 (X.map tpV), .str n] H (.tup [.int .i64 (endT X n).1, .int .i64 (endT X n).2]) := by
  intro K hK
  refine a_topic_End fun hw => ?_
  have hl : X.length ≤ 21 := hX.1
  unfold endT at hK
  simp (disch := first | omega | (simp only [go_sem, push_cast, and_true] <;> omega) | fail) only [go_sem, c_topic_End]
  refine s_findT hX _ ?_
  by_cases hf : (findT X n).2 = 0
  rotate_left
  · rw [if_neg hf] at hK
    simp (disch := first | omega | (simp only [go_sem, push_cast, and_true] <;> omega) | fail) only [go_sem, hf, decide_false, Bool.not_false]
    refine fin_tmp0 hw ?_ (fin_eq hK ?_)
    · simp (disch := first | omega | (simp only [go_sem, push_cast, and_true] <;> omega) | fail) only [go_sem]
    · simp (disch := first | omega | (simp only [go_sem, push_cast, and_true] <;> omega) | fail) only [go_sem]
  obtain ⟨hc, p, hp, hlt⟩ := findT_ok hf
  rw [if_pos hf, hp, Int.toNat_natCast] at hK
  rw [hp]
  have hm := getD_mem (X := X) (i := p) hlt
  have hb := hX.2 _ hm
  have he := (chkT_el hc hm).1
  simp (disch := first | omega | (simp only [go_sem, push_cast, and_true] <;> omega) | fail) only [go_sem, hf, decide_true, Bool.not_true]
  refine s_endOf (t := X.getD p default) hb.2.1 (by omega) _ ?_
  simp (disch := first | omega | (simp only [go_sem, push_cast, and_true] <;> omega) | fail) only [go_sem]
  refine fin_tmp0 hw ?_ (fin_eq hK ?_)
  · simp (disch := first | omega | (simp only [go_sem, push_cast, and_true] <;> omega) | fail) only [go_sem]
  · simp (disch := first | omega | (simp only [go_sem, push_cast, and_true] <;> omega) | fail) only [go_sem]
noncomputable def readT (X : List Tp) (n : List UInt8) (a : Int) : Ev × Int :=
  if (findT X n).2 = 0 then
    (if a < (X.getD (findT X n).1.toNat default).2.1 then (z0, 8) else if (X.getD (findT X n).1.toNat default).2.1 + (X.getD (findT X n).1.toNat default).2.2.length ≤ a then (z0, 9)
    else ((takE ((X.getD (findT X n).1.toNat default).2.2.getD (a - (X.getD (findT X n).1.toNat default).2.1).toNat default)).1, (takE ((X.getD (findT X n).1.toNat default).2.2.getD (a - (X.getD (findT X n).1.toNat default).2.1).toNat default)).2.2))
  else (z0, (findT X n).2)
theorem s_ReadT {X : List Tp} {n : List UInt8} {a : Int} {H : List Entry} (hX : tsB X) : Pure AP n_topic_Read [.sl 3 (X.map tpV), .str n, .int .i64 a] H (.tup [evV (readT X n a).1, .int .i64 (readT X n a).2]) := by
  intro K hK
  refine a_topic_Read fun hw => ?_
  have hl : X.length ≤ 21 := hX.1
  unfold readT at hK
  simp (disch := first | omega | (simp only [go_sem, push_cast, and_true] <;> omega) | fail) only [go_sem, c_topic_Read]
  refine s_findT hX _ ?_
  by_cases hf : (findT X n).2 = 0
  rotate_left
  · rw [if_neg hf] at hK
    simp (disch := first | omega | (simp only [go_sem, push_cast, and_true] <;> omega) | fail) only [go_sem, hf, decide_false, Bool.not_false]
    refine end_less [.agg [.str [], .str [], .int .u64 0, .sl 4 []], .int .i64 (findT X n).2] (by repeat' (first | exact .nil _ | exact .slx _ _ | exact .refl _ | exact .nil | refine .cons ?_ ?_ | refine .agg ?_ | refine .tup ?_)) ?_
    refine fin_res hw ?_ (fin_eq hK ?_)
    · simp (disch := first | omega | (simp only [go_sem, push_cast, and_true] <;> omega) | fail) only [go_sem]
    · simp [oneV, evV, z0]
  obtain ⟨hc, p, hp, hlt⟩ := findT_ok hf
  rw [if_pos hf, hp, Int.toNat_natCast] at hK
  rw [hp]
  have hm := getD_mem (X := X) (i := p) hlt
  obtain ⟨b1, b2, b3, b4⟩ := hX.2 _ hm
  have he := (chkT_el hc hm).1
  generalize hD : X.getD p default = D at *
  by_cases h1 : a < D.2.1
  · rw [if_pos h1] at hK
    simp (disch := first | omega | (simp only [go_sem, push_cast, and_true] <;> omega) | fail) only [go_sem, hf, hD, h1, decide_true, Bool.not_true]
    refine end_less [.agg [.str [], .str [], .int .u64 0, .sl 4 []], .int .i64 8] (by repeat' (first | exact .nil _ | exact .slx _ _ | exact .refl _ | exact .nil | refine .cons ?_ ?_ | refine .agg ?_ | refine .tup ?_)) ?_
    refine fin_res hw ?_ (fin_eq hK ?_)
    · simp (disch := first | omega | (simp only [go_sem, push_cast, and_true] <;> omega) | fail) only [go_sem]
    · simp [oneV, evV, z0]
  rw [if_neg h1] at hK
  simp (disch := first | omega | (simp only [go_sem, push_cast, and_true] <;> omega) | fail) only [go_sem, hf, hD, h1, decide_true, decide_false, Bool.not_true]
  refine s_endOf (t := D) b2 (by omega) _ ?_
  by_cases h2 : D.2.1 + (D.2.2.length : Int) ≤ a
  · rw [if_pos h2] at hK
    simp (disch := first | omega | (simp only [go_sem, push_cast, and_true] <;> omega) | fail) only [go_sem, h2, decide_true]
    refine end_less [.agg [.str [], .str [], .int .u64 0, .sl 4 []], .int .i64 9] (by repeat' (first | exact .nil _ | exact .slx _ _ | exact .refl _ | exact .nil | refine .cons ?_ ?_ | refine .agg ?_ | refine .tup ?_)) ?_
    refine fin_res hw ?_ (fin_eq hK ?_)
    · simp (disch := first | omega | (simp only [go_sem, push_cast, and_true] <;> omega) | fail) only [go_sem]
    · simp [oneV, evV, z0]
  rw [if_neg h2] at hK
  obtain ⟨q, hq, hql⟩ : ∃ q : Nat, a - D.2.1 = (q : Int) ∧ q < D.2.2.length := ⟨(a - D.2.1).toNat, by omega, by omega⟩
  rw [hq, Int.toNat_natCast] at hK
  have hs := b3 _ (getD_mem (X := D.2.2) (i := q) hql)
  simp (disch := first | omega | (simp only [go_sem, push_cast, and_true] <;> omega) | fail) only [go_sem, h2, decide_false, hq]
  refine s_Take (s := D.2.2.getD q default) (by omega) _ ?_
  simp (disch := first | omega | (simp only [go_sem, push_cast, and_true] <;> omega) | fail) only [go_sem]
  refine fin_res hw ?_ (fin_eq hK ?_)
  · simp (disch := first | omega | (simp only [go_sem, push_cast, and_true] <;> omega) | fail) only [go_sem]
  · simp [oneV, evV]
end Go.Av
