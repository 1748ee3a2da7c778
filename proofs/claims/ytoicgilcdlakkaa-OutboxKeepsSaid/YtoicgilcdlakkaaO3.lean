/- A part of a way to reckon what a Go program does without its memory (O3). -/
import Derived.Test.YtoicgilcdlakkaaO2
namespace Go.Av
open Go
set_option autoImplicit false
set_option linter.all false
/-! ### Equal lists of numbers, the same outputs -/
theorem s_EqIds {A B : List Int} {H : List Entry} (ha : A.length ≤ 1000000) (hb : B.length ≤ 1000000) : Pure AP n_slices_Equal_uint64_uint64 [.sl 1 (A.map u64V), .sl 1 (B.map u64V)] H (.bool (sameL A B)) := by
  intro K hK
  refine a_slices_Equal_uint64_uint64 fun hw => ?_
  by_cases h4 : A.length = B.length
  rotate_left
  · have hne : A ≠ B := fun h => h4 (by rw [h])
    have h4' : ¬ ((A.length : Int) = B.length) := by omega
    simp (disch := first | omega | (simp only [go_sem, push_cast, and_true] <;> omega) | fail) only [go_sem, c_slices_Equal_uint64_uint64, h4', decide_false, decide_true, Bool.not_false, Bool.not_true]
    refine fin_tmp0 hw ?_ (fin_eq hK ?_)
    · simp (disch := first | omega | (simp only [go_sem, push_cast, and_true] <;> omega) | fail) only [go_sem]
    · simp (disch := first | omega | (simp only [go_sem, push_cast, and_true] <;> omega) | fail) only [go_sem, sameL_ne hne]
  simp (disch := first | omega | (simp only [go_sem, push_cast, and_true] <;> omega) | fail) only [go_sem, c_slices_Equal_uint64_uint64, h4, decide_true, Bool.not_true]
  refine loop_in (fun m e' H' => ∃ i : Nat, m = B.length - i ∧ e' = slots 0 26 [(0, .sl 1 (A.map u64V)), (1, .sl 1 (B.map u64V)), (12, .int .i64 B.length), (13, .int .i64 (i : Int))] ∧ H' = H ∧ i ≤ B.length ∧ ∀ j < i, A.getD j default = B.getD j default) (n := B.length) ⟨0, rfl, rfl, rfl, by omega, fun j hj => by omega⟩ (Nat.le_refl _) ?_ hw ?_
  · simp (disch := first | (simp only [go_sem] <;> omega) | fail) only [go_sem, x_eLeS, x_hLeS, Int.natCast_zero, Int.natCast_add, Int.natCast_one]
  · rintro J hJ m e' H' ⟨i, rfl, rfl, rfl, hi1, hn⟩
    simp (disch := first | omega | (simp only [go_sem, push_cast, and_true] <;> omega) | fail) only [go_sem]
    by_cases h : (i : Int) < B.length
    · simp (disch := first | omega | (simp only [go_sem, push_cast, and_true] <;> omega) | fail) only [go_sem, h4]
      by_cases hp : A.getD i default = B.getD i default
      · simp (disch := first | omega | (simp only [go_sem, push_cast, and_true] <;> omega) | fail) only [go_sem, hp, beq_self_eq_true, decide_true, Bool.not_true]
        refine round_end (hJ _ _ _ ⟨i + 1, rfl, rfl, rfl, by omega, fun j hj => ?_⟩) (by omega) (Nat.le_refl _) ?_ hw
        · rcases Nat.lt_succ_iff_lt_or_eq.1 hj with k | rfl
          · exact hn j k
          · exact hp
        · simp (disch := first | (simp only [go_sem] <;> omega) | fail) only [go_sem, x_eLeS, x_hLeS, Int.natCast_zero, Int.natCast_add, Int.natCast_one]
      · have hne : A ≠ B := fun h => hp (by rw [h])
        simp (disch := first | omega | (simp only [go_sem, push_cast, and_true] <;> omega) | fail) only [go_sem, hp, decide_false, Bool.not_false]
        refine fin_tmp0 hw ?_ (fin_eq hK ?_)
        · simp (disch := first | omega | (simp only [go_sem, push_cast, and_true] <;> omega) | fail) only [go_sem]
        · simp (disch := first | omega | (simp only [go_sem, push_cast, and_true] <;> omega) | fail) only [go_sem, sameL_ne hne]
    · have hab : A = B := List.ext_getElem h4 fun j h5 h6 => by
        have := hn j (by omega)
        simpa [h5, h6] using this
      simp (disch := first | omega | (simp only [go_sem, push_cast, and_true] <;> omega) | fail) only [go_sem, h4]
      refine fin_tmp0 hw ?_ (fin_eq hK ?_)
      · simp (disch := first | omega | (simp only [go_sem, push_cast, and_true] <;> omega) | fail) only [go_sem]
      · simp (disch := first | omega | (simp only [go_sem, push_cast, and_true] <;> omega) | fail) only [go_sem, sameL_eq hab]
theorem r_Ids {A B : List Int} {H : List Entry} (ha : A.length ≤ 1000000) (hb : B.length ≤ 1000000) : Pure AP n_trystref11_Ids [.sl 1 (A.map u64V), .sl 1 (B.map u64V)] H (.bool (sameL A B)) := by
  intro K hK
  refine a_trystref11_Ids fun hw => ?_
  by_cases h4 : A.length = B.length
  rotate_left
  · have hne : A ≠ B := fun h => h4 (by rw [h])
    have h4' : ¬ ((A.length : Int) = B.length) := by omega
    simp (disch := first | omega | (simp only [go_sem, push_cast, and_true] <;> omega) | fail) only [go_sem, c_trystref11_Ids, h4', decide_false, decide_true, Bool.not_false, Bool.not_true]
    refine fin_tmp0 hw ?_ (fin_eq hK ?_)
    · simp (disch := first | omega | (simp only [go_sem, push_cast, and_true] <;> omega) | fail) only [go_sem]
    · simp (disch := first | omega | (simp only [go_sem, push_cast, and_true] <;> omega) | fail) only [go_sem, sameL_ne hne]
  simp (disch := first | omega | (simp only [go_sem, push_cast, and_true] <;> omega) | fail) only [go_sem, c_trystref11_Ids, h4, decide_true, Bool.not_true]
  refine loop_in (fun m e' H' => ∃ i : Nat, m = B.length - i ∧ e' = slots 0 26 [(0, .sl 1 (A.map u64V)), (1, .sl 1 (B.map u64V)), (5, .int .i64 (i : Int))] ∧ H' = H ∧ i ≤ B.length ∧ ∀ j < i, A.getD j default = B.getD j default) (n := B.length) ⟨0, rfl, rfl, rfl, by omega, fun j hj => by omega⟩ (Nat.le_refl _) ?_ hw ?_
  · simp (disch := first | (simp only [go_sem] <;> omega) | fail) only [go_sem, x_eLeS, x_hLeS, Int.natCast_zero, Int.natCast_add, Int.natCast_one]
  · rintro J hJ m e' H' ⟨i, rfl, rfl, rfl, hi1, hn⟩
    simp (disch := first | omega | (simp only [go_sem, push_cast, and_true] <;> omega) | fail) only [go_sem, h4]
    by_cases h : (i : Int) < B.length
    · simp (disch := first | omega | (simp only [go_sem, push_cast, and_true] <;> omega) | fail) only [go_sem, h4]
      by_cases hp : A.getD i default = B.getD i default
      · simp (disch := first | omega | (simp only [go_sem, push_cast, and_true] <;> omega) | fail) only [go_sem, hp, beq_self_eq_true, decide_true, Bool.not_true]
        refine round_end (hJ _ _ _ ⟨i + 1, rfl, rfl, rfl, by omega, fun j hj => ?_⟩) (by omega) (Nat.le_refl _) ?_ hw
        · rcases Nat.lt_succ_iff_lt_or_eq.1 hj with k | rfl
          · exact hn j k
          · exact hp
        · simp (disch := first | (simp only [go_sem] <;> omega) | fail) only [go_sem, x_eLeS, x_hLeS, Int.natCast_zero, Int.natCast_add, Int.natCast_one]
      · have hne : A ≠ B := fun h => hp (by rw [h])
        simp (disch := first | omega | (simp only [go_sem, push_cast, and_true] <;> omega) | fail) only [go_sem, hp, decide_false, Bool.not_false]
        refine fin_tmp0 hw ?_ (fin_eq hK ?_)
        · simp (disch := first | omega | (simp only [go_sem, push_cast, and_true] <;> omega) | fail) only [go_sem]
        · simp (disch := first | omega | (simp only [go_sem, push_cast, and_true] <;> omega) | fail) only [go_sem, sameL_ne hne]
    · have hab : A = B := List.ext_getElem h4 fun j h5 h6 => by
        have := hn j (by omega)
        simpa [h5, h6] using this
      simp (disch := first | omega | (simp only [go_sem, push_cast, and_true] <;> omega) | fail) only [go_sem, h4]
      refine fin_tmp0 hw ?_ (fin_eq hK ?_)
      · simp (disch := first | omega | (simp only [go_sem, push_cast, and_true] <;> omega) | fail) only [go_sem]
      · simp (disch := first | omega | (simp only [go_sem, push_cast, and_true] <;> omega) | fail) only [go_sem, sameL_eq hab]
noncomputable def sameO (x y : Ot) : Bool := @decide (x = y) (Classical.propDecidable _)
theorem sameO_eq {x y : Ot} (h : x = y) : sameO x y = true := by simp [sameO, h]
theorem sameO_ne {x y : Ot} (h : x ≠ y) : sameO x y = false := by simp [sameO, h]
theorem sameO_iff {x y : Ot} : sameO x y = true ↔ x = y := by
  by_cases h : x = y
  · exact ⟨fun _ => h, fun _ => sameO_eq h⟩
  · simp [sameO_ne h, h]
theorem s_sameOut {x y : Ot} {H : List Entry} (hx : x.2.2.1.length ≤ 1000000) (hy : y.2.2.1.length ≤ 1000000) : Pure AP n_outbox_sameOut [otV x, otV y] H (.bool (sameO x y)) := by
  intro K hK
  refine a_outbox_sameOut fun hw => ?_
  by_cases h1 : x.1 = y.1
  rotate_left
  · simp (disch := first | omega | (simp only [go_sem, push_cast, and_true] <;> omega) | fail) only [go_sem, c_outbox_sameOut, h1, decide_false]
    refine fin_tmp hw ?_ (fin_eq hK ?_)
    · simp (disch := first | omega | (simp only [go_sem, push_cast, and_true] <;> omega) | fail) only [go_sem]
    · simp (disch := first | omega | (simp only [go_sem, push_cast, and_true] <;> omega) | fail) only [go_sem, sameO_ne (x := x) (y := y) fun h => h1 (by rw [h])]
  by_cases h2 : x.2.1 = y.2.1
  rotate_left
  · simp (disch := first | omega | (simp only [go_sem, push_cast, and_true] <;> omega) | fail) only [go_sem, c_outbox_sameOut, h1, h2, decide_false, decide_true]
    refine fin_tmp hw ?_ (fin_eq hK ?_)
    · simp (disch := first | omega | (simp only [go_sem, push_cast, and_true] <;> omega) | fail) only [go_sem]
    · simp (disch := first | omega | (simp only [go_sem, push_cast, and_true] <;> omega) | fail) only [go_sem, sameO_ne (x := x) (y := y) fun h => h2 (by rw [h])]
  by_cases h3 : x.2.2.2.1 = y.2.2.2.1
  rotate_left
  · simp (disch := first | omega | (simp only [go_sem, push_cast, and_true] <;> omega) | fail) only [go_sem, c_outbox_sameOut, h1, h2, h3, decide_false, decide_true]
    refine fin_tmp hw ?_ (fin_eq hK ?_)
    · simp (disch := first | omega | (simp only [go_sem, push_cast, and_true] <;> omega) | fail) only [go_sem]
    · simp (disch := first | omega | (simp only [go_sem, push_cast, and_true] <;> omega) | fail) only [go_sem, sameO_ne (x := x) (y := y) fun h => h3 (by rw [h])]
  by_cases h4 : x.2.2.2.2 = y.2.2.2.2
  rotate_left
  · simp (disch := first | omega | (simp only [go_sem, push_cast, and_true] <;> omega) | fail) only [go_sem, c_outbox_sameOut, h1, h2, h3, h4, decide_false, decide_true]
    refine fin_tmp hw ?_ (fin_eq hK ?_)
    · simp (disch := first | omega | (simp only [go_sem, push_cast, and_true] <;> omega) | fail) only [go_sem]
    · simp (disch := first | omega | (simp only [go_sem, push_cast, and_true] <;> omega) | fail) only [go_sem, sameO_ne (x := x) (y := y) fun h => h4 (by rw [h])]
  simp (disch := first | omega | (simp only [go_sem, push_cast, and_true] <;> omega) | fail) only [go_sem, c_outbox_sameOut, h1, h2, h3, h4, decide_true]
  refine s_EqIds (A := x.2.2.1) (B := y.2.2.1) hx hy _ ?_
  simp (disch := first | omega | (simp only [go_sem, push_cast, and_true] <;> omega) | fail) only [go_sem]
  refine fin_tmp hw ?_ (fin_eq hK ?_)
  · simp (disch := first | omega | (simp only [go_sem, push_cast, and_true] <;> omega) | fail) only [go_sem]
  · by_cases h : x.2.2.1 = y.2.2.1
    · simp (disch := first | omega | (simp only [go_sem, push_cast, and_true] <;> omega) | fail) only [go_sem, sameL_eq h, sameO_eq (x := x) (y := y) (Prod.ext h1 (Prod.ext h2 (Prod.ext h (Prod.ext h3 h4))))]
    · simp (disch := first | omega | (simp only [go_sem, push_cast, and_true] <;> omega) | fail) only [go_sem, sameL_ne h, sameO_ne (x := x) (y := y) fun k => h (by rw [k])]
theorem r_SameOne {x y : Ot} {H : List Entry} (hx : x.2.2.1.length ≤ 1000000) (hy : y.2.2.1.length ≤ 1000000) : Pure AP n_trystref15_SameOne [otV x, otV y] H (.bool (sameO x y)) := by
  intro K hK
  refine a_trystref15_SameOne fun hw => ?_
  by_cases h1 : x.1 = y.1
  rotate_left
  · simp (disch := first | omega | (simp only [go_sem, push_cast, and_true] <;> omega) | fail) only [go_sem, c_trystref15_SameOne, h1, decide_false]
    refine fin_tmp hw ?_ (fin_eq hK ?_)
    · simp (disch := first | omega | (simp only [go_sem, push_cast, and_true] <;> omega) | fail) only [go_sem]
    · simp (disch := first | omega | (simp only [go_sem, push_cast, and_true] <;> omega) | fail) only [go_sem, sameO_ne (x := x) (y := y) fun h => h1 (by rw [h])]
  by_cases h2 : x.2.1 = y.2.1
  rotate_left
  · simp (disch := first | omega | (simp only [go_sem, push_cast, and_true] <;> omega) | fail) only [go_sem, c_trystref15_SameOne, h1, h2, decide_false, decide_true]
    refine fin_tmp hw ?_ (fin_eq hK ?_)
    · simp (disch := first | omega | (simp only [go_sem, push_cast, and_true] <;> omega) | fail) only [go_sem]
    · simp (disch := first | omega | (simp only [go_sem, push_cast, and_true] <;> omega) | fail) only [go_sem, sameO_ne (x := x) (y := y) fun h => h2 (by rw [h])]
  by_cases h3 : x.2.2.2.1 = y.2.2.2.1
  rotate_left
  · simp (disch := first | omega | (simp only [go_sem, push_cast, and_true] <;> omega) | fail) only [go_sem, c_trystref15_SameOne, h1, h2, h3, decide_false, decide_true]
    refine fin_tmp hw ?_ (fin_eq hK ?_)
    · simp (disch := first | omega | (simp only [go_sem, push_cast, and_true] <;> omega) | fail) only [go_sem]
    · simp (disch := first | omega | (simp only [go_sem, push_cast, and_true] <;> omega) | fail) only [go_sem, sameO_ne (x := x) (y := y) fun h => h3 (by rw [h])]
  by_cases h4 : x.2.2.2.2 = y.2.2.2.2
  rotate_left
  · simp (disch := first | omega | (simp only [go_sem, push_cast, and_true] <;> omega) | fail) only [go_sem, c_trystref15_SameOne, h1, h2, h3, h4, decide_false, decide_true]
    refine fin_tmp hw ?_ (fin_eq hK ?_)
    · simp (disch := first | omega | (simp only [go_sem, push_cast, and_true] <;> omega) | fail) only [go_sem]
    · simp (disch := first | omega | (simp only [go_sem, push_cast, and_true] <;> omega) | fail) only [go_sem, sameO_ne (x := x) (y := y) fun h => h4 (by rw [h])]
  simp (disch := first | omega | (simp only [go_sem, push_cast, and_true] <;> omega) | fail) only [go_sem, c_trystref15_SameOne, h1, h2, h3, h4, decide_true]
  refine r_Ids (A := x.2.2.1) (B := y.2.2.1) hx hy _ ?_
  simp (disch := first | omega | (simp only [go_sem, push_cast, and_true] <;> omega) | fail) only [go_sem]
  refine fin_tmp hw ?_ (fin_eq hK ?_)
  · simp (disch := first | omega | (simp only [go_sem, push_cast, and_true] <;> omega) | fail) only [go_sem]
  · by_cases h : x.2.2.1 = y.2.2.1
    · simp (disch := first | omega | (simp only [go_sem, push_cast, and_true] <;> omega) | fail) only [go_sem, sameL_eq h, sameO_eq (x := x) (y := y) (Prod.ext h1 (Prod.ext h2 (Prod.ext h (Prod.ext h3 h4))))]
    · simp (disch := first | omega | (simp only [go_sem, push_cast, and_true] <;> omega) | fail) only [go_sem, sameL_ne h, sameO_ne (x := x) (y := y) fun k => h (by rw [k])]
def idsOk (X : List Ot) : Prop := ∀ x ∈ X, x.2.2.1.length ≤ 1000000
theorem s_Same {A B : List Ot} {H : List Entry} (ha : A.length ≤ 1000000) (hb : B.length ≤ 1000000) (oa : idsOk A) (ob : idsOk B) : Pure AP n_outbox_Same [.sl 5 (A.map otV), .sl 5 (B.map otV)] H (.bool (sameL A B)) := by
  intro K hK
  refine a_outbox_Same fun hw => ?_
  simp (disch := first | omega | (simp only [go_sem, push_cast, and_true] <;> omega) | fail) only [go_sem, c_outbox_Same]
  refine s_EqualFO ha hb (fun H x hx y hy => s_sameOut (oa x hx) (ob y hy)) (fun x _ y _ => sameO_iff) _ ?_
  simp (disch := first | omega | (simp only [go_sem, push_cast, and_true] <;> omega) | fail) only [go_sem]
  refine fin_tmp0 hw ?_ (fin_eq hK ?_)
  · simp (disch := first | omega | (simp only [go_sem, push_cast, and_true] <;> omega) | fail) only [go_sem]
  · simp (disch := first | omega | (simp only [go_sem, push_cast, and_true] <;> omega) | fail) only [go_sem]
theorem r_Same {A B : List Ot} {H : List Entry} (ha : A.length ≤ 1000000) (hb : B.length ≤ 1000000) (oa : idsOk A) (ob : idsOk B) : Pure AP n_trystref15_Same [.sl 5 (A.map otV), .sl 5 (B.map otV)] H (.bool (sameL A B)) := by
  intro K hK
  refine a_trystref15_Same fun hw => ?_
  by_cases h4 : A.length = B.length
  rotate_left
  · have hne : A ≠ B := fun h => h4 (by rw [h])
    have h4' : ¬ ((A.length : Int) = B.length) := by omega
    simp (disch := first | omega | (simp only [go_sem, push_cast, and_true] <;> omega) | fail) only [go_sem, c_trystref15_Same, h4', decide_false, decide_true, Bool.not_false, Bool.not_true]
    refine fin_tmp0 hw ?_ (fin_eq hK ?_)
    · simp (disch := first | omega | (simp only [go_sem, push_cast, and_true] <;> omega) | fail) only [go_sem]
    · simp (disch := first | omega | (simp only [go_sem, push_cast, and_true] <;> omega) | fail) only [go_sem, sameL_ne hne]
  simp (disch := first | omega | (simp only [go_sem, push_cast, and_true] <;> omega) | fail) only [go_sem, c_trystref15_Same, h4, decide_true, Bool.not_true]
  refine loop_in (fun m e' H' => ∃ i : Nat, m = B.length - i ∧ e' = slots 0 27 [(0, .sl 5 (A.map otV)), (1, .sl 5 (B.map otV)), (5, .int .i64 (i : Int))] ∧ H' = H ∧ i ≤ B.length ∧ ∀ j < i, A.getD j default = B.getD j default) (n := B.length) ⟨0, rfl, rfl, rfl, by omega, fun j hj => by omega⟩ (Nat.le_refl _) ?_ hw ?_
  · simp (disch := first | (simp only [go_sem] <;> omega) | fail) only [go_sem, x_eLeS, x_hLeS, Int.natCast_zero, Int.natCast_add, Int.natCast_one]
  · rintro J hJ m e' H' ⟨i, rfl, rfl, rfl, hi1, hn⟩
    simp (disch := first | omega | (simp only [go_sem, push_cast, and_true] <;> omega) | fail) only [go_sem, h4]
    by_cases h : (i : Int) < B.length
    · have hA := getD_mem (X := A) (i := i) (by omega)
      have hB := getD_mem (X := B) (i := i) (by omega)
      simp (disch := first | omega | (simp only [go_sem, push_cast, and_true] <;> omega) | fail) only [go_sem, h4]
      refine (r_SameOne (x := A.getD i default) (y := B.getD i default) (oa _ hA) (ob _ hB)).dcall ?_
      by_cases hp : A.getD i default = B.getD i default
      · simp (disch := first | omega | (simp only [go_sem, push_cast, and_true] <;> omega) | fail) only [go_sem, sameO_eq hp, Bool.not_true]
        refine round_end (hJ _ _ _ ⟨i + 1, rfl, rfl, rfl, by omega, fun j hj => ?_⟩) (by omega) (Nat.le_refl _) ?_ hw
        · rcases Nat.lt_succ_iff_lt_or_eq.1 hj with k | rfl
          · exact hn j k
          · exact hp
        · simp (disch := first | (simp only [go_sem] <;> omega) | fail) only [go_sem, x_eLeS, x_hLeS, Int.natCast_zero, Int.natCast_add, Int.natCast_one]
      · have hne : A ≠ B := fun h => hp (by rw [h])
        simp (disch := first | omega | (simp only [go_sem, push_cast, and_true] <;> omega) | fail) only [go_sem, sameO_ne hp, Bool.not_false]
        refine fin_tmp0 hw ?_ (fin_eq hK ?_)
        · simp (disch := first | omega | (simp only [go_sem, push_cast, and_true] <;> omega) | fail) only [go_sem]
        · simp (disch := first | omega | (simp only [go_sem, push_cast, and_true] <;> omega) | fail) only [go_sem, sameL_ne hne]
    · have hab : A = B := List.ext_getElem h4 fun j h5 h6 => by
        have := hn j (by omega)
        simpa [h5, h6] using this
      simp (disch := first | omega | (simp only [go_sem, push_cast, and_true] <;> omega) | fail) only [go_sem, h4]
      refine fin_tmp0 hw ?_ (fin_eq hK ?_)
      · simp (disch := first | omega | (simp only [go_sem, push_cast, and_true] <;> omega) | fail) only [go_sem]
      · simp (disch := first | omega | (simp only [go_sem, push_cast, and_true] <;> omega) | fail) only [go_sem, sameL_eq hab]
end Go.Av
