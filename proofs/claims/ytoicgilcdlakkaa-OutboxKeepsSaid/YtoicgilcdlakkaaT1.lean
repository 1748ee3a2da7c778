/- A part of a way to reckon what a Go program does without its memory (T1). -/
import Derived.Test.YtoicgilcdlakkaaAc
import Derived.Test.YtoicgilcdlakkaaGw
import Derived.Test.YtoicgilcdlakkaaGrowT
namespace Go.Av
open Go
set_option autoImplicit false
set_option linter.all false
/-! ### A timer -/
abbrev Tm := Int × Int
def tmV (t : Tm) : V := .agg [.int .i64 t.1, .int .u64 t.2]
@[go_sem] theorem tmV_def (t : Tm) : tmV t = .agg [.int .i64 t.1, .int .u64 t.2] := (rfl)
end Go.Av
namespace Go.Av
open Go
set_option autoImplicit false
set_option linter.all false

theorem s_IndexFT {X : List Tm} {f : FuncId} {a b : List V} {H : List Entry} {p : Tm → Bool} (hX : X.length ≤ 1000000) (hp : ∀ x ∈ X, Pure AP f (a ++ ([tmV x] ++ b)) H (.bool (p x))) (hi : idsLts H.length a = true) (hj : idsLts H.length b = true) :
    Pure AP n_slices_IndexFunc_api_Timer_api_Timer [.sl 2 (X.map tmV), .fn f a b] H (.int .i64 (idx p X)) := by
  intro K hK
  refine a_slices_IndexFunc_api_Timer_api_Timer fun hw => ?_
  simp (disch := first | omega | (simp only [go_sem, push_cast, and_true] <;> omega) | fail) only [go_sem, c_slices_IndexFunc_api_Timer_api_Timer]
  refine loop_in (fun n e H' => ∃ i : Nat, n = X.length - i ∧ e = slots 0 19 [(0, .sl 2 (X.map tmV)), (1, .fn f a b), (7, .int .i64 X.length), (8, .int .i64 i)] ∧ H' = H ∧ i ≤ X.length ∧ ∀ j < i, p (X.getD j default) = false) (n := X.length) ⟨0, by omega, rfl, rfl, by omega, fun j hj => by omega⟩ (Nat.le_refl _) ?_ hw ?_
  · simp (disch := first | (simp only [go_sem, hi, hj] <;> omega) | fail) only [go_sem, x_eLeS, x_hLeS, Int.natCast_zero, Int.natCast_add, Int.natCast_one, hi, hj]
  · rintro J hJ n e H' ⟨i, rfl, rfl, rfl, hi1, hn⟩
    simp (disch := first | omega | (simp only [go_sem, push_cast, and_true] <;> omega) | fail) only [go_sem]
    by_cases h : (i : Int) < X.length
    · simp (disch := first | omega | (simp only [go_sem, push_cast, and_true] <;> omega) | fail) only [go_sem]
      refine hp _ (getD_mem (by omega)) _ ?_
      simp (disch := first | omega | (simp only [go_sem, push_cast, and_true] <;> omega) | fail) only [go_sem]
      cases hpx : p (X.getD i default)
      · simp (disch := first | omega | (simp only [go_sem, push_cast, and_true] <;> omega) | fail) only [go_sem]
        refine round_end (hJ _ _ _ ⟨i + 1, rfl, rfl, rfl, by omega, fun j hj => ?_⟩) (by omega) (Nat.le_refl _) ?_ hw
        · rcases Nat.lt_succ_iff_lt_or_eq.1 hj with k | rfl
          · exact hn j k
          · exact hpx
        · simp (disch := first | (simp only [go_sem, hi, hj] <;> omega) | fail) only [go_sem, x_eLeS, x_hLeS, Int.natCast_zero, Int.natCast_add, Int.natCast_one, hi, hj]
      · simp (disch := first | omega | (simp only [go_sem, push_cast, and_true] <;> omega) | fail) only [go_sem]
        refine fin_tmp0 hw ?_ (fin_eq hK ?_)
        · simp (disch := first | omega | (simp only [go_sem, push_cast, and_true] <;> omega) | fail) only [go_sem]
        · simp (disch := first | omega | (simp only [go_sem, push_cast, and_true] <;> omega) | fail) only [go_sem]
          rw [← idx_some (by omega) hpx hn]
    · simp (disch := first | omega | (simp only [go_sem, push_cast, and_true] <;> omega) | fail) only [go_sem]
      refine fin_tmp0 hw ?_ (fin_eq hK ?_)
      · simp (disch := first | omega | (simp only [go_sem, push_cast, and_true] <;> omega) | fail) only [go_sem]
      · simp (disch := first | omega | (simp only [go_sem, push_cast, and_true] <;> omega) | fail) only [go_sem]
        rw [← idx_none (p := p) (fun j hj => hn j (by omega))]
theorem growT : GrowSays AP n_slices_Grow_api_Timer_api_Timer 73 2 100000 := fun n hn w => Go.Proofs.Ytoicgilcdlakkaa.growT_nil n w hn
theorem s_CloneFT {xs : List V} {H : List Entry} {K : KV} (hx : xs.length ≤ 1000000) (hK : K (.own H.length xs.length) (H ++ [.row 73 2 xs])) : BCall AP n_slices_Clone_api_Timer_api_Timer [.sl 2 xs] H K := by
  refine a_slices_Clone_api_Timer_api_Timer fun hw => ?_
  cases xs with
  | nil =>
    simp (disch := first | omega | (simp only [go_sem, push_cast, and_true] <;> omega) | fail) only [go_sem, c_slices_Clone_api_Timer_api_Timer]
    intro c
    cases c
    · simp (disch := first | omega | (simp only [go_sem, push_cast, and_true] <;> omega) | fail) only [go_sem]
      refine fin_all ?_
      simp (disch := first | omega | (simp only [go_sem, push_cast, and_true] <;> omega) | fail) only [go_sem]
      simpa using hK
    · simp (disch := first | omega | (simp only [go_sem, push_cast, and_true] <;> omega) | fail) only [go_sem]
      refine wk_adopt 2 73 2 (by simp (disch := first | omega | (simp only [go_sem, push_cast, and_true] <;> omega) | fail) only [go_sem]) (fin_all ?_)
      simp (disch := first | omega | (simp only [go_sem, push_cast, and_true] <;> omega) | fail) only [go_sem]
      simpa using hK
  | cons x xs =>
    simp only [List.length_cons] at hx
    simp (disch := first | omega | (simp only [go_sem, push_cast, and_true] <;> omega) | fail) only [go_sem, c_slices_Clone_api_Timer_api_Timer]
    refine fin_all ?_
    simp (disch := first | omega | (simp only [go_sem, push_cast, and_true] <;> omega) | fail) only [go_sem]
    simpa using hK
theorem s_PlaceT {X : List Tm} {f : FuncId} {a b : List V} {H : List Entry} {p : Tm → Bool} (hX : X.length ≤ 1000000) (hp : ∀ x ∈ X, Pure AP f (a ++ ([tmV x] ++ b)) H (.bool (p x))) (hi : idsLts H.length a = true) (hj : idsLts H.length b = true) :
    Pure AP n_list_Place_api_Timer [.sl 2 (X.map tmV), .fn f a b] H (.int .i64 (plc p X : Nat)) := by
  intro K hK
  refine a_list_Place_api_Timer fun hw => ?_
  simp (disch := first | omega | (simp only [go_sem, push_cast, and_true] <;> omega) | fail) only [go_sem, c_list_Place_api_Timer]
  refine s_IndexFT hX hp hi hj _ ?_
  have hb := idx_bounds p X
  by_cases h : 0 ≤ idx p X
  · simp (disch := first | omega | (simp only [go_sem, push_cast, and_true] <;> omega) | fail) only [go_sem]
    refine fin_tmp0 hw ?_ (fin_eq hK ?_)
    · simp (disch := first | omega | (simp only [go_sem, push_cast, and_true] <;> omega) | fail) only [go_sem]
    · simp (disch := first | omega | (simp only [go_sem, push_cast, and_true] <;> omega) | fail) only [go_sem, plc, h, if_true, Int.toNat_of_nonneg h]
  · simp (disch := first | omega | (simp only [go_sem, push_cast, and_true] <;> omega) | fail) only [go_sem]
    refine fin_tmp0 hw ?_ (fin_eq hK ?_)
    · simp (disch := first | omega | (simp only [go_sem, push_cast, and_true] <;> omega) | fail) only [go_sem]
    · simp (disch := first | omega | (simp only [go_sem, push_cast, and_true] <;> omega) | fail) only [go_sem, plc, h, if_false]
theorem s_Concat3T {A B : List Tm} {x : Tm} {H : List Entry} {K : KV} (hA : A.length ≤ 10000) (hB : B.length ≤ 10000) (hK : K (.own H.length (A.length + 1 + B.length)) (H ++ [.row 73 2 ((A ++ [x] ++ B).map tmV)])) :
    BCall AP n_slices_Concat_api_Timer_api_Timer [.slx 1 [.sl 2 (A.map tmV), .slx 2 [tmV x], .sl 2 (B.map tmV)]] H K := by
  refine a_slices_Concat_api_Timer_api_Timer fun hw => ?_
  simp (disch := first | omega | (simp only [go_sem, push_cast, and_true] <;> omega) | fail) only [go_sem, c_slices_Concat_api_Timer_api_Timer]
  have hx : V.agg [.int .i64 x.1, .int .u64 x.2] = tmV x := rfl
  rw [hx]
  refine loop_in (fun m e H' => ∃ i : Nat, m = 3 - i ∧ e = slots 0 36 [(0, .slx 1 [.sl 2 (A.map tmV), .slx 2 [tmV x], .sl 2 (B.map tmV)]), (2, .nilsl), (3, .int .i64 (c3i A.length B.length i)), (9, .slx 1 [.sl 2 (A.map tmV), .slx 2 [tmV x], .sl 2 (B.map tmV)]), (10, .int .i64 3), (11, .int .i64 (i : Int))] ∧ H = H' ∧ i ≤ 3) (n := 3) ⟨0, rfl, rfl, rfl, by omega⟩ (Nat.le_refl _) ?_ hw ?_
  · simp (disch := first | (simp only [go_sem, c3i, Int.cast_ofNat_Int] <;> omega) | fail) only [go_sem, x_eLeS, x_hLeS, Int.natCast_zero, Int.natCast_add, Int.natCast_one, c3i, Int.cast_ofNat_Int]
  · rintro J hJ m e _ ⟨i, rfl, rfl, rfl, hi⟩
    have hc : i = 0 ∨ i = 1 ∨ i = 2 ∨ i = 3 := by omega
    rcases hc with rfl | rfl | rfl | rfl
    · simp (disch := first | omega | (simp only [go_sem, push_cast, and_true] <;> omega) | fail) only [go_sem, c3i, Int.cast_ofNat_Int, Int.natCast_zero, Int.zero_add]
      refine round_end (hJ _ _ _ ⟨1, rfl, rfl, rfl, by omega⟩) (by omega) (Nat.le_refl _) ?_ hw
      simp (disch := first | (simp only [go_sem, c3i, Int.cast_ofNat_Int] <;> omega) | fail) only [go_sem, x_eLeS, x_hLeS, Int.natCast_zero, Int.natCast_add, Int.natCast_one, c3i, Int.cast_ofNat_Int]
    · simp (disch := first | omega | (simp only [go_sem, push_cast, and_true] <;> omega) | fail) only [go_sem, c3i, Int.cast_ofNat_Int]
      refine round_end (hJ _ _ _ ⟨2, rfl, rfl, rfl, by omega⟩) (by omega) (Nat.le_refl _) ?_ hw
      simp (disch := first | (simp only [go_sem, c3i, Int.cast_ofNat_Int] <;> omega) | fail) only [go_sem, x_eLeS, x_hLeS, Int.natCast_zero, Int.natCast_add, Int.natCast_one, c3i, Int.cast_ofNat_Int]
    · simp (disch := first | omega | (simp only [go_sem, push_cast, and_true] <;> omega) | fail) only [go_sem, c3i, Int.cast_ofNat_Int]
      refine round_end (hJ _ _ _ ⟨3, rfl, rfl, rfl, by omega⟩) (by omega) (Nat.le_refl _) ?_ hw
      simp (disch := first | (simp only [go_sem, c3i, Int.cast_ofNat_Int] <;> omega) | fail) only [go_sem, x_eLeS, x_hLeS, Int.natCast_zero, Int.natCast_add, Int.natCast_one, c3i, Int.cast_ofNat_Int]
    · simp (disch := first | omega | (simp only [go_sem, push_cast, and_true] <;> omega) | fail) only [go_sem, c3i, Int.cast_ofNat_Int]
      rw [show (A.length : Int) + 1 + B.length = ((A.length + 1 + B.length : Nat) : Int) by omega]
      refine s_grow (by kernel_rfl) growT (by omega) ?_
      simp (disch := first | omega | (simp only [go_sem, push_cast, and_true] <;> omega) | fail) only [go_sem]
      refine loop_in (fun m e H' => ∃ i : Nat, m = 3 - i ∧ e = slots 0 36 [(2, .nilsl), (6, .own H.length (c3n A.length B.length i)), (25, .slx 1 [.sl 2 (A.map tmV), .slx 2 [tmV x], .sl 2 (B.map tmV)]), (26, .int .i64 3), (27, .int .i64 (i : Int))] ∧ H' = H ++ [.row 73 2 ((c3l A x B i).map tmV)] ∧ i ≤ 3) (n := 3) ⟨0, rfl, rfl, rfl, by omega⟩ (by first | omega | (simp only [go_sem, push_cast] <;> omega)) ?_ ?_ ?_
      · simp (disch := first | (simp only [go_sem, c3n, Int.cast_ofNat_Int] <;> omega) | fail) only [go_sem, x_eLeS, x_hLeS, Int.natCast_zero, Int.natCast_add, Int.natCast_one, c3n, Int.cast_ofNat_Int]
      · simp only [c3l, List.map_nil]
        exact hLe_app hw (by first | omega | (simp only [go_sem, push_cast] <;> omega)) (by simp (disch := first | (simp only [go_sem] <;> omega) | fail) only [go_sem, x_eLeS, x_hLeS, Int.natCast_zero, Int.natCast_add, Int.natCast_one])
      · rintro J hJ m e H' ⟨i, rfl, rfl, rfl, hi⟩
        have hc : i = 0 ∨ i = 1 ∨ i = 2 ∨ i = 3 := by omega
        have e1 : ([] : List V) ++ A.map tmV = (c3l A x B 1).map tmV := rfl
        have e2 : A.map tmV ++ [V.agg [.int .i64 x.1, .int .u64 x.2]] = (c3l A x B 2).map tmV := by rw [c3l, List.map_append]; rfl
        have e3 : (c3l A x B 2).map tmV ++ B.map tmV = (c3l A x B 3).map tmV := by simp [c3l]
        rcases hc with rfl | rfl | rfl | rfl
        · simp (disch := first | omega | (simp only [go_sem, push_cast, and_true] <;> omega) | fail) only [go_sem, c3n, c3l, List.map_nil, Int.cast_ofNat_Int, Int.natCast_zero, Int.zero_add, Nat.zero_add, e1]
          refine round_end (hJ _ _ _ ⟨1, rfl, rfl, rfl, by omega⟩) (by omega) (by first | omega | (simp only [go_sem, push_cast] <;> omega)) ?_ ?_
          · simp (disch := first | (simp only [go_sem, c3n, Int.cast_ofNat_Int] <;> omega) | fail) only [go_sem, x_eLeS, x_hLeS, Int.natCast_zero, Int.natCast_add, Int.natCast_one, c3n, Int.cast_ofNat_Int]
          · simp only [c3l]
            exact hLe_app hw (by first | omega | (simp only [go_sem, push_cast] <;> omega)) (by simp (disch := first | (simp only [go_sem] <;> omega) | fail) only [go_sem, x_eLeS, x_hLeS, Int.natCast_zero, Int.natCast_add, Int.natCast_one])
        · simp only [c3l]
          simp (disch := first | omega | (simp only [go_sem, push_cast, and_true] <;> omega) | fail) only [go_sem, c3n, Int.cast_ofNat_Int, e2]
          refine round_end (hJ _ _ _ ⟨2, rfl, rfl, rfl, by omega⟩) (by omega) (by first | omega | (simp only [go_sem, push_cast] <;> omega)) ?_ ?_
          · simp (disch := first | (simp only [go_sem, c3n, Int.cast_ofNat_Int] <;> omega) | fail) only [go_sem, x_eLeS, x_hLeS, Int.natCast_zero, Int.natCast_add, Int.natCast_one, c3n, Int.cast_ofNat_Int]
          · exact hLe_app hw (by first | omega | (simp only [go_sem, push_cast] <;> omega)) (by simp (disch := first | (simp only [go_sem] <;> omega) | fail) only [go_sem, x_eLeS, x_hLeS, Int.natCast_zero, Int.natCast_add, Int.natCast_one])
        · have hl : ((c3l A x B 2).map tmV).length = A.length + 1 := by simp [c3l]
          have hl2 : (c3l A x B 2).length = A.length + 1 := by simp [c3l]
          simp (disch := first | omega | (simp only [go_sem, push_cast, and_true] <;> omega) | fail) only [go_sem, c3n, Int.cast_ofNat_Int, hl, e3]
          refine round_end (hJ _ _ _ ⟨3, rfl, rfl, rfl, by omega⟩) (by omega) (by first | omega | (simp only [go_sem, push_cast] <;> omega)) ?_ ?_
          · simp (disch := first | (simp only [go_sem, c3n, Int.cast_ofNat_Int] <;> omega) | fail) only [go_sem, x_eLeS, x_hLeS, Int.natCast_zero, Int.natCast_add, Int.natCast_one, c3n, Int.cast_ofNat_Int]
          · exact hLe_app hw (by first | omega | (simp only [go_sem, push_cast] <;> omega)) (by simp (disch := first | (simp only [go_sem] <;> omega) | fail) only [go_sem, x_eLeS, x_hLeS, Int.natCast_zero, Int.natCast_add, Int.natCast_one])
        · have hl : ((c3l A x B 3).map tmV).length = A.length + 1 + B.length := by simp [c3l]; omega
          simp (disch := first | omega | (simp only [go_sem, push_cast, and_true] <;> omega) | fail) only [go_sem, c3n, Int.cast_ofNat_Int, hl]
          refine fin_all ?_
          simp (disch := first | omega | (simp only [go_sem, push_cast, and_true] <;> omega) | fail) only [go_sem]
          rw [← Nat.add_assoc]
          exact hK
theorem s_Concat2T {A B : List Tm} {H : List Entry} {K : KV} (hA : A.length ≤ 10000) (hB : B.length ≤ 10000) (hK : K (.own H.length (A.length + B.length)) (H ++ [.row 73 2 ((A ++ B).map tmV)])) :
    BCall AP n_slices_Concat_api_Timer_api_Timer [.slx 1 [.sl 2 (A.map tmV), .sl 2 (B.map tmV)]] H K := by
  refine a_slices_Concat_api_Timer_api_Timer fun hw => ?_
  simp (disch := first | omega | (simp only [go_sem, push_cast, and_true] <;> omega) | fail) only [go_sem, c_slices_Concat_api_Timer_api_Timer]
  refine loop_in (fun m e H' => ∃ i : Nat, m = 2 - i ∧ e = slots 0 36 [(0, .slx 1 [.sl 2 (A.map tmV), .sl 2 (B.map tmV)]), (2, .nilsl), (3, .int .i64 (c2i A.length B.length i)), (9, .slx 1 [.sl 2 (A.map tmV), .sl 2 (B.map tmV)]), (10, .int .i64 2), (11, .int .i64 (i : Int))] ∧ H = H' ∧ i ≤ 2) (n := 2) ⟨0, rfl, rfl, rfl, by omega⟩ (Nat.le_refl _) ?_ hw ?_
  · simp (disch := first | (simp only [go_sem, c2i, Int.cast_ofNat_Int] <;> omega) | fail) only [go_sem, x_eLeS, x_hLeS, Int.natCast_zero, Int.natCast_add, Int.natCast_one, c2i, Int.cast_ofNat_Int]
  · rintro J hJ m e _ ⟨i, rfl, rfl, rfl, hi⟩
    have hc : i = 0 ∨ i = 1 ∨ i = 2 := by omega
    rcases hc with rfl | rfl | rfl
    · simp (disch := first | omega | (simp only [go_sem, push_cast, and_true] <;> omega) | fail) only [go_sem, c2i, Int.cast_ofNat_Int, Int.natCast_zero, Int.zero_add]
      refine round_end (hJ _ _ _ ⟨1, rfl, rfl, rfl, by omega⟩) (by omega) (Nat.le_refl _) ?_ hw
      simp (disch := first | (simp only [go_sem, c2i, Int.cast_ofNat_Int] <;> omega) | fail) only [go_sem, x_eLeS, x_hLeS, Int.natCast_zero, Int.natCast_add, Int.natCast_one, c2i, Int.cast_ofNat_Int]
    · simp (disch := first | omega | (simp only [go_sem, push_cast, and_true] <;> omega) | fail) only [go_sem, c2i, Int.cast_ofNat_Int]
      refine round_end (hJ _ _ _ ⟨2, rfl, rfl, rfl, by omega⟩) (by omega) (Nat.le_refl _) ?_ hw
      simp (disch := first | (simp only [go_sem, c2i, Int.cast_ofNat_Int] <;> omega) | fail) only [go_sem, x_eLeS, x_hLeS, Int.natCast_zero, Int.natCast_add, Int.natCast_one, c2i, Int.cast_ofNat_Int]
    · simp (disch := first | omega | (simp only [go_sem, push_cast, and_true] <;> omega) | fail) only [go_sem, c2i, Int.cast_ofNat_Int]
      rw [show (A.length : Int) + B.length = ((A.length + B.length : Nat) : Int) by omega]
      refine s_grow (by kernel_rfl) growT (by omega) ?_
      simp (disch := first | omega | (simp only [go_sem, push_cast, and_true] <;> omega) | fail) only [go_sem]
      refine loop_in (fun m e H' => ∃ i : Nat, m = 2 - i ∧ e = slots 0 36 [(2, .nilsl), (6, .own H.length (c2n A.length B.length i)), (25, .slx 1 [.sl 2 (A.map tmV), .sl 2 (B.map tmV)]), (26, .int .i64 2), (27, .int .i64 (i : Int))] ∧ H' = H ++ [.row 73 2 ((c2l A B i).map tmV)] ∧ i ≤ 2) (n := 2) ⟨0, rfl, rfl, rfl, by omega⟩ (by first | omega | (simp only [go_sem, push_cast] <;> omega)) ?_ ?_ ?_
      · simp (disch := first | (simp only [go_sem, c2n, Int.cast_ofNat_Int] <;> omega) | fail) only [go_sem, x_eLeS, x_hLeS, Int.natCast_zero, Int.natCast_add, Int.natCast_one, c2n, Int.cast_ofNat_Int]
      · simp only [c2l, List.map_nil]
        exact hLe_app hw (by first | omega | (simp only [go_sem, push_cast] <;> omega)) (by simp (disch := first | (simp only [go_sem] <;> omega) | fail) only [go_sem, x_eLeS, x_hLeS, Int.natCast_zero, Int.natCast_add, Int.natCast_one])
      · rintro J hJ m e H' ⟨i, rfl, rfl, rfl, hi⟩
        have hc : i = 0 ∨ i = 1 ∨ i = 2 := by omega
        have e1 : ([] : List V) ++ A.map tmV = (c2l A B 1).map tmV := rfl
        have e2 : A.map tmV ++ B.map tmV = (c2l A B 2).map tmV := by simp [c2l]
        rcases hc with rfl | rfl | rfl
        · simp (disch := first | omega | (simp only [go_sem, push_cast, and_true] <;> omega) | fail) only [go_sem, c2n, c2l, List.map_nil, Int.cast_ofNat_Int, Int.natCast_zero, Int.zero_add, Nat.zero_add, e1]
          refine round_end (hJ _ _ _ ⟨1, rfl, rfl, rfl, by omega⟩) (by omega) (by first | omega | (simp only [go_sem, push_cast] <;> omega)) ?_ ?_
          · simp (disch := first | (simp only [go_sem, c2n, Int.cast_ofNat_Int] <;> omega) | fail) only [go_sem, x_eLeS, x_hLeS, Int.natCast_zero, Int.natCast_add, Int.natCast_one, c2n, Int.cast_ofNat_Int]
          · simp only [c2l]
            exact hLe_app hw (by first | omega | (simp only [go_sem, push_cast] <;> omega)) (by simp (disch := first | (simp only [go_sem] <;> omega) | fail) only [go_sem, x_eLeS, x_hLeS, Int.natCast_zero, Int.natCast_add, Int.natCast_one])
        · simp only [c2l]
          simp (disch := first | omega | (simp only [go_sem, push_cast, and_true] <;> omega) | fail) only [go_sem, c2n, Int.cast_ofNat_Int, e2]
          refine round_end (hJ _ _ _ ⟨2, rfl, rfl, rfl, by omega⟩) (by omega) (by first | omega | (simp only [go_sem, push_cast] <;> omega)) ?_ ?_
          · simp (disch := first | (simp only [go_sem, c2n, Int.cast_ofNat_Int] <;> omega) | fail) only [go_sem, x_eLeS, x_hLeS, Int.natCast_zero, Int.natCast_add, Int.natCast_one, c2n, Int.cast_ofNat_Int]
          · exact hLe_app hw (by first | omega | (simp only [go_sem, push_cast] <;> omega)) (by simp (disch := first | (simp only [go_sem] <;> omega) | fail) only [go_sem, x_eLeS, x_hLeS, Int.natCast_zero, Int.natCast_add, Int.natCast_one])
        · have hl : ((c2l A B 2).map tmV).length = A.length + B.length := by simp [c2l]
          simp (disch := first | omega | (simp only [go_sem, push_cast, and_true] <;> omega) | fail) only [go_sem, c2n, Int.cast_ofNat_Int, hl]
          refine fin_all ?_
          simp (disch := first | omega | (simp only [go_sem, push_cast, and_true] <;> omega) | fail) only [go_sem]
          exact hK
theorem s_WithT {X : List Tm} {x : Tm} {p : Nat} {H : List Entry} (hX : X.length ≤ 10000) (hp : p ≤ X.length) : Pure AP n_list_With_api_Timer [.sl 2 (X.map tmV), .int .i64 (p : Int), tmV x] H (.sl 2 ((X.take p ++ [x] ++ X.drop p).map tmV)) := by
  intro K hK
  refine a_list_With_api_Timer fun hw => ?_
  simp (disch := first | omega | (simp only [go_sem, push_cast, and_true] <;> omega) | fail) only [go_sem, c_list_With_api_Timer, beq_self_eq_true]
  refine ⟨_, _, s_Concat3T (A := X.take p) (B := X.drop p) (x := x) (by simp; omega) (by simp; omega) ⟨rfl, rfl⟩, ?_⟩
  have hl : ((X.take p ++ [x] ++ X.drop p).map tmV).length = (X.take p).length + 1 + (X.drop p).length := by simp; omega
  simp (disch := first | omega | (simp only [go_sem, push_cast, and_true] <;> omega) | fail) only [go_sem]
  refine wk_own (H := H) 6 1 rfl rfl rfl (hl.trans (by omega)) ?_
  refine fin_tmp hw ?_ (fin_eq hK ?_)
  · simp (disch := first | omega | (simp only [go_sem, push_cast, and_true] <;> omega) | fail) only [go_sem]
  · simp (disch := first | omega | (simp only [go_sem, push_cast, and_true] <;> omega) | fail) only [go_sem]
theorem s_WithoutT {X : List Tm} {p : Nat} {H : List Entry} (hX : X.length ≤ 10000) (hp : p < X.length) : Pure AP n_list_Without_api_Timer [.sl 2 (X.map tmV), .int .i64 (p : Int)] H (.sl 2 ((X.take p ++ X.drop (p + 1)).map tmV)) := by
  intro K hK
  refine a_list_Without_api_Timer fun hw => ?_
  have e1 : ((p : Int) + 1).toNat = p + 1 := by omega
  simp (disch := first | omega | (simp only [go_sem, push_cast, and_true] <;> omega) | fail) only [go_sem, c_list_Without_api_Timer, beq_self_eq_true, e1]
  refine ⟨_, _, s_Concat2T (A := X.take p) (B := X.drop (p + 1)) (by simp; omega) (by simp; omega) ⟨rfl, rfl⟩, ?_⟩
  have hl : ((X.take p ++ X.drop (p + 1)).map tmV).length = (X.take p).length + (X.drop (p + 1)).length := by simp
  simp (disch := first | omega | (simp only [go_sem, push_cast, and_true] <;> omega) | fail) only [go_sem]
  refine wk_own (H := H) 4 0 rfl rfl rfl (hl.trans (by omega)) ?_
  refine fin_tmp hw ?_ (fin_eq hK ?_)
  · simp (disch := first | omega | (simp only [go_sem, push_cast, and_true] <;> omega) | fail) only [go_sem]
  · simp (disch := first | omega | (simp only [go_sem, push_cast, and_true] <;> omega) | fail) only [go_sem]
def RisT (o : Tm → Tm → Int) (X : List Tm) : Prop := ∀ i : Nat, i + 1 < X.length → o (X.getD i default) (X.getD (i + 1) default) < 0
noncomputable def risBT (o : Tm → Tm → Int) (X : List Tm) : Bool := @decide (RisT o X) (Classical.propDecidable _)
theorem risBT_true {o : Tm → Tm → Int} {X : List Tm} (h : RisT o X) : risBT o X = true := by simp [risBT, h]
theorem risBT_false {o : Tm → Tm → Int} {X : List Tm} (h : ¬ RisT o X) : risBT o X = false := by simp [risBT, h]
theorem risBT_of {o : Tm → Tm → Int} {X : List Tm} (h : risBT o X = true) : RisT o X := by
  by_cases hr : RisT o X
  · exact hr
  · rw [risBT_false hr] at h; cases h
theorem s_RisesT {X : List Tm} {f : FuncId} {a b : List V} {o : Tm → Tm → Int} {H : List Entry} (hX : X.length ≤ 1000000) (ho : ∀ x ∈ X, ∀ y ∈ X, Pure AP f (a ++ ([tmV x, tmV y] ++ b)) H (.int .i64 (o x y))) (hi : idsLts H.length a = true) (hj : idsLts H.length b = true) : Pure AP n_list_Rises_api_Timer [.sl 2 (X.map tmV), .fn f a b] H (.bool (risBT o X)) := by
  intro K hK
  refine a_list_Rises_api_Timer fun hw => ?_
  simp (disch := first | omega | (simp only [go_sem, push_cast, and_true] <;> omega) | fail) only [go_sem, c_list_Rises_api_Timer]
  refine loop_in (fun m e H' => ∃ i : Nat, m = X.length - i ∧ e = slots 0 24 [(0, .sl 2 (X.map tmV)), (1, .fn f a b), (5, .int .i64 ((i : Int) + 1))] ∧ H' = H ∧ i ≤ X.length ∧ ∀ j < i, j + 1 < X.length → o (X.getD j default) (X.getD (j + 1) default) < 0) (n := X.length) ⟨0, rfl, rfl, rfl, by omega, fun j hj => by omega⟩ (Nat.le_refl _) ?_ hw ?_
  · simp (disch := first | (simp only [go_sem, hi, hj] <;> omega) | fail) only [go_sem, x_eLeS, x_hLeS, Int.natCast_zero, Int.natCast_add, Int.natCast_one, hi, hj]
  · rintro J hJ m e H' ⟨i, rfl, rfl, rfl, hi1, hn⟩
    simp (disch := first | omega | (simp only [go_sem, push_cast, and_true] <;> omega) | fail) only [go_sem]
    by_cases h : (i : Int) + 1 < X.length
    · have e1 : ((i : Int) + 1).toNat = i + 1 := by omega
      have e2 : ((i : Int) + 1 - 1).toNat = i := by omega
      have hc : o (X.getD i default) (X.getD (i + 1) default) < 0 ∨ ¬ o (X.getD i default) (X.getD (i + 1) default) < 0 := by omega
      simp (disch := first | omega | (simp only [go_sem, push_cast, and_true] <;> omega) | fail) only [go_sem, e1, e2]
      refine (ho _ (getD_mem (X := X) (i := i) (by omega)) _ (getD_mem (X := X) (i := i + 1) (by omega))).dcall ?_
      rcases hc with hc | hc
      · simp (disch := first | omega | (simp only [go_sem, push_cast, and_true] <;> omega) | fail) only [go_sem]
        refine round_end (hJ _ _ _ ⟨i + 1, rfl, rfl, rfl, by omega, fun j hj => ?_⟩) (by omega) (Nat.le_refl _) ?_ hw
        · rcases Nat.lt_succ_iff_lt_or_eq.1 hj with k | rfl
          · exact hn j k
          · exact fun _ => hc
        · simp (disch := first | (simp only [go_sem, hi, hj] <;> omega) | fail) only [go_sem, x_eLeS, x_hLeS, Int.natCast_zero, Int.natCast_add, Int.natCast_one, hi, hj]
      · have hr : risBT o X = false := risBT_false fun hr => hc (hr i (by omega))
        simp (disch := first | omega | (simp only [go_sem, push_cast, and_true] <;> omega) | fail) only [go_sem]
        refine fin_tmp0 hw ?_ (fin_eq hK ?_)
        · simp (disch := first | omega | (simp only [go_sem, push_cast, and_true] <;> omega) | fail) only [go_sem]
        · simp (disch := first | omega | (simp only [go_sem, push_cast, and_true] <;> omega) | fail) only [go_sem, hr]
    · have hr : risBT o X = true := by
        exact risBT_true fun j hj => hn j (by omega) hj
      simp (disch := first | omega | (simp only [go_sem, push_cast, and_true] <;> omega) | fail) only [go_sem]
      refine fin_tmp0 hw ?_ (fin_eq hK ?_)
      · simp (disch := first | omega | (simp only [go_sem, push_cast, and_true] <;> omega) | fail) only [go_sem]
      · simp (disch := first | omega | (simp only [go_sem, push_cast, and_true] <;> omega) | fail) only [go_sem, hr]
end Go.Av
