/- A part of a way to reckon what a Go program does without its memory (O2). -/
import Derived.Test.YtoicgilcdlakkaaO1
import Derived.Test.YtoicgilcdlakkaaGrow
namespace Go.Av
open Go
set_option autoImplicit false
set_option linter.all false

theorem s_IndexFO {X : List Ot} {f : FuncId} {a b : List V} {H : List Entry} {p : Ot → Bool} (hX : X.length ≤ 1000000) (hp : ∀ x ∈ X, Pure AP f (a ++ ([otV x] ++ b)) H (.bool (p x))) (hi : idsLts H.length a = true) (hj : idsLts H.length b = true) :
    Pure AP n_slices_IndexFunc_api_Out_api_Out [.sl 5 (X.map otV), .fn f a b] H (.int .i64 (idx p X)) := by
  intro K hK
  refine a_slices_IndexFunc_api_Out_api_Out fun hw => ?_
  simp (disch := first | omega | (simp only [go_sem, push_cast, and_true] <;> omega) | fail) only [go_sem, c_slices_IndexFunc_api_Out_api_Out]
  refine loop_in (fun n e H' => ∃ i : Nat, n = X.length - i ∧ e = slots 0 19 [(0, .sl 5 (X.map otV)), (1, .fn f a b), (7, .int .i64 X.length), (8, .int .i64 i)] ∧ H' = H ∧ i ≤ X.length ∧ ∀ j < i, p (X.getD j default) = false) (n := X.length) ⟨0, by omega, rfl, rfl, by omega, fun j hj => by omega⟩ (Nat.le_refl _) ?_ hw ?_
  · simp (disch := first | (simp only [go_sem, hi, hj] <;> omega) | fail) only [go_sem, x_eLeS, x_hLeS, Int.natCast_zero, Int.natCast_add, Int.natCast_one, hi, hj]
  · rintro J hJ n e H' ⟨i, rfl, rfl, rfl, hi1, hn⟩
    simp (disch := first | omega | (simp only [go_sem, push_cast, and_true] <;> omega) | fail) only [go_sem]
    by_cases h : (i : Int) < X.length
    · simp (disch := first | omega | (simp only [go_sem, push_cast, and_true] <;> omega) | fail) only [go_sem]
      refine hp _ (getD_mem (by omega)) _ ?_
      simp (disch := first | omega | (simp only [go_sem, push_cast, and_true] <;> omega) | fail) only [go_sem]
      cases hpx : p (X.getD i default)
      · simp (disch := first | omega | (simp only [go_sem, push_cast, and_true] <;> omega) | fail) only [go_sem]
        refine round_end (hJ _ _ _ ⟨i + 1, rfl, rfl, rfl, by omega, fun j hj => ?_⟩) (by omega) (Nat.le_refl _) ?_ hw
        · rcases Nat.lt_succ_iff_lt_or_eq.1 hj with k | rfl
          · exact hn j k
          · exact hpx
        · simp (disch := first | (simp only [go_sem, hi, hj] <;> omega) | fail) only [go_sem, x_eLeS, x_hLeS, Int.natCast_zero, Int.natCast_add, Int.natCast_one, hi, hj]
      · simp (disch := first | omega | (simp only [go_sem, push_cast, and_true] <;> omega) | fail) only [go_sem]
        refine fin_tmp0 hw ?_ (fin_eq hK ?_)
        · simp (disch := first | omega | (simp only [go_sem, push_cast, and_true] <;> omega) | fail) only [go_sem]
        · simp (disch := first | omega | (simp only [go_sem, push_cast, and_true] <;> omega) | fail) only [go_sem]
          rw [← idx_some (by omega) hpx hn]
    · simp (disch := first | omega | (simp only [go_sem, push_cast, and_true] <;> omega) | fail) only [go_sem]
      refine fin_tmp0 hw ?_ (fin_eq hK ?_)
      · simp (disch := first | omega | (simp only [go_sem, push_cast, and_true] <;> omega) | fail) only [go_sem]
      · simp (disch := first | omega | (simp only [go_sem, push_cast, and_true] <;> omega) | fail) only [go_sem]
        rw [← idx_none (p := p) (fun j hj => hn j (by omega))]
theorem s_ContainsFO {X : List Ot} {f : FuncId} {a b : List V} {H : List Entry} {p : Ot → Bool} (hX : X.length ≤ 1000000) (hp : ∀ x ∈ X, Pure AP f (a ++ ([otV x] ++ b)) H (.bool (p x))) (hi : idsLts H.length a = true) (hj : idsLts H.length b = true) :
    Pure AP n_slices_ContainsFunc_api_Out_api_Out [.sl 5 (X.map otV), .fn f a b] H (.bool (X.any p)) := by
  intro K hK
  refine a_slices_ContainsFunc_api_Out_api_Out fun hw => ?_
  simp (disch := first | omega | (simp only [go_sem, push_cast, and_true] <;> omega) | fail) only [go_sem, c_slices_ContainsFunc_api_Out_api_Out]
  refine s_IndexFO hX hp hi hj _ ?_
  simp (disch := first | omega | (simp only [go_sem, push_cast, and_true] <;> omega) | fail) only [go_sem]
  refine fin_tmp0 hw ?_ (fin_eq hK ?_)
  · simp (disch := first | omega | (simp only [go_sem, push_cast, and_true] <;> omega) | fail) only [go_sem]
  · simp (disch := first | omega | (simp only [go_sem, push_cast, and_true] <;> omega) | fail) only [go_sem]
    rw [idx_any]
theorem growO : GrowSays AP n_slices_Grow_api_Out_api_Out 26 5 100000 := growSays_of Go.Proofs.Try.grow61 rfl (by kernel_rfl)
theorem s_CloneFO {xs : List V} {H : List Entry} {K : KV} (hx : xs.length ≤ 1000000) (hK : K (.own H.length xs.length) (H ++ [.row 26 5 xs])) : BCall AP n_slices_Clone_api_Out_api_Out [.sl 5 xs] H K := by
  refine a_slices_Clone_api_Out_api_Out fun hw => ?_
  cases xs with
  | nil =>
    simp (disch := first | omega | (simp only [go_sem, push_cast, and_true] <;> omega) | fail) only [go_sem, c_slices_Clone_api_Out_api_Out]
    intro c
    cases c
    · simp (disch := first | omega | (simp only [go_sem, push_cast, and_true] <;> omega) | fail) only [go_sem]
      refine fin_all ?_
      simp (disch := first | omega | (simp only [go_sem, push_cast, and_true] <;> omega) | fail) only [go_sem]
      simpa using hK
    · simp (disch := first | omega | (simp only [go_sem, push_cast, and_true] <;> omega) | fail) only [go_sem]
      refine wk_adopt 2 26 5 (by simp (disch := first | omega | (simp only [go_sem, push_cast, and_true] <;> omega) | fail) only [go_sem]) (fin_all ?_)
      simp (disch := first | omega | (simp only [go_sem, push_cast, and_true] <;> omega) | fail) only [go_sem]
      simpa using hK
  | cons x xs =>
    simp only [List.length_cons] at hx
    simp (disch := first | omega | (simp only [go_sem, push_cast, and_true] <;> omega) | fail) only [go_sem, c_slices_Clone_api_Out_api_Out]
    refine fin_all ?_
    simp (disch := first | omega | (simp only [go_sem, push_cast, and_true] <;> omega) | fail) only [go_sem]
    simpa using hK
theorem s_SetO {X : List Ot} {x : Ot} {i : Nat} {H : List Entry} (hX : X.length ≤ 1000000) (hi : i < X.length) : Pure AP n_list_Set_api_Out [.sl 5 (X.map otV), .int .i64 (i : Int), otV x] H (.sl 5 ((X.set i x).map otV)) := by
  intro K hK
  refine a_list_Set_api_Out fun hw => ?_
  simp (disch := first | omega | (simp only [go_sem, push_cast, and_true] <;> omega) | fail) only [go_sem, c_list_Set_api_Out]
  refine s_CloneFO (by simpa using hX) ?_
  have hm : ((X.map otV).set i (V.agg [.int .u64 x.1, .str x.2.1, .sl 1 (x.2.2.1.map u64V), .int .i64 x.2.2.2.1, .int .i64 x.2.2.2.2])) = (X.set i x).map otV := by rw [List.map_set]; rfl
  simp (disch := first | omega | (simp only [go_sem, push_cast, and_true] <;> omega) | fail) only [go_sem, hm]
  refine wk_own (H := H) 6 1 rfl rfl rfl (by first | omega | (simp only [go_sem, push_cast] <;> omega)) ?_
  refine fin_tmp hw ?_ (fin_eq hK ?_)
  · simp (disch := first | omega | (simp only [go_sem, push_cast, and_true] <;> omega) | fail) only [go_sem]
  · simp (disch := first | omega | (simp only [go_sem, push_cast, and_true] <;> omega) | fail) only [go_sem]
theorem s_PlaceO {X : List Ot} {f : FuncId} {a b : List V} {H : List Entry} {p : Ot → Bool} (hX : X.length ≤ 1000000) (hp : ∀ x ∈ X, Pure AP f (a ++ ([otV x] ++ b)) H (.bool (p x))) (hi : idsLts H.length a = true) (hj : idsLts H.length b = true) :
    Pure AP n_list_Place_api_Out [.sl 5 (X.map otV), .fn f a b] H (.int .i64 (plc p X : Nat)) := by
  intro K hK
  refine a_list_Place_api_Out fun hw => ?_
  simp (disch := first | omega | (simp only [go_sem, push_cast, and_true] <;> omega) | fail) only [go_sem, c_list_Place_api_Out]
  refine s_IndexFO hX hp hi hj _ ?_
  have hb := idx_bounds p X
  by_cases h : 0 ≤ idx p X
  · simp (disch := first | omega | (simp only [go_sem, push_cast, and_true] <;> omega) | fail) only [go_sem]
    refine fin_tmp0 hw ?_ (fin_eq hK ?_)
    · simp (disch := first | omega | (simp only [go_sem, push_cast, and_true] <;> omega) | fail) only [go_sem]
    · simp (disch := first | omega | (simp only [go_sem, push_cast, and_true] <;> omega) | fail) only [go_sem, plc, h, if_true, Int.toNat_of_nonneg h]
  · simp (disch := first | omega | (simp only [go_sem, push_cast, and_true] <;> omega) | fail) only [go_sem]
    refine fin_tmp0 hw ?_ (fin_eq hK ?_)
    · simp (disch := first | omega | (simp only [go_sem, push_cast, and_true] <;> omega) | fail) only [go_sem]
    · simp (disch := first | omega | (simp only [go_sem, push_cast, and_true] <;> omega) | fail) only [go_sem, plc, h, if_false]
theorem s_Concat3O {A B : List Ot} {x : Ot} {H : List Entry} {K : KV} (hA : A.length ≤ 10000) (hB : B.length ≤ 10000) (hK : K (.own H.length (A.length + 1 + B.length)) (H ++ [.row 26 5 ((A ++ [x] ++ B).map otV)])) :
    BCall AP n_slices_Concat_api_Out_api_Out [.slx 1 [.sl 5 (A.map otV), .slx 5 [otV x], .sl 5 (B.map otV)]] H K := by
  refine a_slices_Concat_api_Out_api_Out fun hw => ?_
  simp (disch := first | omega | (simp only [go_sem, push_cast, and_true] <;> omega) | fail) only [go_sem, c_slices_Concat_api_Out_api_Out]
  have hx : V.agg [.int .u64 x.1, .str x.2.1, .sl 1 (x.2.2.1.map u64V), .int .i64 x.2.2.2.1, .int .i64 x.2.2.2.2] = otV x := rfl
  rw [hx]
  refine loop_in (fun m e H' => ∃ i : Nat, m = 3 - i ∧ e = slots 0 36 [(0, .slx 1 [.sl 5 (A.map otV), .slx 5 [otV x], .sl 5 (B.map otV)]), (2, .nilsl), (3, .int .i64 (c3i A.length B.length i)), (9, .slx 1 [.sl 5 (A.map otV), .slx 5 [otV x], .sl 5 (B.map otV)]), (10, .int .i64 3), (11, .int .i64 (i : Int))] ∧ H = H' ∧ i ≤ 3) (n := 3) ⟨0, rfl, rfl, rfl, by omega⟩ (Nat.le_refl _) ?_ hw ?_
  · simp (disch := first | (simp only [go_sem, c3i, Int.cast_ofNat_Int] <;> omega) | fail) only [go_sem, x_eLeS, x_hLeS, Int.natCast_zero, Int.natCast_add, Int.natCast_one, c3i, Int.cast_ofNat_Int]
  · rintro J hJ m e _ ⟨i, rfl, rfl, rfl, hi⟩
    have hc : i = 0 ∨ i = 1 ∨ i = 2 ∨ i = 3 := by omega
    rcases hc with rfl | rfl | rfl | rfl
    · simp (disch := first | omega | (simp only [go_sem, push_cast, and_true] <;> omega) | fail) only [go_sem, c3i, Int.cast_ofNat_Int, Int.natCast_zero, Int.zero_add]
      refine round_end (hJ _ _ _ ⟨1, rfl, rfl, rfl, by omega⟩) (by omega) (Nat.le_refl _) ?_ hw
      simp (disch := first | (simp only [go_sem, c3i, Int.cast_ofNat_Int] <;> omega) | fail) only [go_sem, x_eLeS, x_hLeS, Int.natCast_zero, Int.natCast_add, Int.natCast_one, c3i, Int.cast_ofNat_Int]
    · simp (disch := first | omega | (simp only [go_sem, push_cast, and_true] <;> omega) | fail) only [go_sem, c3i, Int.cast_ofNat_Int]
      refine round_end (hJ _ _ _ ⟨2, rfl, rfl, rfl, by omega⟩) (by omega) (Nat.le_refl _) ?_ hw
      simp (disch := first | (simp only [go_sem, c3i, Int.cast_ofNat_Int] <;> omega) | fail) only [go_sem, x_eLeS, x_hLeS, Int.natCast_zero, Int.natCast_add, Int.natCast_one, c3i, Int.cast_ofNat_Int]
    · simp (disch := first | omega | (simp only [go_sem, push_cast, and_true] <;> omega) | fail) only [go_sem, c3i, Int.cast_ofNat_Int]
      refine round_end (hJ _ _ _ ⟨3, rfl, rfl, rfl, by omega⟩) (by omega) (Nat.le_refl _) ?_ hw
      simp (disch := first | (simp only [go_sem, c3i, Int.cast_ofNat_Int] <;> omega) | fail) only [go_sem, x_eLeS, x_hLeS, Int.natCast_zero, Int.natCast_add, Int.natCast_one, c3i, Int.cast_ofNat_Int]
    · simp (disch := first | omega | (simp only [go_sem, push_cast, and_true] <;> omega) | fail) only [go_sem, c3i, Int.cast_ofNat_Int]
      rw [show (A.length : Int) + 1 + B.length = ((A.length + 1 + B.length : Nat) : Int) by omega]
      refine s_grow (by kernel_rfl) growO (by omega) ?_
      simp (disch := first | omega | (simp only [go_sem, push_cast, and_true] <;> omega) | fail) only [go_sem]
      refine loop_in (fun m e H' => ∃ i : Nat, m = 3 - i ∧ e = slots 0 36 [(2, .nilsl), (6, .own H.length (c3n A.length B.length i)), (25, .slx 1 [.sl 5 (A.map otV), .slx 5 [otV x], .sl 5 (B.map otV)]), (26, .int .i64 3), (27, .int .i64 (i : Int))] ∧ H' = H ++ [.row 26 5 ((c3l A x B i).map otV)] ∧ i ≤ 3) (n := 3) ⟨0, rfl, rfl, rfl, by omega⟩ (by first | omega | (simp only [go_sem, push_cast] <;> omega)) ?_ ?_ ?_
      · simp (disch := first | (simp only [go_sem, c3n, Int.cast_ofNat_Int] <;> omega) | fail) only [go_sem, x_eLeS, x_hLeS, Int.natCast_zero, Int.natCast_add, Int.natCast_one, c3n, Int.cast_ofNat_Int]
      · simp only [c3l, List.map_nil]
        exact hLe_app hw (by first | omega | (simp only [go_sem, push_cast] <;> omega)) (by simp (disch := first | (simp only [go_sem] <;> omega) | fail) only [go_sem, x_eLeS, x_hLeS, Int.natCast_zero, Int.natCast_add, Int.natCast_one])
      · rintro J hJ m e H' ⟨i, rfl, rfl, rfl, hi⟩
        have hc : i = 0 ∨ i = 1 ∨ i = 2 ∨ i = 3 := by omega
        have e1 : ([] : List V) ++ A.map otV = (c3l A x B 1).map otV := rfl
        have e2 : A.map otV ++ [V.agg [.int .u64 x.1, .str x.2.1, .sl 1 (x.2.2.1.map u64V), .int .i64 x.2.2.2.1, .int .i64 x.2.2.2.2]] = (c3l A x B 2).map otV := by rw [c3l, List.map_append]; rfl
        have e3 : (c3l A x B 2).map otV ++ B.map otV = (c3l A x B 3).map otV := by simp [c3l]
        rcases hc with rfl | rfl | rfl | rfl
        · simp (disch := first | omega | (simp only [go_sem, push_cast, and_true] <;> omega) | fail) only [go_sem, c3n, c3l, List.map_nil, Int.cast_ofNat_Int, Int.natCast_zero, Int.zero_add, Nat.zero_add, e1]
          refine round_end (hJ _ _ _ ⟨1, rfl, rfl, rfl, by omega⟩) (by omega) (by first | omega | (simp only [go_sem, push_cast] <;> omega)) ?_ ?_
          · simp (disch := first | (simp only [go_sem, c3n, Int.cast_ofNat_Int] <;> omega) | fail) only [go_sem, x_eLeS, x_hLeS, Int.natCast_zero, Int.natCast_add, Int.natCast_one, c3n, Int.cast_ofNat_Int]
          · simp only [c3l]
            exact hLe_app hw (by first | omega | (simp only [go_sem, push_cast] <;> omega)) (by simp (disch := first | (simp only [go_sem] <;> omega) | fail) only [go_sem, x_eLeS, x_hLeS, Int.natCast_zero, Int.natCast_add, Int.natCast_one])
        · simp only [c3l]
          simp (disch := first | omega | (simp only [go_sem, push_cast, and_true] <;> omega) | fail) only [go_sem, c3n, Int.cast_ofNat_Int, e2]
          refine round_end (hJ _ _ _ ⟨2, rfl, rfl, rfl, by omega⟩) (by omega) (by first | omega | (simp only [go_sem, push_cast] <;> omega)) ?_ ?_
          · simp (disch := first | (simp only [go_sem, c3n, Int.cast_ofNat_Int] <;> omega) | fail) only [go_sem, x_eLeS, x_hLeS, Int.natCast_zero, Int.natCast_add, Int.natCast_one, c3n, Int.cast_ofNat_Int]
          · exact hLe_app hw (by first | omega | (simp only [go_sem, push_cast] <;> omega)) (by simp (disch := first | (simp only [go_sem] <;> omega) | fail) only [go_sem, x_eLeS, x_hLeS, Int.natCast_zero, Int.natCast_add, Int.natCast_one])
        · have hl : ((c3l A x B 2).map otV).length = A.length + 1 := by simp [c3l]
          have hl2 : (c3l A x B 2).length = A.length + 1 := by simp [c3l]
          simp (disch := first | omega | (simp only [go_sem, push_cast, and_true] <;> omega) | fail) only [go_sem, c3n, Int.cast_ofNat_Int, hl, e3]
          refine round_end (hJ _ _ _ ⟨3, rfl, rfl, rfl, by omega⟩) (by omega) (by first | omega | (simp only [go_sem, push_cast] <;> omega)) ?_ ?_
          · simp (disch := first | (simp only [go_sem, c3n, Int.cast_ofNat_Int] <;> omega) | fail) only [go_sem, x_eLeS, x_hLeS, Int.natCast_zero, Int.natCast_add, Int.natCast_one, c3n, Int.cast_ofNat_Int]
          · exact hLe_app hw (by first | omega | (simp only [go_sem, push_cast] <;> omega)) (by simp (disch := first | (simp only [go_sem] <;> omega) | fail) only [go_sem, x_eLeS, x_hLeS, Int.natCast_zero, Int.natCast_add, Int.natCast_one])
        · have hl : ((c3l A x B 3).map otV).length = A.length + 1 + B.length := by simp [c3l]; omega
          simp (disch := first | omega | (simp only [go_sem, push_cast, and_true] <;> omega) | fail) only [go_sem, c3n, Int.cast_ofNat_Int, hl]
          refine fin_all ?_
          simp (disch := first | omega | (simp only [go_sem, push_cast, and_true] <;> omega) | fail) only [go_sem]
          rw [← Nat.add_assoc]
          exact hK
theorem s_Concat2O {A B : List Ot} {H : List Entry} {K : KV} (hA : A.length ≤ 10000) (hB : B.length ≤ 10000) (hK : K (.own H.length (A.length + B.length)) (H ++ [.row 26 5 ((A ++ B).map otV)])) :
    BCall AP n_slices_Concat_api_Out_api_Out [.slx 1 [.sl 5 (A.map otV), .sl 5 (B.map otV)]] H K := by
  refine a_slices_Concat_api_Out_api_Out fun hw => ?_
  simp (disch := first | omega | (simp only [go_sem, push_cast, and_true] <;> omega) | fail) only [go_sem, c_slices_Concat_api_Out_api_Out]
  refine loop_in (fun m e H' => ∃ i : Nat, m = 2 - i ∧ e = slots 0 36 [(0, .slx 1 [.sl 5 (A.map otV), .sl 5 (B.map otV)]), (2, .nilsl), (3, .int .i64 (c2i A.length B.length i)), (9, .slx 1 [.sl 5 (A.map otV), .sl 5 (B.map otV)]), (10, .int .i64 2), (11, .int .i64 (i : Int))] ∧ H = H' ∧ i ≤ 2) (n := 2) ⟨0, rfl, rfl, rfl, by omega⟩ (Nat.le_refl _) ?_ hw ?_
  · simp (disch := first | (simp only [go_sem, c2i, Int.cast_ofNat_Int] <;> omega) | fail) only [go_sem, x_eLeS, x_hLeS, Int.natCast_zero, Int.natCast_add, Int.natCast_one, c2i, Int.cast_ofNat_Int]
  · rintro J hJ m e _ ⟨i, rfl, rfl, rfl, hi⟩
    have hc : i = 0 ∨ i = 1 ∨ i = 2 := by omega
    rcases hc with rfl | rfl | rfl
    · simp (disch := first | omega | (simp only [go_sem, push_cast, and_true] <;> omega) | fail) only [go_sem, c2i, Int.cast_ofNat_Int, Int.natCast_zero, Int.zero_add]
      refine round_end (hJ _ _ _ ⟨1, rfl, rfl, rfl, by omega⟩) (by omega) (Nat.le_refl _) ?_ hw
      simp (disch := first | (simp only [go_sem, c2i, Int.cast_ofNat_Int] <;> omega) | fail) only [go_sem, x_eLeS, x_hLeS, Int.natCast_zero, Int.natCast_add, Int.natCast_one, c2i, Int.cast_ofNat_Int]
    · simp (disch := first | omega | (simp only [go_sem, push_cast, and_true] <;> omega) | fail) only [go_sem, c2i, Int.cast_ofNat_Int]
      refine round_end (hJ _ _ _ ⟨2, rfl, rfl, rfl, by omega⟩) (by omega) (Nat.le_refl _) ?_ hw
      simp (disch := first | (simp only [go_sem, c2i, Int.cast_ofNat_Int] <;> omega) | fail) only [go_sem, x_eLeS, x_hLeS, Int.natCast_zero, Int.natCast_add, Int.natCast_one, c2i, Int.cast_ofNat_Int]
    · simp (disch := first | omega | (simp only [go_sem, push_cast, and_true] <;> omega) | fail) only [go_sem, c2i, Int.cast_ofNat_Int]
      rw [show (A.length : Int) + B.length = ((A.length + B.length : Nat) : Int) by omega]
      refine s_grow (by kernel_rfl) growO (by omega) ?_
      simp (disch := first | omega | (simp only [go_sem, push_cast, and_true] <;> omega) | fail) only [go_sem]
      refine loop_in (fun m e H' => ∃ i : Nat, m = 2 - i ∧ e = slots 0 36 [(2, .nilsl), (6, .own H.length (c2n A.length B.length i)), (25, .slx 1 [.sl 5 (A.map otV), .sl 5 (B.map otV)]), (26, .int .i64 2), (27, .int .i64 (i : Int))] ∧ H' = H ++ [.row 26 5 ((c2l A B i).map otV)] ∧ i ≤ 2) (n := 2) ⟨0, rfl, rfl, rfl, by omega⟩ (by first | omega | (simp only [go_sem, push_cast] <;> omega)) ?_ ?_ ?_
      · simp (disch := first | (simp only [go_sem, c2n, Int.cast_ofNat_Int] <;> omega) | fail) only [go_sem, x_eLeS, x_hLeS, Int.natCast_zero, Int.natCast_add, Int.natCast_one, c2n, Int.cast_ofNat_Int]
      · simp only [c2l, List.map_nil]
        exact hLe_app hw (by first | omega | (simp only [go_sem, push_cast] <;> omega)) (by simp (disch := first | (simp only [go_sem] <;> omega) | fail) only [go_sem, x_eLeS, x_hLeS, Int.natCast_zero, Int.natCast_add, Int.natCast_one])
      · rintro J hJ m e H' ⟨i, rfl, rfl, rfl, hi⟩
        have hc : i = 0 ∨ i = 1 ∨ i = 2 := by omega
        have e1 : ([] : List V) ++ A.map otV = (c2l A B 1).map otV := rfl
        have e2 : A.map otV ++ B.map otV = (c2l A B 2).map otV := by simp [c2l]
        rcases hc with rfl | rfl | rfl
        · simp (disch := first | omega | (simp only [go_sem, push_cast, and_true] <;> omega) | fail) only [go_sem, c2n, c2l, List.map_nil, Int.cast_ofNat_Int, Int.natCast_zero, Int.zero_add, Nat.zero_add, e1]
          refine round_end (hJ _ _ _ ⟨1, rfl, rfl, rfl, by omega⟩) (by omega) (by first | omega | (simp only [go_sem, push_cast] <;> omega)) ?_ ?_
          · simp (disch := first | (simp only [go_sem, c2n, Int.cast_ofNat_Int] <;> omega) | fail) only [go_sem, x_eLeS, x_hLeS, Int.natCast_zero, Int.natCast_add, Int.natCast_one, c2n, Int.cast_ofNat_Int]
          · simp only [c2l]
            exact hLe_app hw (by first | omega | (simp only [go_sem, push_cast] <;> omega)) (by simp (disch := first | (simp only [go_sem] <;> omega) | fail) only [go_sem, x_eLeS, x_hLeS, Int.natCast_zero, Int.natCast_add, Int.natCast_one])
        · simp only [c2l]
          simp (disch := first | omega | (simp only [go_sem, push_cast, and_true] <;> omega) | fail) only [go_sem, c2n, Int.cast_ofNat_Int, e2]
          refine round_end (hJ _ _ _ ⟨2, rfl, rfl, rfl, by omega⟩) (by omega) (by first | omega | (simp only [go_sem, push_cast] <;> omega)) ?_ ?_
          · simp (disch := first | (simp only [go_sem, c2n, Int.cast_ofNat_Int] <;> omega) | fail) only [go_sem, x_eLeS, x_hLeS, Int.natCast_zero, Int.natCast_add, Int.natCast_one, c2n, Int.cast_ofNat_Int]
          · exact hLe_app hw (by first | omega | (simp only [go_sem, push_cast] <;> omega)) (by simp (disch := first | (simp only [go_sem] <;> omega) | fail) only [go_sem, x_eLeS, x_hLeS, Int.natCast_zero, Int.natCast_add, Int.natCast_one])
        · have hl : ((c2l A B 2).map otV).length = A.length + B.length := by simp [c2l]
          simp (disch := first | omega | (simp only [go_sem, push_cast, and_true] <;> omega) | fail) only [go_sem, c2n, Int.cast_ofNat_Int, hl]
          refine fin_all ?_
          simp (disch := first | omega | (simp only [go_sem, push_cast, and_true] <;> omega) | fail) only [go_sem]
          exact hK
theorem s_WithO {X : List Ot} {x : Ot} {p : Nat} {H : List Entry} (hX : X.length ≤ 10000) (hp : p ≤ X.length) : Pure AP n_list_With_api_Out [.sl 5 (X.map otV), .int .i64 (p : Int), otV x] H (.sl 5 ((X.take p ++ [x] ++ X.drop p).map otV)) := by
  intro K hK
  refine a_list_With_api_Out fun hw => ?_
  simp (disch := first | omega | (simp only [go_sem, push_cast, and_true] <;> omega) | fail) only [go_sem, c_list_With_api_Out, beq_self_eq_true]
  refine ⟨_, _, s_Concat3O (A := X.take p) (B := X.drop p) (x := x) (by simp; omega) (by simp; omega) ⟨rfl, rfl⟩, ?_⟩
  have hl : ((X.take p ++ [x] ++ X.drop p).map otV).length = (X.take p).length + 1 + (X.drop p).length := by simp; omega
  simp (disch := first | omega | (simp only [go_sem, push_cast, and_true] <;> omega) | fail) only [go_sem]
  refine wk_own (H := H) 6 1 rfl rfl rfl (hl.trans (by omega)) ?_
  refine fin_tmp hw ?_ (fin_eq hK ?_)
  · simp (disch := first | omega | (simp only [go_sem, push_cast, and_true] <;> omega) | fail) only [go_sem]
  · simp (disch := first | omega | (simp only [go_sem, push_cast, and_true] <;> omega) | fail) only [go_sem]
theorem s_WithoutO {X : List Ot} {p : Nat} {H : List Entry} (hX : X.length ≤ 10000) (hp : p < X.length) : Pure AP n_list_Without_api_Out [.sl 5 (X.map otV), .int .i64 (p : Int)] H (.sl 5 ((X.take p ++ X.drop (p + 1)).map otV)) := by
  intro K hK
  refine a_list_Without_api_Out fun hw => ?_
  have e1 : ((p : Int) + 1).toNat = p + 1 := by omega
  simp (disch := first | omega | (simp only [go_sem, push_cast, and_true] <;> omega) | fail) only [go_sem, c_list_Without_api_Out, beq_self_eq_true, e1]
  refine ⟨_, _, s_Concat2O (A := X.take p) (B := X.drop (p + 1)) (by simp; omega) (by simp; omega) ⟨rfl, rfl⟩, ?_⟩
  have hl : ((X.take p ++ X.drop (p + 1)).map otV).length = (X.take p).length + (X.drop (p + 1)).length := by simp
  simp (disch := first | omega | (simp only [go_sem, push_cast, and_true] <;> omega) | fail) only [go_sem]
  refine wk_own (H := H) 4 0 rfl rfl rfl (hl.trans (by omega)) ?_
  refine fin_tmp hw ?_ (fin_eq hK ?_)
  · simp (disch := first | omega | (simp only [go_sem, push_cast, and_true] <;> omega) | fail) only [go_sem]
  · simp (disch := first | omega | (simp only [go_sem, push_cast, and_true] <;> omega) | fail) only [go_sem]
def RisO (o : Ot → Ot → Int) (X : List Ot) : Prop := ∀ i : Nat, i + 1 < X.length → o (X.getD i default) (X.getD (i + 1) default) < 0
noncomputable def risBO (o : Ot → Ot → Int) (X : List Ot) : Bool := @decide (RisO o X) (Classical.propDecidable _)
theorem risBO_true {o : Ot → Ot → Int} {X : List Ot} (h : RisO o X) : risBO o X = true := by simp [risBO, h]
theorem risBO_false {o : Ot → Ot → Int} {X : List Ot} (h : ¬ RisO o X) : risBO o X = false := by simp [risBO, h]
theorem risBO_of {o : Ot → Ot → Int} {X : List Ot} (h : risBO o X = true) : RisO o X := by
  by_cases hr : RisO o X
  · exact hr
  · rw [risBO_false hr] at h; cases h
theorem s_RisesO {X : List Ot} {f : FuncId} {a b : List V} {o : Ot → Ot → Int} {H : List Entry} (hX : X.length ≤ 1000000) (ho : ∀ x ∈ X, ∀ y ∈ X, Pure AP f (a ++ ([otV x, otV y] ++ b)) H (.int .i64 (o x y))) (hi : idsLts H.length a = true) (hj : idsLts H.length b = true) : Pure AP n_list_Rises_api_Out [.sl 5 (X.map otV), .fn f a b] H (.bool (risBO o X)) := by
  intro K hK
  refine a_list_Rises_api_Out fun hw => ?_
  simp (disch := first | omega | (simp only [go_sem, push_cast, and_true] <;> omega) | fail) only [go_sem, c_list_Rises_api_Out]
  refine loop_in (fun m e H' => ∃ i : Nat, m = X.length - i ∧ e = slots 0 24 [(0, .sl 5 (X.map otV)), (1, .fn f a b), (5, .int .i64 ((i : Int) + 1))] ∧ H' = H ∧ i ≤ X.length ∧ ∀ j < i, j + 1 < X.length → o (X.getD j default) (X.getD (j + 1) default) < 0) (n := X.length) ⟨0, rfl, rfl, rfl, by omega, fun j hj => by omega⟩ (Nat.le_refl _) ?_ hw ?_
  · simp (disch := first | (simp only [go_sem, hi, hj] <;> omega) | fail) only [go_sem, x_eLeS, x_hLeS, Int.natCast_zero, Int.natCast_add, Int.natCast_one, hi, hj]
  · rintro J hJ m e H' ⟨i, rfl, rfl, rfl, hi1, hn⟩
    simp (disch := first | omega | (simp only [go_sem, push_cast, and_true] <;> omega) | fail) only [go_sem]
    by_cases h : (i : Int) + 1 < X.length
    · have e1 : ((i : Int) + 1).toNat = i + 1 := by omega
      have e2 : ((i : Int) + 1 - 1).toNat = i := by omega
      have hc : o (X.getD i default) (X.getD (i + 1) default) < 0 ∨ ¬ o (X.getD i default) (X.getD (i + 1) default) < 0 := by omega
      simp (disch := first | omega | (simp only [go_sem, push_cast, and_true] <;> omega) | fail) only [go_sem, e1, e2]
      refine (ho _ (getD_mem (X := X) (i := i) (by omega)) _ (getD_mem (X := X) (i := i + 1) (by omega))).dcall ?_
      rcases hc with hc | hc
      · simp (disch := first | omega | (simp only [go_sem, push_cast, and_true] <;> omega) | fail) only [go_sem]
        refine round_end (hJ _ _ _ ⟨i + 1, rfl, rfl, rfl, by omega, fun j hj => ?_⟩) (by omega) (Nat.le_refl _) ?_ hw
        · rcases Nat.lt_succ_iff_lt_or_eq.1 hj with k | rfl
          · exact hn j k
          · exact fun _ => hc
        · simp (disch := first | (simp only [go_sem, hi, hj] <;> omega) | fail) only [go_sem, x_eLeS, x_hLeS, Int.natCast_zero, Int.natCast_add, Int.natCast_one, hi, hj]
      · have hr : risBO o X = false := risBO_false fun hr => hc (hr i (by omega))
        simp (disch := first | omega | (simp only [go_sem, push_cast, and_true] <;> omega) | fail) only [go_sem]
        refine fin_tmp0 hw ?_ (fin_eq hK ?_)
        · simp (disch := first | omega | (simp only [go_sem, push_cast, and_true] <;> omega) | fail) only [go_sem]
        · simp (disch := first | omega | (simp only [go_sem, push_cast, and_true] <;> omega) | fail) only [go_sem, hr]
    · have hr : risBO o X = true := by
        exact risBO_true fun j hj => hn j (by omega) hj
      simp (disch := first | omega | (simp only [go_sem, push_cast, and_true] <;> omega) | fail) only [go_sem]
      refine fin_tmp0 hw ?_ (fin_eq hK ?_)
      · simp (disch := first | omega | (simp only [go_sem, push_cast, and_true] <;> omega) | fail) only [go_sem]
      · simp (disch := first | omega | (simp only [go_sem, push_cast, and_true] <;> omega) | fail) only [go_sem, hr]
theorem s_EqualFO {A B : List Ot} {f : FuncId} {s : Ot → Ot → Bool} {H : List Entry} (ha : A.length ≤ 1000000) (hb : B.length ≤ 1000000) (hs : ∀ (H : List Entry), ∀ x ∈ A, ∀ y ∈ B, Pure AP f [otV x, otV y] H (.bool (s x y))) (he : ∀ x ∈ A, ∀ y ∈ B, (s x y = true ↔ x = y)) : Pure AP n_slices_EqualFunc_api_Out_api_Out_api_Out_api_Out [.sl 5 (A.map otV), .sl 5 (B.map otV), .fn f [] []] H (.bool (sameL A B)) := by
  intro K hK
  refine a_slices_EqualFunc_api_Out_api_Out_api_Out_api_Out fun hw => ?_
  by_cases h4 : A.length = B.length
  rotate_left
  · have hne : A ≠ B := fun h => h4 (by rw [h])
    have h4' : ¬ ((A.length : Int) = B.length) := by omega
    simp (disch := first | omega | (simp only [go_sem, push_cast, and_true] <;> omega) | fail) only [go_sem, c_slices_EqualFunc_api_Out_api_Out_api_Out_api_Out, h4', decide_false, decide_true, Bool.not_false, Bool.not_true]
    refine fin_tmp0 hw ?_ (fin_eq hK ?_)
    · simp (disch := first | omega | (simp only [go_sem, push_cast, and_true] <;> omega) | fail) only [go_sem]
    · simp (disch := first | omega | (simp only [go_sem, push_cast, and_true] <;> omega) | fail) only [go_sem, sameL_ne hne]
  simp (disch := first | omega | (simp only [go_sem, push_cast, and_true] <;> omega) | fail) only [go_sem, c_slices_EqualFunc_api_Out_api_Out_api_Out_api_Out, h4, decide_true, Bool.not_true]
  refine loop_in (fun m e' H' => ∃ i : Nat, m = B.length - i ∧ e' = slots 0 32 [(0, .sl 5 (A.map otV)), (1, .sl 5 (B.map otV)), (2, .fn f [] []), (15, .sl 5 (A.map otV)), (16, .int .i64 B.length), (17, .int .i64 (i : Int))] ∧ H' = H ∧ i ≤ B.length ∧ ∀ j < i, A.getD j default = B.getD j default) (n := B.length) ⟨0, rfl, rfl, rfl, by omega, fun j hj => by omega⟩ (Nat.le_refl _) ?_ hw ?_
  · simp (disch := first | (simp only [go_sem] <;> omega) | fail) only [go_sem, x_eLeS, x_hLeS, Int.natCast_zero, Int.natCast_add, Int.natCast_one]
  · rintro J hJ m e' H' ⟨i, rfl, rfl, rfl, hi1, hn⟩
    simp (disch := first | omega | (simp only [go_sem, push_cast, and_true] <;> omega) | fail) only [go_sem]
    by_cases h : (i : Int) < B.length
    · have hA := getD_mem (X := A) (i := i) (by omega)
      have hB := getD_mem (X := B) (i := i) (by omega)
      simp (disch := first | omega | (simp only [go_sem, push_cast, and_true] <;> omega) | fail) only [go_sem, h4]
      refine hs _ _ hA _ hB _ ?_
      cases hp : s (A.getD i default) (B.getD i default)
      · have hne : A ≠ B := fun h => by
          have := (he _ hA _ hB).2 (by rw [h])
          rw [hp] at this; cases this
        simp (disch := first | omega | (simp only [go_sem, push_cast, and_true] <;> omega) | fail) only [go_sem, Bool.not_false]
        refine fin_tmp hw ?_ (fin_eq hK ?_)
        · simp (disch := first | omega | (simp only [go_sem, push_cast, and_true] <;> omega) | fail) only [go_sem]
        · simp (disch := first | omega | (simp only [go_sem, push_cast, and_true] <;> omega) | fail) only [go_sem, sameL_ne hne]
      · simp (disch := first | omega | (simp only [go_sem, push_cast, and_true] <;> omega) | fail) only [go_sem, Bool.not_true]
        refine round_end (hJ _ _ _ ⟨i + 1, rfl, rfl, rfl, by omega, fun j hj => ?_⟩) (by omega) (Nat.le_refl _) ?_ (hLe_drop hw)
        · rcases Nat.lt_succ_iff_lt_or_eq.1 hj with k | rfl
          · exact hn j k
          · exact (he _ hA _ hB).1 hp
        · simp (disch := first | (simp only [go_sem] <;> omega) | fail) only [go_sem, x_eLeS, x_hLeS, Int.natCast_zero, Int.natCast_add, Int.natCast_one]
    · have hab : A = B := List.ext_getElem h4 fun j h5 h6 => by
        have := hn j (by omega)
        simpa [h5, h6] using this
      simp (disch := first | omega | (simp only [go_sem, push_cast, and_true] <;> omega) | fail) only [go_sem, h4]
      refine fin_tmp0 hw ?_ (fin_eq hK ?_)
      · simp (disch := first | omega | (simp only [go_sem, push_cast, and_true] <;> omega) | fail) only [go_sem]
      · simp (disch := first | omega | (simp only [go_sem, push_cast, and_true] <;> omega) | fail) only [go_sem, sameL_eq hab]
end Go.Av
