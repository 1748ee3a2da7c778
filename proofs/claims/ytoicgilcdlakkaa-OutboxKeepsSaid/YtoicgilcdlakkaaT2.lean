/- A part of a way to reckon what a Go program does without its memory (T2). -/
import Derived.Test.YtoicgilcdlakkaaT1
import Derived.Test.YtoicgilcdlakkaaO5
namespace Go.Av
open Go
set_option autoImplicit false
set_option linter.all false
/-! ### wheel: order, Check, Stop, Set, Next, of timers that may be -/
theorem s_isNaNi {a : Int} {H : List Entry} : Pure AP n_cmp_isNaN_int [.int .i64 a] H (.bool false) := by
  intro K hK
  refine a_cmp_isNaN_int fun hw => ?_
  simp (disch := first | omega | (simp only [go_sem, push_cast, and_true] <;> omega) | fail) only [go_sem, c_cmp_isNaN_int, decide_true]
  refine fin_tmp0 hw ?_ (fin_eq hK ?_)
  · simp (disch := first | omega | (simp only [go_sem, push_cast, and_true] <;> omega) | fail) only [go_sem]
  · simp (disch := first | omega | (simp only [go_sem, push_cast, and_true] <;> omega) | fail) only [go_sem]
theorem s_cmpi {a b : Int} {H : List Entry} : Pure AP n_cmp_Compare_int [.int .i64 a, .int .i64 b] H (.int .i64 (cmpZ a b)) := by
  intro K hK
  refine a_cmp_Compare_int fun hw => ?_
  simp (disch := first | omega | (simp only [go_sem, push_cast, and_true] <;> omega) | fail) only [go_sem, c_cmp_Compare_int]
  refine s_isNaNi _ ?_
  simp (disch := first | omega | (simp only [go_sem, push_cast, and_true] <;> omega) | fail) only [go_sem]
  refine s_isNaNi _ ?_
  by_cases h : a < b
  · simp (disch := first | omega | (simp only [go_sem, push_cast, and_true] <;> omega) | fail) only [go_sem, h, decide_true]
    refine fin_tmp0 hw ?_ (fin_eq hK ?_)
    · simp (disch := first | omega | (simp only [go_sem, push_cast, and_true] <;> omega) | fail) only [go_sem]
    · simp [oneV, nths, nth, cmpZ, h]
  · by_cases h2 : b < a
    · simp (disch := first | omega | (simp only [go_sem, push_cast, and_true] <;> omega) | fail) only [go_sem, h, h2, decide_true, decide_false]
      refine fin_tmp0 hw ?_ (fin_eq hK ?_)
      · simp (disch := first | omega | (simp only [go_sem, push_cast, and_true] <;> omega) | fail) only [go_sem]
      · simp [oneV, nths, nth, cmpZ, h, h2]
    · simp (disch := first | omega | (simp only [go_sem, push_cast, and_true] <;> omega) | fail) only [go_sem, h, h2, decide_false]
      refine fin_tmp0 hw ?_ (fin_eq hK ?_)
      · simp (disch := first | omega | (simp only [go_sem, push_cast, and_true] <;> omega) | fail) only [go_sem]
      · simp [oneV, nths, nth, cmpZ, h, h2]
def orZ (a b : Int) : Int := if a = 0 then b else a
theorem s_Or {a b : Int} {H : List Entry} : Pure AP n_cmp_Or_int [.slx 1 [.int .i64 a, .int .i64 b]] H (.int .i64 (orZ a b)) := by
  intro K hK
  refine a_cmp_Or_int fun hw => ?_
  simp (disch := first | omega | (simp only [go_sem, push_cast, and_true] <;> omega) | fail) only [go_sem, c_cmp_Or_int]
  refine loop_in (fun m e H' => ∃ i : Nat, m = 2 - i ∧ e = slots 0 18 [(0, .slx 1 [.int .i64 a, .int .i64 b]), (3, .int .i64 0), (6, .slx 1 [.int .i64 a, .int .i64 b]), (7, .int .i64 2), (8, .int .i64 (i : Int))] ∧ H = H' ∧ (i = 0 ∨ i = 1 ∧ a = 0 ∨ i = 2 ∧ a = 0 ∧ b = 0)) (n := 2) ⟨0, rfl, rfl, rfl, .inl rfl⟩ (Nat.le_refl _) ?_ hw ?_
  · simp (disch := first | (simp only [go_sem, Int.cast_ofNat_Int] <;> omega) | fail) only [go_sem, x_eLeS, x_hLeS, Int.natCast_zero, Int.natCast_add, Int.natCast_one, Int.cast_ofNat_Int]
  · rintro J hJ m e _ ⟨i, rfl, rfl, rfl, rfl | ⟨rfl, ha⟩ | ⟨rfl, ha, hb⟩⟩
    · by_cases ha : a = 0
      · simp (disch := first | omega | (simp only [go_sem, push_cast, and_true] <;> omega) | fail) only [go_sem, Int.cast_ofNat_Int, Int.natCast_zero, ha, decide_true, Bool.not_true]
        refine round_end (hJ _ _ _ ⟨1, rfl, rfl, rfl, .inr (.inl ⟨rfl, ha⟩)⟩) (by omega) (Nat.le_refl _) ?_ hw
        simp (disch := first | (simp only [go_sem, Int.cast_ofNat_Int, ha] <;> omega) | fail) only [go_sem, x_eLeS, x_hLeS, Int.natCast_zero, Int.natCast_add, Int.natCast_one, Int.cast_ofNat_Int, ha]
      · simp (disch := first | omega | (simp only [go_sem, push_cast, and_true] <;> omega) | fail) only [go_sem, Int.cast_ofNat_Int, Int.natCast_zero, ha, decide_false, Bool.not_false]
        refine fin_tmp0 hw ?_ (fin_eq hK ?_)
        · simp (disch := first | omega | (simp only [go_sem, push_cast, and_true] <;> omega) | fail) only [go_sem]
        · simp [oneV, nths, nth, orZ, ha]
    · by_cases hb : b = 0
      · simp (disch := first | omega | (simp only [go_sem, push_cast, and_true] <;> omega) | fail) only [go_sem, Int.cast_ofNat_Int, Int.natCast_one, hb, decide_true, Bool.not_true]
        refine round_end (hJ _ _ _ ⟨2, rfl, rfl, rfl, .inr (.inr ⟨rfl, ha, hb⟩)⟩) (by omega) (Nat.le_refl _) ?_ hw
        simp (disch := first | (simp only [go_sem, Int.cast_ofNat_Int, hb] <;> omega) | fail) only [go_sem, x_eLeS, x_hLeS, Int.natCast_zero, Int.natCast_add, Int.natCast_one, Int.cast_ofNat_Int, hb]
      · simp (disch := first | omega | (simp only [go_sem, push_cast, and_true] <;> omega) | fail) only [go_sem, Int.cast_ofNat_Int, Int.natCast_one, hb, decide_false, Bool.not_false]
        refine fin_tmp0 hw ?_ (fin_eq hK ?_)
        · simp (disch := first | omega | (simp only [go_sem, push_cast, and_true] <;> omega) | fail) only [go_sem]
        · simp [oneV, nths, nth, orZ, ha]
    · simp (disch := first | omega | (simp only [go_sem, push_cast, and_true] <;> omega) | fail) only [go_sem, Int.cast_ofNat_Int]
      refine fin_tmp0 hw ?_ (fin_eq hK ?_)
      · simp (disch := first | omega | (simp only [go_sem, push_cast, and_true] <;> omega) | fail) only [go_sem]
      · simp [oneV, nths, nth, orZ, ha, hb]
def tOrd (x y : Tm) : Int := orZ (cmpZ x.1 y.1) (cmpZ x.2 y.2)
theorem s_order {x y : Tm} {H : List Entry} : Pure AP n_wheel_timer_order [tmV x, tmV y] H (.int .i64 (tOrd x y)) := by
  intro K hK
  refine a_wheel_timer_order fun hw => ?_
  simp (disch := first | omega | (simp only [go_sem, push_cast, and_true] <;> omega) | fail) only [go_sem, c_wheel_timer_order]
  refine s_cmpi.dcall ?_
  simp (disch := first | omega | (simp only [go_sem, push_cast, and_true] <;> omega) | fail) only [go_sem]
  refine s_cmpu.dcall ?_
  simp (disch := first | omega | (simp only [go_sem, push_cast, and_true] <;> omega) | fail) only [go_sem]
  refine s_Or.dcall ?_
  simp (disch := first | omega | (simp only [go_sem, push_cast, and_true] <;> omega) | fail) only [go_sem]
  refine fin_tmp hw ?_ (fin_eq hK ?_)
  · simp (disch := first | omega | (simp only [go_sem, push_cast, and_true] <;> omega) | fail) only [go_sem]
  · simp (disch := first | omega | (simp only [go_sem, push_cast, and_true] <;> omega) | fail) only [go_sem, tOrd]
theorem s_inOrder1 {x y : Tm} {H : List Entry} {g : Nat} (hg : H[g]? = some (.box [.fn n_wheel_timer_order [] []])) : Pure AP n_wheel_inOrder_1 [tmV x, tmV y, .ptr g 0] H (.int .i64 (tOrd x y)) := by
  intro K hK
  refine a_wheel_inOrder_1 fun hw => ?_
  have hl := (List.getElem?_eq_some_iff.1 hg).1
  simp (disch := first | omega | (simp only [go_sem, push_cast, and_true] <;> omega) | fail) only [go_sem, c_wheel_inOrder_1, List.getElem?_append_left hl, hg]
  refine s_order (x := x) (y := y) _ ?_
  simp (disch := first | omega | (simp only [go_sem, push_cast, and_true] <;> omega) | fail) only [go_sem]
  refine fin_tmp hw ?_ (fin_eq hK ?_)
  · simp (disch := first | omega | (simp only [go_sem, push_cast, and_true] <;> omega) | fail) only [go_sem]
  · simp (disch := first | omega | (simp only [go_sem, push_cast, and_true] <;> omega) | fail) only [go_sem]
theorem s_inOrder {X : List Tm} {H : List Entry} (hX : X.length ≤ 1000000) : Pure AP n_wheel_inOrder [.sl 2 (X.map tmV), .fn n_wheel_timer_order [] []] H (.bool (risBT tOrd X)) := by
  intro K hK
  refine a_wheel_inOrder fun hw => ?_
  simp (disch := first | omega | (simp only [go_sem, push_cast, and_true] <;> omega) | fail) only [go_sem, c_wheel_inOrder]
  refine s_RisesT (o := tOrd) hX (fun x _ y _ => s_inOrder1 ?_) ?_ ?_ _ ?_
  · simp (disch := first | omega | (simp only [go_sem, push_cast, and_true] <;> omega) | fail) only [go_sem]
  · simp (disch := first | omega | (simp only [go_sem, push_cast, and_true] <;> omega) | fail) only [go_sem]
  · simp (disch := first | omega | (simp only [go_sem, push_cast, and_true] <;> omega) | fail) only [go_sem]
    omega
  simp (disch := first | omega | (simp only [go_sem, push_cast, and_true] <;> omega) | fail) only [go_sem]
  refine fin_tmp hw ?_ (fin_eq hK ?_)
  · simp (disch := first | omega | (simp only [go_sem, push_cast, and_true] <;> omega) | fail) only [go_sem]
  · simp (disch := first | omega | (simp only [go_sem, push_cast, and_true] <;> omega) | fail) only [go_sem]
theorem s_wisTime {n : Int} {H : List Entry} : Pure AP n_wheel_isTime [.int .i64 n] H (.bool (timeB n)) := by
  intro K hK
  refine a_wheel_isTime fun hw => ?_
  by_cases h : 0 ≤ n
  · simp (disch := first | omega | (simp only [go_sem, push_cast, and_true] <;> omega) | fail) only [go_sem, c_wheel_isTime, h, decide_true]
    refine fin_tmp0 hw ?_ (fin_eq hK ?_)
    · simp (disch := first | omega | (simp only [go_sem, push_cast, and_true] <;> omega) | fail) only [go_sem]
    · simp [oneV, nths, nth, timeB, h]
  · simp (disch := first | omega | (simp only [go_sem, push_cast, and_true] <;> omega) | fail) only [go_sem, c_wheel_isTime, h, decide_false]
    refine fin_tmp0 hw ?_ (fin_eq hK ?_)
    · simp (disch := first | omega | (simp only [go_sem, push_cast, and_true] <;> omega) | fail) only [go_sem]
    · simp [oneV, nths, nth, timeB, h]
structure TOk (X : List Tm) : Prop where
  len : X.length ≤ 120
  ris : RisT tOrd X
  nd : (X.map (·.2)).Nodup
  tm : ∀ t ∈ X, timeB t.1 = true
def kvT (t : Tm) : V × V := (.int .u64 t.2, .agg [])
theorem kpos_T {n : Int} : ∀ {X : List Tm}, (∀ t ∈ X, t.2 ≠ n) → kpos false [1] (.int .u64 n) (X.map kvT) = some none
  | [], _ => rfl
  | t :: X, h => by
    have h1 := h t (by simp)
    have ih := kpos_T (n := n) (X := X) fun x hx => h x (by simp [hx])
    have h2 : ¬ n = t.2 := fun k => h1 k.symm
    have h3 : (n == t.2) = false := by simpa using h2
    simp [kpos, kvT, valEq, cellsEq, atomEq, h3] at ih ⊢
    simp [ih]
theorem idsM {m : Nat} : ∀ (X : List Tm), idsLtE m (.map (X.map kvT)) = true
  | [] => rfl
  | t :: X => by
    have := idsM (m := m) X
    simp only [idsLtE] at this ⊢
    simp only [List.map_cons, kvT, idsLtM, this]
    rfl
theorem s_wCheck {X : List Tm} {H : List Entry} (hX : TOk X) : Pure AP n_wheel_Check [.sl 2 (X.map tmV)] H (.int .i64 0) := by
  intro K hK
  refine a_wheel_Check fun hw => ?_
  have hl := hX.len
  simp (disch := first | omega | (simp only [go_sem, push_cast, and_true] <;> omega) | fail) only [go_sem, c_wheel_Check]
  refine s_inOrder (by omega) _ ?_
  rw [risBT_true hX.ris]
  simp (disch := first | omega | (simp only [go_sem, push_cast, and_true] <;> omega) | fail) only [go_sem, Bool.not_true]
  refine loop_in (fun m e' H' => ∃ i : Nat, m = X.length - i ∧ e' = slots 0 35 [(0, .sl 2 (X.map tmV)), (3, .map H.length), (15, .sl 2 (X.map tmV)), (16, .int .i64 X.length), (17, .int .i64 (i : Int))] ∧ H' = H ++ [.map ((X.take i).map kvT)] ∧ i ≤ X.length) (n := X.length) ⟨0, rfl, rfl, rfl, by omega⟩ (by first | omega | (simp only [go_sem, push_cast] <;> omega)) ?_ ?_ ?_
  · simp (disch := first | (simp only [go_sem] <;> omega) | fail) only [go_sem, x_eLeS, x_hLeS, Int.natCast_zero, Int.natCast_add, Int.natCast_one]
  · simp only [List.take_zero, List.map_nil]
    refine hLe_app hw (by simp) ?_
    have := idsM (m := H.length + 1) []
    rw [List.map_nil] at this
    simp (disch := first | (simp only [go_sem, this] <;> omega) | fail) only [go_sem, x_eLeS, x_hLeS, Int.natCast_zero, Int.natCast_add, Int.natCast_one, this]
  · rintro J hJ m e' H' ⟨i, rfl, rfl, rfl, hi1⟩
    by_cases h : (i : Int) < X.length
    · have hk : kpos false [1] (.int .u64 (X.getD i default).2) ((X.take i).map kvT) = some none := by
        refine kpos_T fun t ht => ?_
        obtain ⟨j, hj, rfl⟩ := List.mem_iff_getElem.1 ht
        rw [List.length_take] at hj
        have := (List.pairwise_iff_getElem.1 hX.nd) j i (by simp; omega) (by simp; omega) (by omega)
        simpa [show i < X.length by omega] using this
      have ht := hX.tm _ (getD_mem (X := X) (i := i) (by omega))
      have e1 : (X.take i).map kvT ++ [(.int .u64 (X.getD i default).2, .agg [])] = (X.take (i + 1)).map kvT := by
        rw [getD_take (by omega)]; simp [kvT]
      simp (disch := first | omega | (simp only [go_sem, push_cast, and_true] <;> omega) | fail) only [go_sem, hk, beq_self_eq_true, decide_true, Bool.and_true]
      refine s_wisTime _ ?_
      rw [ht]
      simp (disch := first | omega | (simp only [go_sem, push_cast, and_true] <;> omega) | fail) only [go_sem, Bool.not_true, e1]
      refine round_end (hJ _ _ _ ⟨i + 1, rfl, rfl, rfl, by omega⟩) (by omega) (by first | omega | (simp only [go_sem, push_cast] <;> omega)) ?_ ?_
      · simp (disch := first | (simp only [go_sem] <;> omega) | fail) only [go_sem, x_eLeS, x_hLeS, Int.natCast_zero, Int.natCast_add, Int.natCast_one]
      · refine hLe_app hw (by simp) ?_
        simp (disch := first | (simp only [go_sem, idsM] <;> omega) | fail) only [go_sem, x_eLeS, x_hLeS, Int.natCast_zero, Int.natCast_add, Int.natCast_one, idsM]
    · have hi : i = X.length := by omega
      subst hi
      simp (disch := first | omega | (simp only [go_sem, push_cast, and_true] <;> omega) | fail) only [go_sem, List.take_length, List.length_map]
      refine fin_tmp hw ?_ (fin_eq hK ?_)
      · simp (disch := first | omega | (simp only [go_sem, push_cast, and_true] <;> omega) | fail) only [go_sem]
      · simp (disch := first | omega | (simp only [go_sem, push_cast, and_true] <;> omega) | fail) only [go_sem]
def isT (n : Int) (t : Tm) : Bool := decide (t.2 = n)
theorem s_wfind1 {x : Tm} {n : Int} {H : List Entry} {g : Nat} (hg : H[g]? = some (.box [.int .u64 n])) : Pure AP n_wheel_find_1 [tmV x, .ptr g 0] H (.bool (isT n x)) := by
  intro K hK
  refine a_wheel_find_1 fun hw => ?_
  have hl := (List.getElem?_eq_some_iff.1 hg).1
  simp (disch := first | omega | (simp only [go_sem, push_cast, and_true] <;> omega) | fail) only [go_sem, c_wheel_find_1, List.getElem?_append_left hl, hg]
  all_goals (first | refine fin_tmp hw ?_ (fin_eq hK ?_) | refine fin_tmp0 hw ?_ (fin_eq hK ?_))
  all_goals simp (disch := first | omega | (simp only [go_sem, push_cast, and_true] <;> omega) | fail) only [go_sem]
  all_goals first | (simp_all [isT]; done) | (simp_all [isT]; omega) | (simp_all [isT]; intros; omega)
theorem s_wfind {X : List Tm} {n : Int} {H : List Entry} (hX : X.length ≤ 1000000) : Pure AP n_wheel_find [.sl 2 (X.map tmV), .int .u64 n] H (.int .i64 (idx (isT n) X)) := by
  intro K hK
  refine a_wheel_find fun hw => ?_
  simp (disch := first | omega | (simp only [go_sem, push_cast, and_true] <;> omega) | fail) only [go_sem, c_wheel_find]
  refine s_IndexFT hX (p := isT n) (fun x _ => s_wfind1 ?_) ?_ ?_ _ ?_
  · simp (disch := first | omega | (simp only [go_sem, push_cast, and_true] <;> omega) | fail) only [go_sem]
  · simp (disch := first | omega | (simp only [go_sem, push_cast, and_true] <;> omega) | fail) only [go_sem]
  · simp (disch := first | omega | (simp only [go_sem, push_cast, and_true] <;> omega) | fail) only [go_sem]
    omega
  simp (disch := first | omega | (simp only [go_sem, push_cast, and_true] <;> omega) | fail) only [go_sem]
  all_goals (first | refine fin_tmp hw ?_ (fin_eq hK ?_) | refine fin_tmp0 hw ?_ (fin_eq hK ?_))
  all_goals simp (disch := first | omega | (simp only [go_sem, push_cast, and_true] <;> omega) | fail) only [go_sem]
  all_goals first | (simp_all [isT]; done) | (simp_all [isT]; omega) | (simp_all [isT]; intros; omega)
/-- A timer that isn't there is stopped: nothing becomes of them. -/
theorem s_Stop {X : List Tm} {n : Int} {H : List Entry} (hX : TOk X) (hn : ∀ t ∈ X, t.2 ≠ n) : Pure AP n_wheel_Stop [.sl 2 (X.map tmV), .int .u64 n] H (.tup [.sl 2 (X.map tmV), .bool false]) := by
  intro K hK
  refine a_wheel_Stop fun hw => ?_
  have hl := hX.len
  simp (disch := first | omega | (simp only [go_sem, push_cast, and_true] <;> omega) | fail) only [go_sem, c_wheel_Stop]
  refine s_wCheck hX _ ?_
  simp (disch := first | omega | (simp only [go_sem, push_cast, and_true] <;> omega) | fail) only [go_sem]
  refine s_wfind (by omega) _ ?_
  have hi : idx (isT n) X = -1 := idx_none fun j hj => by
    have := hn _ (getD_mem (X := X) hj)
    simpa [isT] using this
  rw [hi]
  simp (disch := first | omega | (simp only [go_sem, push_cast, and_true] <;> omega) | fail) only [go_sem]
  refine s_CloneFT (by simp; omega) ?_
  simp (disch := first | omega | (simp only [go_sem, push_cast, and_true] <;> omega) | fail) only [go_sem]
  refine wk_own (H := H) 4 0 rfl rfl rfl (by first | omega | (simp only [go_sem, push_cast] <;> omega)) ?_
  refine fin_tmp hw ?_ (fin_eq hK ?_)
  · simp (disch := first | omega | (simp only [go_sem, push_cast, and_true] <;> omega) | fail) only [go_sem]
  · simp (disch := first | omega | (simp only [go_sem, push_cast, and_true] <;> omega) | fail) only [go_sem]
def aftT (t x : Tm) : Bool := decide (0 < tOrd x t)
theorem s_place1 {x t : Tm} {H : List Entry} {g j : Nat} (hg : H[g]? = some (.box [.fn n_wheel_timer_order [] []])) (hj : H[j]? = some (.box [.int .i64 t.1, .int .u64 t.2])) : Pure AP n_wheel_place_1 [tmV x, .ptr g 0, .ptr j 0] H (.bool (aftT t x)) := by
  intro K hK
  refine a_wheel_place_1 fun hw => ?_
  have hl := (List.getElem?_eq_some_iff.1 hg).1
  have hl2 := (List.getElem?_eq_some_iff.1 hj).1
  simp (disch := first | omega | (simp only [go_sem, push_cast, and_true] <;> omega) | fail) only [go_sem, c_wheel_place_1, List.getElem?_append_left hl, hg, List.getElem?_append_left hl2, hj]
  refine s_order (x := x) (y := t) _ ?_
  simp (disch := first | omega | (simp only [go_sem, push_cast, and_true] <;> omega) | fail) only [go_sem]
  refine fin_tmp hw ?_ (fin_eq hK ?_)
  · simp (disch := first | omega | (simp only [go_sem, push_cast, and_true] <;> omega) | fail) only [go_sem]
  · simp (disch := first | omega | (simp only [go_sem, push_cast, and_true] <;> omega) | fail) only [go_sem, aftT]
theorem s_wplace {X : List Tm} {t : Tm} {H : List Entry} (hX : X.length ≤ 1000000) : Pure AP n_wheel_place [.sl 2 (X.map tmV), tmV t, .fn n_wheel_timer_order [] []] H (.int .i64 (plc (aftT t) X : Nat)) := by
  intro K hK
  refine a_wheel_place fun hw => ?_
  simp (disch := first | omega | (simp only [go_sem, push_cast, and_true] <;> omega) | fail) only [go_sem, c_wheel_place]
  refine s_PlaceT hX (p := aftT t) (fun x _ => s_place1 (t := t) ?_ ?_) ?_ ?_ _ ?_
  · simp (disch := first | omega | (simp only [go_sem, push_cast, and_true] <;> omega) | fail) only [go_sem]
  · simp (disch := first | omega | (simp only [go_sem, push_cast, and_true] <;> omega) | fail) only [go_sem]
  · simp (disch := first | omega | (simp only [go_sem, push_cast, and_true] <;> omega) | fail) only [go_sem]
  · simp (disch := first | omega | (simp only [go_sem, push_cast, and_true] <;> omega) | fail) only [go_sem]
    omega
  simp (disch := first | omega | (simp only [go_sem, push_cast, and_true] <;> omega) | fail) only [go_sem]
  refine fin_tmp hw ?_ (fin_eq hK ?_)
  · simp (disch := first | omega | (simp only [go_sem, push_cast, and_true] <;> omega) | fail) only [go_sem]
  · simp (disch := first | omega | (simp only [go_sem, push_cast, and_true] <;> omega) | fail) only [go_sem]
def insT (X : List Tm) (t : Tm) : List Tm := X.take (plc (aftT t) X) ++ [t] ++ X.drop (plc (aftT t) X)
theorem s_wSet {X : List Tm} {t : Tm} {H : List Entry} (hX : TOk X) (hn : ∀ x ∈ X, x.2 ≠ t.2) (hl : X.length < 120) (ht : timeB t.1 = true) : Pure AP n_wheel_Set [.sl 2 (X.map tmV), .int .u64 t.2, .int .i64 t.1] H (.tup [.sl 2 ((insT X t).map tmV), .int .i64 0]) := by
  intro K hK
  refine a_wheel_Set fun hw => ?_
  simp (disch := first | omega | (simp only [go_sem, push_cast, and_true] <;> omega) | fail) only [go_sem, c_wheel_Set]
  refine s_wCheck hX _ ?_
  simp (disch := first | omega | (simp only [go_sem, push_cast, and_true] <;> omega) | fail) only [go_sem]
  refine s_wisTime _ ?_
  rw [ht]
  simp (disch := first | omega | (simp only [go_sem, push_cast, and_true] <;> omega) | fail) only [go_sem, Bool.not_true]
  refine s_Stop hX hn _ ?_
  have h120 : ¬ (X.length : Int) = 120 := by omega
  simp (disch := first | omega | (simp only [go_sem, push_cast, and_true] <;> omega) | fail) only [go_sem, h120, decide_false]
  refine (s_wplace (t := t) (by omega)).dcall ?_
  have hp := plc_le (aftT t) X
  simp (disch := first | omega | (simp only [go_sem, push_cast, and_true] <;> omega) | fail) only [go_sem]
  refine (s_WithT (X := X) (x := t) (p := plc (aftT t) X) (by omega) (by omega)).dcall ?_
  simp (disch := first | omega | (simp only [go_sem, push_cast, and_true] <;> omega) | fail) only [go_sem]
  refine fin_tmp hw ?_ (fin_eq hK ?_)
  · simp (disch := first | omega | (simp only [go_sem, push_cast, and_true] <;> omega) | fail) only [go_sem]
  · simp (disch := first | omega | (simp only [go_sem, push_cast, and_true] <;> omega) | fail) only [go_sem, insT]
theorem s_wNext {X : List Tm} {H : List Entry} (hX : TOk X) : Pure AP n_wheel_Next [.sl 2 (X.map tmV)] H (.tup [tmV (X.getD 0 default), .bool (decide (X ≠ []))]) := by
  intro K hK
  refine a_wheel_Next fun hw => ?_
  cases X with
  | nil =>
    simp (disch := first | omega | (simp only [go_sem, push_cast, and_true] <;> omega) | fail) only [go_sem, c_wheel_Next, List.map_nil, List.length_nil, Int.natCast_zero, decide_true]
    refine fin_res hw ?_ (fin_eq hK ?_)
    · simp (disch := first | omega | (simp only [go_sem, push_cast, and_true] <;> omega) | fail) only [go_sem]
    · simp [oneV]; rfl
  | cons t X =>
    have hl := hX.len
    simp only [List.length_cons] at hl
    have h0 : ¬ ((X.length : Int) + 1 = 0) := by omega
    simp (disch := first | omega | (simp only [go_sem, push_cast, and_true] <;> omega) | fail) only [go_sem, c_wheel_Next, List.map_cons, List.length_cons, Int.natCast_add, Int.natCast_one, h0, decide_false]
    have := s_wCheck (H := H ++ [.box [.int .i64 0, .int .u64 0]]) hX
    rw [List.map_cons, tmV_def] at this
    refine this _ ?_
    simp (disch := first | omega | (simp only [go_sem, push_cast, and_true] <;> omega) | fail) only [go_sem]
    refine fin_res hw ?_ (fin_eq hK ?_)
    · simp (disch := first | omega | (simp only [go_sem, push_cast, and_true] <;> omega) | fail) only [go_sem]
    · simp [oneV, tmV]
end Go.Av
