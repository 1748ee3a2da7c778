/- A part of a way to reckon what a Go program does without its memory (O1). -/
import Derived.Test.YtoicgilcdlakkaaAc
import Derived.Test.YtoicgilcdlakkaaGw
namespace Go.Av
open Go
set_option autoImplicit false
set_option linter.all false
/-! ### Stage 15: an output -/
abbrev Ot := Int × List UInt8 × List Int × Int × Int
def u64V (n : Int) : V := .int .u64 n
@[go_sem] theorem u64V_def (n : Int) : u64V n = .int .u64 n := (rfl)
def otV (x : Ot) : V := .agg [.int .u64 x.1, .str x.2.1, .sl 1 (x.2.2.1.map u64V), .int .i64 x.2.2.2.1, .int .i64 x.2.2.2.2]
@[go_sem] theorem otV_def (x : Ot) : otV x = .agg [.int .u64 x.1, .str x.2.1, .sl 1 (x.2.2.1.map u64V), .int .i64 x.2.2.2.1, .int .i64 x.2.2.2.2] := (rfl)
theorem s_Few2 {s : List UInt8} {H : List Entry} (hs : s.length ≤ 9223372036854775807) : Pure AP n_trystlaw02_Few [.str s] H (.str (s.take 60)) := by
  intro K hK
  refine a_trystlaw02_Few fun hw => ?_
  by_cases h : 60 < s.length
  · simp (disch := first | omega | (simp only [go_sem, push_cast, and_true] <;> omega) | fail) only [go_sem, c_trystlaw02_Few]
    refine fin_tmp0 hw ?_ (fin_eq hK ?_)
    · simp (disch := first | omega | (simp only [go_sem, push_cast, and_true] <;> omega) | fail) only [go_sem]
    · simp (disch := first | omega | (simp only [go_sem, push_cast, and_true] <;> omega) | fail) only [go_sem]
  · simp (disch := first | omega | (simp only [go_sem, push_cast, and_true] <;> omega) | fail) only [go_sem, c_trystlaw02_Few]
    refine fin_tmp0 hw ?_ (fin_eq hK ?_)
    · simp (disch := first | omega | (simp only [go_sem, push_cast, and_true] <;> omega) | fail) only [go_sem]
    · simp (disch := first | omega | (simp only [go_sem, push_cast, and_true] <;> omega) | fail) only [go_sem, List.take_of_length_le (show s.length ≤ 60 by omega)]
def oneO (x : Ot) : Ot := (x.1, x.2.1.take 60, x.2.2.1.take 31, x.2.2.2.1, x.2.2.2.2)
abbrev otOk (x : Ot) : Prop := x.2.1.length ≤ 9223372036854775807 ∧ x.2.2.1.length ≤ 9223372036854775807
theorem s_One {x : Ot} {H : List Entry} (hx : otOk x) : Pure AP n_trystlaw15_One [otV x] H (otV (oneO x)) := by
  intro K hK
  refine a_trystlaw15_One fun hw => ?_
  obtain ⟨h1, h2⟩ := hx
  simp (disch := first | omega | (simp only [go_sem, push_cast, and_true] <;> omega) | fail) only [go_sem, c_trystlaw15_One]
  refine s_Few2 h1 _ ?_
  by_cases h : 31 < x.2.2.1.length
  · simp (disch := first | omega | (simp only [go_sem, push_cast, and_true] <;> omega) | fail) only [go_sem]
    refine end_frz 0 ?_
    simp (disch := first | omega | (simp only [go_sem, push_cast, and_true] <;> omega) | fail) only [go_sem, fz, fzsW, fzRow, List.length_map, if_true]
    refine fin_res hw ?_ (fin_eq hK ?_)
    · simp (disch := first | omega | (simp only [go_sem, push_cast, and_true] <;> omega) | fail) only [go_sem]
    · simp [oneO, otV, oneV]
  · simp (disch := first | omega | (simp only [go_sem, push_cast, and_true] <;> omega) | fail) only [go_sem]
    refine end_frz 0 ?_
    simp (disch := first | omega | (simp only [go_sem, push_cast, and_true] <;> omega) | fail) only [go_sem, fz, fzsW, fzRow, List.length_map, if_true]
    refine fin_res hw ?_ (fin_eq hK ?_)
    · simp (disch := first | omega | (simp only [go_sem, push_cast, and_true] <;> omega) | fail) only [go_sem]
    · have : x.2.2.1.take 31 = x.2.2.1 := List.take_of_length_le (by omega)
      simp [oneO, otV, oneV, this]
def fewO (X : List Ot) : List Ot := (X.take 101).map oneO
theorem s_FewO {X : List Ot} {H : List Entry} (hX : X.length ≤ 9223372036854775807) (hx : ∀ x ∈ X, otOk x) : Pure AP n_trystlaw15_Few [.sl 5 (X.map otV)] H (.sl 5 ((fewO X).map otV)) := by
  intro K hK
  refine a_trystlaw15_Few fun hw => ?_
  simp (disch := first | omega | (simp only [go_sem, push_cast, and_true] <;> omega) | fail) only [go_sem, c_trystlaw15_Few]
  refine loop_adopt 3 26 5 rfl ?_
  have hl : ∀ i : Nat, i ≤ X.length → (((X.take i).map oneO).map otV).length = i := fun i hi => by simp; omega
  simp (disch := first | omega | (simp only [go_sem, push_cast, and_true] <;> omega) | fail) only [go_sem]
  refine loop_in (fun m e' H' => ∃ i : Nat, m = 101 - i ∧ e' = slots 0 24 [(0, .sl 5 (X.map otV)), (2, .nilsl), (3, .own H.length i), (4, .int .i64 (i : Int))] ∧ H' = H ++ [.row 26 5 (((X.take i).map oneO).map otV)] ∧ i ≤ X.length ∧ i ≤ 101) (n := 101) ⟨0, rfl, rfl, rfl, by omega, by omega⟩ (by first | omega | (simp only [go_sem, push_cast] <;> omega)) ?_ ?_ ?_
  · simp (disch := first | (simp only [go_sem] <;> omega) | fail) only [go_sem, x_eLeS, x_hLeS, Int.natCast_zero, Int.natCast_add, Int.natCast_one]
  · exact hLe_app hw (by first | omega | (simp only [go_sem, push_cast] <;> omega)) (by simp (disch := first | (simp only [go_sem] <;> omega) | fail) only [go_sem, x_eLeS, x_hLeS, Int.natCast_zero, Int.natCast_add, Int.natCast_one])
  · rintro J hJ m e' H' ⟨i, rfl, rfl, rfl, hi1, hi2⟩
    have hli := hl i hi1
    by_cases hlt : (i : Int) < X.length
    · by_cases h10 : (i : Int) < 101
      · have hf := hx _ (getD_mem (X := X) (i := i) (by omega))
        simp (disch := first | omega | (simp only [go_sem, push_cast, and_true] <;> omega) | fail) only [go_sem]
        refine s_One (x := X.getD i default) hf _ ?_
        have e2 : ((X.take i).map oneO).map otV ++ [otV (oneO (X.getD i default))] = ((X.take (i + 1)).map oneO).map otV := by
          rw [getD_take (by omega)]; simp
        simp (disch := first | omega | (simp only [go_sem, push_cast, and_true] <;> omega) | fail) only [go_sem, hli]
        rw [otV_def] at e2
        rw [e2]
        refine round_end (hJ _ _ _ ⟨i + 1, rfl, rfl, rfl, by omega, by omega⟩) (by omega) (by first | omega | (simp only [go_sem, push_cast] <;> omega)) ?_ ?_
        · simp (disch := first | (simp only [go_sem] <;> omega) | fail) only [go_sem, x_eLeS, x_hLeS, Int.natCast_zero, Int.natCast_add, Int.natCast_one]
        · exact hLe_app hw (by first | omega | (simp only [go_sem, push_cast] <;> omega)) (by simp (disch := first | (simp only [go_sem] <;> omega) | fail) only [go_sem, x_eLeS, x_hLeS, Int.natCast_zero, Int.natCast_add, Int.natCast_one])
      · have hi : i = 101 := by omega
        subst hi
        simp (disch := first | omega | (simp only [go_sem, push_cast, and_true] <;> omega) | fail) only [go_sem]
        refine wk_own (H := H) 2 0 rfl rfl rfl hli ?_
        refine fin_tmp hw ?_ (fin_eq hK ?_)
        · simp (disch := first | omega | (simp only [go_sem, push_cast, and_true] <;> omega) | fail) only [go_sem]
        · simp (disch := first | omega | (simp only [go_sem, push_cast, and_true] <;> omega) | fail) only [go_sem, fewO]
    · have hi : i = X.length := by omega
      subst hi
      have : X.take 101 = X := List.take_of_length_le hi2
      rw [List.take_length] at hli ⊢
      simp (disch := first | omega | (simp only [go_sem, push_cast, and_true] <;> omega) | fail) only [go_sem]
      refine wk_own (H := H) 2 0 rfl rfl rfl hli ?_
      refine fin_tmp hw ?_ (fin_eq hK ?_)
      · simp (disch := first | omega | (simp only [go_sem, push_cast, and_true] <;> omega) | fail) only [go_sem]
      · simp (disch := first | omega | (simp only [go_sem, push_cast, and_true] <;> omega) | fail) only [go_sem, fewO, this]
end Go.Av
