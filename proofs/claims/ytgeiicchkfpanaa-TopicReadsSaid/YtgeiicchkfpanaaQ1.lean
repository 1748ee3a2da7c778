/- A part of a way to reckon what a Go program does without its memory (Q1). -/
import Derived.Test.YtgeiicchkfpanaaAc
import Derived.Test.YtgeiicchkfpanaaGw
namespace Go.Av
open Go
set_option autoImplicit false
set_option linter.all false
/-! ### Stage 4: an event -/
abbrev Vl := Bool × Int × List UInt8
abbrev Fd := List UInt8 × Vl
abbrev Ev := List UInt8 × List UInt8 × Int × List Fd
def vlV (v : Vl) : V := .agg [.bool v.1, .int .i64 v.2.1, .str v.2.2]
@[go_sem] theorem vlV_def (v : Vl) : vlV v = .agg [.bool v.1, .int .i64 v.2.1, .str v.2.2] := (rfl)
def fdV (f : Fd) : V := .agg [.str f.1, .bool f.2.1, .int .i64 f.2.2.1, .str f.2.2.2]
@[go_sem] theorem fdV_def (f : Fd) : fdV f = .agg [.str f.1, .bool f.2.1, .int .i64 f.2.2.1, .str f.2.2.2] := (rfl)
def evV (e : Ev) : V := .agg [.str e.1, .str e.2.1, .int .u64 e.2.2.1, .sl 4 (e.2.2.2.map fdV)]
@[go_sem] theorem evV_def (e : Ev) : evV e = .agg [.str e.1, .str e.2.1, .int .u64 e.2.2.1, .sl 4 (e.2.2.2.map fdV)] := (rfl)
def fewV (v : Vl) : Vl := (v.1, v.2.1, v.2.2.take 70)
def fewF (f : Fd) : Fd := (f.1.take 60, fewV f.2)
def fewE (e : Ev) : Ev := (e.1.take 60, e.2.1.take 60, e.2.2.1, (e.2.2.2.take 10).map fewF)
theorem s_Few2 {s : List UInt8} {H : List Entry} (hs : s.length ≤ 9223372036854775807) : Pure AP n_trystlaw02_Few [.str s] H (.str (s.take 60)) := by
  intro K hK
  refine a_trystlaw02_Few fun hw => ?_
  by_cases h : 60 < s.length
  · simp (disch := first | omega | (simp only [go_sem, push_cast, and_true] <;> omega) | fail) only [go_sem, c_trystlaw02_Few]
    refine fin_tmp0 hw ?_ (fin_eq hK ?_)
    · simp (disch := first | omega | (simp only [go_sem, push_cast, and_true] <;> omega) | fail) only [go_sem]
    · simp (disch := first | omega | (simp only [go_sem, push_cast, and_true] <;> omega) | fail) only [go_sem]
  · simp (disch := first | omega | (simp only [go_sem, push_cast, and_true] <;> omega) | fail) only [go_sem, c_trystlaw02_Few]
    refine fin_tmp0 hw ?_ (fin_eq hK ?_)
    · simp (disch := first | omega | (simp only [go_sem, push_cast, and_true] <;> omega) | fail) only [go_sem]
    · simp (disch := first | omega | (simp only [go_sem, push_cast, and_true] <;> omega) | fail) only [go_sem, List.take_of_length_le (show s.length ≤ 60 by omega)]
theorem s_Few3 {v : Vl} {H : List Entry} (hs : v.2.2.length ≤ 9223372036854775807) : Pure AP n_trystlaw03_Few [vlV v] H (vlV (fewV v)) := by
  intro K hK
  refine a_trystlaw03_Few fun hw => ?_
  by_cases h : 70 < v.2.2.length
  · simp (disch := first | omega | (simp only [go_sem, push_cast, and_true] <;> omega) | fail) only [go_sem, c_trystlaw03_Few]
    refine fin_res hw ?_ (fin_eq hK ?_)
    · simp (disch := first | omega | (simp only [go_sem, push_cast, and_true] <;> omega) | fail) only [go_sem]
    · simp [fewV, vlV, oneV]
  · simp (disch := first | omega | (simp only [go_sem, push_cast, and_true] <;> omega) | fail) only [go_sem, c_trystlaw03_Few]
    refine fin_res hw ?_ (fin_eq hK ?_)
    · simp (disch := first | omega | (simp only [go_sem, push_cast, and_true] <;> omega) | fail) only [go_sem]
    · simp [fewV, vlV, oneV, List.take_of_length_le (show v.2.2.length ≤ 70 by omega)]
theorem getD_mem' {α : Type} [Inhabited α] {X : List α} {i : Nat} (h : i < X.length) : X.getD i default ∈ X := by simp [h]
def evOk (e : Ev) : Prop := e.1.length ≤ 9223372036854775807 ∧ e.2.1.length ≤ 9223372036854775807 ∧ e.2.2.2.length ≤ 9223372036854775807 ∧ ∀ f ∈ e.2.2.2, f.1.length ≤ 9223372036854775807 ∧ f.2.2.2.length ≤ 9223372036854775807
theorem s_Few4 {e : Ev} {H : List Entry} (he : evOk e) : Pure AP n_trystlaw04_Few [evV e] H (evV (fewE e)) := by
  intro K hK
  refine a_trystlaw04_Few fun hw => ?_
  obtain ⟨h1, h2, h3, h4⟩ := he
  simp (disch := first | omega | (simp only [go_sem, push_cast, and_true] <;> omega) | fail) only [go_sem, c_trystlaw04_Few]
  refine Pure.pcall (fun H => s_Few2 h1) ?_
  simp (disch := first | omega | (simp only [go_sem, push_cast, and_true] <;> omega) | fail) only [go_sem]
  refine Pure.pcall (fun H => s_Few2 h2) ?_
  simp (disch := first | omega | (simp only [go_sem, push_cast, and_true] <;> omega) | fail) only [go_sem]
  have key : ∀ i, i < e.2.2.2.length → (e.2.2.2.take i).map fewF ++ [fewF (e.2.2.2.getD i default)] = (e.2.2.2.take (i + 1)).map fewF := fun i hi => by
    rw [List.take_add_one, List.map_append]
    simp [hi]
  refine loop_adoptB (H := H) (t := [_, _, _]) 2 3 66 4 rfl rfl ?_
  simp (disch := first | omega | (simp only [go_sem, push_cast, and_true] <;> omega) | fail) only [go_sem]
  refine loop_in (fun m e' H' => ∃ i : Nat, m = 10 - i ∧ e' = slots 0 46 [(1, .ptr H.length 0), (2, .ptr (H.length + 1) 0), (3, .ptr (H.length + 2) 0), (4, .int .i64 (i : Int))] ∧ H' = H ++ [.box [.str e.1, .str e.2.1, .int .u64 e.2.2.1, .sl 4 (e.2.2.2.map fdV)], .box [.str [], .str [], .int .u64 0, .nilsl], .box [.str (e.1.take 60), .str (e.2.1.take 60), .int .u64 e.2.2.1, .own (H.length + 3) i], .row 66 4 (((e.2.2.2.take i).map fewF).map fdV)] ∧ i ≤ e.2.2.2.length ∧ i ≤ 10) (n := 10) ⟨0, rfl, rfl, rfl, by omega, by omega⟩ (by first | omega | (simp only [go_sem, push_cast] <;> omega)) ?_ ?_ ?_
  · simp (disch := first | (simp only [go_sem] <;> omega) | fail) only [go_sem, x_eLeS, x_hLeS, Int.natCast_zero, Int.natCast_add, Int.natCast_one]
  · exact hLe_app hw (by first | omega | (simp only [go_sem, push_cast] <;> omega)) (by simp (disch := first | (simp only [go_sem] <;> omega) | fail) only [go_sem, x_eLeS, x_hLeS, Int.natCast_zero, Int.natCast_add, Int.natCast_one])
  · rintro J hJ m e' H' ⟨i, rfl, rfl, rfl, hi1, hi2⟩
    have hl : ((e.2.2.2.take i).map fewF).length = i := by simp; omega
    by_cases hlt : (i : Int) < e.2.2.2.length
    · by_cases h10 : (i : Int) < 10
      · have hf := h4 _ (getD_mem' (X := e.2.2.2) (i := i) (by omega))
        simp (disch := first | omega | (simp only [go_sem, push_cast, and_true] <;> omega) | fail) only [go_sem]
        refine (s_Few2 hf.1).dcall ?_
        simp (disch := first | omega | (simp only [go_sem, push_cast, and_true] <;> omega) | fail) only [go_sem]
        refine (s_Few3 (v := (e.2.2.2.getD i default).2) hf.2).dcall ?_
        have e2 : ((e.2.2.2.take i).map fewF).map fdV ++ [.agg [.str ((e.2.2.2.getD i default).1.take 60), .bool (e.2.2.2.getD i default).2.1, .int .i64 (e.2.2.2.getD i default).2.2.1, .str ((e.2.2.2.getD i default).2.2.2.take 70)]] = ((e.2.2.2.take (i + 1)).map fewF).map fdV := by
          rw [← key i (by omega), List.map_append]; rfl
        simp (disch := first | omega | (simp only [go_sem, push_cast, and_true] <;> omega) | fail) only [go_sem, fewV, hl, e2]
        refine round_end (hJ _ _ _ ⟨i + 1, rfl, rfl, rfl, by omega, by omega⟩) (by omega) (by first | omega | (simp only [go_sem, push_cast] <;> omega)) ?_ ?_
        · simp (disch := first | (simp only [go_sem] <;> omega) | fail) only [go_sem, x_eLeS, x_hLeS, Int.natCast_zero, Int.natCast_add, Int.natCast_one]
        · exact hLe_app hw (by first | omega | (simp only [go_sem, push_cast] <;> omega)) (by simp (disch := first | (simp only [go_sem] <;> omega) | fail) only [go_sem, x_eLeS, x_hLeS, Int.natCast_zero, Int.natCast_add, Int.natCast_one])
      · have hi : i = 10 := by omega
        subst hi
        simp (disch := first | omega | (simp only [go_sem, push_cast, and_true] <;> omega) | fail) only [go_sem]
        refine end_frz 0 ?_
        simp (disch := first | omega | (simp only [go_sem, push_cast, and_true] <;> omega) | fail) only [go_sem, fz, fzsW, fzRow, hl, List.length_map, if_true]
        refine fin_res hw ?_ (fin_eq hK ?_)
        · simp (disch := first | omega | (simp only [go_sem, push_cast, and_true] <;> omega) | fail) only [go_sem]
        · simp [fewE, evV, oneV]
    · have hi : i = e.2.2.2.length := by omega
      subst hi
      simp (disch := first | omega | (simp only [go_sem, push_cast, and_true] <;> omega) | fail) only [go_sem]
      refine end_frz 0 ?_
      simp (disch := first | omega | (simp only [go_sem, push_cast, and_true] <;> omega) | fail) only [go_sem, fz, fzsW, fzRow, hl, List.length_map, if_true]
      refine fin_res hw ?_ (fin_eq hK ?_)
      · simp (disch := first | omega | (simp only [go_sem, push_cast, and_true] <;> omega) | fail) only [go_sem]
      · have : e.2.2.2.take 10 = e.2.2.2 := List.take_of_length_le hi2
        simp [fewE, evV, oneV, this]
end Go.Av
