/- A part of a way to reckon what a Go program does without its memory (T1). -/
import Derived.Test.YtgeiicchkfpanaaQ1
namespace Go.Av
open Go
set_option autoImplicit false
set_option linter.all false
theorem wk_frzB {n0 : Nat} {f : K1} {e : List V} {H t : List Entry} {cs : List V} (i : Nat) (ht : t[i]? = some (.box cs)) (hk : (fzsW (fz 8) (H ++ t) cs).2[H.length + i]? = some (.box cs))
    (h : WkP n0 f e ((fzsW (fz 8) (H ++ t) cs).2.set (H.length + i) (.box (fzsW (fz 8) (H ++ t) cs).1))) : WkP n0 f e (H ++ t) :=
  wk_wk (.frzB (H.length + i) (by rw [List.getElem?_append_right (Nat.le_add_right _ _)]; simpa using ht) hk) h
/-! ### Stage 12: a topic -/
abbrev Tp := List UInt8 × Int × List (List UInt8)
def stV (s : List UInt8) : V := .str s
@[go_sem] theorem stV_def (s : List UInt8) : stV s = .str s := (rfl)
def tpV (t : Tp) : V := .agg [.str t.1, .int .i64 t.2.1, .sl 1 (t.2.2.map stV)]
@[go_sem] theorem tpV_def (t : Tp) : tpV t = .agg [.str t.1, .int .i64 t.2.1, .sl 1 (t.2.2.map stV)] := (rfl)
def fewT (t : Tp) : Tp := (t.1.take 60, t.2.1, (t.2.2.take 101).map (·.take 900))
def fewTs (X : List Tp) : List Tp := (X.take 21).map fewT
abbrev tpOk (t : Tp) : Prop := t.1.length ≤ 9223372036854775807 ∧ t.2.2.length ≤ 9223372036854775807 ∧ ∀ s ∈ t.2.2, s.length ≤ 9223372036854775807
theorem s_FewTs {X : List Tp} {H : List Entry} (hX : X.length ≤ 9223372036854775807) (hx : ∀ x ∈ X, tpOk x) : Pure AP n_trystlaw12_Few [.sl 3 (X.map tpV)] H (.sl 3 ((fewTs X).map tpV)) := by
  intro K hK
  refine k_trystlaw12_Few.callw [1, 1, 0, 1, 0, 0, 1, 0, 0, 1, 1] rfl fun hw => ?_
  simp (disch := first | omega | (simp only [go_sem, push_cast, and_true] <;> omega) | fail) only [go_sem, c_trystlaw12_Few]
  refine loop_adopt 3 45 3 rfl ?_
  have hl : ∀ i : Nat, i ≤ X.length → (((X.take i).map fewT).map tpV).length = i := fun i hi => by simp; omega
  simp (disch := first | omega | (simp only [go_sem, push_cast, and_true] <;> omega) | fail) only [go_sem]
  refine loop_in (fun m e' H' => ∃ i : Nat, m = 21 - i ∧ e' = slots 0 68 [(0, .sl 3 (X.map tpV)), (2, .nilsl), (3, .own H.length i), (4, .int .i64 (i : Int))] ∧ H' = H ++ [.row 45 3 (((X.take i).map fewT).map tpV)] ∧ i ≤ X.length ∧ i ≤ 21) (n := 21) ⟨0, rfl, rfl, rfl, by omega, by omega⟩ (by first | omega | (simp only [go_sem, push_cast] <;> omega)) ?_ ?_ ?_
  · simp (disch := first | (simp only [go_sem] <;> omega) | fail) only [go_sem, x_eLeS, x_hLeS, Int.natCast_zero, Int.natCast_add, Int.natCast_one]
  · simp only [List.take_zero, List.map_nil]
    exact hLe_app hw (by first | omega | (simp only [go_sem, push_cast] <;> omega)) (by simp (disch := first | (simp only [go_sem] <;> omega) | fail) only [go_sem, x_eLeS, x_hLeS, Int.natCast_zero, Int.natCast_add, Int.natCast_one])
  · rintro J hJ m e' H' ⟨i, rfl, rfl, rfl, hi1, hi2⟩
    have hli := hl i hi1
    by_cases hlt : (i : Int) < X.length
    rotate_left
    · have hi : i = X.length := by omega
      subst hi
      have : X.take 21 = X := List.take_of_length_le hi2
      rw [List.take_length] at hli ⊢
      simp (disch := first | omega | (simp only [go_sem, push_cast, and_true] <;> omega) | fail) only [go_sem]
      refine wk_own (H := H) 2 0 rfl rfl rfl hli ?_
      refine fin_tmp hw ?_ (fin_eq hK ?_)
      · simp (disch := first | omega | (simp only [go_sem, push_cast, and_true] <;> omega) | fail) only [go_sem]
      · simp (disch := first | omega | (simp only [go_sem, push_cast, and_true] <;> omega) | fail) only [go_sem, fewTs, this]
    by_cases h10 : (i : Int) < 21
    rotate_left
    · have hi : i = 21 := by omega
      subst hi
      simp (disch := first | omega | (simp only [go_sem, push_cast, and_true] <;> omega) | fail) only [go_sem]
      refine wk_own (H := H) 2 0 rfl rfl rfl hli ?_
      refine fin_tmp hw ?_ (fin_eq hK ?_)
      · simp (disch := first | omega | (simp only [go_sem, push_cast, and_true] <;> omega) | fail) only [go_sem]
      · simp (disch := first | omega | (simp only [go_sem, push_cast, and_true] <;> omega) | fail) only [go_sem, fewTs]
    obtain ⟨h1, h2, h3⟩ := hx _ (getD_mem (X := X) (i := i) (by omega))
    generalize hD : X.getD i default = D at *
    simp (disch := first | omega | (simp only [go_sem, push_cast, and_true] <;> omega) | fail) only [go_sem, hD]
    refine Pure.pcall (fun H => s_Few2 h1) ?_
    simp (disch := first | omega | (simp only [go_sem, push_cast, and_true] <;> omega) | fail) only [go_sem, hD]
    refine loop_adoptB (H := H) (t := [_, _]) 1 2 9 1 rfl rfl ?_
    have hll : ∀ k : Nat, k ≤ D.2.2.length → (((D.2.2.take k).map (·.take 900)).map stV).length = k := fun k hk => by simp; omega
    simp (disch := first | omega | (simp only [go_sem, push_cast, and_true] <;> omega) | fail) only [go_sem]
    refine loop_in (fun m e' H' => ∃ k : Nat, m = 101 - k ∧ e' = slots 0 68 [(0, .sl 3 (X.map tpV)), (2, .nilsl), (3, .own H.length i), (4, .int .i64 (i : Int)), (5, .ptr (H.length + 1) 0), (6, .int .i64 (k : Int))] ∧ H' = H ++ [.row 45 3 (((X.take i).map fewT).map tpV), .box [.str (D.1.take 60), .int .i64 D.2.1, .own (H.length + 2) k], .row 9 1 (((D.2.2.take k).map (·.take 900)).map stV)] ∧ k ≤ D.2.2.length ∧ k ≤ 101) (n := 101) ⟨0, rfl, rfl, rfl, by omega, by omega⟩ (by first | omega | (simp only [go_sem, push_cast] <;> omega)) ?_ ?_ ?_
    · simp (disch := first | (simp only [go_sem] <;> omega) | fail) only [go_sem, x_eLeS, x_hLeS, Int.natCast_zero, Int.natCast_add, Int.natCast_one]
    · simp only [List.take_zero, List.map_nil]
      refine hLe_app hw (by simp) ?_
      simp (disch := first | (simp only [go_sem] <;> omega) | fail) only [go_sem, x_eLeS, x_hLeS, Int.natCast_zero, Int.natCast_add, Int.natCast_one]
    · rintro J2 hJ2 m e' H' ⟨k, rfl, rfl, rfl, hk1, hk2⟩
      have hlk := hll k hk1
      by_cases hc : (k : Int) < D.2.2.length ∧ (k : Int) < 101
      · have hs3 := h3 _ (getD_mem (X := D.2.2) (i := k) (by omega))
        have hnx := hJ2 (101 - (k + 1)) _ _ ⟨k + 1, rfl, rfl, rfl, by omega, by omega⟩
        have e2 : ((D.2.2.take k).map (·.take 900)).map stV ++ [.str ((D.2.2.getD k default).take 900)] = ((D.2.2.take (k + 1)).map (·.take 900)).map stV := by
          rw [getD_take (X := D.2.2) (i := k) (by omega)]; simp [stV]
        clear hJ hJ2
        obtain ⟨c1, c2⟩ := hc
        by_cases h9 : 900 < (D.2.2.getD k default).length
        · simp (disch := first | omega | (simp only [go_sem, push_cast, and_true] <;> omega) | fail) only [go_sem, hD, hlk]
          rw [e2]
          refine round_end hnx (by omega) (by first | omega | (simp only [go_sem, push_cast] <;> omega)) ?_ ?_
          · simp (disch := first | (simp only [go_sem] <;> omega) | fail) only [go_sem, x_eLeS, x_hLeS, Int.natCast_zero, Int.natCast_add, Int.natCast_one]
          · refine hLe_app hw (by simp) ?_
            simp (disch := first | (simp only [go_sem] <;> omega) | fail) only [go_sem, x_eLeS, x_hLeS, Int.natCast_zero, Int.natCast_add, Int.natCast_one]
        · have e3 : (D.2.2.getD k default).take 900 = D.2.2.getD k default := List.take_of_length_le (by omega)
          rw [e3] at e2
          simp (disch := first | omega | (simp only [go_sem, push_cast, and_true] <;> omega) | fail) only [go_sem, hD, hlk]
          rw [e2]
          refine round_end hnx (by omega) (by first | omega | (simp only [go_sem, push_cast] <;> omega)) ?_ ?_
          · simp (disch := first | (simp only [go_sem] <;> omega) | fail) only [go_sem, x_eLeS, x_hLeS, Int.natCast_zero, Int.natCast_add, Int.natCast_one]
          · refine hLe_app hw (by simp) ?_
            simp (disch := first | (simp only [go_sem] <;> omega) | fail) only [go_sem, x_eLeS, x_hLeS, Int.natCast_zero, Int.natCast_add, Int.natCast_one]
      · clear hJ2
        have hkk : (D.2.2.take k).map (·.take 900) = (fewT D).2.2 := by
          simp only [fewT]
          by_cases c1 : k < D.2.2.length
          · have : k = 101 := by omega
            rw [this]
          · have : k = D.2.2.length := by omega
            rw [this, List.take_length, List.take_of_length_le (by omega)]
        have e4 : ((X.take i).map fewT).map tpV ++ [.agg [.str (D.1.take 60), .int .i64 D.2.1, .sl 1 ((fewT D).2.2.map stV)]] = ((X.take (i + 1)).map fewT).map tpV := by
          rw [getD_take (X := X) (i := i) (by omega), hD]; simp [fewT, tpV]
        have hnx := hJ (21 - (i + 1)) _ _ ⟨i + 1, rfl, rfl, rfl, by omega, by omega⟩
        clear hJ
        rw [hkk] at hlk ⊢
        have hfin : ∀ {Q : Prop}, Q → Q := fun h => h
        by_cases c1 : (k : Int) < D.2.2.length
        · have c2 : ¬ (k : Int) < 101 := fun h => hc ⟨c1, h⟩
          simp (disch := first | omega | (simp only [go_sem, push_cast, and_true] <;> omega) | fail) only [go_sem, hD]
          refine wk_frzB (H := H) 1 rfl ?_ ?_
          · simp (disch := first | omega | (simp only [go_sem, push_cast, and_true] <;> omega) | fail) only [go_sem, fz, fzsW, fzRow, List.length_map, if_true, hlk]
          · simp (disch := first | omega | (simp only [go_sem, push_cast, and_true] <;> omega) | fail) only [go_sem, fz, fzsW, fzRow, List.length_map, if_true, hlk]
            refine wk_refl ?_
            simp (disch := first | omega | (simp only [go_sem, push_cast, and_true] <;> omega) | fail) only [go_sem, e4, hli]
            refine round_end hnx (by omega) (by first | omega | (simp only [go_sem, push_cast] <;> omega)) ?_ ?_
            · simp (disch := first | (simp only [go_sem] <;> omega) | fail) only [go_sem, x_eLeS, x_hLeS, Int.natCast_zero, Int.natCast_add, Int.natCast_one]
            · refine hLe_app hw (by simp) ?_
              simp (disch := first | (simp only [go_sem] <;> omega) | fail) only [go_sem, x_eLeS, x_hLeS, Int.natCast_zero, Int.natCast_add, Int.natCast_one]
        · simp (disch := first | omega | (simp only [go_sem, push_cast, and_true] <;> omega) | fail) only [go_sem, hD]
          refine wk_frzB (H := H) 1 rfl ?_ ?_
          · simp (disch := first | omega | (simp only [go_sem, push_cast, and_true] <;> omega) | fail) only [go_sem, fz, fzsW, fzRow, List.length_map, if_true, hlk]
          · simp (disch := first | omega | (simp only [go_sem, push_cast, and_true] <;> omega) | fail) only [go_sem, fz, fzsW, fzRow, List.length_map, if_true, hlk]
            refine wk_refl ?_
            simp (disch := first | omega | (simp only [go_sem, push_cast, and_true] <;> omega) | fail) only [go_sem, e4, hli]
            refine round_end hnx (by omega) (by first | omega | (simp only [go_sem, push_cast] <;> omega)) ?_ ?_
            · simp (disch := first | (simp only [go_sem] <;> omega) | fail) only [go_sem, x_eLeS, x_hLeS, Int.natCast_zero, Int.natCast_add, Int.natCast_one]
            · refine hLe_app hw (by simp) ?_
              simp (disch := first | (simp only [go_sem] <;> omega) | fail) only [go_sem, x_eLeS, x_hLeS, Int.natCast_zero, Int.natCast_add, Int.natCast_one]
end Go.Av
namespace Go.Av
open Go
set_option autoImplicit false
set_option linter.all false

theorem s_IndexFP {X : List Tp} {f : FuncId} {a b : List V} {H : List Entry} {p : Tp → Bool} (hX : X.length ≤ 1000000) (hp : ∀ x ∈ X, Pure AP f (a ++ ([tpV x] ++ b)) H (.bool (p x))) (hi : idsLts H.length a = true) (hj : idsLts H.length b = true) :
    Pure AP n_slices_IndexFunc_api_Topic_api_Topic [.sl 3 (X.map tpV), .fn f a b] H (.int .i64 (idx p X)) := by
  intro K hK
  refine a_slices_IndexFunc_api_Topic_api_Topic fun hw => ?_
  simp (disch := first | omega | (simp only [go_sem, push_cast, and_true] <;> omega) | fail) only [go_sem, c_slices_IndexFunc_api_Topic_api_Topic]
  refine loop_in (fun n e H' => ∃ i : Nat, n = X.length - i ∧ e = slots 0 19 [(0, .sl 3 (X.map tpV)), (1, .fn f a b), (7, .int .i64 X.length), (8, .int .i64 i)] ∧ H' = H ∧ i ≤ X.length ∧ ∀ j < i, p (X.getD j default) = false) (n := X.length) ⟨0, by omega, rfl, rfl, by omega, fun j hj => by omega⟩ (Nat.le_refl _) ?_ hw ?_
  · simp (disch := first | (simp only [go_sem, hi, hj] <;> omega) | fail) only [go_sem, x_eLeS, x_hLeS, Int.natCast_zero, Int.natCast_add, Int.natCast_one, hi, hj]
  · rintro J hJ n e H' ⟨i, rfl, rfl, rfl, hi1, hn⟩
    simp (disch := first | omega | (simp only [go_sem, push_cast, and_true] <;> omega) | fail) only [go_sem]
    by_cases h : (i : Int) < X.length
    · simp (disch := first | omega | (simp only [go_sem, push_cast, and_true] <;> omega) | fail) only [go_sem]
      refine hp _ (getD_mem (by omega)) _ ?_
      simp (disch := first | omega | (simp only [go_sem, push_cast, and_true] <;> omega) | fail) only [go_sem]
      cases hpx : p (X.getD i default)
      · simp (disch := first | omega | (simp only [go_sem, push_cast, and_true] <;> omega) | fail) only [go_sem]
        refine round_end (hJ _ _ _ ⟨i + 1, rfl, rfl, rfl, by omega, fun j hj => ?_⟩) (by omega) (Nat.le_refl _) ?_ hw
        · rcases Nat.lt_succ_iff_lt_or_eq.1 hj with k | rfl
          · exact hn j k
          · exact hpx
        · simp (disch := first | (simp only [go_sem, hi, hj] <;> omega) | fail) only [go_sem, x_eLeS, x_hLeS, Int.natCast_zero, Int.natCast_add, Int.natCast_one, hi, hj]
      · simp (disch := first | omega | (simp only [go_sem, push_cast, and_true] <;> omega) | fail) only [go_sem]
        refine fin_tmp0 hw ?_ (fin_eq hK ?_)
        · simp (disch := first | omega | (simp only [go_sem, push_cast, and_true] <;> omega) | fail) only [go_sem]
        · simp (disch := first | omega | (simp only [go_sem, push_cast, and_true] <;> omega) | fail) only [go_sem]
          rw [← idx_some (by omega) hpx hn]
    · simp (disch := first | omega | (simp only [go_sem, push_cast, and_true] <;> omega) | fail) only [go_sem]
      refine fin_tmp0 hw ?_ (fin_eq hK ?_)
      · simp (disch := first | omega | (simp only [go_sem, push_cast, and_true] <;> omega) | fail) only [go_sem]
      · simp (disch := first | omega | (simp only [go_sem, push_cast, and_true] <;> omega) | fail) only [go_sem]
        rw [← idx_none (p := p) (fun j hj => hn j (by omega))]
theorem s_ContainsFP {X : List Tp} {f : FuncId} {a b : List V} {H : List Entry} {p : Tp → Bool} (hX : X.length ≤ 1000000) (hp : ∀ x ∈ X, Pure AP f (a ++ ([tpV x] ++ b)) H (.bool (p x))) (hi : idsLts H.length a = true) (hj : idsLts H.length b = true) :
    Pure AP n_slices_ContainsFunc_api_Topic_api_Topic [.sl 3 (X.map tpV), .fn f a b] H (.bool (X.any p)) := by
  intro K hK
  refine a_slices_ContainsFunc_api_Topic_api_Topic fun hw => ?_
  simp (disch := first | omega | (simp only [go_sem, push_cast, and_true] <;> omega) | fail) only [go_sem, c_slices_ContainsFunc_api_Topic_api_Topic]
  refine s_IndexFP hX hp hi hj _ ?_
  simp (disch := first | omega | (simp only [go_sem, push_cast, and_true] <;> omega) | fail) only [go_sem]
  refine fin_tmp0 hw ?_ (fin_eq hK ?_)
  · simp (disch := first | omega | (simp only [go_sem, push_cast, and_true] <;> omega) | fail) only [go_sem]
  · simp (disch := first | omega | (simp only [go_sem, push_cast, and_true] <;> omega) | fail) only [go_sem]
    rw [idx_any]
def RisP (o : Tp → Tp → Int) (X : List Tp) : Prop := ∀ i : Nat, i + 1 < X.length → o (X.getD i default) (X.getD (i + 1) default) < 0
noncomputable def risBP (o : Tp → Tp → Int) (X : List Tp) : Bool := @decide (RisP o X) (Classical.propDecidable _)
theorem risBP_true {o : Tp → Tp → Int} {X : List Tp} (h : RisP o X) : risBP o X = true := by simp [risBP, h]
theorem risBP_false {o : Tp → Tp → Int} {X : List Tp} (h : ¬ RisP o X) : risBP o X = false := by simp [risBP, h]
theorem risBP_of {o : Tp → Tp → Int} {X : List Tp} (h : risBP o X = true) : RisP o X := by
  by_cases hr : RisP o X
  · exact hr
  · rw [risBP_false hr] at h; cases h
theorem s_RisesP {X : List Tp} {f : FuncId} {a b : List V} {o : Tp → Tp → Int} {H : List Entry} (hX : X.length ≤ 1000000) (ho : ∀ x ∈ X, ∀ y ∈ X, Pure AP f (a ++ ([tpV x, tpV y] ++ b)) H (.int .i64 (o x y))) (hi : idsLts H.length a = true) (hj : idsLts H.length b = true) : Pure AP n_list_Rises_api_Topic [.sl 3 (X.map tpV), .fn f a b] H (.bool (risBP o X)) := by
  intro K hK
  refine a_list_Rises_api_Topic fun hw => ?_
  simp (disch := first | omega | (simp only [go_sem, push_cast, and_true] <;> omega) | fail) only [go_sem, c_list_Rises_api_Topic]
  refine loop_in (fun m e H' => ∃ i : Nat, m = X.length - i ∧ e = slots 0 24 [(0, .sl 3 (X.map tpV)), (1, .fn f a b), (5, .int .i64 ((i : Int) + 1))] ∧ H' = H ∧ i ≤ X.length ∧ ∀ j < i, j + 1 < X.length → o (X.getD j default) (X.getD (j + 1) default) < 0) (n := X.length) ⟨0, rfl, rfl, rfl, by omega, fun j hj => by omega⟩ (Nat.le_refl _) ?_ hw ?_
  · simp (disch := first | (simp only [go_sem, hi, hj] <;> omega) | fail) only [go_sem, x_eLeS, x_hLeS, Int.natCast_zero, Int.natCast_add, Int.natCast_one, hi, hj]
  · rintro J hJ m e H' ⟨i, rfl, rfl, rfl, hi1, hn⟩
    simp (disch := first | omega | (simp only [go_sem, push_cast, and_true] <;> omega) | fail) only [go_sem]
    by_cases h : (i : Int) + 1 < X.length
    · have e1 : ((i : Int) + 1).toNat = i + 1 := by omega
      have e2 : ((i : Int) + 1 - 1).toNat = i := by omega
      have hc : o (X.getD i default) (X.getD (i + 1) default) < 0 ∨ ¬ o (X.getD i default) (X.getD (i + 1) default) < 0 := by omega
      simp (disch := first | omega | (simp only [go_sem, push_cast, and_true] <;> omega) | fail) only [go_sem, e1, e2]
      refine (ho _ (getD_mem (X := X) (i := i) (by omega)) _ (getD_mem (X := X) (i := i + 1) (by omega))).dcall ?_
      rcases hc with hc | hc
      · simp (disch := first | omega | (simp only [go_sem, push_cast, and_true] <;> omega) | fail) only [go_sem]
        refine round_end (hJ _ _ _ ⟨i + 1, rfl, rfl, rfl, by omega, fun j hj => ?_⟩) (by omega) (Nat.le_refl _) ?_ hw
        · rcases Nat.lt_succ_iff_lt_or_eq.1 hj with k | rfl
          · exact hn j k
          · exact fun _ => hc
        · simp (disch := first | (simp only [go_sem, hi, hj] <;> omega) | fail) only [go_sem, x_eLeS, x_hLeS, Int.natCast_zero, Int.natCast_add, Int.natCast_one, hi, hj]
      · have hr : risBP o X = false := risBP_false fun hr => hc (hr i (by omega))
        simp (disch := first | omega | (simp only [go_sem, push_cast, and_true] <;> omega) | fail) only [go_sem]
        refine fin_tmp0 hw ?_ (fin_eq hK ?_)
        · simp (disch := first | omega | (simp only [go_sem, push_cast, and_true] <;> omega) | fail) only [go_sem]
        · simp (disch := first | omega | (simp only [go_sem, push_cast, and_true] <;> omega) | fail) only [go_sem, hr]
    · have hr : risBP o X = true := by
        exact risBP_true fun j hj => hn j (by omega) hj
      simp (disch := first | omega | (simp only [go_sem, push_cast, and_true] <;> omega) | fail) only [go_sem]
      refine fin_tmp0 hw ?_ (fin_eq hK ?_)
      · simp (disch := first | omega | (simp only [go_sem, push_cast, and_true] <;> omega) | fail) only [go_sem]
      · simp (disch := first | omega | (simp only [go_sem, push_cast, and_true] <;> omega) | fail) only [go_sem, hr]
end Go.Av
namespace Go.Av
open Go
set_option autoImplicit false
set_option linter.all false

theorem s_IndexFS {X : List (List UInt8)} {f : FuncId} {a b : List V} {H : List Entry} {p : (List UInt8) → Bool} (hX : X.length ≤ 1000000) (hp : ∀ x ∈ X, Pure AP f (a ++ ([stV x] ++ b)) H (.bool (p x))) (hi : idsLts H.length a = true) (hj : idsLts H.length b = true) :
    Pure AP n_slices_IndexFunc_string_string [.sl 1 (X.map stV), .fn f a b] H (.int .i64 (idx p X)) := by
  intro K hK
  refine a_slices_IndexFunc_string_string fun hw => ?_
  simp (disch := first | omega | (simp only [go_sem, push_cast, and_true] <;> omega) | fail) only [go_sem, c_slices_IndexFunc_string_string]
  refine loop_in (fun n e H' => ∃ i : Nat, n = X.length - i ∧ e = slots 0 19 [(0, .sl 1 (X.map stV)), (1, .fn f a b), (7, .int .i64 X.length), (8, .int .i64 i)] ∧ H' = H ∧ i ≤ X.length ∧ ∀ j < i, p (X.getD j default) = false) (n := X.length) ⟨0, by omega, rfl, rfl, by omega, fun j hj => by omega⟩ (Nat.le_refl _) ?_ hw ?_
  · simp (disch := first | (simp only [go_sem, hi, hj] <;> omega) | fail) only [go_sem, x_eLeS, x_hLeS, Int.natCast_zero, Int.natCast_add, Int.natCast_one, hi, hj]
  · rintro J hJ n e H' ⟨i, rfl, rfl, rfl, hi1, hn⟩
    simp (disch := first | omega | (simp only [go_sem, push_cast, and_true] <;> omega) | fail) only [go_sem]
    by_cases h : (i : Int) < X.length
    · simp (disch := first | omega | (simp only [go_sem, push_cast, and_true] <;> omega) | fail) only [go_sem]
      refine hp _ (getD_mem (by omega)) _ ?_
      simp (disch := first | omega | (simp only [go_sem, push_cast, and_true] <;> omega) | fail) only [go_sem]
      cases hpx : p (X.getD i default)
      · simp (disch := first | omega | (simp only [go_sem, push_cast, and_true] <;> omega) | fail) only [go_sem]
        refine round_end (hJ _ _ _ ⟨i + 1, rfl, rfl, rfl, by omega, fun j hj => ?_⟩) (by omega) (Nat.le_refl _) ?_ hw
        · rcases Nat.lt_succ_iff_lt_or_eq.1 hj with k | rfl
          · exact hn j k
          · exact hpx
        · simp (disch := first | (simp only [go_sem, hi, hj] <;> omega) | fail) only [go_sem, x_eLeS, x_hLeS, Int.natCast_zero, Int.natCast_add, Int.natCast_one, hi, hj]
      · simp (disch := first | omega | (simp only [go_sem, push_cast, and_true] <;> omega) | fail) only [go_sem]
        refine fin_tmp0 hw ?_ (fin_eq hK ?_)
        · simp (disch := first | omega | (simp only [go_sem, push_cast, and_true] <;> omega) | fail) only [go_sem]
        · simp (disch := first | omega | (simp only [go_sem, push_cast, and_true] <;> omega) | fail) only [go_sem]
          rw [← idx_some (by omega) hpx hn]
    · simp (disch := first | omega | (simp only [go_sem, push_cast, and_true] <;> omega) | fail) only [go_sem]
      refine fin_tmp0 hw ?_ (fin_eq hK ?_)
      · simp (disch := first | omega | (simp only [go_sem, push_cast, and_true] <;> omega) | fail) only [go_sem]
      · simp (disch := first | omega | (simp only [go_sem, push_cast, and_true] <;> omega) | fail) only [go_sem]
        rw [← idx_none (p := p) (fun j hj => hn j (by omega))]
theorem s_ContainsFS {X : List (List UInt8)} {f : FuncId} {a b : List V} {H : List Entry} {p : (List UInt8) → Bool} (hX : X.length ≤ 1000000) (hp : ∀ x ∈ X, Pure AP f (a ++ ([stV x] ++ b)) H (.bool (p x))) (hi : idsLts H.length a = true) (hj : idsLts H.length b = true) :
    Pure AP n_slices_ContainsFunc_string_string [.sl 1 (X.map stV), .fn f a b] H (.bool (X.any p)) := by
  intro K hK
  refine a_slices_ContainsFunc_string_string fun hw => ?_
  simp (disch := first | omega | (simp only [go_sem, push_cast, and_true] <;> omega) | fail) only [go_sem, c_slices_ContainsFunc_string_string]
  refine s_IndexFS hX hp hi hj _ ?_
  simp (disch := first | omega | (simp only [go_sem, push_cast, and_true] <;> omega) | fail) only [go_sem]
  refine fin_tmp0 hw ?_ (fin_eq hK ?_)
  · simp (disch := first | omega | (simp only [go_sem, push_cast, and_true] <;> omega) | fail) only [go_sem]
  · simp (disch := first | omega | (simp only [go_sem, push_cast, and_true] <;> omega) | fail) only [go_sem]
    rw [idx_any]
end Go.Av
