/- A part of a way to reckon what a Go program does without its memory (P1). -/
import Derived.Test.YtoicgilcdlakkaaO9
namespace Go.Av
open Go
set_option autoImplicit false
set_option linter.all false
/-! ### The document's: Own, May, Find, With -/
theorem r_Own {x : Ot} {H : List Entry} (hx : otB x) : Pure AP n_trystref15_Own [otV x] H (.bool (ownB x)) := by
  intro K hK
  refine a_trystref15_Own fun hw => ?_
  obtain ⟨b1, b2, b3⟩ := hx
  by_cases h1 : 1 ≤ x.1
  rotate_left
  · have h1' : ¬ 0 < x.1 := by omega
    simp (disch := first | omega | (simp only [go_sem, push_cast, and_true] <;> omega) | fail) only [go_sem, c_trystref15_Own, h1', decide_false]
    refine fin_tmp hw ?_ (fin_eq hK ?_)
    · simp (disch := first | omega | (simp only [go_sem, push_cast, and_true] <;> omega) | fail) only [go_sem]
    · simp [oneV, nths, nth, ownB, h1]
  have h1' : 0 < x.1 := by omega
  simp (disch := first | omega | (simp only [go_sem, push_cast, and_true] <;> omega) | fail) only [go_sem, c_trystref15_Own, h1', decide_true]
  refine r_Field (s := x.2.1) (by omega) _ ?_
  cases h2 : fieldB x.2.1
  · simp (disch := first | omega | (simp only [go_sem, push_cast, and_true] <;> omega) | fail) only [go_sem]
    refine fin_tmp hw ?_ (fin_eq hK ?_)
    · simp (disch := first | omega | (simp only [go_sem, push_cast, and_true] <;> omega) | fail) only [go_sem]
    · simp [oneV, nths, nth, ownB, h2]
  by_cases h3 : 1 ≤ x.2.2.1.length
  rotate_left
  · simp (disch := first | omega | (simp only [go_sem, push_cast, and_true] <;> omega) | fail) only [go_sem]
    refine fin_tmp hw ?_ (fin_eq hK ?_)
    · simp (disch := first | omega | (simp only [go_sem, push_cast, and_true] <;> omega) | fail) only [go_sem]
    · simp [oneV, nths, nth, ownB, h3]
  by_cases h4 : x.2.2.1.length ≤ 30
  rotate_left
  · simp (disch := first | omega | (simp only [go_sem, push_cast, and_true] <;> omega) | fail) only [go_sem]
    refine fin_tmp hw ?_ (fin_eq hK ?_)
    · simp (disch := first | omega | (simp only [go_sem, push_cast, and_true] <;> omega) | fail) only [go_sem]
    · simp [oneV, nths, nth, ownB, h4]
  by_cases h5 : 0 ≤ x.2.2.2.1
  rotate_left
  · simp (disch := first | omega | (simp only [go_sem, push_cast, and_true] <;> omega) | fail) only [go_sem, h5, decide_false]
    refine fin_tmp hw ?_ (fin_eq hK ?_)
    · simp (disch := first | omega | (simp only [go_sem, push_cast, and_true] <;> omega) | fail) only [go_sem]
    · simp [oneV, nths, nth, ownB, h5]
  by_cases h6 : x.2.2.2.1 < 5
  rotate_left
  · have h6' : ¬ x.2.2.2.1 ≤ 4 := by omega
    simp (disch := first | omega | (simp only [go_sem, push_cast, and_true] <;> omega) | fail) only [go_sem, h5, h6', decide_true, decide_false]
    refine fin_tmp hw ?_ (fin_eq hK ?_)
    · simp (disch := first | omega | (simp only [go_sem, push_cast, and_true] <;> omega) | fail) only [go_sem]
    · simp [oneV, nths, nth, ownB, h6]
  have h6' : x.2.2.2.1 ≤ 4 := by omega
  by_cases h7 : 0 ≤ x.2.2.2.2
  rotate_left
  · simp (disch := first | omega | (simp only [go_sem, push_cast, and_true] <;> omega) | fail) only [go_sem, h5, h6', h7, decide_true, decide_false]
    refine fin_tmp hw ?_ (fin_eq hK ?_)
    · simp (disch := first | omega | (simp only [go_sem, push_cast, and_true] <;> omega) | fail) only [go_sem]
    · simp [oneV, nths, nth, ownB, timeB, h7]
  simp (disch := first | omega | (simp only [go_sem, push_cast, and_true] <;> omega) | fail) only [go_sem, h5, h6', h7, decide_true]
  refine fin_tmp hw ?_ (fin_eq hK ?_)
  · simp (disch := first | omega | (simp only [go_sem, push_cast, and_true] <;> omega) | fail) only [go_sem]
  · simp [oneV, nths, nth, ownB, timeB, h1, h2, h3, h4, h5, h6, h7]
def okO (X : List Ot) (i : Nat) : Prop := ∀ j < i, ownB (X.getD j default) = true ∧ (0 < j → (X.getD (j - 1) default).1 < (X.getD j default).1)
theorem chk_bad {X : List Ot} {i : Nat} (hi : i < X.length) (h : ¬ (ownB (X.getD i default) = true ∧ (0 < i → (X.getD (i - 1) default).1 < (X.getD i default).1))) : chkO X = false := by
  rw [← Bool.not_eq_true]
  intro hm
  obtain ⟨h1, h2, h3⟩ := chk_iff.1 hm
  exact h ⟨h2 _ (getD_mem hi), fun h0 => asc_lt h3 (by omega) hi⟩
theorem chk_ok {X : List Ot} (h : okO X X.length) : chkO X = decide ((X.length : Int) ≤ 100) := by
  by_cases hl : X.length ≤ 100
  · have : chkO X = true := by
      refine chk_iff.2 ⟨hl, fun x hx => ?_, ?_⟩
      · obtain ⟨i, hi, rfl⟩ := List.mem_iff_getElem.1 hx
        have := (h i hi).1
        simpa [hi] using this
      · refine ris_asc.1 fun i hi => cmpZ_lt.2 ?_
        have := (h (i + 1) hi).2 (by omega)
        simpa using this
    rw [this]
    simp
    omega
  · have : chkO X = false := by
      rw [← Bool.not_eq_true]
      exact fun k => hl (chk_iff.1 k).1
    rw [this]
    simp
    omega
theorem r_MayO {X : List Ot} {H : List Entry} (hX : osB X) : Pure AP n_trystref15_May [.sl 5 (X.map otV)] H (.bool (chkO X)) := by
  intro K hK
  refine a_trystref15_May fun hw => ?_
  have hl : X.length ≤ 101 := hX.1
  simp (disch := first | omega | (simp only [go_sem, push_cast, and_true] <;> omega) | fail) only [go_sem, c_trystref15_May]
  refine loop_in (fun m e' H' => ∃ i : Nat, m = X.length - i ∧ e' = slots 0 37 [(0, .sl 5 (X.map otV)), (3, .int .i64 (i : Int))] ∧ H' = H ∧ i ≤ X.length ∧ okO X i) (n := X.length) ⟨0, rfl, rfl, rfl, by omega, fun j hj => by omega⟩ (by first | omega | (simp only [go_sem, push_cast] <;> omega)) ?_ hw ?_
  · simp (disch := first | (simp only [go_sem] <;> omega) | fail) only [go_sem, x_eLeS, x_hLeS, Int.natCast_zero, Int.natCast_add, Int.natCast_one]
  · rintro J hJ m e' H' ⟨i, rfl, rfl, rfl, hi1, hok⟩
    by_cases h : (i : Int) < X.length
    · have hbad := chk_bad (X := X) (i := i) (by omega)
      have hm := hX.2 _ (getD_mem (X := X) (i := i) (by omega))
      simp (disch := first | omega | (simp only [go_sem, push_cast, and_true] <;> omega) | fail) only [go_sem]
      refine (r_Own (x := X.getD i default) hm).dcall ?_
      cases hb1 : ownB (X.getD i default)
      · simp (disch := first | omega | (simp only [go_sem, push_cast, and_true] <;> omega) | fail) only [go_sem, Bool.not_false]
        refine fin_tmp0 hw ?_ (fin_eq hK ?_)
        · simp (disch := first | omega | (simp only [go_sem, push_cast, and_true] <;> omega) | fail) only [go_sem]
        · simp (disch := first | omega | (simp only [go_sem, push_cast, and_true] <;> omega) | fail) only [go_sem, hbad (by rw [hb1]; simp)]
      simp (disch := first | omega | (simp only [go_sem, push_cast, and_true] <;> omega) | fail) only [go_sem, Bool.not_true]
      by_cases hi0 : i = 0
      · subst hi0
        simp (disch := first | omega | (simp only [go_sem, push_cast, and_true] <;> omega) | fail) only [go_sem]
        refine round_end (hJ _ _ _ ⟨1, rfl, rfl, rfl, by omega, fun j hj => ?_⟩) (by omega) (by first | omega | (simp only [go_sem, push_cast] <;> omega)) ?_ hw
        · obtain rfl : j = 0 := by omega
          exact ⟨hb1, fun h => by omega⟩
        · simp (disch := first | (simp only [go_sem] <;> omega) | fail) only [go_sem, x_eLeS, x_hLeS, Int.natCast_zero, Int.natCast_add, Int.natCast_one]
      · have hj1 : ((i : Int) - 1).toNat = i - 1 := by omega
        have hlt : i - 1 < X.length := by omega
        by_cases hb3 : (X.getD (i - 1) default).1 < (X.getD i default).1
        · simp (disch := first | omega | (simp only [go_sem, push_cast, and_true] <;> omega) | fail) only [go_sem, hj1]
          refine round_end (hJ _ _ _ ⟨i + 1, rfl, rfl, rfl, by omega, fun k hk => ?_⟩) (by omega) (by first | omega | (simp only [go_sem, push_cast] <;> omega)) ?_ hw
          · rcases Nat.lt_succ_iff_lt_or_eq.1 hk with hk | rfl
            · exact hok k hk
            · exact ⟨hb1, fun _ => hb3⟩
          · simp (disch := first | (simp only [go_sem] <;> omega) | fail) only [go_sem, x_eLeS, x_hLeS, Int.natCast_zero, Int.natCast_add, Int.natCast_one]
        · simp (disch := first | omega | (simp only [go_sem, push_cast, and_true] <;> omega) | fail) only [go_sem, hj1]
          refine fin_tmp0 hw ?_ (fin_eq hK ?_)
          · simp (disch := first | omega | (simp only [go_sem, push_cast, and_true] <;> omega) | fail) only [go_sem]
          · simp (disch := first | omega | (simp only [go_sem, push_cast, and_true] <;> omega) | fail) only [go_sem, hbad (fun k => hb3 (k.2 (by omega)))]
    · have hi : i = X.length := by omega
      subst hi
      have hF := chk_ok hok
      rw [hF] at hK
      simp (disch := first | omega | (simp only [go_sem, push_cast, and_true] <;> omega) | fail) only [go_sem]
      refine fin_tmp0 hw ?_ (fin_eq hK ?_)
      · simp (disch := first | omega | (simp only [go_sem, push_cast, and_true] <;> omega) | fail) only [go_sem]
      · simp (disch := first | omega | (simp only [go_sem, push_cast, and_true] <;> omega) | fail) only [go_sem]
theorem r_Find {X : List Ot} {n : Int} {H : List Entry} (hX : X.length ≤ 1000000) : Pure AP n_trystref15_Find [.sl 5 (X.map otV), .int .u64 n] H (.int .i64 (idx (isI n) X)) := by
  intro K hK
  refine a_trystref15_Find fun hw => ?_
  simp (disch := first | omega | (simp only [go_sem, push_cast, and_true] <;> omega) | fail) only [go_sem, c_trystref15_Find]
  refine loop_in (fun m e' H' => ∃ i : Nat, m = X.length - i ∧ e' = slots 0 20 [(0, .sl 5 (X.map otV)), (1, .int .u64 n), (5, .int .i64 (i : Int))] ∧ H' = H ∧ i ≤ X.length ∧ ∀ j < i, isI n (X.getD j default) = false) (n := X.length) ⟨0, rfl, rfl, rfl, by omega, fun j hj => by omega⟩ (by first | omega | (simp only [go_sem, push_cast] <;> omega)) ?_ hw ?_
  · simp (disch := first | (simp only [go_sem] <;> omega) | fail) only [go_sem, x_eLeS, x_hLeS, Int.natCast_zero, Int.natCast_add, Int.natCast_one]
  · rintro J hJ m e' H' ⟨i, rfl, rfl, rfl, hi1, hn⟩
    by_cases h : (i : Int) < X.length
    · by_cases hp : (X.getD i default).1 = n
      · simp (disch := first | omega | (simp only [go_sem, push_cast, and_true] <;> omega) | fail) only [go_sem, hp, decide_true]
        refine fin_tmp0 hw ?_ (fin_eq hK ?_)
        · simp (disch := first | omega | (simp only [go_sem, push_cast, and_true] <;> omega) | fail) only [go_sem]
        · simp (disch := first | omega | (simp only [go_sem, push_cast, and_true] <;> omega) | fail) only [go_sem]
          rw [idx_some (by omega) (by simpa [isI] using hp) hn]
      · simp (disch := first | omega | (simp only [go_sem, push_cast, and_true] <;> omega) | fail) only [go_sem, hp, decide_false]
        refine round_end (hJ _ _ _ ⟨i + 1, rfl, rfl, rfl, by omega, fun j hj => ?_⟩) (by omega) (by first | omega | (simp only [go_sem, push_cast] <;> omega)) ?_ hw
        · rcases Nat.lt_succ_iff_lt_or_eq.1 hj with k | rfl
          · exact hn j k
          · simpa [isI] using hp
        · simp (disch := first | (simp only [go_sem] <;> omega) | fail) only [go_sem, x_eLeS, x_hLeS, Int.natCast_zero, Int.natCast_add, Int.natCast_one]
    · simp (disch := first | omega | (simp only [go_sem, push_cast, and_true] <;> omega) | fail) only [go_sem]
      refine fin_tmp0 hw ?_ (fin_eq hK ?_)
      · simp (disch := first | omega | (simp only [go_sem, push_cast, and_true] <;> omega) | fail) only [go_sem]
      · simp (disch := first | omega | (simp only [go_sem, push_cast, and_true] <;> omega) | fail) only [go_sem]
        rw [idx_none (p := isI n) fun j hj => hn j (by omega)]
def befI (n : Int) (x : Ot) : Bool := decide (x.1 < n)
def withR (X : List Ot) (x : Ot) : List Ot := X.filter (befI x.1) ++ [x] ++ X.filter (aftI x.1)
theorem fil_step {X : List Ot} {p : Ot → Bool} {i : Nat} (hi : i < X.length) : (X.take (i + 1)).filter p = (X.take i).filter p ++ (if p (X.getD i default) = true then [X.getD i default] else []) := by
  rw [getD_take hi, List.filter_append, List.filter_cons, List.filter_nil]
theorem r_With {X : List Ot} {x : Ot} {H : List Entry} (hX : X.length ≤ 10000) : Pure AP n_trystref15_With [.sl 5 (X.map otV), otV x] H (.sl 5 ((withR X x).map otV)) := by
  intro K hK
  refine a_trystref15_With fun hw => ?_
  simp (disch := first | omega | (simp only [go_sem, push_cast, and_true] <;> omega) | fail) only [go_sem, c_trystref15_With]
  refine loop_adopt 5 26 5 rfl ?_
  have hfl : ∀ (p : Ot → Bool) (i : Nat), ((X.take i).filter p).length ≤ 10000 := fun p i => by
    have := List.length_filter_le p (X.take i)
    rw [List.length_take] at this
    omega
  simp (disch := first | omega | (simp only [go_sem, push_cast, and_true] <;> omega) | fail) only [go_sem]
  refine loop_in (fun m e' H' => ∃ i : Nat, m = X.length - i ∧ e' = slots 0 55 [(0, .sl 5 (X.map otV)), (3, .ptr H.length 0), (5, .own (H.length + 1) ((X.take i).filter (befI x.1)).length), (6, .int .i64 (i : Int))] ∧ H' = H ++ [.box [.int .u64 x.1, .str x.2.1, .sl 1 (x.2.2.1.map u64V), .int .i64 x.2.2.2.1, .int .i64 x.2.2.2.2], .row 26 5 (((X.take i).filter (befI x.1)).map otV)] ∧ i ≤ X.length) (n := X.length) ⟨0, rfl, rfl, rfl, by omega⟩ (by first | omega | (simp only [go_sem, push_cast] <;> omega)) ?_ ?_ ?_
  · simp (disch := first | (simp only [go_sem, List.take_zero, List.filter_nil, List.length_nil] <;> omega) | fail) only [go_sem, x_eLeS, x_hLeS, Int.natCast_zero, Int.natCast_add, Int.natCast_one, List.take_zero, List.filter_nil, List.length_nil]
  · simp only [List.take_zero, List.filter_nil, List.map_nil]
    exact hLe_app hw (by first | omega | (simp only [go_sem, push_cast] <;> omega)) (by simp (disch := first | (simp only [go_sem] <;> omega) | fail) only [go_sem, x_eLeS, x_hLeS, Int.natCast_zero, Int.natCast_add, Int.natCast_one])
  · rintro J hJ m e' H' ⟨i, rfl, rfl, rfl, hi1⟩
    have hli := hfl (befI x.1) i
    by_cases h : (i : Int) < X.length
    · have hs := fil_step (X := X) (p := befI x.1) (i := i) (by omega)
      have hnx := hJ _ _ _ ⟨i + 1, rfl, rfl, rfl, by omega⟩
      rw [hs] at hnx
      by_cases hp : (X.getD i default).1 < x.1
      · have e1 : ((X.take i).filter (befI x.1)).map otV ++ [otV (X.getD i default)] = ((X.take i).filter (befI x.1) ++ [X.getD i default]).map otV := by simp
        rw [if_pos (by simpa [befI] using hp)] at hnx
        rw [otV_def] at e1
        simp (disch := first | omega | (simp only [go_sem, push_cast, and_true] <;> omega) | fail) only [go_sem, hp, decide_true]
        rw [e1]
        refine round_end hnx (by omega) (by first | omega | (simp only [go_sem, push_cast] <;> omega)) ?_ ?_
        · simp (disch := first | (simp only [go_sem, List.length_append, List.length_cons, List.length_nil, Nat.zero_add] <;> omega) | fail) only [go_sem, x_eLeS, x_hLeS, Int.natCast_zero, Int.natCast_add, Int.natCast_one, List.length_append, List.length_cons, List.length_nil, Nat.zero_add]
        · exact hLe_app hw (by first | omega | (simp only [go_sem, push_cast] <;> omega)) (by simp (disch := first | (simp only [go_sem] <;> omega) | fail) only [go_sem, x_eLeS, x_hLeS, Int.natCast_zero, Int.natCast_add, Int.natCast_one])
      · rw [if_neg (by simpa [befI] using hp), List.append_nil] at hnx
        simp (disch := first | omega | (simp only [go_sem, push_cast, and_true] <;> omega) | fail) only [go_sem, hp, decide_false]
        refine round_end hnx (by omega) (by first | omega | (simp only [go_sem, push_cast] <;> omega)) ?_ ?_
        · simp (disch := first | (simp only [go_sem] <;> omega) | fail) only [go_sem, x_eLeS, x_hLeS, Int.natCast_zero, Int.natCast_add, Int.natCast_one]
        · exact hLe_app hw (by first | omega | (simp only [go_sem, push_cast] <;> omega)) (by simp (disch := first | (simp only [go_sem] <;> omega) | fail) only [go_sem, x_eLeS, x_hLeS, Int.natCast_zero, Int.natCast_add, Int.natCast_one])
    · have hi : i = X.length := by omega
      subst hi
      rw [List.take_length] at hli ⊢
      generalize hA : X.filter (befI x.1) = A at *
      have e1 : A.map otV ++ [otV x] = (A ++ [x]).map otV := by simp
      rw [otV_def] at e1
      simp (disch := first | omega | (simp only [go_sem, push_cast, and_true] <;> omega) | fail) only [go_sem]
      rw [e1]
      refine loop_in (fun m e' H' => ∃ i : Nat, m = X.length - i ∧ e' = slots 0 55 [(0, .sl 5 (X.map otV)), (3, .ptr H.length 0), (5, .own (H.length + 1) (A ++ [x] ++ (X.take i).filter (aftI x.1)).length), (7, .int .i64 (i : Int))] ∧ H' = H ++ [.box [.int .u64 x.1, .str x.2.1, .sl 1 (x.2.2.1.map u64V), .int .i64 x.2.2.2.1, .int .i64 x.2.2.2.2], .row 26 5 ((A ++ [x] ++ (X.take i).filter (aftI x.1)).map otV)] ∧ i ≤ X.length) (n := X.length) ⟨0, rfl, rfl, rfl, by omega⟩ (by first | omega | (simp only [go_sem, push_cast] <;> omega)) ?_ ?_ ?_
      · simp (disch := first | (simp only [go_sem, List.take_zero, List.filter_nil, List.append_nil, List.length_append, List.length_cons, List.length_nil, Nat.zero_add] <;> omega) | fail) only [go_sem, x_eLeS, x_hLeS, Int.natCast_zero, Int.natCast_add, Int.natCast_one, List.take_zero, List.filter_nil, List.append_nil, List.length_append, List.length_cons, List.length_nil, Nat.zero_add]
      · simp only [List.take_zero, List.filter_nil, List.append_nil]
        exact hLe_app hw (by first | omega | (simp only [go_sem, push_cast] <;> omega)) (by simp (disch := first | (simp only [go_sem] <;> omega) | fail) only [go_sem, x_eLeS, x_hLeS, Int.natCast_zero, Int.natCast_add, Int.natCast_one])
      · rintro J hJ m e' H' ⟨i, rfl, rfl, rfl, hi1⟩
        have hlj := hfl (aftI x.1) i
        by_cases h : (i : Int) < X.length
        · have hs := fil_step (X := X) (p := aftI x.1) (i := i) (by omega)
          have hnx := hJ _ _ _ ⟨i + 1, rfl, rfl, rfl, by omega⟩
          rw [hs] at hnx
          have hll : (A ++ [x] ++ (X.take i).filter (aftI x.1)).length ≤ 30000 := by simp; omega
          by_cases hp : x.1 < (X.getD i default).1
          · rw [if_pos (by simpa [aftI] using hp), ← List.append_assoc] at hnx
            generalize A ++ [x] ++ (X.take i).filter (aftI x.1) = B at *
            have e2 : B.map otV ++ [otV (X.getD i default)] = (B ++ [X.getD i default]).map otV := by simp
            rw [otV_def] at e2
            simp (disch := first | omega | (simp only [go_sem, push_cast, and_true] <;> omega) | fail) only [go_sem, hp, decide_true]
            rw [e2]
            refine round_end hnx (by omega) (by first | omega | (simp only [go_sem, push_cast] <;> omega)) ?_ ?_
            · simp (disch := first | (simp only [go_sem, List.length_append, List.length_cons, List.length_nil, Nat.zero_add] <;> omega) | fail) only [go_sem, x_eLeS, x_hLeS, Int.natCast_zero, Int.natCast_add, Int.natCast_one, List.length_append, List.length_cons, List.length_nil, Nat.zero_add]
            · exact hLe_app hw (by first | omega | (simp only [go_sem, push_cast] <;> omega)) (by simp (disch := first | (simp only [go_sem] <;> omega) | fail) only [go_sem, x_eLeS, x_hLeS, Int.natCast_zero, Int.natCast_add, Int.natCast_one])
          · rw [if_neg (by simpa [aftI] using hp), List.append_nil] at hnx
            generalize A ++ [x] ++ (X.take i).filter (aftI x.1) = B at *
            simp (disch := first | omega | (simp only [go_sem, push_cast, and_true] <;> omega) | fail) only [go_sem, hp, decide_false]
            refine round_end hnx (by omega) (by first | omega | (simp only [go_sem, push_cast] <;> omega)) ?_ ?_
            · simp (disch := first | (simp only [go_sem] <;> omega) | fail) only [go_sem, x_eLeS, x_hLeS, Int.natCast_zero, Int.natCast_add, Int.natCast_one]
            · exact hLe_app hw (by first | omega | (simp only [go_sem, push_cast] <;> omega)) (by simp (disch := first | (simp only [go_sem] <;> omega) | fail) only [go_sem, x_eLeS, x_hLeS, Int.natCast_zero, Int.natCast_add, Int.natCast_one])
        · have hi : i = X.length := by omega
          subst hi
          rw [List.take_length] at hlj ⊢
          have hB : A ++ [x] ++ X.filter (aftI x.1) = withR X x := by rw [withR, hA]
          rw [hB]
          simp (disch := first | omega | (simp only [go_sem, push_cast, and_true] <;> omega) | fail) only [go_sem]
          refine wk_own (H := H) 4 1 rfl rfl rfl (by first | omega | (simp only [go_sem, push_cast] <;> omega)) ?_
          refine fin_tmp hw ?_ (fin_eq hK ?_)
          · simp (disch := first | omega | (simp only [go_sem, push_cast, and_true] <;> omega) | fail) only [go_sem]
          · simp (disch := first | omega | (simp only [go_sem, push_cast, and_true] <;> omega) | fail) only [go_sem]
end Go.Av
