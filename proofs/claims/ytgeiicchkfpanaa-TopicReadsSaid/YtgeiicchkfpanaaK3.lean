/- A part of a way to reckon what a Go program does without its memory (K3). -/
import Derived.Test.YtgeiicchkfpanaaK2
import Derived.Test.YtgeiicchkfpanaaT3
namespace Go.Av
open Go
set_option autoImplicit false
set_option linter.all false
/-! ### Stage 12: the document's Find and Same -/
theorem r_FindT {X : List Tp} {n : List UInt8} {H : List Entry} (hX : X.length ≤ 1000000) : Pure AP n_trystref12_Find [.sl 3 (X.map tpV), .str n] H (.tup [.int .i64 (mxZ (idx (isNT n) X)), .bool (decide (0 ≤ idx (isNT n) X))]) := by
  intro K hK
  refine a_trystref12_Find fun hw => ?_
  simp (disch := first | omega | (simp only [go_sem, push_cast, and_true] <;> omega) | fail) only [go_sem, c_trystref12_Find]
  refine loop_in (fun m e' H' => ∃ i : Nat, m = X.length - i ∧ e' = slots 0 21 [(0, .sl 3 (X.map tpV)), (1, .str n), (6, .int .i64 (i : Int))] ∧ H' = H ∧ i ≤ X.length ∧ ∀ j < i, isNT n (X.getD j default) = false) (n := X.length) ⟨0, rfl, rfl, rfl, by omega, fun j hj => by omega⟩ (by first | omega | (simp only [go_sem, push_cast] <;> omega)) ?_ hw ?_
  · simp (disch := first | (simp only [go_sem] <;> omega) | fail) only [go_sem, x_eLeS, x_hLeS, Int.natCast_zero, Int.natCast_add, Int.natCast_one]
  · rintro J hJ m e' H' ⟨i, rfl, rfl, rfl, hi1, hn⟩
    by_cases h : (i : Int) < X.length
    · by_cases hp : (X.getD i default).1 = n
      · have hx := idx_some (p := isNT n) (X := X) (i := i) (by omega) (by simpa [isNT] using hp) hn
        rw [hx] at hK
        simp (disch := first | omega | (simp only [go_sem, push_cast, and_true] <;> omega) | fail) only [go_sem, hp, decide_true]
        refine fin_tmp0 hw ?_ (fin_eq hK ?_)
        · simp (disch := first | omega | (simp only [go_sem, push_cast, and_true] <;> omega) | fail) only [go_sem]
        · simp [oneV, nths, nth, mxZ]
      · simp (disch := first | omega | (simp only [go_sem, push_cast, and_true] <;> omega) | fail) only [go_sem, hp, decide_false]
        refine round_end (hJ _ _ _ ⟨i + 1, rfl, rfl, rfl, by omega, fun j hj => ?_⟩) (by omega) (by first | omega | (simp only [go_sem, push_cast] <;> omega)) ?_ hw
        · rcases Nat.lt_succ_iff_lt_or_eq.1 hj with k | rfl
          · exact hn j k
          · simpa [isNT] using hp
        · simp (disch := first | (simp only [go_sem] <;> omega) | fail) only [go_sem, x_eLeS, x_hLeS, Int.natCast_zero, Int.natCast_add, Int.natCast_one]
    · have hx := idx_none (p := isNT n) (X := X) fun j hj => hn j (by omega)
      rw [hx] at hK
      simp (disch := first | omega | (simp only [go_sem, push_cast, and_true] <;> omega) | fail) only [go_sem]
      refine fin_tmp0 hw ?_ (fin_eq hK ?_)
      · simp (disch := first | omega | (simp only [go_sem, push_cast, and_true] <;> omega) | fail) only [go_sem]
      · simp [oneV, nths, nth, mxZ]
theorem r_SameS {A B : List (List UInt8)} {H : List Entry} (ha : A.length ≤ 1000000) (hb : B.length ≤ 1000000) : Pure AP n_trystref02_Same [.sl 1 (A.map stV), .sl 1 (B.map stV)] H (.bool (sameL A B)) := by
  intro K hK
  refine a_trystref02_Same fun hw => ?_
  by_cases h4 : A.length = B.length
  rotate_left
  · have hne : A ≠ B := fun h => h4 (by rw [h])
    have h4' : ¬ ((A.length : Int) = B.length) := by omega
    simp (disch := first | omega | (simp only [go_sem, push_cast, and_true] <;> omega) | fail) only [go_sem, c_trystref02_Same, h4', decide_false, decide_true, Bool.not_false, Bool.not_true]
    refine fin_tmp0 hw ?_ (fin_eq hK ?_)
    · simp (disch := first | omega | (simp only [go_sem, push_cast, and_true] <;> omega) | fail) only [go_sem]
    · simp (disch := first | omega | (simp only [go_sem, push_cast, and_true] <;> omega) | fail) only [go_sem, sameL_ne hne]
  simp (disch := first | omega | (simp only [go_sem, push_cast, and_true] <;> omega) | fail) only [go_sem, c_trystref02_Same, h4, decide_true, Bool.not_true]
  refine loop_in (fun m e' H' => ∃ i : Nat, m = B.length - i ∧ e' = slots 0 26 [(0, .sl 1 (A.map stV)), (1, .sl 1 (B.map stV)), (5, .int .i64 (i : Int))] ∧ H' = H ∧ i ≤ B.length ∧ ∀ j < i, A.getD j default = B.getD j default) (n := B.length) ⟨0, rfl, rfl, rfl, by omega, fun j hj => by omega⟩ (Nat.le_refl _) ?_ hw ?_
  · simp (disch := first | (simp only [go_sem] <;> omega) | fail) only [go_sem, x_eLeS, x_hLeS, Int.natCast_zero, Int.natCast_add, Int.natCast_one]
  · rintro J hJ m e' H' ⟨i, rfl, rfl, rfl, hi1, hn⟩
    simp (disch := first | omega | (simp only [go_sem, push_cast, and_true] <;> omega) | fail) only [go_sem, h4]
    by_cases h : (i : Int) < B.length
    · simp (disch := first | omega | (simp only [go_sem, push_cast, and_true] <;> omega) | fail) only [go_sem, h4]
      by_cases hp : A.getD i default = B.getD i default
      · simp (disch := first | omega | (simp only [go_sem, push_cast, and_true] <;> omega) | fail) only [go_sem, hp, decide_true, Bool.not_true]
        refine round_end (hJ _ _ _ ⟨i + 1, rfl, rfl, rfl, by omega, fun j hj => ?_⟩) (by omega) (Nat.le_refl _) ?_ hw
        · rcases Nat.lt_succ_iff_lt_or_eq.1 hj with k | rfl
          · exact hn j k
          · exact hp
        · simp (disch := first | (simp only [go_sem] <;> omega) | fail) only [go_sem, x_eLeS, x_hLeS, Int.natCast_zero, Int.natCast_add, Int.natCast_one]
      · have hne : A ≠ B := fun h => hp (by rw [h])
        simp (disch := first | omega | (simp only [go_sem, push_cast, and_true] <;> omega) | fail) only [go_sem, hp, decide_false, Bool.not_false]
        refine fin_tmp0 hw ?_ (fin_eq hK ?_)
        · simp (disch := first | omega | (simp only [go_sem, push_cast, and_true] <;> omega) | fail) only [go_sem]
        · simp (disch := first | omega | (simp only [go_sem, push_cast, and_true] <;> omega) | fail) only [go_sem, sameL_ne hne]
    · have hab : A = B := List.ext_getElem h4 fun j h5 h6 => by
        have := hn j (by omega)
        simpa [h5, h6] using this
      simp (disch := first | omega | (simp only [go_sem, push_cast, and_true] <;> omega) | fail) only [go_sem, h4]
      refine fin_tmp0 hw ?_ (fin_eq hK ?_)
      · simp (disch := first | omega | (simp only [go_sem, push_cast, and_true] <;> omega) | fail) only [go_sem]
      · simp (disch := first | omega | (simp only [go_sem, push_cast, and_true] <;> omega) | fail) only [go_sem, sameL_eq hab]
abbrev lgOk (X : List Tp) : Prop := ∀ x ∈ X, x.2.2.length ≤ 1000000
theorem r_SameT {A B : List Tp} {H : List Entry} (ha : A.length ≤ 1000000) (hb : B.length ≤ 1000000) (oa : lgOk A) (ob : lgOk B) : Pure AP n_trystref12_Same [.sl 3 (A.map tpV), .sl 3 (B.map tpV)] H (.bool (sameL A B)) := by
  intro K hK
  refine a_trystref12_Same fun hw => ?_
  by_cases h4 : A.length = B.length
  rotate_left
  · have hne : A ≠ B := fun h => h4 (by rw [h])
    have h4' : ¬ ((A.length : Int) = B.length) := by omega
    simp (disch := first | omega | (simp only [go_sem, push_cast, and_true] <;> omega) | fail) only [go_sem, c_trystref12_Same, h4', decide_false, decide_true, Bool.not_false, Bool.not_true]
    refine fin_tmp0 hw ?_ (fin_eq hK ?_)
    · simp (disch := first | omega | (simp only [go_sem, push_cast, and_true] <;> omega) | fail) only [go_sem]
    · simp (disch := first | omega | (simp only [go_sem, push_cast, and_true] <;> omega) | fail) only [go_sem, sameL_ne hne]
  simp (disch := first | omega | (simp only [go_sem, push_cast, and_true] <;> omega) | fail) only [go_sem, c_trystref12_Same, h4, decide_true, Bool.not_true]
  refine loop_in (fun m e' H' => ∃ i : Nat, m = B.length - i ∧ e' = slots 0 55 [(0, .sl 3 (A.map tpV)), (1, .sl 3 (B.map tpV)), (5, .int .i64 (i : Int))] ∧ H' = H ∧ i ≤ B.length ∧ ∀ j < i, A.getD j default = B.getD j default) (n := B.length) ⟨0, rfl, rfl, rfl, by omega, fun j hj => by omega⟩ (Nat.le_refl _) ?_ hw ?_
  · simp (disch := first | (simp only [go_sem] <;> omega) | fail) only [go_sem, x_eLeS, x_hLeS, Int.natCast_zero, Int.natCast_add, Int.natCast_one]
  · rintro J hJ m e' H' ⟨i, rfl, rfl, rfl, hi1, hn⟩
    simp (disch := first | omega | (simp only [go_sem, push_cast, and_true] <;> omega) | fail) only [go_sem, h4]
    by_cases h : (i : Int) < B.length
    · have hA := oa _ (getD_mem (X := A) (i := i) (by omega))
      have hB := ob _ (getD_mem (X := B) (i := i) (by omega))
      generalize hp1 : A.getD i default = p at *
      generalize hp2 : B.getD i default = q at *
      have no : p ≠ q → A ≠ B := fun k h => k (by rw [← hp1, ← hp2, h])
      have go : p = q → ∀ j < i + 1, A.getD j default = B.getD j default := fun k j hj => by
        rcases Nat.lt_succ_iff_lt_or_eq.1 hj with k2 | rfl
        · exact hn j k2
        · rw [hp1, hp2, k]
      by_cases q1 : p.1 = q.1
      rotate_left
      · simp (disch := first | omega | (simp only [go_sem, push_cast, and_true] <;> omega) | fail) only [go_sem, h4, hp1, hp2, q1, decide_false, Bool.not_false]
        refine fin_tmp0 hw ?_ (fin_eq hK ?_)
        · simp (disch := first | omega | (simp only [go_sem, push_cast, and_true] <;> omega) | fail) only [go_sem]
        · simp (disch := first | omega | (simp only [go_sem, push_cast, and_true] <;> omega) | fail) only [go_sem, sameL_ne (no fun k => q1 (by rw [k]))]
      by_cases q2 : p.2.1 = q.2.1
      rotate_left
      · simp (disch := first | omega | (simp only [go_sem, push_cast, and_true] <;> omega) | fail) only [go_sem, h4, hp1, hp2, q1, q2, decide_true, Bool.not_true, decide_false, Bool.not_false]
        refine fin_tmp0 hw ?_ (fin_eq hK ?_)
        · simp (disch := first | omega | (simp only [go_sem, push_cast, and_true] <;> omega) | fail) only [go_sem]
        · simp (disch := first | omega | (simp only [go_sem, push_cast, and_true] <;> omega) | fail) only [go_sem, sameL_ne (no fun k => q2 (by rw [k]))]
      simp (disch := first | omega | (simp only [go_sem, push_cast, and_true] <;> omega) | fail) only [go_sem, h4, hp1, hp2, q1, q2, decide_true, Bool.not_true]
      refine (r_SameS (A := p.2.2) (B := q.2.2) hA hB).dcall ?_
      by_cases q3 : p.2.2 = q.2.2
      · simp (disch := first | omega | (simp only [go_sem, push_cast, and_true] <;> omega) | fail) only [go_sem, sameL_eq q3, Bool.not_true]
        refine round_end (hJ _ _ _ ⟨i + 1, rfl, rfl, rfl, by omega, go (Prod.ext q1 (Prod.ext q2 q3))⟩) (by omega) (Nat.le_refl _) ?_ hw
        simp (disch := first | (simp only [go_sem] <;> omega) | fail) only [go_sem, x_eLeS, x_hLeS, Int.natCast_zero, Int.natCast_add, Int.natCast_one]
      · simp (disch := first | omega | (simp only [go_sem, push_cast, and_true] <;> omega) | fail) only [go_sem, sameL_ne q3, Bool.not_false]
        refine fin_tmp0 hw ?_ (fin_eq hK ?_)
        · simp (disch := first | omega | (simp only [go_sem, push_cast, and_true] <;> omega) | fail) only [go_sem]
        · simp (disch := first | omega | (simp only [go_sem, push_cast, and_true] <;> omega) | fail) only [go_sem, sameL_ne (no fun k => q3 (by rw [k]))]
    · have hab : A = B := List.ext_getElem h4 fun j h5 h6 => by
        have := hn j (by omega)
        simpa [h5, h6] using this
      simp (disch := first | omega | (simp only [go_sem, push_cast, and_true] <;> omega) | fail) only [go_sem, h4]
      refine fin_tmp0 hw ?_ (fin_eq hK ?_)
      · simp (disch := first | omega | (simp only [go_sem, push_cast, and_true] <;> omega) | fail) only [go_sem]
      · simp (disch := first | omega | (simp only [go_sem, push_cast, and_true] <;> omega) | fail) only [go_sem, sameL_eq hab]
end Go.Av
namespace Go.Av
open Go
set_option autoImplicit false
set_option linter.all false
/-! ### Stage 12: the document's May -/
def okTs (X : List Tp) (i : Nat) : Prop := ∀ j < i, wrongT (X.getD j default) = false ∧ (0 < j → ordT (X.getD (j - 1) default) (X.getD j default) < 0)
theorem chkT_bad {X : List Tp} {i : Nat} (hi : i < X.length) (h : ¬ (wrongT (X.getD i default) = false ∧ (0 < i → ordT (X.getD (i - 1) default) (X.getD i default) < 0))) : chkT X = false := by
  rw [← Bool.not_eq_true]
  intro hm
  unfold chkT at hm
  simp only [Bool.and_eq_true, Bool.not_eq_true', decide_eq_true_eq] at hm
  obtain ⟨_, h2, h3⟩ := hm
  refine h ⟨?_, fun h0 => ?_⟩
  · have := List.any_eq_false.1 h3 _ (getD_mem (X := X) hi)
    simpa using this
  · have := risBP_of h2 (i - 1) (by omega)
    rwa [Nat.sub_add_cancel (by omega)] at this
theorem chkT_ok {X : List Tp} (h : okTs X X.length) : chkT X = decide ((X.length : Int) ≤ 20) := by
  have h1 : risBP ordT X = true := risBP_true fun i hi => by simpa using (h (i + 1) hi).2 (by omega)
  have h2 : X.any wrongT = false := List.any_eq_false.2 fun x hx => by
    obtain ⟨i, hi, rfl⟩ := List.mem_iff_getElem.1 hx
    have := (h i hi).1
    simpa [hi] using this
  unfold chkT
  rw [h1, h2]
  simp
  omega
theorem cmpS_lt {a b : List UInt8} : cmpS a b < 0 ↔ lessB a b = true := ⟨cmpS_neg, fun h => by
  unfold cmpS
  rw [if_pos h]
  decide⟩
def okLg (t : Tp) (k : Nat) : Prop := ∀ j < k, isOfB t (t.2.2.getD j default) = true
set_option maxHeartbeats 2000000 in
set_option maxRecDepth 100000 in
theorem r_MayT {X : List Tp} {H : List Entry} (hX : tsB X) : Pure AP n_trystref12_May [.sl 3 (X.map tpV)] H (.bool (chkT X)) := by
  intro K hK
  refine a_trystref12_May fun hw => ?_
  have hl : X.length ≤ 21 := hX.1
  simp (disch := first | omega | (simp only [go_sem, push_cast, and_true] <;> omega) | fail) only [go_sem, c_trystref12_May]
  refine loop_in (fun m e' H' => ∃ i : Nat, m = X.length - i ∧ e' = slots 0 97 [(0, .sl 3 (X.map tpV)), (3, .int .i64 (i : Int))] ∧ H' = H ∧ i ≤ X.length ∧ okTs X i) (n := X.length) ⟨0, rfl, rfl, rfl, by omega, fun j hj => by omega⟩ (by first | omega | (simp only [go_sem, push_cast] <;> omega)) ?_ hw ?_
  · simp (disch := first | (simp only [go_sem] <;> omega) | fail) only [go_sem, x_eLeS, x_hLeS, Int.natCast_zero, Int.natCast_add, Int.natCast_one]
  · rintro J hJ m e' H' ⟨i, rfl, rfl, rfl, hi1, hok⟩
    by_cases h : (i : Int) < X.length
    rotate_left
    · have hi : i = X.length := by omega
      subst hi
      rw [chkT_ok hok] at hK
      simp (disch := first | omega | (simp only [go_sem, push_cast, and_true] <;> omega) | fail) only [go_sem]
      refine fin_tmp0 hw ?_ (fin_eq hK ?_)
      · simp (disch := first | omega | (simp only [go_sem, push_cast, and_true] <;> omega) | fail) only [go_sem]
      · simp (disch := first | omega | (simp only [go_sem, push_cast, and_true] <;> omega) | fail) only [go_sem]
    have hbad := chkT_bad (X := X) (i := i) (by omega)
    have hm := hX.2 _ (getD_mem (X := X) (i := i) (by omega))
    have hnx := fun (q : okTs X (i + 1)) => hJ (X.length - (i + 1)) _ _ ⟨i + 1, rfl, rfl, rfl, by omega, q⟩
    clear hJ
    have hj1 : 0 < i → ((i : Int) - 1).toNat = i - 1 := fun _ => by omega
    have hjn := fun (q : wrongT (X.getD i default) = false) (q2 : 0 < i → ordT (X.getD (i - 1) default) (X.getD i default) < 0) => hnx fun j hj => by
      rcases Nat.lt_succ_iff_lt_or_eq.1 hj with k | rfl
      · exact hok j k
      · exact ⟨q, q2⟩
    clear hnx
    obtain ⟨b1, b2, b3, b4⟩ := hm
    generalize hT : X.getD i default = t at *
    have no : wrongT t = true → chkT X = false := fun k => hbad fun q => by rw [k] at q; cases q.1
    simp (disch := first | omega | (simp only [go_sem, push_cast, and_true] <;> omega) | fail) only [go_sem, hT]
    refine (r_Topic (s := t.1) b1).dcall ?_
    cases h1 : topicB t.1
    · rw [no (by simp [wrongT, h1])] at hK
      simp (disch := first | omega | (simp only [go_sem, push_cast, and_true] <;> omega) | fail) only [go_sem, Bool.not_false]
      refine fin_tmp hw ?_ (fin_eq hK ?_)
      · simp (disch := first | omega | (simp only [go_sem, push_cast, and_true] <;> omega) | fail) only [go_sem]
      · simp (disch := first | omega | (simp only [go_sem, push_cast, and_true] <;> omega) | fail) only [go_sem]
    simp (disch := first | omega | (simp only [go_sem, push_cast, and_true] <;> omega) | fail) only [go_sem, Bool.not_true, hT]
    have hcm : i = 0 ∨ 0 < i ∧ (lessB (X.getD (i - 1) default).1 t.1 = true ∨ chkT X = false) := by
      rcases Nat.eq_zero_or_pos i with q | q
      · exact .inl q
      · refine .inr ⟨q, ?_⟩
        cases hq : lessB (X.getD (i - 1) default).1 t.1
        · exact .inr (hbad fun k => by
            have := cmpS_lt.1 (k.2 q)
            rw [hq] at this
            cases this)
        · exact .inl rfl
    have hcl : 0 < i → lessB (X.getD (i - 1) default).1 t.1 = true → ordT (X.getD (i - 1) default) t < 0 := fun _ q => cmpS_lt.2 q
    have hw3 : t.2.1 < 0 → chkT X = false := fun q => no (by simp [wrongT, q])
    have hw4 : 1099511627775 - (t.2.2.length : Int) < t.2.1 → chkT X = false := fun q => no (by simp [wrongT, q])
    have hw5 : 100 < t.2.2.length → chkT X = false := fun q => no (by simp [wrongT, q])
    have hend : okLg t t.2.2.length → ¬ t.2.1 < 0 → ¬ 1099511627775 - (t.2.2.length : Int) < t.2.1 → ¬ 100 < t.2.2.length → wrongT t = false := fun q1 q2 q3 q4 => by
      have : t.2.2.any (fun s => !isOfB t s) = false := List.any_eq_false.2 fun x hx => by
        obtain ⟨k, hk, rfl⟩ := List.mem_iff_getElem.1 hx
        have := q1 k hk
        simp only [List.getD_eq_getElem?_getD, List.getElem?_eq_getElem hk, Option.getD_some] at this
        simp [this]
      unfold wrongT
      rw [this, h1]
      simp [q2, q3, q4]
    have hbd : ∀ k : Nat, k < t.2.2.length → isOfB t (t.2.2.getD k default) = false → chkT X = false := fun k hk q => no (by
      have : t.2.2.any (fun s => !isOfB t s) = true := List.any_eq_true.2 ⟨_, getD_mem (X := t.2.2) hk, by rw [q]; rfl⟩
      unfold wrongT
      rw [this]
      simp)
    clear no hbad
    rcases Nat.eq_zero_or_pos i with hi0 | hi0
    · have hord : 0 < i → ordT (X.getD (i - 1) default) t < 0 := fun q => absurd q (by omega)
      by_cases h3 : t.2.1 < 0
      · rw [hw3 h3] at hK
        simp (disch := first | omega | (simp only [go_sem, push_cast, and_true] <;> omega) | fail) only [go_sem, hT, h3, decide_true]
        refine fin_tmp hw ?_ (fin_eq hK ?_)
        · simp (disch := first | omega | (simp only [go_sem, push_cast, and_true] <;> omega) | fail) only [go_sem]
        · simp (disch := first | omega | (simp only [go_sem, push_cast, and_true] <;> omega) | fail) only [go_sem]
      by_cases h4 : 1099511627775 - (t.2.2.length : Int) < t.2.1
      · rw [hw4 h4] at hK
        simp (disch := first | omega | (simp only [go_sem, push_cast, and_true] <;> omega) | fail) only [go_sem, hT, h3, h4, decide_true, decide_false]
        refine fin_tmp hw ?_ (fin_eq hK ?_)
        · simp (disch := first | omega | (simp only [go_sem, push_cast, and_true] <;> omega) | fail) only [go_sem]
        · simp (disch := first | omega | (simp only [go_sem, push_cast, and_true] <;> omega) | fail) only [go_sem]
      by_cases h5 : 100 < t.2.2.length
      · rw [hw5 h5] at hK
        simp (disch := first | omega | (simp only [go_sem, push_cast, and_true] <;> omega) | fail) only [go_sem, hT, h3, h4, h5, decide_true, decide_false]
        refine fin_tmp hw ?_ (fin_eq hK ?_)
        · simp (disch := first | omega | (simp only [go_sem, push_cast, and_true] <;> omega) | fail) only [go_sem]
        · simp (disch := first | omega | (simp only [go_sem, push_cast, and_true] <;> omega) | fail) only [go_sem]
      have hfin := fun (q : okLg t t.2.2.length) => hjn (hend q h3 h4 h5) hord
      simp (disch := first | omega | (simp only [go_sem, push_cast, and_true] <;> omega) | fail) only [go_sem, hT, h3, h4, h5, decide_false]
      refine loop_in (fun m2 e2 H2 => ∃ k : Nat, m2 = t.2.2.length - k ∧ e2 = slots 0 97 [(0, .sl 3 (X.map tpV)), (3, .int .i64 (i : Int)), (4, .ptr H'.length 0), (5, .int .i64 (k : Int))] ∧ H2 = H' ++ [.box [.str t.1, .int .i64 t.2.1, .sl 1 (t.2.2.map stV)]] ∧ k ≤ t.2.2.length ∧ okLg t k) (n := t.2.2.length) ⟨0, rfl, rfl, rfl, by omega, fun j hj => by omega⟩ (by first | omega | (simp only [go_sem, push_cast] <;> omega)) ?_ ?_ ?_
      · simp (disch := first | (simp only [go_sem] <;> omega) | fail) only [go_sem, x_eLeS, x_hLeS, Int.natCast_zero, Int.natCast_add, Int.natCast_one]
      · exact hLe_app hw (by first | omega | (simp only [go_sem, push_cast] <;> omega)) (by simp (disch := first | (simp only [go_sem] <;> omega) | fail) only [go_sem, x_eLeS, x_hLeS, Int.natCast_zero, Int.natCast_add, Int.natCast_one])
      · rintro J2 hJ2 m2 e2 H2 ⟨k, rfl, rfl, rfl, hk1, hokk⟩
        by_cases hk : (k : Int) < t.2.2.length
        rotate_left
        · have hk2 : k = t.2.2.length := by omega
          have hnx := hfin (by rw [← hk2]; exact hokk)
          clear hJ2 hfin hjn
          simp (disch := first | omega | (simp only [go_sem, push_cast, and_true] <;> omega) | fail) only [go_sem]
          refine round_end hnx (by omega) (by first | omega | (simp only [go_sem, push_cast] <;> omega)) ?_ (hLe_drop hw)
          simp (disch := first | (simp only [go_sem] <;> omega) | fail) only [go_sem, x_eLeS, x_hLeS, Int.natCast_zero, Int.natCast_add, Int.natCast_one]
        · have hs := b3 _ (getD_mem (X := t.2.2) (i := k) (by omega))
          have hb := hbd k (by omega)
          have hn2 := fun (q : okLg t (k + 1)) => hJ2 (t.2.2.length - (k + 1)) _ _ ⟨k + 1, rfl, rfl, rfl, by omega, q⟩
          have hn3 := fun (q : isOfB t (t.2.2.getD k default) = true) => hn2 fun j hj => by
            rcases Nat.lt_succ_iff_lt_or_eq.1 hj with z | rfl
            · exact hokk j z
            · exact q
          clear hJ2 hn2 hfin hjn hbd
          generalize hS : t.2.2.getD k default = s at *
          simp (disch := first | omega | (simp only [go_sem, push_cast, and_true] <;> omega) | fail) only [go_sem, hS]
          refine r_TakeE (s := s) hs _ ?_
          have hi : isOfB t s = (decide ((takE s).2.2 = 0) && (decide ((takE s).2.1 = s.length) && decide ((takE s).1.1 = t.1))) := rfl
          rw [hi] at hb hn3
          generalize takE s = z at *
          obtain ⟨z1, z2, z3⟩ := z
          by_cases y1 : z3 = 0
          rotate_left
          · rw [hb (by simp [y1])] at hK
            simp (disch := first | omega | (simp only [go_sem, push_cast, and_true] <;> omega) | fail) only [go_sem, y1, decide_false, decide_true]
            refine fin_tmp hw ?_ (fin_eq hK ?_)
            · simp (disch := first | omega | (simp only [go_sem, push_cast, and_true] <;> omega) | fail) only [go_sem]
            · simp (disch := first | omega | (simp only [go_sem, push_cast, and_true] <;> omega) | fail) only [go_sem]
          by_cases y2 : z2 = (s.length : Int)
          rotate_left
          · rw [hb (by simp [y2])] at hK
            simp (disch := first | omega | (simp only [go_sem, push_cast, and_true] <;> omega) | fail) only [go_sem, y1, y2, hS, decide_false, decide_true, Bool.not_false, Bool.not_true]
            refine fin_tmp hw ?_ (fin_eq hK ?_)
            · simp (disch := first | omega | (simp only [go_sem, push_cast, and_true] <;> omega) | fail) only [go_sem]
            · simp (disch := first | omega | (simp only [go_sem, push_cast, and_true] <;> omega) | fail) only [go_sem]
          by_cases y3 : z1.1 = t.1
          rotate_left
          · rw [hb (by simp [y3])] at hK
            simp (disch := first | omega | (simp only [go_sem, push_cast, and_true] <;> omega) | fail) only [go_sem, y1, y2, y3, hS, decide_false, decide_true, Bool.not_false, Bool.not_true]
            refine fin_tmp hw ?_ (fin_eq hK ?_)
            · simp (disch := first | omega | (simp only [go_sem, push_cast, and_true] <;> omega) | fail) only [go_sem]
            · simp (disch := first | omega | (simp only [go_sem, push_cast, and_true] <;> omega) | fail) only [go_sem]
          have hn4 := hn3 (by simp [y1, y2, y3])
          clear hn3 hb
          simp (disch := first | omega | (simp only [go_sem, push_cast, and_true] <;> omega) | fail) only [go_sem, y1, y2, y3, hS, decide_false, decide_true, Bool.not_false, Bool.not_true]
          refine round_end hn4 (by omega) (by first | omega | (simp only [go_sem, push_cast] <;> omega)) ?_ ?_
          · simp (disch := first | (simp only [go_sem] <;> omega) | fail) only [go_sem, x_eLeS, x_hLeS, Int.natCast_zero, Int.natCast_add, Int.natCast_one]
          · exact hLe_app hw (by first | omega | (simp only [go_sem, push_cast] <;> omega)) (by simp (disch := first | (simp only [go_sem] <;> omega) | fail) only [go_sem, x_eLeS, x_hLeS, Int.natCast_zero, Int.natCast_add, Int.natCast_one])
    · have hlt : i - 1 < X.length := by omega
      by_cases hb3 : Op.bytesLess (X.getD (i - 1) default).1 t.1 = true
      · have hord : 0 < i → ordT (X.getD (i - 1) default) t < 0 := fun q => hcl q hb3
        by_cases h3 : t.2.1 < 0
        · rw [hw3 h3] at hK
          simp (disch := first | omega | (simp only [go_sem, push_cast, and_true] <;> omega) | fail) only [go_sem, hj1 hi0, hT, hb3, h3, decide_true]
          refine fin_tmp hw ?_ (fin_eq hK ?_)
          · simp (disch := first | omega | (simp only [go_sem, push_cast, and_true] <;> omega) | fail) only [go_sem]
          · simp (disch := first | omega | (simp only [go_sem, push_cast, and_true] <;> omega) | fail) only [go_sem]
        by_cases h4 : 1099511627775 - (t.2.2.length : Int) < t.2.1
        · rw [hw4 h4] at hK
          simp (disch := first | omega | (simp only [go_sem, push_cast, and_true] <;> omega) | fail) only [go_sem, hj1 hi0, hT, hb3, h3, h4, decide_true, decide_false]
          refine fin_tmp hw ?_ (fin_eq hK ?_)
          · simp (disch := first | omega | (simp only [go_sem, push_cast, and_true] <;> omega) | fail) only [go_sem]
          · simp (disch := first | omega | (simp only [go_sem, push_cast, and_true] <;> omega) | fail) only [go_sem]
        by_cases h5 : 100 < t.2.2.length
        · rw [hw5 h5] at hK
          simp (disch := first | omega | (simp only [go_sem, push_cast, and_true] <;> omega) | fail) only [go_sem, hj1 hi0, hT, hb3, h3, h4, h5, decide_true, decide_false]
          refine fin_tmp hw ?_ (fin_eq hK ?_)
          · simp (disch := first | omega | (simp only [go_sem, push_cast, and_true] <;> omega) | fail) only [go_sem]
          · simp (disch := first | omega | (simp only [go_sem, push_cast, and_true] <;> omega) | fail) only [go_sem]
        have hfin := fun (q : okLg t t.2.2.length) => hjn (hend q h3 h4 h5) hord
        simp (disch := first | omega | (simp only [go_sem, push_cast, and_true] <;> omega) | fail) only [go_sem, hj1 hi0, hT, hb3, h3, h4, h5, decide_false]
        refine loop_in (fun m2 e2 H2 => ∃ k : Nat, m2 = t.2.2.length - k ∧ e2 = slots 0 97 [(0, .sl 3 (X.map tpV)), (3, .int .i64 (i : Int)), (4, .ptr H'.length 0), (5, .int .i64 (k : Int))] ∧ H2 = H' ++ [.box [.str t.1, .int .i64 t.2.1, .sl 1 (t.2.2.map stV)]] ∧ k ≤ t.2.2.length ∧ okLg t k) (n := t.2.2.length) ⟨0, rfl, rfl, rfl, by omega, fun j hj => by omega⟩ (by first | omega | (simp only [go_sem, push_cast] <;> omega)) ?_ ?_ ?_
        · simp (disch := first | (simp only [go_sem] <;> omega) | fail) only [go_sem, x_eLeS, x_hLeS, Int.natCast_zero, Int.natCast_add, Int.natCast_one]
        · exact hLe_app hw (by first | omega | (simp only [go_sem, push_cast] <;> omega)) (by simp (disch := first | (simp only [go_sem] <;> omega) | fail) only [go_sem, x_eLeS, x_hLeS, Int.natCast_zero, Int.natCast_add, Int.natCast_one])
        · rintro J2 hJ2 m2 e2 H2 ⟨k, rfl, rfl, rfl, hk1, hokk⟩
          by_cases hk : (k : Int) < t.2.2.length
          rotate_left
          · have hk2 : k = t.2.2.length := by omega
            have hnx := hfin (by rw [← hk2]; exact hokk)
            clear hJ2 hfin hjn
            simp (disch := first | omega | (simp only [go_sem, push_cast, and_true] <;> omega) | fail) only [go_sem]
            refine round_end hnx (by omega) (by first | omega | (simp only [go_sem, push_cast] <;> omega)) ?_ (hLe_drop hw)
            simp (disch := first | (simp only [go_sem] <;> omega) | fail) only [go_sem, x_eLeS, x_hLeS, Int.natCast_zero, Int.natCast_add, Int.natCast_one]
          · have hs := b3 _ (getD_mem (X := t.2.2) (i := k) (by omega))
            have hb := hbd k (by omega)
            have hn2 := fun (q : okLg t (k + 1)) => hJ2 (t.2.2.length - (k + 1)) _ _ ⟨k + 1, rfl, rfl, rfl, by omega, q⟩
            have hn3 := fun (q : isOfB t (t.2.2.getD k default) = true) => hn2 fun j hj => by
              rcases Nat.lt_succ_iff_lt_or_eq.1 hj with z | rfl
              · exact hokk j z
              · exact q
            clear hJ2 hn2 hfin hjn hbd
            generalize hS : t.2.2.getD k default = s at *
            simp (disch := first | omega | (simp only [go_sem, push_cast, and_true] <;> omega) | fail) only [go_sem, hS]
            refine r_TakeE (s := s) hs _ ?_
            have hi : isOfB t s = (decide ((takE s).2.2 = 0) && (decide ((takE s).2.1 = s.length) && decide ((takE s).1.1 = t.1))) := rfl
            rw [hi] at hb hn3
            generalize takE s = z at *
            obtain ⟨z1, z2, z3⟩ := z
            by_cases y1 : z3 = 0
            rotate_left
            · rw [hb (by simp [y1])] at hK
              simp (disch := first | omega | (simp only [go_sem, push_cast, and_true] <;> omega) | fail) only [go_sem, y1, decide_false, decide_true]
              refine fin_tmp hw ?_ (fin_eq hK ?_)
              · simp (disch := first | omega | (simp only [go_sem, push_cast, and_true] <;> omega) | fail) only [go_sem]
              · simp (disch := first | omega | (simp only [go_sem, push_cast, and_true] <;> omega) | fail) only [go_sem]
            by_cases y2 : z2 = (s.length : Int)
            rotate_left
            · rw [hb (by simp [y2])] at hK
              simp (disch := first | omega | (simp only [go_sem, push_cast, and_true] <;> omega) | fail) only [go_sem, y1, y2, hS, decide_false, decide_true, Bool.not_false, Bool.not_true]
              refine fin_tmp hw ?_ (fin_eq hK ?_)
              · simp (disch := first | omega | (simp only [go_sem, push_cast, and_true] <;> omega) | fail) only [go_sem]
              · simp (disch := first | omega | (simp only [go_sem, push_cast, and_true] <;> omega) | fail) only [go_sem]
            by_cases y3 : z1.1 = t.1
            rotate_left
            · rw [hb (by simp [y3])] at hK
              simp (disch := first | omega | (simp only [go_sem, push_cast, and_true] <;> omega) | fail) only [go_sem, y1, y2, y3, hS, decide_false, decide_true, Bool.not_false, Bool.not_true]
              refine fin_tmp hw ?_ (fin_eq hK ?_)
              · simp (disch := first | omega | (simp only [go_sem, push_cast, and_true] <;> omega) | fail) only [go_sem]
              · simp (disch := first | omega | (simp only [go_sem, push_cast, and_true] <;> omega) | fail) only [go_sem]
            have hn4 := hn3 (by simp [y1, y2, y3])
            clear hn3 hb
            simp (disch := first | omega | (simp only [go_sem, push_cast, and_true] <;> omega) | fail) only [go_sem, y1, y2, y3, hS, decide_false, decide_true, Bool.not_false, Bool.not_true]
            refine round_end hn4 (by omega) (by first | omega | (simp only [go_sem, push_cast] <;> omega)) ?_ ?_
            · simp (disch := first | (simp only [go_sem] <;> omega) | fail) only [go_sem, x_eLeS, x_hLeS, Int.natCast_zero, Int.natCast_add, Int.natCast_one]
            · exact hLe_app hw (by first | omega | (simp only [go_sem, push_cast] <;> omega)) (by simp (disch := first | (simp only [go_sem] <;> omega) | fail) only [go_sem, x_eLeS, x_hLeS, Int.natCast_zero, Int.natCast_add, Int.natCast_one])
      · have hc : chkT X = false := by
          rcases hcm with q | ⟨_, q | q⟩
          · omega
          · exact absurd q hb3
          · exact q
        rw [hc] at hK
        have hb3' : Op.bytesLess (X.getD (i - 1) default).1 t.1 = false := by simpa using hb3
        simp (disch := first | omega | (simp only [go_sem, push_cast, and_true] <;> omega) | fail) only [go_sem, hj1 hi0, hT, hb3']
        refine fin_tmp hw ?_ (fin_eq hK ?_)
        · simp (disch := first | omega | (simp only [go_sem, push_cast, and_true] <;> omega) | fail) only [go_sem]
        · simp (disch := first | omega | (simp only [go_sem, push_cast, and_true] <;> omega) | fail) only [go_sem]
end Go.Av
