/- A part of a way to reckon what a Go program does without its memory (T2). -/
import Derived.Test.YtgeiicchkfpanaaT1
import Derived.Test.YtgeiicchkfpanaaQ4
namespace Go.Av
open Go
set_option autoImplicit false
set_option linter.all false
/-! ### Texts stand in one order -/
abbrev lessB (x y : List UInt8) : Bool := Op.bytesLess x y
theorem u8_lt {a b : UInt8} : (a < b) = (a.toNat < b.toNat) := by rw [UInt8.lt_iff_toNat_lt]
theorem u8_eq {a b : UInt8} : (a = b) = (a.toNat = b.toNat) := by rw [UInt8.toNat_inj]
theorem less_cons (a b : UInt8) (x y : List UInt8) : (lessB (a :: x) (b :: y) = true) = (a.toNat < b.toNat ∨ (a.toNat = b.toNat ∧ lessB x y = true)) := by
  simp only [lessB, Op.bytesLess, Bool.or_eq_true, Bool.and_eq_true, decide_eq_true_eq, beq_iff_eq, u8_lt, u8_eq]
theorem less_irr : ∀ x : List UInt8, ¬ lessB x x = true
  | [] => by simp [lessB, Op.bytesLess]
  | a :: x => by
    rw [less_cons]
    have := less_irr x
    rintro (h | ⟨_, h⟩)
    · omega
    · exact this h
theorem less_trans : ∀ x y z : List UInt8, lessB x y = true → lessB y z = true → lessB x z = true
  | _, _, [], _, h => by cases ‹List UInt8› <;> simp [lessB, Op.bytesLess] at h
  | [], _, c :: z, _, _ => rfl
  | a :: x, [], c :: z, h, _ => by simp [lessB, Op.bytesLess] at h
  | a :: x, b :: y, c :: z, h1, h2 => by
    rw [less_cons] at h1 h2 ⊢
    rcases h1 with h1 | ⟨h1, k1⟩ <;> rcases h2 with h2 | ⟨h2, k2⟩
    · exact .inl (by omega)
    · exact .inl (by omega)
    · exact .inl (by omega)
    · exact .inr ⟨by omega, less_trans x y z k1 k2⟩
theorem less_tot : ∀ x y : List UInt8, ¬ lessB x y = true → x ≠ y → lessB y x = true
  | [], [], _, h => absurd rfl h
  | [], b :: y, h, _ => absurd rfl h
  | a :: x, [], _, _ => rfl
  | a :: x, b :: y, h, hn => by
    rw [less_cons] at h ⊢
    by_cases hab : a.toNat = b.toNat
    · have e : a = b := by rw [u8_eq]; exact hab
      subst e
      exact .inr ⟨rfl, less_tot x y (fun k => h (.inr ⟨rfl, k⟩)) (fun k => hn (by rw [k]))⟩
    · exact .inl (by have := fun k => h (.inl k); omega)
theorem less_asym {x y : List UInt8} (h : lessB x y = true) : ¬ lessB y x = true := fun k => less_irr x (less_trans _ _ _ h k)
theorem less_ne {x y : List UInt8} (h : lessB x y = true) : x ≠ y := fun k => less_irr x (by rw [← k] at h; exact h)
theorem cmpS_neg {a b : List UInt8} (h : cmpS a b < 0) : lessB a b = true := by
  unfold cmpS at h
  split at h
  · assumption
  · split at h <;> omega
/-! ### Which topics may be -/
noncomputable def isOfB (t : Tp) (s : List UInt8) : Bool := decide ((takE s).2.2 = 0) && (decide ((takE s).2.1 = s.length) && decide ((takE s).1.1 = t.1))
abbrev tpB (t : Tp) : Prop := t.1.length ≤ 60 ∧ t.2.2.length ≤ 101 ∧ (∀ s ∈ t.2.2, s.length ≤ 900) ∧ (-9223372036854775808 ≤ t.2.1 ∧ t.2.1 ≤ 9223372036854775807)
theorem s_isOf {t : Tp} {s : List UInt8} {H : List Entry} (hs : s.length ≤ 900) : Pure AP n_topic_isOf [tpV t, .str s] H (.bool (isOfB t s)) := by
  intro K hK
  refine a_topic_isOf fun hw => ?_
  simp (disch := first | omega | (simp only [go_sem, push_cast, and_true] <;> omega) | fail) only [go_sem, c_topic_isOf]
  refine s_Take (by omega) _ ?_
  simp (disch := first | omega | (simp only [go_sem, push_cast, and_true] <;> omega) | fail) only [go_sem]
  by_cases h1 : (takE s).2.2 = 0
  rotate_left
  · simp (disch := first | omega | (simp only [go_sem, push_cast, and_true] <;> omega) | fail) only [go_sem, h1, decide_false]
    refine fin_tmp hw ?_ (fin_eq hK ?_)
    · simp (disch := first | omega | (simp only [go_sem, push_cast, and_true] <;> omega) | fail) only [go_sem]
    · simp [oneV, nths, nth, isOfB, h1]
  by_cases h2 : (takE s).2.1 = s.length
  rotate_left
  · simp (disch := first | omega | (simp only [go_sem, push_cast, and_true] <;> omega) | fail) only [go_sem, h1, h2, decide_true, decide_false]
    refine fin_tmp hw ?_ (fin_eq hK ?_)
    · simp (disch := first | omega | (simp only [go_sem, push_cast, and_true] <;> omega) | fail) only [go_sem]
    · simp [oneV, nths, nth, isOfB, h2]
  simp (disch := first | omega | (simp only [go_sem, push_cast, and_true] <;> omega) | fail) only [go_sem, h1, h2, decide_true]
  refine fin_tmp hw ?_ (fin_eq hK ?_)
  · simp (disch := first | omega | (simp only [go_sem, push_cast, and_true] <;> omega) | fail) only [go_sem]
  · simp [oneV, nths, nth, isOfB, h1, h2]
theorem s_isWrong1 {t : Tp} {s : List UInt8} {H : List Entry} {g : Nat} (hs : s.length ≤ 900) (hg : H[g]? = some (.box [.str t.1, .int .i64 t.2.1, .sl 1 (t.2.2.map stV)])) : Pure AP n_topic_isWrong_1 [stV s, .ptr g 0] H (.bool (!isOfB t s)) := by
  intro K hK
  refine a_topic_isWrong_1 fun hw => ?_
  simp (disch := first | omega | (simp only [go_sem, push_cast, and_true] <;> omega) | fail) only [go_sem, c_topic_isWrong_1, hg]
  refine s_isOf (t := t) hs _ ?_
  simp (disch := first | omega | (simp only [go_sem, push_cast, and_true] <;> omega) | fail) only [go_sem]
  refine fin_tmp0 hw ?_ (fin_eq hK ?_)
  · simp (disch := first | omega | (simp only [go_sem, push_cast, and_true] <;> omega) | fail) only [go_sem]
  · simp (disch := first | omega | (simp only [go_sem, push_cast, and_true] <;> omega) | fail) only [go_sem]
noncomputable def wrongT (t : Tp) : Bool := !topicB t.1 || (decide (100 < t.2.2.length) || (decide (t.2.1 < 0) || (decide (1099511627775 - (t.2.2.length : Int) < t.2.1) || t.2.2.any (fun s => !isOfB t s))))
theorem s_isWrong {t : Tp} {H : List Entry} (ht : tpB t) : Pure AP n_topic_isWrong [tpV t] H (.bool (wrongT t)) := by
  intro K hK
  refine a_topic_isWrong fun hw => ?_
  obtain ⟨b1, b2, b3, b4⟩ := ht
  simp (disch := first | omega | (simp only [go_sem, push_cast, and_true] <;> omega) | fail) only [go_sem, c_topic_isWrong]
  refine s_Topic _ ?_
  cases h1 : topicB t.1
  · simp (disch := first | omega | (simp only [go_sem, push_cast, and_true] <;> omega) | fail) only [go_sem, Bool.not_false]
    refine fin_tmp hw ?_ (fin_eq hK ?_)
    · simp (disch := first | omega | (simp only [go_sem, push_cast, and_true] <;> omega) | fail) only [go_sem]
    · simp [oneV, nths, nth, wrongT, h1]
  by_cases h2 : 100 < t.2.2.length
  · simp (disch := first | omega | (simp only [go_sem, push_cast, and_true] <;> omega) | fail) only [go_sem, Bool.not_true]
    refine fin_tmp hw ?_ (fin_eq hK ?_)
    · simp (disch := first | omega | (simp only [go_sem, push_cast, and_true] <;> omega) | fail) only [go_sem]
    · simp [oneV, nths, nth, wrongT, h2]
  by_cases h3 : t.2.1 < 0
  · simp (disch := first | omega | (simp only [go_sem, push_cast, and_true] <;> omega) | fail) only [go_sem, Bool.not_true, h3, decide_true]
    refine fin_tmp hw ?_ (fin_eq hK ?_)
    · simp (disch := first | omega | (simp only [go_sem, push_cast, and_true] <;> omega) | fail) only [go_sem]
    · simp [oneV, nths, nth, wrongT, h3]
  by_cases h4 : 1099511627775 - (t.2.2.length : Int) < t.2.1
  · simp (disch := first | omega | (simp only [go_sem, push_cast, and_true] <;> omega) | fail) only [go_sem, Bool.not_true, h3, h4, decide_true, decide_false]
    refine fin_tmp hw ?_ (fin_eq hK ?_)
    · simp (disch := first | omega | (simp only [go_sem, push_cast, and_true] <;> omega) | fail) only [go_sem]
    · simp [oneV, nths, nth, wrongT, h4]
  simp (disch := first | omega | (simp only [go_sem, push_cast, and_true] <;> omega) | fail) only [go_sem, Bool.not_true, h3, h4, decide_true, decide_false]
  refine s_ContainsFS (p := fun s => !isOfB t s) (by omega) (fun s hs => s_isWrong1 (t := t) (b3 s hs) ?_) ?_ ?_ _ ?_
  · simp (disch := first | omega | (simp only [go_sem, push_cast, and_true] <;> omega) | fail) only [go_sem]
  · simp (disch := first | omega | (simp only [go_sem, push_cast, and_true] <;> omega) | fail) only [go_sem]
  · simp (disch := first | omega | (simp only [go_sem, push_cast, and_true] <;> omega) | fail) only [go_sem]
    omega
  simp (disch := first | omega | (simp only [go_sem, push_cast, and_true] <;> omega) | fail) only [go_sem]
  refine fin_tmp hw ?_ (fin_eq hK ?_)
  · simp (disch := first | omega | (simp only [go_sem, push_cast, and_true] <;> omega) | fail) only [go_sem]
  · simp [oneV, nths, nth, wrongT, h1, h2, h3, h4]
theorem s_byNameT {x y : Tp} {H : List Entry} : Pure AP n_topic_Check_1 [tpV x, tpV y] H (.int .i64 (cmpS x.1 y.1)) := by
  intro K hK
  refine a_topic_Check_1 fun hw => ?_
  simp (disch := first | omega | (simp only [go_sem, push_cast, and_true] <;> omega) | fail) only [go_sem, c_topic_Check_1]
  refine s_cmp _ ?_
  simp (disch := first | omega | (simp only [go_sem, push_cast, and_true] <;> omega) | fail) only [go_sem]
  refine fin_tmp hw ?_ (fin_eq hK ?_)
  · simp (disch := first | omega | (simp only [go_sem, push_cast, and_true] <;> omega) | fail) only [go_sem]
  · simp (disch := first | omega | (simp only [go_sem, push_cast, and_true] <;> omega) | fail) only [go_sem]
def ordT (x y : Tp) : Int := cmpS x.1 y.1
noncomputable def chkT (X : List Tp) : Bool := decide (X.length ≤ 20) && (risBP ordT X && !X.any wrongT)
abbrev tsB (X : List Tp) : Prop := X.length ≤ 21 ∧ ∀ t ∈ X, tpB t
theorem s_CheckT {X : List Tp} {H : List Entry} (hX : tsB X) : Pure AP n_topic_Check [.sl 3 (X.map tpV)] H (.int .i64 (if chkT X = true then 0 else 1)) := by
  intro K hK
  refine a_topic_Check fun hw => ?_
  obtain ⟨hl, hx⟩ := hX
  by_cases h : X.length ≤ 20
  rotate_left
  · simp (disch := first | omega | (simp only [go_sem, push_cast, and_true] <;> omega) | fail) only [go_sem, c_topic_Check]
    refine fin_tmp0 hw ?_ (fin_eq hK ?_)
    · simp (disch := first | omega | (simp only [go_sem, push_cast, and_true] <;> omega) | fail) only [go_sem]
    · simp [oneV, nths, nth, chkT, h]
  simp (disch := first | omega | (simp only [go_sem, push_cast, and_true] <;> omega) | fail) only [go_sem, c_topic_Check]
  refine s_RisesP (o := ordT) (by omega) (fun x _ y _ => s_byNameT) (by simp (disch := first | omega | (simp only [go_sem, push_cast, and_true] <;> omega) | fail) only [go_sem]) (by simp (disch := first | omega | (simp only [go_sem, push_cast, and_true] <;> omega) | fail) only [go_sem]) _ ?_
  cases hr : risBP ordT X
  · simp (disch := first | omega | (simp only [go_sem, push_cast, and_true] <;> omega) | fail) only [go_sem, Bool.not_false]
    refine fin_tmp0 hw ?_ (fin_eq hK ?_)
    · simp (disch := first | omega | (simp only [go_sem, push_cast, and_true] <;> omega) | fail) only [go_sem]
    · unfold chkT
      rw [hr]
      simp [oneV, nths, nth]
  simp (disch := first | omega | (simp only [go_sem, push_cast, and_true] <;> omega) | fail) only [go_sem, Bool.not_true]
  refine s_ContainsFP (p := wrongT) (by omega) (fun t htm => s_isWrong (hx t htm)) (by simp (disch := first | omega | (simp only [go_sem, push_cast, and_true] <;> omega) | fail) only [go_sem]) (by simp (disch := first | omega | (simp only [go_sem, push_cast, and_true] <;> omega) | fail) only [go_sem]) _ ?_
  cases ha : X.any wrongT
  · simp (disch := first | omega | (simp only [go_sem, push_cast, and_true] <;> omega) | fail) only [go_sem]
    refine fin_tmp0 hw ?_ (fin_eq hK ?_)
    · simp (disch := first | omega | (simp only [go_sem, push_cast, and_true] <;> omega) | fail) only [go_sem]
    · unfold chkT
      rw [hr, ha]
      simp [oneV, nths, nth, h]
  · simp (disch := first | omega | (simp only [go_sem, push_cast, and_true] <;> omega) | fail) only [go_sem]
    refine fin_tmp0 hw ?_ (fin_eq hK ?_)
    · simp (disch := first | omega | (simp only [go_sem, push_cast, and_true] <;> omega) | fail) only [go_sem]
    · unfold chkT
      rw [hr, ha]
      simp [oneV, nths, nth]
def isNT (n : List UInt8) (t : Tp) : Bool := decide (t.1 = n)
theorem s_Find1 {t : Tp} {n : List UInt8} {H : List Entry} {g : Nat} (hg : H[g]? = some (.box [.str n])) : Pure AP n_topic_Find_1 [tpV t, .ptr g 0] H (.bool (isNT n t)) := by
  intro K hK
  refine a_topic_Find_1 fun hw => ?_
  have hl := (List.getElem?_eq_some_iff.1 hg).1
  simp (disch := first | omega | (simp only [go_sem, push_cast, and_true] <;> omega) | fail) only [go_sem, c_topic_Find_1, List.getElem?_append_left hl, hg]
  all_goals (first | refine fin_tmp hw ?_ (fin_eq hK ?_) | refine fin_tmp0 hw ?_ (fin_eq hK ?_))
  all_goals simp (disch := first | omega | (simp only [go_sem, push_cast, and_true] <;> omega) | fail) only [go_sem]
  all_goals first | (simp_all [isNT]; done) | (simp_all [isNT]; omega) | (simp_all [isNT]; intros; omega)
def mxZ (a : Int) : Int := if 0 ≤ a then a else 0
theorem s_FindT {X : List Tp} {n : List UInt8} {H : List Entry} (hX : X.length ≤ 1000000) : Pure AP n_topic_Find [.sl 3 (X.map tpV), .str n] H (.tup [.int .i64 (mxZ (idx (isNT n) X)), .bool (decide (0 ≤ idx (isNT n) X))]) := by
  intro K hK
  refine a_topic_Find fun hw => ?_
  simp (disch := first | omega | (simp only [go_sem, push_cast, and_true] <;> omega) | fail) only [go_sem, c_topic_Find]
  refine s_IndexFP hX (p := isNT n) (fun x _ => s_Find1 ?_) ?_ ?_ _ ?_
  · simp (disch := first | omega | (simp only [go_sem, push_cast, and_true] <;> omega) | fail) only [go_sem]
  · simp (disch := first | omega | (simp only [go_sem, push_cast, and_true] <;> omega) | fail) only [go_sem]
  · simp (disch := first | omega | (simp only [go_sem, push_cast, and_true] <;> omega) | fail) only [go_sem]
    omega
  by_cases h : 0 ≤ idx (isNT n) X
  · simp (disch := first | omega | (simp only [go_sem, push_cast, and_true] <;> omega) | fail) only [go_sem]
    refine fin_tmp hw ?_ (fin_eq hK ?_)
    · simp (disch := first | omega | (simp only [go_sem, push_cast, and_true] <;> omega) | fail) only [go_sem]
    · simp [oneV, nths, nth, mxZ, h]
      omega
  · simp (disch := first | omega | (simp only [go_sem, push_cast, and_true] <;> omega) | fail) only [go_sem]
    refine fin_tmp hw ?_ (fin_eq hK ?_)
    · simp (disch := first | omega | (simp only [go_sem, push_cast, and_true] <;> omega) | fail) only [go_sem]
    · simp [oneV, nths, nth, mxZ, h]
noncomputable def findT (X : List Tp) (n : List UInt8) : Int × Int := if chkT X = true then (if 0 ≤ idx (isNT n) X then (idx (isNT n) X, 0) else (0, 4)) else (0, 1)
theorem s_findT {X : List Tp} {n : List UInt8} {H : List Entry} (hX : tsB X) : Pure AP n_topic_find [.sl 3 (X.map tpV), .str n] H (.tup [.int .i64 (findT X n).1, .int .i64 (findT X n).2]) := by
  intro K hK
  refine a_topic_find fun hw => ?_
  have hl : X.length ≤ 21 := hX.1
  unfold findT at hK
  simp (disch := first | omega | (simp only [go_sem, push_cast, and_true] <;> omega) | fail) only [go_sem, c_topic_find]
  refine s_CheckT hX _ ?_
  by_cases hc : chkT X = true
  rotate_left
  · rw [if_neg hc] at hK
    simp (disch := first | omega | (simp only [go_sem, push_cast, and_true] <;> omega) | fail) only [go_sem, if_neg hc, decide_false, Bool.not_false]
    refine fin_tmp0 hw ?_ (fin_eq hK ?_)
    · simp (disch := first | omega | (simp only [go_sem, push_cast, and_true] <;> omega) | fail) only [go_sem]
    · simp (disch := first | omega | (simp only [go_sem, push_cast, and_true] <;> omega) | fail) only [go_sem]
  rw [if_pos hc] at hK
  simp (disch := first | omega | (simp only [go_sem, push_cast, and_true] <;> omega) | fail) only [go_sem, if_pos hc, decide_true, Bool.not_true]
  refine s_FindT (by omega) _ ?_
  by_cases h : 0 ≤ idx (isNT n) X
  · rw [if_pos h] at hK
    simp (disch := first | omega | (simp only [go_sem, push_cast, and_true] <;> omega) | fail) only [go_sem, h, decide_true, Bool.not_true]
    refine fin_tmp0 hw ?_ (fin_eq hK ?_)
    · simp (disch := first | omega | (simp only [go_sem, push_cast, and_true] <;> omega) | fail) only [go_sem]
    · simp [oneV, nths, nth, mxZ, h]
  · rw [if_neg h] at hK
    simp (disch := first | omega | (simp only [go_sem, push_cast, and_true] <;> omega) | fail) only [go_sem, h, decide_false, Bool.not_false]
    refine fin_tmp0 hw ?_ (fin_eq hK ?_)
    · simp (disch := first | omega | (simp only [go_sem, push_cast, and_true] <;> omega) | fail) only [go_sem]
    · simp (disch := first | omega | (simp only [go_sem, push_cast, and_true] <;> omega) | fail) only [go_sem]
theorem s_endOf {t : Tp} {H : List Entry} (hl : t.2.2.length ≤ 101) (hb : 0 ≤ t.2.1 ∧ t.2.1 ≤ 1099511627775) : Pure AP n_topic_endOf [tpV t] H (.int .i64 (t.2.1 + t.2.2.length)) := by
  intro K hK
  refine a_topic_endOf fun hw => ?_
  simp (disch := first | omega | (simp only [go_sem, push_cast, and_true] <;> omega) | fail) only [go_sem, c_topic_endOf]
  refine fin_tmp hw ?_ (fin_eq hK ?_)
  · simp (disch := first | omega | (simp only [go_sem, push_cast, and_true] <;> omega) | fail) only [go_sem]
  · simp (disch := first | omega | (simp only [go_sem, push_cast, and_true] <;> omega) | fail) only [go_sem]
theorem chkT_el {X : List Tp} (h : chkT X = true) {t : Tp} (ht : t ∈ X) : (0 ≤ t.2.1 ∧ t.2.1 + t.2.2.length ≤ 1099511627775) ∧ ∀ s ∈ t.2.2, (takE s).2.2 = 0 ∧ (takE s).1.1 = t.1 := by
  unfold chkT at h
  simp only [Bool.and_eq_true, Bool.not_eq_true', List.any_eq_false] at h
  have := h.2.2 t ht
  unfold wrongT at this
  simp only [Bool.or_eq_true, Bool.not_eq_true', decide_eq_true_eq, not_or, List.any_eq_true, not_exists, not_and] at this
  refine ⟨by omega, fun s hs => ?_⟩
  have h5 := this.2.2.2.2 s hs
  simp only [Bool.not_eq_false] at h5
  unfold isOfB at h5
  simp only [Bool.and_eq_true, decide_eq_true_eq] at h5
  exact ⟨h5.1, h5.2.2⟩
theorem chkT_idx {X : List Tp} (h : chkT X = true) {i : Nat} (hi : i < X.length) : idx (isNT (X.getD i default).1) X = (i : Int) := by
  unfold chkT at h
  simp only [Bool.and_eq_true] at h
  have hr := risBP_of h.2.1
  have key : ∀ d j : Nat, j + d + 1 < X.length → lessB (X.getD j default).1 (X.getD (j + d + 1) default).1 = true := by
    intro d
    induction d with
    | zero => intro j hj; exact cmpS_neg (hr j hj)
    | succ d ih =>
      intro j hj
      exact less_trans _ _ _ (ih j (by omega)) (cmpS_neg (hr (j + d + 1) hj))
  refine idx_some hi (by simp [isNT]) fun j hj => ?_
  have := key (i - j - 1) j (by omega)
  rw [show j + (i - j - 1) + 1 = i by omega] at this
  simp only [isNT, decide_eq_false_iff_not]
  exact less_ne this
end Go.Av
