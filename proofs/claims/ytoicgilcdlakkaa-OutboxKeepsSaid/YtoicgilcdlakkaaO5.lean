/- A part of a way to reckon what a Go program does without its memory (O5). -/
import Derived.Test.YtoicgilcdlakkaaO3
import Derived.Test.YtoicgilcdlakkaaO4
namespace Go.Av
open Go
set_option autoImplicit false
set_option linter.all false
/-! ### Which outputs may be, and where one is -/
def timeB (n : Int) : Bool := decide (0 ≤ n) && decide (n ≤ 1099511627775)
theorem s_isTime {n : Int} {H : List Entry} : Pure AP n_outbox_isTime [.int .i64 n] H (.bool (timeB n)) := by
  intro K hK
  refine a_outbox_isTime fun hw => ?_
  by_cases h : 0 ≤ n
  · simp (disch := first | omega | (simp only [go_sem, push_cast, and_true] <;> omega) | fail) only [go_sem, c_outbox_isTime, h, decide_true]
    refine fin_tmp0 hw ?_ (fin_eq hK ?_)
    · simp (disch := first | omega | (simp only [go_sem, push_cast, and_true] <;> omega) | fail) only [go_sem]
    · simp [oneV, nths, nth, timeB, h]
  · simp (disch := first | omega | (simp only [go_sem, push_cast, and_true] <;> omega) | fail) only [go_sem, c_outbox_isTime, h, decide_false]
    refine fin_tmp0 hw ?_ (fin_eq hK ?_)
    · simp (disch := first | omega | (simp only [go_sem, push_cast, and_true] <;> omega) | fail) only [go_sem]
    · simp [oneV, nths, nth, timeB, h]
def ownB (x : Ot) : Bool := decide (1 ≤ x.1) && (fieldB x.2.1 && (decide (1 ≤ x.2.2.1.length) && (decide (x.2.2.1.length ≤ 30) && (decide (0 ≤ x.2.2.2.1) && (decide (x.2.2.2.1 < 5) && timeB x.2.2.2.2)))))
def otB (x : Ot) : Prop := x.2.1.length ≤ 60 ∧ x.2.2.1.length ≤ 31 ∧ (0 ≤ x.1 ∧ x.1 ≤ 18446744073709551615)
theorem s_may {x : Ot} {H : List Entry} (hx : otB x) : Pure AP n_outbox_may [otV x] H (.bool (ownB x)) := by
  intro K hK
  refine a_outbox_may fun hw => ?_
  obtain ⟨b1, b2, b3⟩ := hx
  by_cases h1 : 1 ≤ x.1
  rotate_left
  · simp (disch := first | omega | (simp only [go_sem, push_cast, and_true] <;> omega) | fail) only [go_sem, c_outbox_may, h1, decide_false]
    refine fin_tmp hw ?_ (fin_eq hK ?_)
    · simp (disch := first | omega | (simp only [go_sem, push_cast, and_true] <;> omega) | fail) only [go_sem]
    · simp [oneV, nths, nth, ownB, h1]
  simp (disch := first | omega | (simp only [go_sem, push_cast, and_true] <;> omega) | fail) only [go_sem, c_outbox_may, h1, decide_true]
  refine s_Field (s := x.2.1) (by omega) _ ?_
  cases h2 : fieldB x.2.1
  · simp (disch := first | omega | (simp only [go_sem, push_cast, and_true] <;> omega) | fail) only [go_sem]
    refine fin_tmp hw ?_ (fin_eq hK ?_)
    · simp (disch := first | omega | (simp only [go_sem, push_cast, and_true] <;> omega) | fail) only [go_sem]
    · simp [oneV, nths, nth, ownB, h2]
  by_cases h3 : 1 ≤ x.2.2.1.length
  rotate_left
  · simp (disch := first | omega | (simp only [go_sem, push_cast, and_true] <;> omega) | fail) only [go_sem]
    refine fin_tmp hw ?_ (fin_eq hK ?_)
    · simp (disch := first | omega | (simp only [go_sem, push_cast, and_true] <;> omega) | fail) only [go_sem]
    · simp [oneV, nths, nth, ownB, h3]
  by_cases h4 : x.2.2.1.length ≤ 30
  rotate_left
  · simp (disch := first | omega | (simp only [go_sem, push_cast, and_true] <;> omega) | fail) only [go_sem]
    refine fin_tmp hw ?_ (fin_eq hK ?_)
    · simp (disch := first | omega | (simp only [go_sem, push_cast, and_true] <;> omega) | fail) only [go_sem]
    · simp [oneV, nths, nth, ownB, h4]
  by_cases h5 : 0 ≤ x.2.2.2.1
  rotate_left
  · simp (disch := first | omega | (simp only [go_sem, push_cast, and_true] <;> omega) | fail) only [go_sem, h5, decide_false]
    refine fin_tmp hw ?_ (fin_eq hK ?_)
    · simp (disch := first | omega | (simp only [go_sem, push_cast, and_true] <;> omega) | fail) only [go_sem]
    · simp [oneV, nths, nth, ownB, h5]
  by_cases h6 : x.2.2.2.1 < 5
  rotate_left
  · simp (disch := first | omega | (simp only [go_sem, push_cast, and_true] <;> omega) | fail) only [go_sem, h5, h6, decide_true, decide_false]
    refine fin_tmp hw ?_ (fin_eq hK ?_)
    · simp (disch := first | omega | (simp only [go_sem, push_cast, and_true] <;> omega) | fail) only [go_sem]
    · simp [oneV, nths, nth, ownB, h6]
  simp (disch := first | omega | (simp only [go_sem, push_cast, and_true] <;> omega) | fail) only [go_sem, h5, h6, decide_true]
  refine s_isTime _ ?_
  simp (disch := first | omega | (simp only [go_sem, push_cast, and_true] <;> omega) | fail) only [go_sem]
  refine fin_tmp hw ?_ (fin_eq hK ?_)
  · simp (disch := first | omega | (simp only [go_sem, push_cast, and_true] <;> omega) | fail) only [go_sem]
  · simp [oneV, nths, nth, ownB, h1, h2, h3, h4, h5, h6]
theorem s_isWrong {x : Ot} {H : List Entry} (hx : otB x) : Pure AP n_outbox_Check_1 [otV x] H (.bool (!ownB x)) := by
  intro K hK
  refine a_outbox_Check_1 fun hw => ?_
  simp (disch := first | omega | (simp only [go_sem, push_cast, and_true] <;> omega) | fail) only [go_sem, c_outbox_Check_1]
  refine s_may hx _ ?_
  simp (disch := first | omega | (simp only [go_sem, push_cast, and_true] <;> omega) | fail) only [go_sem]
  refine fin_tmp hw ?_ (fin_eq hK ?_)
  · simp (disch := first | omega | (simp only [go_sem, push_cast, and_true] <;> omega) | fail) only [go_sem]
  · simp (disch := first | omega | (simp only [go_sem, push_cast, and_true] <;> omega) | fail) only [go_sem]
theorem s_isNaNu {a : Int} {H : List Entry} : Pure AP n_cmp_isNaN_uint64 [.int .u64 a] H (.bool false) := by
  intro K hK
  refine a_cmp_isNaN_uint64 fun hw => ?_
  simp (disch := first | omega | (simp only [go_sem, push_cast, and_true] <;> omega) | fail) only [go_sem, c_cmp_isNaN_uint64, decide_true]
  refine fin_tmp0 hw ?_ (fin_eq hK ?_)
  · simp (disch := first | omega | (simp only [go_sem, push_cast, and_true] <;> omega) | fail) only [go_sem]
  · simp (disch := first | omega | (simp only [go_sem, push_cast, and_true] <;> omega) | fail) only [go_sem]
def cmpZ (a b : Int) : Int := if a < b then -1 else if b < a then 1 else 0
theorem s_cmpu {a b : Int} {H : List Entry} : Pure AP n_cmp_Compare_uint64 [.int .u64 a, .int .u64 b] H (.int .i64 (cmpZ a b)) := by
  intro K hK
  refine a_cmp_Compare_uint64 fun hw => ?_
  simp (disch := first | omega | (simp only [go_sem, push_cast, and_true] <;> omega) | fail) only [go_sem, c_cmp_Compare_uint64]
  refine s_isNaNu _ ?_
  simp (disch := first | omega | (simp only [go_sem, push_cast, and_true] <;> omega) | fail) only [go_sem]
  refine s_isNaNu _ ?_
  by_cases h : a < b
  · simp (disch := first | omega | (simp only [go_sem, push_cast, and_true] <;> omega) | fail) only [go_sem, h, decide_true]
    refine fin_tmp0 hw ?_ (fin_eq hK ?_)
    · simp (disch := first | omega | (simp only [go_sem, push_cast, and_true] <;> omega) | fail) only [go_sem]
    · simp [oneV, nths, nth, cmpZ, h]
  · by_cases h2 : b < a
    · simp (disch := first | omega | (simp only [go_sem, push_cast, and_true] <;> omega) | fail) only [go_sem, h, h2, decide_true, decide_false]
      refine fin_tmp0 hw ?_ (fin_eq hK ?_)
      · simp (disch := first | omega | (simp only [go_sem, push_cast, and_true] <;> omega) | fail) only [go_sem]
      · simp [oneV, nths, nth, cmpZ, h, h2]
    · simp (disch := first | omega | (simp only [go_sem, push_cast, and_true] <;> omega) | fail) only [go_sem, h, h2, decide_false]
      refine fin_tmp0 hw ?_ (fin_eq hK ?_)
      · simp (disch := first | omega | (simp only [go_sem, push_cast, and_true] <;> omega) | fail) only [go_sem]
      · simp [oneV, nths, nth, cmpZ, h, h2]
def ordO (x y : Ot) : Int := cmpZ x.1 y.1
theorem s_byId {x y : Ot} {H : List Entry} : Pure AP n_outbox_Check_2 [otV x, otV y] H (.int .i64 (ordO x y)) := by
  intro K hK
  refine a_outbox_Check_2 fun hw => ?_
  simp (disch := first | omega | (simp only [go_sem, push_cast, and_true] <;> omega) | fail) only [go_sem, c_outbox_Check_2]
  refine s_cmpu _ ?_
  simp (disch := first | omega | (simp only [go_sem, push_cast, and_true] <;> omega) | fail) only [go_sem]
  refine fin_tmp hw ?_ (fin_eq hK ?_)
  · simp (disch := first | omega | (simp only [go_sem, push_cast, and_true] <;> omega) | fail) only [go_sem]
  · simp (disch := first | omega | (simp only [go_sem, push_cast, and_true] <;> omega) | fail) only [go_sem, ordO]
noncomputable def chkO (X : List Ot) : Bool := decide (X.length ≤ 100) && (!X.any (fun x => !ownB x) && risBO ordO X)
abbrev osB (X : List Ot) : Prop := X.length ≤ 101 ∧ ∀ x ∈ X, otB x
theorem s_Check {X : List Ot} {H : List Entry} (hX : osB X) : Pure AP n_outbox_Check [.sl 5 (X.map otV)] H (.int .i64 (if chkO X = true then 0 else 1)) := by
  intro K hK
  refine a_outbox_Check fun hw => ?_
  obtain ⟨hl, hx⟩ := hX
  by_cases h : X.length ≤ 100
  rotate_left
  · simp (disch := first | omega | (simp only [go_sem, push_cast, and_true] <;> omega) | fail) only [go_sem, c_outbox_Check]
    refine fin_tmp0 hw ?_ (fin_eq hK ?_)
    · simp (disch := first | omega | (simp only [go_sem, push_cast, and_true] <;> omega) | fail) only [go_sem]
    · have : ¬ X.length ≤ 100 := h
      simp [oneV, nths, nth, chkO, this]
  simp (disch := first | omega | (simp only [go_sem, push_cast, and_true] <;> omega) | fail) only [go_sem, c_outbox_Check]
  refine s_ContainsFO (p := fun x => !ownB x) (by omega) (fun x hxm => s_isWrong (hx x hxm)) (by simp (disch := first | omega | (simp only [go_sem, push_cast, and_true] <;> omega) | fail) only [go_sem]) (by simp (disch := first | omega | (simp only [go_sem, push_cast, and_true] <;> omega) | fail) only [go_sem]) _ ?_
  cases ha : X.any (fun x => !ownB x)
  rotate_left
  · simp (disch := first | omega | (simp only [go_sem, push_cast, and_true] <;> omega) | fail) only [go_sem]
    refine fin_tmp0 hw ?_ (fin_eq hK ?_)
    · simp (disch := first | omega | (simp only [go_sem, push_cast, and_true] <;> omega) | fail) only [go_sem]
    · unfold chkO
      rw [ha]
      simp [oneV, nths, nth]
  simp (disch := first | omega | (simp only [go_sem, push_cast, and_true] <;> omega) | fail) only [go_sem]
  refine s_RisesO (o := ordO) (by omega) (fun x _ y _ => s_byId) (by simp (disch := first | omega | (simp only [go_sem, push_cast, and_true] <;> omega) | fail) only [go_sem]) (by simp (disch := first | omega | (simp only [go_sem, push_cast, and_true] <;> omega) | fail) only [go_sem]) _ ?_
  cases hr : risBO ordO X
  · simp (disch := first | omega | (simp only [go_sem, push_cast, and_true] <;> omega) | fail) only [go_sem, Bool.not_false]
    refine fin_tmp0 hw ?_ (fin_eq hK ?_)
    · simp (disch := first | omega | (simp only [go_sem, push_cast, and_true] <;> omega) | fail) only [go_sem]
    · unfold chkO
      rw [ha, hr]
      simp [oneV, nths, nth]
  · simp (disch := first | omega | (simp only [go_sem, push_cast, and_true] <;> omega) | fail) only [go_sem, Bool.not_true]
    refine fin_tmp0 hw ?_ (fin_eq hK ?_)
    · simp (disch := first | omega | (simp only [go_sem, push_cast, and_true] <;> omega) | fail) only [go_sem]
    · unfold chkO
      rw [ha, hr]
      simp [oneV, nths, nth, h]
def isI (n : Int) (x : Ot) : Bool := decide (x.1 = n)
theorem s_find1 {x : Ot} {n : Int} {H : List Entry} {g : Nat} (hg : H[g]? = some (.box [.int .u64 n])) : Pure AP n_outbox_Find_1 [otV x, .ptr g 0] H (.bool (isI n x)) := by
  intro K hK
  refine a_outbox_Find_1 fun hw => ?_
  have hl := (List.getElem?_eq_some_iff.1 hg).1
  simp (disch := first | omega | (simp only [go_sem, push_cast, and_true] <;> omega) | fail) only [go_sem, c_outbox_Find_1, List.getElem?_append_left hl, hg]
  all_goals (first | refine fin_tmp hw ?_ (fin_eq hK ?_) | refine fin_tmp0 hw ?_ (fin_eq hK ?_))
  all_goals simp (disch := first | omega | (simp only [go_sem, push_cast, and_true] <;> omega) | fail) only [go_sem]
  all_goals first | (simp_all [isI]; done) | (simp_all [isI]; omega) | (simp_all [isI]; intros; omega)
theorem s_Find {X : List Ot} {n : Int} {H : List Entry} (hX : X.length ≤ 1000000) : Pure AP n_outbox_Find [.sl 5 (X.map otV), .int .u64 n] H (.int .i64 (idx (isI n) X)) := by
  intro K hK
  refine a_outbox_Find fun hw => ?_
  simp (disch := first | omega | (simp only [go_sem, push_cast, and_true] <;> omega) | fail) only [go_sem, c_outbox_Find]
  refine s_IndexFO hX (p := isI n) (fun x _ => s_find1 ?_) ?_ ?_ _ ?_
  · simp (disch := first | omega | (simp only [go_sem, push_cast, and_true] <;> omega) | fail) only [go_sem]
  · simp (disch := first | omega | (simp only [go_sem, push_cast, and_true] <;> omega) | fail) only [go_sem]
  · simp (disch := first | omega | (simp only [go_sem, push_cast, and_true] <;> omega) | fail) only [go_sem]
    omega
  simp (disch := first | omega | (simp only [go_sem, push_cast, and_true] <;> omega) | fail) only [go_sem]
  all_goals (first | refine fin_tmp hw ?_ (fin_eq hK ?_) | refine fin_tmp0 hw ?_ (fin_eq hK ?_))
  all_goals simp (disch := first | omega | (simp only [go_sem, push_cast, and_true] <;> omega) | fail) only [go_sem]
  all_goals first | (simp_all [isI]; done) | (simp_all [isI]; omega) | (simp_all [isI]; intros; omega)
noncomputable def findO (X : List Ot) (n : Int) : Int × Int := if chkO X = true then (if 0 ≤ idx (isI n) X then (idx (isI n) X, 0) else (0, 4)) else (0, 1)
theorem s_find {X : List Ot} {n : Int} {H : List Entry} (hX : osB X) : Pure AP n_outbox_find [.sl 5 (X.map otV), .int .u64 n] H (.tup [.int .i64 (findO X n).1, .int .i64 (findO X n).2]) := by
  intro K hK
  refine a_outbox_find fun hw => ?_
  unfold findO at hK
  simp (disch := first | omega | (simp only [go_sem, push_cast, and_true] <;> omega) | fail) only [go_sem, c_outbox_find]
  refine s_Check hX _ ?_
  by_cases hc : chkO X = true
  rotate_left
  · rw [if_neg hc] at hK
    simp (disch := first | omega | (simp only [go_sem, push_cast, and_true] <;> omega) | fail) only [go_sem, if_neg hc, decide_false]
    refine fin_tmp0 hw ?_ (fin_eq hK ?_)
    · simp (disch := first | omega | (simp only [go_sem, push_cast, and_true] <;> omega) | fail) only [go_sem]
    · simp (disch := first | omega | (simp only [go_sem, push_cast, and_true] <;> omega) | fail) only [go_sem]
  rw [if_pos hc] at hK
  simp (disch := first | omega | (simp only [go_sem, push_cast, and_true] <;> omega) | fail) only [go_sem, if_pos hc, decide_true, Bool.not_true]
  refine s_Find (by omega) _ ?_
  have hb := idx_bounds (isI n) X
  by_cases h : 0 ≤ idx (isI n) X
  · rw [if_pos h] at hK
    simp (disch := first | omega | (simp only [go_sem, push_cast, and_true] <;> omega) | fail) only [go_sem]
    refine fin_tmp0 hw ?_ (fin_eq hK ?_)
    · simp (disch := first | omega | (simp only [go_sem, push_cast, and_true] <;> omega) | fail) only [go_sem]
    · simp (disch := first | omega | (simp only [go_sem, push_cast, and_true] <;> omega) | fail) only [go_sem]
  · rw [if_neg h] at hK
    simp (disch := first | omega | (simp only [go_sem, push_cast, and_true] <;> omega) | fail) only [go_sem]
    refine fin_tmp0 hw ?_ (fin_eq hK ?_)
    · simp (disch := first | omega | (simp only [go_sem, push_cast, and_true] <;> omega) | fail) only [go_sem]
    · simp (disch := first | omega | (simp only [go_sem, push_cast, and_true] <;> omega) | fail) only [go_sem]
def delO (X : List Ot) (p : Nat) : List Ot := X.take p ++ X.drop (p + 1)
noncomputable def ackO (X : List Ot) (n : Int) : List Ot × Int := if (findO X n).2 = 0 then (delO X (findO X n).1.toNat, 0) else ([], (findO X n).2)
theorem s_Ack {X : List Ot} {n : Int} {H : List Entry} (hX : osB X) : Pure AP n_outbox_Ack [.sl 5 (X.map otV), .int .u64 n] H (.tup [.sl 5 ((ackO X n).1.map otV), .int .i64 (ackO X n).2]) := by
  intro K hK
  refine a_outbox_Ack fun hw => ?_
  have hl : X.length ≤ 101 := hX.1
  unfold ackO at hK
  simp (disch := first | omega | (simp only [go_sem, push_cast, and_true] <;> omega) | fail) only [go_sem, c_outbox_Ack]
  refine s_find hX _ ?_
  by_cases h : (findO X n).2 = 0
  · simp only [if_pos h] at hK
    have hb : 0 ≤ (findO X n).1 ∧ (findO X n).1 < X.length := by
      have hb := idx_bounds (isI n) X
      unfold findO at h ⊢
      split
      · split
        · simp only; omega
        · simp_all
      · simp_all
    obtain ⟨p, hp⟩ : ∃ p : Nat, (findO X n).1 = (p : Int) := ⟨(findO X n).1.toNat, by omega⟩
    rw [hp] at hb hK ⊢
    simp (disch := first | omega | (simp only [go_sem, push_cast, and_true] <;> omega) | fail) only [go_sem, h, decide_true, Bool.not_true]
    refine s_WithoutO (X := X) (p := p) (by omega) (by omega) _ ?_
    simp (disch := first | omega | (simp only [go_sem, push_cast, and_true] <;> omega) | fail) only [go_sem]
    refine fin_tmp0 hw ?_ (fin_eq hK ?_)
    · simp (disch := first | omega | (simp only [go_sem, push_cast, and_true] <;> omega) | fail) only [go_sem]
    · simp (disch := first | omega | (simp only [go_sem, push_cast, and_true] <;> omega) | fail) only [go_sem, Int.toNat_natCast, delO]
  · simp only [if_neg h] at hK
    simp (disch := first | omega | (simp only [go_sem, push_cast, and_true] <;> omega) | fail) only [go_sem, h, decide_false, Bool.not_false]
    refine wk_nil (H := H) (t := []) 4 5 (by simp) rfl ?_
    simp (disch := first | omega | (simp only [go_sem, push_cast, and_true] <;> omega) | fail) only [go_sem, setAt]
    refine fin_tmp hw ?_ (fin_eq hK ?_)
    · simp (disch := first | omega | (simp only [go_sem, push_cast, and_true] <;> omega) | fail) only [go_sem]
    · simp (disch := first | omega | (simp only [go_sem, push_cast, and_true] <;> omega) | fail) only [go_sem, List.map_nil]
end Go.Av
