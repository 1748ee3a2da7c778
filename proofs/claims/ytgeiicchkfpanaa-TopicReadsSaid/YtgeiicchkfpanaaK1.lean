/- A part of a way to reckon what a Go program does without its memory (K1). -/
import Derived.Test.YtgeiicchkfpanaaQ4
import Derived.Test.YtgeiicchkfpanaaQ2
import Derived.Test.YtgeiicchkfpanaaNumRUnp
namespace Go.Av
open Go Go.RowKit
set_option autoImplicit false
set_option linter.all false
/-! ### The document's: what is taken -/
theorem r_Unpack {s : List UInt8} {H : List Entry} (hs : s.length ≤ 1000000) : Pure AP n_trystref01_Unpack [.str s] H (.tup [.int .u64 (unp s).1, .int .i64 (unp s).2.1, .int .i64 (unp s).2.2]) := by
  refine pure_of (by kernel_rfl) fun C vals hH hC hv => ?_
  simp only [CRep, VRep] at hv
  obtain ⟨_, _, rfl, rfl, rfl⟩ := hv
  refine Calls.mono (Go.Proofs.Ytgeiicchkfpanaa.runpack_any ⟨s.toArray⟩ C.w (by show s.toArray.size ≤ _; simpa using hs)) ?_
  rintro e w' ⟨rfl, hb⟩
  exact ⟨_, rfl, hb, fun C' _ => by simp [VRep, CRep, unp, Go.Proofs.Ytgeiicchkfpanaa.unpR]⟩
theorem r_Unfold {a : Int} {H : List Entry} (h0 : 0 ≤ a) (h1 : a ≤ 18446744073709551615) : Pure AP n_trystref01_Unfold [.int .u64 a] H (.int .i64 (Go.Proofs.Ytgeiicchkfpanaa.unfoldZ a)) := by
  intro K hK
  refine a_trystref01_Unfold fun hw => ?_
  unfold Go.Proofs.Ytgeiicchkfpanaa.unfoldZ at hK
  by_cases h : a % 2 = 0
  · rw [if_neg (by omega)] at hK
    simp (disch := first | omega | (simp only [go_sem, push_cast, and_true] <;> omega) | fail) only [go_sem, c_trystref01_Unfold, h, decide_true]
    refine fin_tmp0 hw ?_ (fin_eq hK ?_)
    · simp (disch := first | omega | (simp only [go_sem, push_cast, and_true] <;> omega) | fail) only [go_sem]
    · simp (disch := first | omega | (simp only [go_sem, push_cast, and_true] <;> omega) | fail) only [go_sem]
  · rw [if_pos (by omega)] at hK
    simp (disch := first | omega | (simp only [go_sem, push_cast, and_true] <;> omega) | fail) only [go_sem, c_trystref01_Unfold, h, decide_false]
    refine fin_tmp0 hw ?_ (fin_eq hK ?_)
    · simp (disch := first | omega | (simp only [go_sem, push_cast, and_true] <;> omega) | fail) only [go_sem]
    · simp (disch := first | omega | (simp only [go_sem, push_cast, and_true] <;> omega) | fail) only [go_sem, Int.zero_sub]
theorem unp_zero {s : List UInt8} (h : (unp s).2.2 ≠ 0) : (unp s).1 = 0 := by
  unfold unp Go.Proofs.Ytgeiicchkfpanaa.unpS at h ⊢
  split
  · rfl
  · split
    · rfl
    · split
      · rename_i h1 h2 h3
        rw [if_neg h1, if_neg h2, if_pos h3] at h
        exact absurd rfl h
      · rfl
/-- The text at a place. -/
def wordR (s : List UInt8) (a most : Int) : List UInt8 × Int × Int :=
  let z := textR most (s.drop a.toNat, 0)
  if z.2.2 = 0 then (z.1, (s.length : Int) - z.2.1.length, 0) else ([], 0, z.2.2)
theorem r_word {s : List UInt8} {a most : Int} {H : List Entry} (hs : s.length ≤ 900) (ha : 0 ≤ a ∧ a ≤ s.length) (hm : 0 ≤ most ∧ most ≤ 1000) : Pure AP n_trystref04_word [.str s, .int .i64 a, .int .i64 most] H (.tup [.str (wordR s a most).1, .int .i64 (wordR s a most).2.1, .int .i64 (wordR s a most).2.2]) := by
  intro K hK
  refine a_trystref04_word fun hw => ?_
  obtain ⟨p, rfl⟩ : ∃ p : Nat, a = (p : Int) := ⟨a.toNat, by omega⟩
  unfold wordR textR sizeR numR at hK
  simp only [Int.toNat_natCast, if_true] at hK
  have hdl : (s.drop p).length ≤ 900 := by simp; omega
  simp (disch := first | omega | (simp only [go_sem, push_cast, and_true] <;> omega) | fail) only [go_sem, c_trystref04_word]
  refine r_Unpack (s := s.drop p) (by omega) _ ?_
  have hu := unp_le (s.drop p)
  have hb := unp_bd (s.drop p)
  rw [List.length_drop] at hu
  generalize hU : unp (s.drop p) = u at *
  obtain ⟨n, k, e⟩ := u
  simp only at hK hu hb
  obtain ⟨k, rfl⟩ : ∃ k' : Nat, k = (k' : Int) := ⟨k.toNat, by omega⟩
  obtain ⟨n, rfl⟩ : ∃ n' : Nat, n = (n' : Int) := ⟨n.toNat, by omega⟩
  by_cases he : e = 0
  rotate_left
  · have hn0 : ¬ most < (n : Int) := by
      have := unp_zero (s := s.drop p) (by rw [hU]; exact he)
      rw [hU] at this
      simp only at this
      omega
    rw [if_neg hn0] at hK
    simp only [he, if_false] at hK
    simp (disch := first | omega | (simp only [go_sem, push_cast, and_true] <;> omega) | fail) only [go_sem, he, decide_false, Bool.not_false]
    refine fin_tmp0 hw ?_ (fin_eq hK ?_)
    · simp (disch := first | omega | (simp only [go_sem, push_cast, and_true] <;> omega) | fail) only [go_sem]
    · simp (disch := first | omega | (simp only [go_sem, push_cast, and_true] <;> omega) | fail) only [go_sem]
  subst he
  simp (disch := first | omega | (simp only [go_sem, push_cast, and_true] <;> omega) | fail) only [go_sem, decide_true, Bool.not_true]
  by_cases h2 : most < (n : Int)
  · rw [if_pos h2] at hK
    simp only [show ¬ ((2 : Int) = 0) by decide, if_false] at hK
    simp (disch := first | omega | (simp only [go_sem, push_cast, and_true] <;> omega) | fail) only [go_sem, h2, decide_true]
    refine fin_tmp0 hw ?_ (fin_eq hK ?_)
    · simp (disch := first | omega | (simp only [go_sem, push_cast, and_true] <;> omega) | fail) only [go_sem]
    · simp (disch := first | omega | (simp only [go_sem, push_cast, and_true] <;> omega) | fail) only [go_sem]
  rw [if_neg h2] at hK
  simp only [if_true, Int.toNat_natCast, List.length_drop] at hK
  by_cases h3 : ((s.length - p - k : Nat) : Int) < (n : Int)
  · have h3' : (s.length : Int) < (p : Int) + k + n := by omega
    rw [if_pos h3] at hK
    simp only [show ¬ ((3 : Int) = 0) by decide, if_false] at hK
    simp (disch := first | omega | (simp only [go_sem, push_cast, and_true] <;> omega) | fail) only [go_sem, h2, h3', decide_true, decide_false]
    refine fin_tmp0 hw ?_ (fin_eq hK ?_)
    · simp (disch := first | omega | (simp only [go_sem, push_cast, and_true] <;> omega) | fail) only [go_sem]
    · simp (disch := first | omega | (simp only [go_sem, push_cast, and_true] <;> omega) | fail) only [go_sem]
  · have h3' : ¬ (s.length : Int) < (p : Int) + k + n := by omega
    rw [if_neg h3] at hK
    simp only [if_true, List.length_drop] at hK
    simp (disch := first | omega | (simp only [go_sem, push_cast, and_true] <;> omega) | fail) only [go_sem, h2, h3', decide_false]
    refine fin_tmp0 hw ?_ (fin_eq hK ?_)
    · simp (disch := first | omega | (simp only [go_sem, push_cast, and_true] <;> omega) | fail) only [go_sem]
    · have e1 : ((p : Int) + k).toNat = p + k := by omega
      have e2 : ((p : Int) + k + n).toNat = p + k + n := by omega
      have e3 : (s.take (p + k + n)).drop (p + k) = ((s.drop p).drop k).take n := by
        rw [List.drop_drop, List.drop_take]
        congr 1
        omega
      have e4 : (s.length : Int) - ((s.length - p - k - n : Nat) : Int) = (p : Int) + k + n := by omega
      have e5 : (s.take (p + (k + n))).drop (p + k) = ((s.drop p).drop k).take n := by rw [← Nat.add_assoc]; exact e3
      rw [e4]
      simp (disch := first | omega | (simp only [go_sem, push_cast, and_true] <;> omega) | fail) only [go_sem, e1, e2, e5]
theorem r_TakeV {s : List UInt8} {H : List Entry} (hs : s.length ≤ 900) : Pure AP n_trystref03_Take [.str s] H (.tup [vlV (tkV s).1, .int .i64 (tkV s).2.1, .int .i64 (tkV s).2.2]) := by
  intro K hK
  refine a_trystref03_Take fun hw => ?_
  unfold tkV at hK
  by_cases h0 : s = []
  · simp only [if_pos h0] at hK
    simp (disch := first | omega | (simp only [go_sem, push_cast, and_true] <;> omega) | fail) only [go_sem, c_trystref03_Take, h0, decide_true]
    refine fin_res hw ?_ (fin_eq hK ?_)
    · simp (disch := first | omega | (simp only [go_sem, push_cast, and_true] <;> omega) | fail) only [go_sem]
    · simp [vlV, oneV, v0]
  simp only [if_neg h0] at hK
  have hl : 1 ≤ s.length := by
    have := List.length_pos_iff.2 h0
    omega
  obtain ⟨b, r, rfl⟩ : ∃ b r, s = b :: r := by
    cases s with
    | nil => exact absurd rfl h0
    | cons b r => exact ⟨b, r, rfl⟩
  have ho : octet (b :: r) 0 = (b.toNat : Int) := rfl
  have ht : (b :: r).take 1 = [b] := rfl
  have hd : (b :: r).drop 1 = r := rfl
  have q1 : ([b] = [1]) = ((b.toNat : Int) = 1) := by
    apply propext
    constructor
    · intro h; cases h; rfl
    · intro h; rw [show b = 1 from UInt8.toNat_inj.1 (by show b.toNat = 1; omega)]
  have q2 : ([b] = [2]) = ((b.toNat : Int) = 2) := by
    apply propext
    constructor
    · intro h; cases h; rfl
    · intro h; rw [show b = 2 from UInt8.toNat_inj.1 (by show b.toNat = 2; omega)]
  rw [ht, hd] at hK
  simp only [q1, q2] at hK
  have hlr : r.length ≤ 899 := by simp at hs; omega
  have hu := unp_le r
  have hb := unp_bd r
  have hlen : ((b :: r).length : Int) = (r.length : Int) + 1 := by simp
  have ht2 : (b :: r).take (r.length + 1) = b :: r := by simp
  generalize hB : (b.toNat : Int) = c at *
  by_cases h1 : ¬ c = 1 ∧ ¬ c = 2
  · simp only [if_pos h1] at hK
    simp (disch := first | omega | (simp only [go_sem, push_cast, and_true] <;> omega) | fail) only [go_sem, c_trystref03_Take, h0, ho, h1.1, h1.2, decide_true, decide_false, Bool.not_false]
    refine fin_res hw ?_ (fin_eq hK ?_)
    · simp (disch := first | omega | (simp only [go_sem, push_cast, and_true] <;> omega) | fail) only [go_sem]
    · simp [vlV, oneV, v0]
  simp only [if_neg h1] at hK
  have hUp : ∀ {H : List Entry}, Pure AP n_trystref01_Unpack [.str r] H (.tup [.int .u64 (unp r).1, .int .i64 (unp r).2.1, .int .i64 (unp r).2.2]) := fun {H} => r_Unpack (by omega)
  generalize unp r = u at *
  obtain ⟨n, k, e⟩ := u
  simp only at hK hu hb hUp
  by_cases hc : c = 1
  · have hc2 : ¬ c = 2 := by omega
    simp (disch := first | omega | (simp only [go_sem, push_cast, and_true] <;> omega) | fail) only [go_sem, c_trystref03_Take, h0, ho, hc, ht2, hd, decide_true, decide_false, Bool.not_true, Bool.not_false]
    refine hUp _ ?_
    by_cases he : e = 0
    · subst he
      simp only [not_true, if_false, if_pos hc] at hK
      simp (disch := first | omega | (simp only [go_sem, push_cast, and_true] <;> omega) | fail) only [go_sem, ho, hc, decide_true, Bool.not_true]
      refine r_Unfold hb.1 hb.2 _ ?_
      simp (disch := first | omega | (simp only [go_sem, push_cast, and_true] <;> omega) | fail) only [go_sem]
      refine fin_res hw ?_ (fin_eq hK ?_)
      · simp (disch := first | omega | (simp only [go_sem, push_cast, and_true] <;> omega) | fail) only [go_sem]
      · simp [vlV, oneV]
    · simp only [he, not_false_eq_true, if_true] at hK
      simp (disch := first | omega | (simp only [go_sem, push_cast, and_true] <;> omega) | fail) only [go_sem, he, decide_false, Bool.not_false]
      refine fin_res hw ?_ (fin_eq hK ?_)
      · simp (disch := first | omega | (simp only [go_sem, push_cast, and_true] <;> omega) | fail) only [go_sem]
      · simp [vlV, oneV, v0]
  · have hc2 : c = 2 := by omega
    have h21 : ¬ (2 : Int) = 1 := by decide
    simp (disch := first | omega | (simp only [go_sem, push_cast, and_true] <;> omega) | fail) only [go_sem, c_trystref03_Take, h0, ho, hc2, h21, ht2, hd, decide_true, decide_false, Bool.not_true, Bool.not_false]
    refine hUp _ ?_
    by_cases he : e = 0
    · subst he
      simp only [not_true, if_false, if_neg hc] at hK
      unfold tkT at hK
      by_cases h60 : 60 < n
      · simp only [if_pos h60] at hK
        simp (disch := first | omega | (simp only [go_sem, push_cast, and_true] <;> omega) | fail) only [go_sem, ho, hc2, h21, h60, decide_true, decide_false, Bool.not_true]
        refine fin_res hw ?_ (fin_eq hK ?_)
        · simp (disch := first | omega | (simp only [go_sem, push_cast, and_true] <;> omega) | fail) only [go_sem]
        · simp [vlV, oneV]
      · simp only [if_neg h60] at hK
        by_cases h7 : ((b :: r).length : Int) < 1 + k + n
        · simp only [if_pos h7] at hK
          simp (disch := first | omega | (simp only [go_sem, push_cast, and_true] <;> omega) | fail) only [go_sem, ho, hc2, h21, h60, h7, decide_true, decide_false, Bool.not_true]
          refine fin_res hw ?_ (fin_eq hK ?_)
          · simp (disch := first | omega | (simp only [go_sem, push_cast, and_true] <;> omega) | fail) only [go_sem]
          · simp [vlV, oneV]
        · simp only [if_neg h7] at hK
          simp (disch := first | omega | (simp only [go_sem, push_cast, and_true] <;> omega) | fail) only [go_sem, ho, hc2, h21, h60, h7, decide_true, decide_false, Bool.not_true]
          refine fin_res hw ?_ (fin_eq hK ?_)
          · simp (disch := first | omega | (simp only [go_sem, push_cast, and_true] <;> omega) | fail) only [go_sem]
          · simp [vlV, oneV]
    · simp only [he, not_false_eq_true, if_true] at hK
      simp (disch := first | omega | (simp only [go_sem, push_cast, and_true] <;> omega) | fail) only [go_sem, he, decide_false, Bool.not_false]
      refine fin_res hw ?_ (fin_eq hK ?_)
      · simp (disch := first | omega | (simp only [go_sem, push_cast, and_true] <;> omega) | fail) only [go_sem]
      · simp [vlV, oneV, v0]
end Go.Av
namespace Go.Av
open Go Go.RowKit
set_option autoImplicit false
set_option linter.all false
abbrev evC (e : Ev) : Prop := e.1.length ≤ 60 ∧ e.2.1.length ≤ 60 ∧ e.2.2.2.length ≤ 10 ∧ ∀ f ∈ e.2.2.2, f.1.length ≤ 60 ∧ f.2.2.2.length ≤ 70
theorem r_May3 {v : Vl} {H : List Entry} (hs : v.2.2.length ≤ 9223372036854775807) : Pure AP n_trystref03_May [vlV v] H (.bool (mayV v)) := by
  intro K hK
  refine a_trystref03_May fun hw => ?_
  obtain ⟨b, z, s⟩ := v
  simp only at hs
  cases b
  · by_cases h : z = 0
    · simp (disch := first | omega | (simp only [go_sem, push_cast, and_true] <;> omega) | fail) only [go_sem, c_trystref03_May, h, decide_true, Bool.not_false]
      refine fin_tmp hw ?_ (fin_eq hK ?_)
      · simp (disch := first | omega | (simp only [go_sem, push_cast, and_true] <;> omega) | fail) only [go_sem]
      · simp [oneV, nths, nth, mayV, h]
    · simp (disch := first | omega | (simp only [go_sem, push_cast, and_true] <;> omega) | fail) only [go_sem, c_trystref03_May, h, decide_false, Bool.not_false]
      refine fin_tmp hw ?_ (fin_eq hK ?_)
      · simp (disch := first | omega | (simp only [go_sem, push_cast, and_true] <;> omega) | fail) only [go_sem]
      · simp [oneV, nths, nth, mayV, h]
  · by_cases h : s = []
    · simp (disch := first | omega | (simp only [go_sem, push_cast, and_true] <;> omega) | fail) only [go_sem, c_trystref03_May, h, decide_true, Bool.not_true]
      refine fin_tmp hw ?_ (fin_eq hK ?_)
      · simp (disch := first | omega | (simp only [go_sem, push_cast, and_true] <;> omega) | fail) only [go_sem]
      · simp [oneV, nths, nth, mayV, h]
    · simp (disch := first | omega | (simp only [go_sem, push_cast, and_true] <;> omega) | fail) only [go_sem, c_trystref03_May, h, decide_false, Bool.not_true]
      refine fin_tmp hw ?_ (fin_eq hK ?_)
      · simp (disch := first | omega | (simp only [go_sem, push_cast, and_true] <;> omega) | fail) only [go_sem]
      · simp [oneV, nths, nth, mayV, h]
theorem cmp_lt (a b : List UInt8) : cmpS a b < 0 ↔ Op.bytesLess a b = true := by
  unfold cmpS
  split
  · simp [*]
  · rename_i h
    split
    · exact ⟨fun k => by omega, fun k => absurd k h⟩
    · exact ⟨fun k => by omega, fun k => absurd k h⟩
/-- What the fields ahead of a place are. -/
def okTo (X : List Fd) (i : Nat) : Prop := ∀ j < i, fieldB (X.getD j default).1 = true ∧ mayV (X.getD j default).2 = true ∧ (0 < j → Op.bytesLess (X.getD (j - 1) default).1 (X.getD j default).1 = true)
theorem mayFs_bad {X : List Fd} {i : Nat} (hi : i < X.length) (h : ¬ (fieldB (X.getD i default).1 = true ∧ mayV (X.getD i default).2 = true ∧ (0 < i → Op.bytesLess (X.getD (i - 1) default).1 (X.getD i default).1 = true))) : mayFs X = false := by
  rw [← Bool.not_eq_true]
  intro hm
  unfold mayFs at hm
  simp only [Bool.and_eq_true, Bool.not_eq_true', List.any_eq_false, Bool.or_eq_true, not_or, Bool.not_eq_false, decide_eq_true_eq] at hm
  have hx := hm.2.1 _ (getD_mem (X := X) hi)
  refine h ⟨by simpa using hx.1, by simpa using hx.2, fun h0 => ?_⟩
  have := risB_of hm.2.2 (i - 1) (by omega)
  rw [show i - 1 + 1 = i by omega] at this
  exact (cmp_lt _ _).1 this
theorem mayFs_ok {X : List Fd} (h : okTo X X.length) : mayFs X = decide (X.length ≤ 8) := by
  unfold mayFs
  have h1 : X.any (fun f => !fieldB f.1 || !mayV f.2) = false := by
    rw [List.any_eq_false]
    intro f hf
    obtain ⟨i, hi, rfl⟩ := List.mem_iff_getElem.1 hf
    have := h i hi
    rw [List.getD_eq_getElem?_getD, List.getElem?_eq_getElem hi] at this
    simp only [Option.getD_some] at this
    simp [this.1, this.2.1]
  have h2 : risB X = true := risB_true fun i hi => (cmp_lt _ _).2 (by have := (h (i + 1) hi).2.2 (by omega); simpa using this)
  rw [h1, h2]
  simp
theorem r_MayE {e : Ev} {H : List Entry} (he : evC e) : Pure AP n_trystref04_May [evV e] H (.bool (mayE e)) := by
  intro K hK
  refine a_trystref04_May fun hw => ?_
  obtain ⟨h1, h2, h3, h4⟩ := he
  simp (disch := first | omega | (simp only [go_sem, push_cast, and_true] <;> omega) | fail) only [go_sem, c_trystref04_May]
  refine loop_in (fun m e' H' => ∃ i : Nat, m = e.2.2.2.length - i ∧ e' = slots 0 68 [(1, .ptr H.length 0), (3, .int .i64 (i : Int))] ∧ H' = H ++ [.box [.str e.1, .str e.2.1, .int .u64 e.2.2.1, .sl 4 (e.2.2.2.map fdV)]] ∧ i ≤ e.2.2.2.length ∧ okTo e.2.2.2 i) (n := e.2.2.2.length) ⟨0, rfl, rfl, rfl, by omega, fun j hj => by omega⟩ (by first | omega | (simp only [go_sem, push_cast] <;> omega)) ?_ ?_ ?_
  · simp (disch := first | (simp only [go_sem] <;> omega) | fail) only [go_sem, x_eLeS, x_hLeS, Int.natCast_zero, Int.natCast_add, Int.natCast_one]
  · exact hLe_app hw (by first | omega | (simp only [go_sem, push_cast] <;> omega)) (by simp (disch := first | (simp only [go_sem] <;> omega) | fail) only [go_sem, x_eLeS, x_hLeS, Int.natCast_zero, Int.natCast_add, Int.natCast_one])
  · rintro J hJ m e' H' ⟨i, rfl, rfl, rfl, hi1, hok⟩
    by_cases h : (i : Int) < e.2.2.2.length
    · have hf := h4 _ (getD_mem (X := e.2.2.2) (i := i) (by omega))
      have hbad := mayFs_bad (X := e.2.2.2) (i := i) (by omega)
      have hno : mayFs e.2.2.2 = false → mayE e = false := fun h => by unfold mayE; rw [h]; simp
      simp (disch := first | omega | (simp only [go_sem, push_cast, and_true] <;> omega) | fail) only [go_sem]
      refine (r_Field (s := (e.2.2.2.getD i default).1) hf.1).dcall ?_
      cases hb1 : fieldB (e.2.2.2.getD i default).1
      · simp (disch := first | omega | (simp only [go_sem, push_cast, and_true] <;> omega) | fail) only [go_sem, Bool.not_false]
        refine fin_tmp hw ?_ (fin_eq hK ?_)
        · simp (disch := first | omega | (simp only [go_sem, push_cast, and_true] <;> omega) | fail) only [go_sem]
        · simp (disch := first | omega | (simp only [go_sem, push_cast, and_true] <;> omega) | fail) only [go_sem, hno (hbad (by rw [hb1]; simp))]
      simp (disch := first | omega | (simp only [go_sem, push_cast, and_true] <;> omega) | fail) only [go_sem, Bool.not_true]
      refine (r_May3 (v := (e.2.2.2.getD i default).2) (by omega)).dcall ?_
      cases hb2 : mayV (e.2.2.2.getD i default).2
      · simp (disch := first | omega | (simp only [go_sem, push_cast, and_true] <;> omega) | fail) only [go_sem, Bool.not_false]
        refine fin_tmp hw ?_ (fin_eq hK ?_)
        · simp (disch := first | omega | (simp only [go_sem, push_cast, and_true] <;> omega) | fail) only [go_sem]
        · simp (disch := first | omega | (simp only [go_sem, push_cast, and_true] <;> omega) | fail) only [go_sem, hno (hbad (by rw [hb2]; simp))]
      simp (disch := first | omega | (simp only [go_sem, push_cast, and_true] <;> omega) | fail) only [go_sem, Bool.not_true]
      by_cases hi0 : i = 0
      · subst hi0
        simp (disch := first | omega | (simp only [go_sem, push_cast, and_true] <;> omega) | fail) only [go_sem]
        refine round_end (hJ _ _ _ ⟨1, rfl, rfl, rfl, by omega, fun j hj => ?_⟩) (by omega) (by first | omega | (simp only [go_sem, push_cast] <;> omega)) ?_ ?_
        · obtain rfl : j = 0 := by omega
          exact ⟨hb1, hb2, fun h => by omega⟩
        · simp (disch := first | (simp only [go_sem] <;> omega) | fail) only [go_sem, x_eLeS, x_hLeS, Int.natCast_zero, Int.natCast_add, Int.natCast_one]
        · exact hLe_app hw (by first | omega | (simp only [go_sem, push_cast] <;> omega)) (by simp (disch := first | (simp only [go_sem] <;> omega) | fail) only [go_sem, x_eLeS, x_hLeS, Int.natCast_zero, Int.natCast_add, Int.natCast_one])
      · have hj1 : ((i : Int) - 1).toNat = i - 1 := by omega
        have hlt : i - 1 < e.2.2.2.length := by omega
        cases hb3 : Op.bytesLess (e.2.2.2.getD (i - 1) default).1 (e.2.2.2.getD i default).1
        · simp (disch := first | omega | (simp only [go_sem, push_cast, and_true] <;> omega) | fail) only [go_sem, hj1, hb3, Bool.not_false]
          refine fin_tmp hw ?_ (fin_eq hK ?_)
          · simp (disch := first | omega | (simp only [go_sem, push_cast, and_true] <;> omega) | fail) only [go_sem]
          · simp (disch := first | omega | (simp only [go_sem, push_cast, and_true] <;> omega) | fail) only [go_sem, hno (hbad (by rw [hb3]; simp; omega))]
        · simp (disch := first | omega | (simp only [go_sem, push_cast, and_true] <;> omega) | fail) only [go_sem, hj1, hb3, Bool.not_true]
          refine round_end (hJ _ _ _ ⟨i + 1, rfl, rfl, rfl, by omega, fun k hk => ?_⟩) (by omega) (by first | omega | (simp only [go_sem, push_cast] <;> omega)) ?_ ?_
          · rcases Nat.lt_succ_iff_lt_or_eq.1 hk with hk | rfl
            · exact hok k hk
            · exact ⟨hb1, hb2, fun _ => hb3⟩
          · simp (disch := first | (simp only [go_sem] <;> omega) | fail) only [go_sem, x_eLeS, x_hLeS, Int.natCast_zero, Int.natCast_add, Int.natCast_one]
          · exact hLe_app hw (by first | omega | (simp only [go_sem, push_cast] <;> omega)) (by simp (disch := first | (simp only [go_sem] <;> omega) | fail) only [go_sem, x_eLeS, x_hLeS, Int.natCast_zero, Int.natCast_add, Int.natCast_one])
    · have hi : i = e.2.2.2.length := by omega
      subst hi
      have hF := mayFs_ok hok
      simp (disch := first | omega | (simp only [go_sem, push_cast, and_true] <;> omega) | fail) only [go_sem]
      refine r_Topic (s := e.1) h1 _ ?_
      unfold mayE at hK
      rw [hF] at hK
      cases ht : topicB e.1
      · rw [ht] at hK
        simp (disch := first | omega | (simp only [go_sem, push_cast, and_true] <;> omega) | fail) only [go_sem]
        refine fin_tmp hw ?_ (fin_eq hK ?_)
        · simp (disch := first | omega | (simp only [go_sem, push_cast, and_true] <;> omega) | fail) only [go_sem]
        · simp [oneV, nths, nth]
      rw [ht] at hK
      simp (disch := first | omega | (simp only [go_sem, push_cast, and_true] <;> omega) | fail) only [go_sem]
      refine r_Field (s := e.2.1) h2 _ ?_
      cases hp : fieldB e.2.1
      · rw [hp] at hK
        simp (disch := first | omega | (simp only [go_sem, push_cast, and_true] <;> omega) | fail) only [go_sem]
        refine fin_tmp hw ?_ (fin_eq hK ?_)
        · simp (disch := first | omega | (simp only [go_sem, push_cast, and_true] <;> omega) | fail) only [go_sem]
        · simp [oneV, nths, nth]
      rw [hp] at hK
      by_cases hq : 0 < e.2.2.1
      · simp (disch := first | omega | (simp only [go_sem, push_cast, and_true] <;> omega) | fail) only [go_sem, hq, decide_true]
        refine fin_tmp hw ?_ (fin_eq hK ?_)
        · simp (disch := first | omega | (simp only [go_sem, push_cast, and_true] <;> omega) | fail) only [go_sem]
        · have : 1 ≤ e.2.2.1 := by omega
          simp [oneV, nths, nth, this]
          omega
      · simp (disch := first | omega | (simp only [go_sem, push_cast, and_true] <;> omega) | fail) only [go_sem, hq, decide_false]
        refine fin_tmp hw ?_ (fin_eq hK ?_)
        · simp (disch := first | omega | (simp only [go_sem, push_cast, and_true] <;> omega) | fail) only [go_sem]
        · have : ¬ 1 ≤ e.2.2.1 := by omega
          simp [oneV, nths, nth, this]
def Stay {α : Type} (p : Rs → α × Rs) : Prop := ∀ r : Rs, r.2 ≠ 0 → (p r).2 = r
theorem st_num : Stay numR := fun r hr => by simp [numR, hr]
theorem st_size {most : Int} (h : 0 ≤ most) : Stay (sizeR most) := fun r hr => by
  have e : numR r = (0, r) := by simp [numR, hr]
  unfold sizeR
  rw [e, if_neg (by simp only; omega)]
theorem st_text {most : Int} (h : 0 ≤ most) : Stay (textR most) := fun r hr => by
  unfold textR
  have := st_size h r hr
  simp only
  rw [if_neg (by rw [this]; exact hr)]
  exact this
theorem st_val : Stay valR := fun r hr => by simp [valR, hr]
theorem st_fds (n : Nat) : Stay (fdsR n) := fun r hr => by
  cases n with
  | zero => rfl
  | succ n => simp [fdsR, hr]
end Go.Av
