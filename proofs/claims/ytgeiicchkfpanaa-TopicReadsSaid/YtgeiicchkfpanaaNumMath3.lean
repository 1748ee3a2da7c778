/- Plain facts on octets that are read: what the document's own reading comes to. -/
import Derived.Test.YtgeiicchkfpanaaNumMath2
namespace Go.Proofs.Ytgeiicchkfpanaa
open Go.RowKit
theorem val7_split (l : List UInt8) (t : Nat) : ∀ d, ∃ r, val7 l (t + d) = val7 l t + 128 ^ t * r ∧ (0 < d → r % 128 = gB l t % 128)
  | 0 => ⟨0, by simp, fun h => by omega⟩
  | d + 1 => by
    obtain ⟨r, h1, h2⟩ := val7_split l t d
    refine ⟨r + gB l (t + d) % 128 * 128 ^ d, ?_, fun _ => ?_⟩
    · rw [show t + (d + 1) = t + d + 1 by omega, show val7 l (t + d + 1) = val7 l (t + d) + gB l (t + d) % 128 * 128 ^ (t + d) from rfl, h1, Nat.mul_add, Nat.pow_add, Nat.add_assoc]
      congr 2; rw [Nat.mul_left_comm]
    · cases d with
      | zero =>
        have : r = 0 := by
          have e : val7 l t = val7 l t + 128 ^ t * r := h1
          have hz : 128 ^ t * r = 0 := by omega
          rcases Nat.mul_eq_zero.1 hz with h | h
          · exact absurd h (Nat.ne_of_gt (Nat.pow_pos (by omega)))
          · exact h
        subst this; simp
      | succ d =>
        have := h2 (by omega)
        rw [Nat.pow_succ, ← Nat.mul_assoc]; omega
theorem digit (l : List UInt8) (t m : Nat) (h : t < m) : val7 l m / 128 ^ t % 128 = gB l t % 128 := by
  obtain ⟨d, rfl⟩ : ∃ d, m = t + d := ⟨m - t, by omega⟩
  obtain ⟨r, h1, h2⟩ := val7_split l t d
  have hv := val7_lt l t
  rw [h1, Nat.add_mul_div_left _ _ (Nat.pow_pos (by omega)), Nat.div_eq_of_lt hv, Nat.zero_add]
  exact h2 (by omega)
theorem horner_step (l : List UInt8) (t m : Nat) (h : t < m) : 128 * (val7 l m / 128 ^ (t + 1)) + gB l t % 128 = val7 l m / 128 ^ t := by
  rw [← digit l t m h, Nat.pow_succ, ← Nat.div_div_eq_div_mul]; omega
/-- Octets that end there, of no more than 64 bits. -/
structure EndsM (l : List UInt8) (k : Nat) : Prop where
  h9 : k ≤ 9
  hk : k < l.length
  big : ∀ t, t < k → 128 ≤ gB l t
  small : gB l k < 128
  last : k = 9 → gB l k ≤ 1
theorem EndsM.val_lt {l : List UInt8} {k : Nat} (h : EndsM l k) : val7 l (k + 1) < 2 ^ 64 := by
  have hv := val7_lt l k
  have e : val7 l (k + 1) = val7 l k + gB l k % 128 * 128 ^ k := rfl
  by_cases h9 : k = 9
  · have hl := h.last h9
    subst h9
    have e9 : (128 : Nat) ^ 9 = 9223372036854775808 := by decide
    rw [e9] at e hv
    have : gB l 9 % 128 ≤ 1 := by omega
    have : gB l 9 % 128 * 9223372036854775808 ≤ 1 * 9223372036854775808 := Nat.mul_le_mul_right _ this
    omega
  · have := val7_lt l (k + 1)
    have : (128 : Nat) ^ (k + 1) ≤ 128 ^ 9 := Nat.pow_le_pow_right (by omega) (by have := h.h9; omega)
    have e9 : (128 : Nat) ^ 9 = 9223372036854775808 := by decide
    omega
theorem EndsM.top {l : List UInt8} {k : Nat} (h : EndsM l k) : val7 l (k + 1) / 128 ^ k = gB l k := by
  have hv := val7_lt l k
  have e : val7 l (k + 1) = val7 l k + 128 ^ k * (gB l k % 128) := by rw [Nat.mul_comm]; rfl
  rw [e, Nat.add_mul_div_left _ _ (Nat.pow_pos (by omega)), Nat.div_eq_of_lt hv]
  have := h.small; omega
theorem get_of_gB (l : List UInt8) (i : Nat) (h : i < l.length) : l[i] = UInt8.ofNat (gB l i) := by
  unfold gB; rw [List.getD_eq_getElem?_getD, List.getElem?_eq_getElem h]; simp
theorem EndsM.yes {l : List UInt8} {k : Nat} (h : EndsM l k) (hm : mayEndB k (gB l k) = true) : pkL (val7 l (k + 1)) = l.take (k + 1) := by
  have hw : pkW (val7 l (k + 1)) = k := by
    have a := (pkW_le _ k h.val_lt h.h9).2 (val7_lt l (k + 1))
    by_cases h0 : k = 0
    · omega
    · have hne : gB l k ≠ 0 := by
        unfold mayEndB at hm
        split at hm
        · simp at hm; omega
        · simp at hm; rcases hm with hm | hm <;> omega
      have b : 128 ^ k ≤ val7 l (k + 1) := by
        have := h.top
        by_cases g : 128 ^ k ≤ val7 l (k + 1)
        · exact g
        · rw [Nat.div_eq_of_lt (by omega)] at this; omega
      obtain ⟨j, rfl⟩ : ∃ j, k = j + 1 := ⟨k - 1, by omega⟩
      have c := pkW_le (val7 l (j + 1 + 1)) j h.val_lt (by have := h.h9; omega)
      have : ¬ pkW (val7 l (j + 1 + 1)) ≤ j := fun g => by have := c.1 g; omega
      omega
  have hk := h.hk
  apply List.ext_getElem
  · rw [pkL_length, hw, List.length_take]; omega
  · intro i h1 h2
    rw [pkL_length, hw] at h1
    have hg : gB (pkL (val7 l (k + 1))) i = gB l i := by
      by_cases e : i = k
      · subst e
        have := gB_pkL_last (val7 l (i + 1)) [] h.val_lt
        rw [hw, List.append_nil] at this
        rw [this, h.top]
      · have := gB_pkL (val7 l (k + 1)) [] i (by rw [hw]; omega)
        rw [List.append_nil] at this
        rw [this, digit l i (k + 1) (by omega)]
        have := h.big i (by omega)
        have := gB_lt l i
        omega
    rw [List.getElem_take, get_of_gB _ i (by rw [pkL_length, hw]; omega), get_of_gB l i (by omega), hg]
theorem EndsM.no {l : List UInt8} {k : Nat} (h : EndsM l k) (hm : mayEndB k (gB l k) = false) : pkL (val7 l (k + 1)) ≠ l.take (k + 1) := by
  intro e
  have hlen := congrArg List.length e
  rw [pkL_length, List.length_take] at hlen
  have hk := h.hk
  have hz : gB l k = 0 ∧ k ≠ 0 := by
    unfold mayEndB at hm
    split at hm
    · rename_i h9; have := h.last h9; simp at hm; omega
    · simp at hm; omega
  have hv : val7 l (k + 1) < 128 ^ k := by
    have := val7_lt l k
    rw [show val7 l (k + 1) = val7 l k + gB l k % 128 * 128 ^ k from rfl, hz.1]; simpa using this
  obtain ⟨j, rfl⟩ : ∃ j, k = j + 1 := ⟨k - 1, by omega⟩
  have := (pkW_le (val7 l (j + 1 + 1)) j h.val_lt (by have := h.h9; omega)).2 hv
  omega
theorem EndsM.unp {l : List UInt8} {k : Nat} (h : EndsM l k) : unpS l = if mayEndB k (gB l k) then (val7 l (k + 1), k + 1, 0) else (0, 0, 2) :=
  unpS_end l k h.hk (by have := h.h9; omega) h.big h.small
theorem unpS_wide (l : List UInt8) (h1 : 9 < l.length) (h : ∀ t, t < 9 → 128 ≤ gB l t) (h2 : 1 < gB l 9) : unpS l = (0, 0, 2) := by
  by_cases hs : gB l 9 < 128
  · rw [unpS_end l 9 h1 (by omega) h hs, if_neg (by rw [show mayEndB 9 (gB l 9) = decide (gB l 9 = 1) from rfl, decide_eq_false (by omega)]; exact Bool.false_ne_true)]
  · exact unpS_long l (by omega) (fun t ht => by
      by_cases e : t = 9
      · subst e; omega
      · exact h t (by omega))
/-! ### the highest first -/
theorem beV_step (l : List UInt8) (j : Nat) (hj : j ≤ 7) : bits .or .u64 (IntKind.u64.wrap ((beV l j : Int) * 256)) (gB l j : Int) = (beV l (j + 1) : Int) := by
  have hv := beV_lt l j
  have hb := gB_lt l j
  have hp : (256 : Nat) ^ j ≤ 256 ^ 7 := Nat.pow_le_pow_right (by omega) hj
  have e7 : (256 : Nat) ^ 7 = 72057594037927936 := by decide
  rw [IntKind.wrap_u64, Int.emod_eq_of_lt (by omega) (by omega), show (beV l j : Int) * 256 = ((beV l j * 256 : Nat) : Int) by omega,
    u64_or_nat _ _ (by omega) (by omega), nat_join 8 _ _ (by omega) (by omega)]
  simp only [beV]; omega
theorem beV_step' (l : List UInt8) (j : Nat) : IntKind.u64.wrap (IntKind.u64.wrap (256 * ((beV l j : Int) % 18446744073709551616)) + (gB l j : Int)) = (beV l (j + 1) : Int) % 18446744073709551616 := by
  have e : (beV l (j + 1) : Int) = 256 * (beV l j : Int) + (gB l j : Int) := by rw [show beV l (j + 1) = 256 * beV l j + gB l j from rfl]; omega
  rw [IntKind.wrap_u64, IntKind.wrap_u64, e]; omega
theorem beV_beL (n : Nat) : ∀ k (pre : List UInt8), beV (pre ++ beL k n) (pre.length + k) = beV pre pre.length * 256 ^ k + n % 256 ^ k := by
  intro k
  induction k generalizing n with
  | zero =>
    intro pre; simp [beL, Nat.mod_one]
  | succ k ih =>
    intro pre
    have e : pre ++ beL (k + 1) n = (pre ++ [UInt8.ofNat (n / 256 ^ k)]) ++ beL k n := by simp [beL]
    have hl : (pre ++ [UInt8.ofNat (n / 256 ^ k)]).length = pre.length + 1 := by simp
    rw [e, show pre.length + (k + 1) = (pre ++ [UInt8.ofNat (n / 256 ^ k)]).length + k by rw [hl]; omega, ih n (pre ++ [UInt8.ofNat (n / 256 ^ k)])]
    have h1 : beV (pre ++ [UInt8.ofNat (n / 256 ^ k)]) (pre ++ [UInt8.ofNat (n / 256 ^ k)]).length = 256 * beV pre pre.length + n / 256 ^ k % 256 := by
      rw [hl]
      have h2 : ∀ j, j ≤ pre.length → beV (pre ++ [UInt8.ofNat (n / 256 ^ k)]) j = beV pre j := by
        intro j
        induction j with
        | zero => intro _; rfl
        | succ j ihj => intro hj; simp only [beV]; rw [ihj (by omega), gB_left _ _ _ (by omega)]
      simp only [beV]
      rw [h2 _ (Nat.le_refl _), gB_here]; simp
    rw [h1, Nat.pow_succ, Nat.mod_mul, Nat.add_mul, Nat.mul_comm 256, Nat.mul_assoc, Nat.mul_comm 256, Nat.mul_comm (n / 256 ^ k % 256)]
    omega
theorem beV_of_beL (n k : Nat) (h : n < 256 ^ k) : beV (beL k n) k = n := by
  have := beV_beL n k []
  simp only [List.nil_append, List.length_nil, Nat.zero_add] at this
  rw [this, Nat.mod_eq_of_lt h]; simp [beV]
def rgV (l : List UInt8) (n : Nat) : Int := if 1 ≤ n ∧ n ≤ 8 then (beV l n : Int) else 0
def rgB (n : Nat) : Bool := decide (1 ≤ n ∧ n ≤ 8)
def rpS (n k : Nat) : List UInt8 := if n < 256 ^ k then beL k n else []
def rpB (n k : Nat) : Bool := decide (n < 256 ^ k)
theorem ret_ib {a a' : Int} {b b' : Bool} {k : IntKind} (h : a = a') (h' : b = b') : Ending.returned (.tuple #[.int k a, .bool b]) = .returned (.tuple #[.int k a', .bool b']) := by rw [h, h']
theorem ret_sb {a a' : List UInt8} {b b' : Bool} (h : a = a') (h' : b = b') : Ending.returned (.tuple #[.string ⟨a.toArray⟩, .bool b]) = .returned (.tuple #[.string ⟨a'.toArray⟩, .bool b']) := by rw [h, h']
theorem data_nil (s : ByteArray) (h : s.size = 0) : s.toList = [] := by
  rw [ByteArray.toList_eq]; exact List.eq_nil_of_length_eq_zero (by rw [Array.length_toList]; exact h)
end Go.Proofs.Ytgeiicchkfpanaa
