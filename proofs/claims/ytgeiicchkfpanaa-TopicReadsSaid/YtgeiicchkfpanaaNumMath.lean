/- Plain facts on numbers, used by the walks of the seats of layer 1 and above. No Go in sight. -/
import Derived.Laws.BitsAllLaws
import Derived.Laws.Bits64
import Derived.Laws.DeepNot64
import Derived.RowKit
import Derived.Lib.ItoaNum
namespace Go.Proofs.Ytgeiicchkfpanaa
open Go.RowKit

def foldZ (a : Int) : Int := if a < 0 then -2 * a - 1 else 2 * a
def unfoldZ (m : Int) : Int := if m % 2 = 1 then -(m / 2) - 1 else m / 2
theorem unfold_fold (a : Int) : unfoldZ (foldZ a) = a := by unfold unfoldZ foldZ; split <;> split <;> omega
theorem fold_unfold (m : Int) (h : 0 ≤ m) : foldZ (unfoldZ m) = m := by unfold unfoldZ foldZ; split <;> split <;> omega
theorem foldZ_bd (a : Int) (h0 : -9223372036854775808 ≤ a) (h1 : a ≤ 9223372036854775807) : 0 ≤ foldZ a ∧ foldZ a ≤ 18446744073709551615 := by unfold foldZ; split <;> omega
theorem unfoldZ_bd (a : Int) (h0 : 0 ≤ a) (h1 : a ≤ 18446744073709551615) : -9223372036854775808 ≤ unfoldZ a ∧ unfoldZ a ≤ 9223372036854775807 := by unfold unfoldZ; split <;> omega

theorem nat_xor_ones (x : Nat) (n : Nat) (hx : x < 2 ^ n) : (2 ^ n - 1) ^^^ x = 2 ^ n - 1 - x := by
  apply Nat.eq_of_testBit_eq; intro i
  rw [Nat.testBit_xor, Nat.testBit_two_pow_sub_one]
  rw [show 2 ^ n - 1 - x = 2 ^ n - (x + 1) by omega, Nat.testBit_two_pow_sub_succ hx]
  by_cases h : i < n
  · simp [h]
  · have : x.testBit i = false := Nat.testBit_lt_two_pow (Nat.lt_of_lt_of_le hx (Nat.pow_le_pow_right (by omega) (by omega)))
    simp [h, this]
theorem u64_not (x : Int) (h0 : 0 ≤ x) (h1 : x < 18446744073709551616) : bits .xor .u64 IntKind.u64.max x = 18446744073709551615 - x := by
  have e : IntKind.u64.max = 18446744073709551615 := by decide
  rw [e, u64_xor _ _ (by omega) (by omega) h0 h1]
  have := nat_xor_ones x.toNat 64 (by omega)
  simp only [show (2 : Nat) ^ 64 - 1 = 18446744073709551615 from rfl] at this
  rw [show (18446744073709551615 : Int).toNat = 18446744073709551615 from rfl, this]
  omega
theorem fold_neg_eq (a : Int) (h0 : -9223372036854775808 ≤ a) (h1 : a < 0) : bits .xor .u64 IntKind.u64.max (IntKind.u64.wrap (IntKind.u64.wrap a * 2)) = foldZ a := by
  rw [IntKind.wrap_u64, IntKind.wrap_u64, u64_not _ (by omega) (by omega)]; unfold foldZ; split <;> omega
theorem u64_mask1 (a : Int) (h0 : 0 ≤ a) (h1 : a < 18446744073709551616) : bits .and .u64 a 1 = a % 2 := by
  rw [u64_and _ _ h0 h1 (by omega) (by omega), show (1 : Int).toNat = 1 from rfl, nat_mask1]; omega
theorem u64_mask127 (a : Int) (h0 : 0 ≤ a) (h1 : a < 18446744073709551616) : bits .and .u64 a 127 = a % 128 := by
  rw [u64_and _ _ h0 h1 (by omega) (by omega), show (127 : Int).toNat = 127 from rfl, nat_mask7]; omega
theorem u8_mask127 (a : Int) (h0 : 0 ≤ a) (h1 : a < 256) : bits .and .u8 a 127 = a % 128 := by
  rw [u8_and _ _ h0 h1 (by omega) (by omega), show (127 : Int).toNat = 127 from rfl, nat_mask7]; omega
theorem i64_not' (a : Int) (h0 : 0 ≤ a) (h1 : a < 9223372036854775808) : bits .xor .i64 (-1) a = -1 - a := by
  have := i64_not a.toNat (by omega); rw [Int.toNat_of_nonneg h0] at this; exact this

/-! ### octets, the highest first -/
def beL : Nat → Nat → List UInt8
  | 0, _ => []
  | k + 1, n => UInt8.ofNat (n / 256 ^ k) :: beL k n
theorem beL_length : ∀ k n, (beL k n).length = k
  | 0, _ => rfl
  | k + 1, n => by simp [beL, beL_length k n]
def byteV (b : UInt8) : Value := .int .u8 (b.toNat : Int)
def putC (w k n : Nat) : List Value := List.replicate (w - k) (.int .u8 0) ++ (beL k n).map byteV
theorem putC_length (w k n : Nat) (h : k ≤ w) : (putC w k n).length = w := by simp [putC, beL_length]; omega
theorem putC_step (w k n : Nat) (h : k < w) : (putC w k n).set (w - 1 - k) (byteV (UInt8.ofNat (n / 256 ^ k))) = putC w (k + 1) n := by
  unfold putC; rw [show beL (k + 1) n = UInt8.ofNat (n / 256 ^ k) :: beL k n from rfl]
  obtain ⟨m, rfl⟩ : ∃ m, w = m + 1 + k := ⟨w - 1 - k, by omega⟩
  rw [show m + 1 + k - k = m + 1 by omega, show m + 1 + k - 1 - k = m by omega, show m + 1 + k - (k + 1) = m by omega]
  rw [List.set_append_left _ _ (by simp), List.replicate_succ', List.set_append_right _ _ (by simp)]
  simp
theorem bitLen_le_iff (x k : Nat) (hx : x < 2 ^ 64) : Lib.bitLen x ≤ k ↔ x < 2 ^ k := by
  constructor
  · intro h
    by_cases h0 : x = 0
    · subst h0; exact Nat.pow_pos (by omega)
    · exact Nat.lt_of_lt_of_le (Lib.bitLenAux_bounds 64 x hx h0).2.2 (Nat.pow_le_pow_right (by omega) h)
  · intro h; exact Lib.bitLenAux_le 64 x k h
theorem byteV_shift (n : Int) (j : Nat) (h0 : 0 ≤ n) : Value.int IntKind.u8 (n / 2 ^ (8 * j) % 256) = byteV (UInt8.ofNat (n.toNat / 256 ^ j)) := by
  unfold byteV
  have e : (n / 2 ^ (8 * j) % 256 : Int) = ((n.toNat / 256 ^ j % 256 : Nat) : Int) := by
    rw [Int.pow_mul]; simp only [show (2 : Int) ^ 8 = 256 from rfl]
    obtain ⟨m, rfl⟩ := Int.eq_ofNat_of_zero_le h0
    simp
  rw [e]; simp

/-! ### packed octets -/
def pre7 : Nat → Nat → List UInt8
  | 0, _ => []
  | i + 1, n => pre7 i n ++ [UInt8.ofNat (128 + n / 128 ^ i % 128)]
def pkW (n : Nat) : Nat := (Lib.bitLen (n ||| 1) + 6) / 7 - 1
def pkL (n : Nat) : List UInt8 := pre7 (pkW n) n ++ [UInt8.ofNat (n / 128 ^ pkW n)]
theorem pre7_length : ∀ i n, (pre7 i n).length = i
  | 0, _ => rfl
  | i + 1, n => by simp [pre7, pre7_length i n]
def pkC (m i n : Nat) : List Value := (pre7 i n).map byteV ++ List.replicate (m + 1 - i) (.int .u8 0)
theorem pkC_length (m i n : Nat) (h : i ≤ m) : (pkC m i n).length = m + 1 := by simp [pkC, pre7_length]; omega
theorem pkC_step (m i n : Nat) (h : i < m) : (pkC m i n).set i (byteV (UInt8.ofNat (128 + n / 128 ^ i % 128))) = pkC m (i + 1) n := by
  unfold pkC; rw [show pre7 (i + 1) n = pre7 i n ++ [UInt8.ofNat (128 + n / 128 ^ i % 128)] from rfl]
  rw [List.set_append_right _ _ (by simp [pre7_length]), show m + 1 - i = (m + 1 - (i + 1)) + 1 by omega, List.replicate_succ]
  simp [pre7_length]
theorem pkC_last (m n : Nat) (v : UInt8) : (pkC m m n).set m (byteV v) = (pre7 m n ++ [v]).map byteV := by
  unfold pkC
  rw [List.set_append_right _ _ (by simp [pre7_length]), show m + 1 - m = 0 + 1 by omega, List.replicate_succ]
  simp [pre7_length]
theorem or_one (n : Nat) : n ||| 1 = if n % 2 = 1 then n else n + 1 := by
  have h2 := nat_join 1 (n / 2 * 2) 1 (by omega) (by omega)
  split
  · have : n = n / 2 * 2 ||| 1 := by omega
    rw [this, Nat.or_assoc, Nat.or_self]
  · have : n = n / 2 * 2 := by omega
    rw [← this] at h2; exact h2
theorem or_one_lt (n : Nat) (h : n < 2 ^ 64) : n ||| 1 < 2 ^ 64 := by rw [or_one]; split <;> omega
/-- How many octets a number takes: n lies under 128 ^ (k + 1), as soon as it takes no more than k + 1. -/
theorem pkW_le (n k : Nat) (h : n < 2 ^ 64) (hk : k ≤ 9) : pkW n ≤ k ↔ n < 128 ^ (k + 1) := by
  have h1 := bitLen_le_iff (n ||| 1) (7 * (k + 1)) (or_one_lt n h)
  have h2 : pkW n ≤ k ↔ Lib.bitLen (n ||| 1) ≤ 7 * (k + 1) := by unfold pkW; omega
  rw [h2, h1, Nat.pow_mul, show 2 ^ 7 = 128 from rfl, or_one]
  have : (128 : Nat) ^ (k + 1) % 2 = 0 := by rw [Nat.pow_succ]; omega
  split <;> omega
theorem pkW_le9 (n : Nat) (h : n < 2 ^ 64) : pkW n ≤ 9 := (pkW_le n 9 h (by omega)).2 (by omega)
theorem pkW_lt (n : Nat) (h : n < 2 ^ 64) : n < 128 ^ (pkW n + 1) := (pkW_le n (pkW n) h (pkW_le9 n h)).1 (Nat.le_refl _)
theorem pkW_ge (n : Nat) (h : n < 2 ^ 64) (h0 : pkW n ≠ 0) : 128 ^ pkW n ≤ n := by
  have h9 := pkW_le9 n h
  obtain ⟨m, hm⟩ : ∃ m, pkW n = m + 1 := ⟨pkW n - 1, by omega⟩
  have := pkW_le n m h (by omega)
  rw [hm]; omega
theorem pkW_zero (n : Nat) (h : n < 128) : pkW n = 0 := by
  have := (pkW_le n 0 (by omega) (by omega)).2 (by simpa using h); omega
theorem pkW_succ (n : Nat) (h : n < 2 ^ 64) (h1 : 128 ≤ n) : pkW n = pkW (n / 128) + 1 := by
  have h0 : pkW n ≠ 0 := fun e => by have := (pkW_le n 0 h (by omega)).1 (by omega); omega
  have a := pkW_lt n h
  have b := pkW_ge n h h0
  have h9 := pkW_le9 n h
  have hq : n / 128 < 2 ^ 64 := by omega
  obtain ⟨m, hm⟩ : ∃ m, pkW n = m + 1 := ⟨pkW n - 1, by omega⟩
  rw [hm] at a b ⊢
  have c : n / 128 < 128 ^ (m + 1) := by rw [Nat.pow_succ] at a; omega
  have d : 128 ^ m ≤ n / 128 := by rw [Nat.pow_succ] at b; omega
  have e := (pkW_le (n / 128) m hq (by omega)).2 c
  by_cases hz : m = 0
  · omega
  · obtain ⟨t, rfl⟩ : ∃ t, m = t + 1 := ⟨m - 1, by omega⟩
    have f := pkW_le (n / 128) t hq (by omega)
    have : ¬ pkW (n / 128) ≤ t := fun g => by have := f.1 g; omega
    omega
theorem pre7_cons : ∀ (i n : Nat), pre7 (i + 1) n = UInt8.ofNat (128 + n % 128) :: pre7 i (n / 128)
  | 0, n => by simp [pre7]
  | i + 1, n => by
    rw [show pre7 (i + 1 + 1) n = pre7 (i + 1) n ++ [UInt8.ofNat (128 + n / 128 ^ (i + 1) % 128)] from rfl, pre7_cons i n,
      show pre7 (i + 1) (n / 128) = pre7 i (n / 128) ++ [UInt8.ofNat (128 + n / 128 / 128 ^ i % 128)] from rfl]
    rw [Nat.div_div_eq_div_mul, Nat.pow_succ, Nat.mul_comm (128 ^ i)]; simp
theorem pkL_small (n : Nat) (h : n < 128) : pkL n = [UInt8.ofNat n] := by unfold pkL; rw [pkW_zero n h]; simp [pre7]
theorem pkL_big (n : Nat) (h : n < 2 ^ 64) (h1 : 128 ≤ n) : pkL n = UInt8.ofNat (128 + n % 128) :: pkL (n / 128) := by
  unfold pkL; rw [pkW_succ n h h1, pre7_cons, Nat.div_div_eq_div_mul, Nat.pow_succ, Nat.mul_comm (128 ^ _)]; simp
theorem pkL_length (n : Nat) : (pkL n).length = pkW n + 1 := by simp [pkL, pre7_length]
theorem u8_or128 (x : Int) (h0 : 0 ≤ x) (h1 : x < 128) : bits .or .u8 x 128 = 128 + x := by
  rw [u8_or _ _ h0 (by omega) (by omega) (by omega), show (128 : Int).toNat = 128 from rfl, Nat.or_comm, nat_join 7 128 x.toNat (by omega) (by omega)]; omega
theorem u64_or1 (x : Int) (h0 : 0 ≤ x) (h1 : x < 18446744073709551616) : bits .or .u64 x 1 = ((x.toNat ||| 1 : Nat) : Int) :=
  u64_or _ _ h0 h1 (by omega) (by omega)

/-! ### octets that are read -/
def gB (l : List UInt8) (t : Nat) : Nat := (l.getD t 0).toNat
theorem gB_lt (l : List UInt8) (t : Nat) : gB l t < 256 := (l.getD t 0).toNat_lt
def val7 (l : List UInt8) : Nat → Nat
  | 0 => 0
  | j + 1 => val7 l j + gB l j % 128 * 128 ^ j
theorem val7_lt (l : List UInt8) : ∀ j, val7 l j < 128 ^ j
  | 0 => by simp [val7]
  | j + 1 => by
    have h := val7_lt l j
    have h2 : gB l j % 128 * 128 ^ j ≤ 127 * 128 ^ j := Nat.mul_le_mul_right _ (by omega)
    have : 128 ^ (j + 1) = 128 * 128 ^ j := by rw [Nat.pow_succ]; omega
    simp only [val7]; omega
def leadN : List UInt8 → Nat → Nat
  | [], _ => 0
  | _ :: _, 0 => 0
  | b :: t, f + 1 => if 128 ≤ b.toNat then leadN t f + 1 else 0
theorem leadN_unique : ∀ (l : List UInt8) (f k : Nat), k ≤ f → k ≤ l.length → (∀ t, t < k → 128 ≤ gB l t) → (k < f → k < l.length → gB l k < 128) → leadN l f = k
  | [], f, k, _, h2, _, _ => by simp at h2; simp [leadN, h2]
  | b :: t, 0, k, h1, _, _, _ => by simp [leadN]; omega
  | b :: t, f + 1, 0, _, _, _, h4 => by
    have := h4 (by omega) (by simp)
    simp [gB] at this
    simp [leadN]; omega
  | b :: t, f + 1, k + 1, h1, h2, h3, h4 => by
    have h0 := h3 0 (by omega)
    simp [gB] at h0
    simp only [leadN, if_pos h0]
    rw [leadN_unique t f k (by omega) (by simpa using h2) (fun i hi => by have := h3 (i + 1) (by omega); simpa [gB] using this)
      (fun a b => by have := h4 (by omega) (by simpa using b); simpa [gB] using this)]
def mayEndB (i b : Nat) : Bool := if i = 9 then decide (b = 1) else decide (i = 0) || decide (b ≠ 0)
def unpS (l : List UInt8) : Nat × Nat × Nat :=
  if leadN l 10 = 10 then (0, 0, 2) else if leadN l 10 = l.length then (0, 0, 3)
  else if mayEndB (leadN l 10) (gB l (leadN l 10)) then (val7 l (leadN l 10 + 1), leadN l 10 + 1, 0) else (0, 0, 2)
theorem or_shift (a b k : Nat) (ha : a < 128 ^ k) : a ||| b * 128 ^ k = a + b * 128 ^ k := by
  have e : (128 : Nat) ^ k = 2 ^ (7 * k) := by rw [Nat.pow_mul]
  rw [e] at ha ⊢
  rw [Nat.or_comm, nat_join (7 * k) _ a (by simp) ha]; omega
/-- One octet more: its seven bits above those that are there. -/
theorem step7 (l : List UInt8) (j : Nat) (hj : j ≤ 8) : bits .or .u64 (val7 l j : Int) (IntKind.u64.wrap (bits .and .u8 (gB l j : Int) 127 * 2 ^ (7 * j))) = (val7 l (j + 1) : Int) := by
  have hb := gB_lt l j
  have hv := val7_lt l j
  have hv' := val7_lt l (j + 1)
  have e : (2 : Int) ^ (7 * j) = ((128 ^ j : Nat) : Int) := by rw [Int.pow_mul]; norm_cast
  have hp : (128 : Nat) ^ (j + 1) ≤ 128 ^ 9 := Nat.pow_le_pow_right (by omega) (by omega)
  have hp' : (128 : Nat) ^ j ≤ 128 ^ (j + 1) := Nat.pow_le_pow_right (by omega) (by omega)
  rw [u8_mask127 _ (by omega) (by omega), e, IntKind.wrap_u64]
  have hm : ((gB l j : Int) % 128 * ((128 ^ j : Nat) : Int)) = ((gB l j % 128 * 128 ^ j : Nat) : Int) := by push_cast; rfl
  have hs : val7 l (j + 1) = val7 l j + gB l j % 128 * 128 ^ j := rfl
  have h9 : (128 : Nat) ^ 9 = 9223372036854775808 := by decide
  rw [hm, Int.emod_eq_of_lt (by omega) (by omega), u64_or_nat _ _ (by omega) (by omega), or_shift _ _ _ hv, hs]
theorem step7_last (l : List UInt8) (h : gB l 9 = 1) : bits .or .u64 (val7 l 9 : Int) (IntKind.u64.wrap (bits .and .u8 (gB l 9 : Int) 127 * 2 ^ (7 * 9))) = (val7 l 10 : Int) := by
  have hv := val7_lt l 9
  have h9 : (128 : Nat) ^ 9 = 9223372036854775808 := by decide
  have hs : val7 l 10 = val7 l 9 + gB l 9 % 128 * 128 ^ 9 := rfl
  rw [hs, h]
  rw [show IntKind.u64.wrap (bits .and .u8 ((1 : Nat) : Int) 127 * 2 ^ (7 * 9)) = ((1 * 128 ^ 9 : Nat) : Int) by decide]
  rw [u64_or_nat _ _ (by omega) (by omega), or_shift _ _ _ hv]
/-! ### the highest first, read -/
def beV : List UInt8 → Nat → Nat
  | _, 0 => 0
  | l, j + 1 => 256 * beV l j + gB l j
theorem beV_lt (l : List UInt8) : ∀ j, beV l j < 256 ^ j
  | 0 => by simp [beV]
  | j + 1 => by have := beV_lt l j; have := gB_lt l j; rw [Nat.pow_succ]; simp only [beV]; omega
theorem gB_at (s : ByteArray) (j : Nat) (h : j < s.size) : gB s.data.toList j = (s[j]'h).toNat := by
  unfold gB; rw [List.getD_eq_getElem?_getD, List.getElem?_eq_getElem (by simpa using h)]; rfl
theorem unpS_short (l : List UInt8) (j : Nat) (h1 : j = l.length) (h2 : j < 10) (h : ∀ t, t < j → 128 ≤ gB l t) : unpS l = (0, 0, 3) := by
  have e := leadN_unique l 10 j (by omega) (by omega) h (fun _ _ => by omega)
  unfold unpS; rw [e, if_neg (by omega), if_pos h1]
theorem unpS_long (l : List UInt8) (h1 : 10 ≤ l.length) (h : ∀ t, t < 10 → 128 ≤ gB l t) : unpS l = (0, 0, 2) := by
  have e := leadN_unique l 10 10 (by omega) (by omega) h (fun _ _ => by omega)
  unfold unpS; rw [e, if_pos rfl]
theorem unpS_end (l : List UInt8) (j : Nat) (h1 : j < l.length) (h2 : j < 10) (h : ∀ t, t < j → 128 ≤ gB l t) (h3 : gB l j < 128) :
    unpS l = if mayEndB j (gB l j) then (val7 l (j + 1), j + 1, 0) else (0, 0, 2) := by
  have e := leadN_unique l 10 j (by omega) (by omega) h (fun _ _ => h3)
  unfold unpS; rw [e, if_neg (by omega), if_neg (by omega)]
theorem step7_end (l : List UInt8) (j : Nat) (hj : j ≤ 9) (h : mayEndB j (gB l j) = true) :
    bits .or .u64 (val7 l j : Int) (IntKind.u64.wrap (bits .and .u8 (gB l j : Int) 127 * 2 ^ (7 * j))) = (val7 l (j + 1) : Int) := by
  by_cases h9 : j = 9
  · subst h9
    exact step7_last l (by simpa [mayEndB] using h)
  · exact step7 l j (by omega)
theorem wrap_mask (b : Nat) (h : b < 256) : IntKind.u64.wrap (bits .and .u8 (b : Int) 127) = bits .and .u8 (b : Int) 127 := by
  rw [u8_mask127 _ (by omega) (by omega), IntKind.wrap_u64]; omega
theorem gB_set (l : List UInt8) (j b : Nat) (h : gB l j = b) (hb : 128 ≤ b) (ha : ∀ t, t < j → 128 ≤ gB l t) : ∀ t, t < j + 1 → 128 ≤ gB l t := by
  intro t ht
  by_cases e : t = j
  · subst e; omega
  · exact ha t (by omega)
theorem step7_go (l : List UInt8) (j b : Nat) (h : gB l j = b) (hj : j + 1 ≤ 9) :
    bits .or .u64 (val7 l j : Int) (IntKind.u64.wrap (IntKind.u64.wrap (bits .and .u8 (b : Int) 127) * 2 ^ (7 * j))) = (val7 l (j + 1) : Int) := by
  subst h; rw [wrap_mask _ (gB_lt _ _)]; exact step7 l j (by omega)
theorem unp_yes (l : List UInt8) (j b : Nat) (h : gB l j = b) (hj : j ≤ 9) (h1 : j < l.length) (hb : b < 128) (ha : ∀ t, t < j → 128 ≤ gB l t) (hm : mayEndB j b = true) :
    bits .or .u64 (val7 l j : Int) (IntKind.u64.wrap (IntKind.u64.wrap (bits .and .u8 (b : Int) 127) * 2 ^ (7 * j))) = ((unpS l).1 : Int) ∧ ((j : Int) + 1) = ((unpS l).2.1 : Int) ∧ (0 : Int) = ((unpS l).2.2 : Int) := by
  subst h
  rw [wrap_mask _ (gB_lt _ _), unpS_end l j h1 (by omega) ha hb, if_pos hm]
  exact ⟨step7_end l j hj hm, by simp, by simp⟩
theorem unp_no (l : List UInt8) (j b : Nat) (h : gB l j = b) (hj : j ≤ 9) (h1 : j < l.length) (hb : b < 128) (ha : ∀ t, t < j → 128 ≤ gB l t) (hm : mayEndB j b = false) :
    unpS l = (0, 0, 2) := by
  subst h
  rw [unpS_end l j h1 (by omega) ha hb, if_neg (by simp [hm])]
theorem pkW_mono (a b : Nat) (hb : b < 2 ^ 64) (h : a ≤ b) : pkW a ≤ pkW b :=
  (pkW_le a (pkW b) (by omega) (pkW_le9 b hb)).2 (by have := pkW_lt b hb; omega)
theorem pkL_size (n : Nat) : (⟨(pkL n).toArray⟩ : ByteArray).size = pkW n + 1 := by
  show (pkL n).toArray.size = _; simp [pkL_length]
theorem toNat_div_pow (n : Int) (h : 0 ≤ n) (b j : Nat) : (n / (b : Int) ^ j).toNat = n.toNat / b ^ j := by
  obtain ⟨t, rfl⟩ := Int.eq_ofNat_of_zero_le h; norm_cast
end Go.Proofs.Ytgeiicchkfpanaa
