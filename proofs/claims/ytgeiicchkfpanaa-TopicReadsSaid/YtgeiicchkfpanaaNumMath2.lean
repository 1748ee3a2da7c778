/- Plain facts on packed octets: they are read as they were, and none begins with others. -/
import Derived.Test.YtgeiicchkfpanaaNumMath
namespace Go.Proofs.Ytgeiicchkfpanaa
open Go.RowKit
theorem gB_left (a b : List UInt8) (t : Nat) (h : t < a.length) : gB (a ++ b) t = gB a t := by
  unfold gB; rw [List.getD_eq_getElem?_getD, List.getD_eq_getElem?_getD, List.getElem?_append_left h]
theorem gB_here (a b : List UInt8) (x : UInt8) : gB (a ++ x :: b) a.length = x.toNat := by
  unfold gB; rw [List.getD_eq_getElem?_getD, List.getElem?_append_right (by omega)]; simp
theorem gB_pre7 : ∀ (m n i : Nat), i < m → gB (pre7 m n) i = 128 + n / 128 ^ i % 128
  | m + 1, n, i, h => by
    rw [show pre7 (m + 1) n = pre7 m n ++ [UInt8.ofNat (128 + n / 128 ^ m % 128)] from rfl]
    by_cases e : i = m
    · subst e
      have := gB_here (pre7 i n) [] (UInt8.ofNat (128 + n / 128 ^ i % 128))
      rw [pre7_length] at this; rw [this]; simp; omega
    · rw [gB_left _ _ _ (by rw [pre7_length]; omega), gB_pre7 m n i (by omega)]
theorem val7_pre (l : List UInt8) (n : Nat) : ∀ m, (∀ i, i < m → gB l i = 128 + n / 128 ^ i % 128) → val7 l m = n % 128 ^ m
  | 0, _ => by simp [val7, Nat.mod_one]
  | m + 1, h => by
    rw [show val7 l (m + 1) = val7 l m + gB l m % 128 * 128 ^ m from rfl, val7_pre l n m (fun i hi => h i (by omega)), h m (by omega), Nat.pow_succ, Nat.mod_mul]
    rw [show (128 + n / 128 ^ m % 128) % 128 = n / 128 ^ m % 128 by omega, Nat.mul_comm]
theorem pkL_last (n : Nat) (h : n < 2 ^ 64) : n / 128 ^ pkW n < 128 := Nat.div_lt_of_lt_mul (by have := pkW_lt n h; rwa [Nat.pow_succ] at this)
theorem pkL_append (n : Nat) (r : List UInt8) : pkL n ++ r = pre7 (pkW n) n ++ UInt8.ofNat (n / 128 ^ pkW n) :: r := by simp [pkL]
theorem gB_pkL (n : Nat) (r : List UInt8) (i : Nat) (h : i < pkW n) : gB (pkL n ++ r) i = 128 + n / 128 ^ i % 128 := by
  rw [pkL_append, gB_left _ _ _ (by rw [pre7_length]; exact h), gB_pre7 _ _ _ h]
theorem gB_pkL_last (n : Nat) (r : List UInt8) (h : n < 2 ^ 64) : gB (pkL n ++ r) (pkW n) = n / 128 ^ pkW n := by
  have e := gB_here (pre7 (pkW n) n) r (UInt8.ofNat (n / 128 ^ pkW n))
  rw [pre7_length] at e
  rw [pkL_append, e]
  have := pkL_last n h
  simp; omega
/-- What is packed is read, whatever stands behind it. -/
theorem unpS_pkL (n : Nat) (r : List UInt8) (h : n < 2 ^ 64) : unpS (pkL n ++ r) = (n, pkW n + 1, 0) := by
  have hl := pkL_last n h
  have h9 := pkW_le9 n h
  have hg := gB_pkL_last n r h
  rw [unpS_end (pkL n ++ r) (pkW n) (by simp [pkL_length]; omega) (by omega) (fun t ht => by rw [gB_pkL n r t ht]; omega) (by rw [hg]; exact hl), hg]
  have hm : mayEndB (pkW n) (n / 128 ^ pkW n) = true := by
    unfold mayEndB
    split
    · rename_i e
      have := pkW_ge n h (by omega)
      rw [e] at this ⊢
      have e9 : (128 : Nat) ^ 9 = 9223372036854775808 := by decide
      rw [e9] at this ⊢
      simp; omega
    · by_cases e : pkW n = 0
      · simp [e]
      · have := pkW_ge n h e
        have : 0 < n / 128 ^ pkW n := Nat.div_pos this (Nat.pow_pos (by omega))
        simp; omega
  rw [if_pos hm]
  rw [show val7 (pkL n ++ r) (pkW n + 1) = val7 (pkL n ++ r) (pkW n) + gB (pkL n ++ r) (pkW n) % 128 * 128 ^ pkW n from rfl, hg,
    val7_pre _ n (pkW n) (fun i hi => gB_pkL n r i hi), Nat.mod_eq_of_lt hl]
  have := Nat.mod_add_div n (128 ^ pkW n)
  rw [Nat.mul_comm] at this
  rw [this]
theorem pkL_prefix (a b : Nat) (r : List UInt8) (ha : a < 2 ^ 64) (hb : b < 2 ^ 64) (h : pkL b = pkL a ++ r) : a = b := by
  have h1 := unpS_pkL a r ha
  have h2 := unpS_pkL b [] hb
  rw [List.append_nil, h, h1] at h2
  exact (Prod.mk.inj h2).1
theorem pkL_inj (a b : Nat) (ha : a < 2 ^ 64) (hb : b < 2 ^ 64) (h : pkL a = pkL b) : a = b := pkL_prefix a b [] ha hb (by rw [h]; simp)
theorem unpS_pre (n : Nat) (h : n < 2 ^ 64) : unpS (pre7 (pkW n) n) = (0, 0, 3) :=
  unpS_short _ (pkW n) (by rw [pre7_length]) (by have := pkW_le9 n h; omega) (fun t ht => by rw [gB_pre7 _ _ _ ht]; omega)
theorem beL_zero (k n : Nat) (h : n < 256 ^ k) : beL (k + 1) n = 0 :: beL k n := by
  rw [show beL (k + 1) n = UInt8.ofNat (n / 256 ^ k) :: beL k n from rfl, Nat.div_eq_of_lt h]; rfl
end Go.Proofs.Ytgeiicchkfpanaa
