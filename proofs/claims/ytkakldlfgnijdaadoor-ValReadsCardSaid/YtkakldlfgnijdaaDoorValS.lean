/- Layer 3: what the document's Read looks for, of octets. No Go in sight. -/
import Derived.Test.YtkakldlfgnijdaaDoorValO
namespace Go.Proofs.YtkakldlfgnijdaaDoor
open Go.RowKit
/-- An octet more, to a number that is told below 0. -/
def mS (m : Int) (c : Int) : Int := if 48 ≤ c ∧ c ≤ 57 then wrap64 (wrap64 (10 * m) - (c - 48)) else m
def mF : List UInt8 → Int → Int
  | [], m => m
  | b :: t, m => mF t (mS m b.toNat)
theorem mF_append : ∀ (a b : List UInt8) (m : Int), mF (a ++ b) m = mF b (mF a m)
  | [], b, m => rfl
  | x :: a, b, m => by simp [mF, mF_append a b]
theorem mF_take (s : ByteArray) (i : Nat) (h : i < s.size) : mF (s.data.toList.take (i + 1)) 0 = mS (mF (s.data.toList.take i) 0) ((s[i]'h).toNat : Int) := by
  rw [List.take_succ_eq_append_getElem (by simpa using h), mF_append]; rfl
theorem mS_bd (m c : Int) (h0 : -9223372036854775808 ≤ m) (h1 : m ≤ 9223372036854775807) : -9223372036854775808 ≤ mS m c ∧ mS m c ≤ 9223372036854775807 := by
  unfold mS wrap64; split <;> omega
theorem mF_bd : ∀ (l : List UInt8) (m : Int), -9223372036854775808 ≤ m → m ≤ 9223372036854775807 → -9223372036854775808 ≤ mF l m ∧ mF l m ≤ 9223372036854775807
  | [], m, h0, h1 => ⟨h0, h1⟩
  | b :: t, m, h0, h1 => by have := mS_bd m b.toNat h0 h1; exact mF_bd t _ this.1 this.2
theorem mF_digits : ∀ (ds : List UInt8) (a : Nat), (∀ b ∈ ds, isD b) → decV ds a ≤ 9223372036854775808 → mF ds (-(a : Int)) = -(decV ds a : Int)
  | [], a, _, _ => rfl
  | b :: t, a, hd, h => by
    have hb := hd b (by simp)
    have hm := decV_mono t (a * 10 + (b.toNat - 48))
    simp only [decV] at h ⊢
    have e : mS (-(a : Int)) b.toNat = -((a * 10 + (b.toNat - 48) : Nat) : Int) := by
      have h1 := hb.1
      have h2 := hb.2
      unfold mS wrap64
      rw [if_pos (by omega)]
      omega
    rw [mF, e]
    exact mF_digits t _ (fun c hc => hd c (by simp [hc])) h
/-- The number that the document's Read makes of a beginning. -/
def mV (l : List UInt8) : Int := if l.head? = some 45 then mF l 0 else wrap64 (-(mF l 0))
theorem mV_bd (l : List UInt8) : -9223372036854775808 ≤ mV l ∧ mV l ≤ 9223372036854775807 := by
  unfold mV
  split
  · exact mF_bd l 0 (by omega) (by omega)
  · unfold wrap64; omega
theorem mV_itoa (n : Int) (h0 : -9223372036854775808 ≤ n) (h1 : n ≤ 9223372036854775807) : mV (Lib.itoa n) = n := by
  unfold mV Lib.itoa
  split
  · rename_i hn
    rw [if_pos (show (45 :: Lib.decDigits n.natAbs).head? = some 45 from rfl), mF]
    have : mS 0 ((45 : UInt8).toNat : Int) = 0 := by decide
    rw [this]
    have := mF_digits (Lib.decDigits n.natAbs) 0 (decDigits_big _) (by rw [decDigits_val]; omega)
    rw [decDigits_val] at this
    simp at this
    rw [this]; omega
  · rename_i hn
    have hne : ¬ (Lib.decDigits n.toNat).head? = some 45 := by
      cases hl : Lib.decDigits n.toNat with
      | nil => simp
      | cons c r =>
        have := decDigits_big n.toNat c (by rw [hl]; simp)
        intro e
        have e' : c = 45 := by simpa using e
        subst e'
        exact absurd this.1 (by decide)
    rw [if_neg hne]
    have := mF_digits (Lib.decDigits n.toNat) 0 (decDigits_big _) (by rw [decDigits_val]; omega)
    rw [decDigits_val] at this
    simp at this
    rw [this]
    unfold wrap64; omega
/-- Is the beginning of k octets a number's digits? -/
def okN (l : List UInt8) (k : Nat) : Prop := Lib.itoa (mV (l.take k)) = l.take k
theorem rdN_app (m : Nat) : ∀ (ds r : List UInt8) (n k : Nat), (∀ b ∈ ds, isD b) → decV ds n ≤ m → rdN m (ds ++ r) n k = rdN m r (decV ds n) (k + ds.length)
  | [], r, n, k, _, _ => rfl
  | b :: t, r, n, k, hd, hm => by
    have hb := hd b (by simp)
    have := decV_mono t (n * 10 + (b.toNat - 48))
    simp only [decV] at hm ⊢
    rw [List.cons_append, rdN, if_pos ⟨hb.1, hb.2, by omega⟩, rdN_app m t r _ _ (fun c hc => hd c (by simp [hc])) hm]
    simp only [List.length_cons]; congr 1; omega
theorem rdN_grow (m : Nat) : ∀ (l : List UInt8) (n k : Nat), k ≤ (rdN m l n k).2
  | [], n, k => Nat.le_refl _
  | b :: t, n, k => by
    rw [rdN]; split
    · have := rdN_grow m t (n * 10 + (b.toNat - 48)) (k + 1); omega
    · exact Nat.le_refl _
theorem rdN_val (m : Nat) : ∀ (l : List UInt8) (n k : Nat), n ≤ (rdN m l n k).1
  | [], n, k => Nat.le_refl _
  | b :: t, n, k => by
    rw [rdN]; split
    · have := rdN_val m t (n * 10 + (b.toNat - 48)) (k + 1); omega
    · exact Nat.le_refl _
/-- A number's digits that stand ahead are read, and maybe more. -/
theorem rdD_app (m u : Nat) (r : List UInt8) (h : u ≤ m) : (Lib.decDigits u).length ≤ (rdD m (Lib.decDigits u ++ r)).2 ∧ u ≤ (rdD m (Lib.decDigits u ++ r)).1 := by
  by_cases h0 : u = 0
  · subst h0
    rw [Lib.decDigits, dif_pos (by decide)]
    exact ⟨Nat.le_refl _, Nat.zero_le _⟩
  · have hd := decDigits_big u
    have hv := decDigits_val u
    have hne := decDigits_ne u
    unfold rdD
    rw [if_neg, rdN_app m _ r 0 0 hd (by rw [hv]; exact h)]
    · have h1 := rdN_grow m r (decV (Lib.decDigits u) 0) (0 + (Lib.decDigits u).length)
      have h2 := rdN_val m r (decV (Lib.decDigits u) 0) (0 + (Lib.decDigits u).length)
      rw [hv] at h1 h2 ⊢
      omega
    · intro hp
      cases hl : Lib.decDigits u with
      | nil => exact hne hl
      | cons b t =>
        rw [hl, List.cons_append, has1] at hp
        have : b = 48 := by simpa using hp
        subst this
        exact decDigits_head u h0 t hl
/-- A number's digits that stand ahead: Read tells a number, of as many octets or more. -/
theorem readB_far (l : List UInt8) (k : Nat) (hk : 1 ≤ k) (hl : k ≤ l.length) (h : okN l k) : ∃ N K, readB l = some ((true, N, []), K) ∧ k ≤ K := by
  obtain ⟨M, hM⟩ : ∃ M, M = mV (l.take k) := ⟨_, rfl⟩
  have hb := mV_bd (l.take k)
  unfold okN at h
  rw [← hM] at h hb
  have hlk : (l.take k).length = k := by rw [List.length_take]; omega
  have hla : l = Lib.itoa M ++ l.drop k := by rw [h, List.take_append_drop]
  have hil : (Lib.itoa M).length = k := by rw [h, hlk]
  rw [hla]
  generalize l.drop k = r at *
  clear hM h hla hlk
  unfold Lib.itoa at hil ⊢
  split at hil
  · rename_i hn
    rw [if_pos hn, List.cons_append, readB, if_neg (by decide), if_pos (by decide)]
    have := rdD_app 9223372036854775808 M.natAbs r (by omega)
    rw [if_neg (by omega)]
    exact ⟨_, _, rfl, by simp at hil; omega⟩
  · rename_i hn
    rw [if_neg hn]
    have := rdD_app 9223372036854775807 M.toNat r (by omega)
    have hd := decDigits_big M.toNat
    cases hl : Lib.decDigits M.toNat with
    | nil => exact absurd hl (decDigits_ne _)
    | cons c t =>
      have hc := hd c (by rw [hl]; simp)
      rw [hl] at this hil
      rw [List.cons_append] at this ⊢
      rw [readB, if_neg (by omega), if_neg (by omega), if_neg (by omega)]
      exact ⟨_, _, rfl, by omega⟩
theorem readB_num (l : List UInt8) (b : Bool) (N : Int) (x : List UInt8) (K : Nat) (h : readB l = some ((b, N, x), K)) (hb : b = true) : x = [] ∧ okN l K ∧ mV (l.take K) = N := by
  obtain ⟨h1, h2, h3, h4, h5, h6⟩ := readB_wr l b N x K h
  subst hb
  have hx : (⟨x.toArray⟩ : ByteArray) = ⟨#[]⟩ := empty_of _ h3
  have hx' : x = [] := by
    have := congrArg (fun z : ByteArray => z.data.toList) hx
    simpa using this
  have e : Lib.itoa N = l.take K := h6
  refine ⟨hx', ?_, ?_⟩
  · unfold okN; rw [← e, mV_itoa N h4 h5]
  · rw [← e, mV_itoa N h4 h5]
end Go.Proofs.YtkakldlfgnijdaaDoor
