/- Layer 3: octets, and written forms, of two values are the same just if the values are. No Go in sight. -/
import Derived.Test.YtkakldlfgnijdaaDoorValG
namespace Go.Proofs.YtkakldlfgnijdaaDoor
open Go.RowKit
/-- A value's octets. -/
def layL (b : Bool) (n : Int) (t : ByteArray) : List UInt8 := if b then 1 :: pkL (foldZ n).toNat else 2 :: UInt8.ofNat t.size :: t.data.toList
theorem layL_prefix (b : Bool) (n : Int) (t : ByteArray) (b' : Bool) (n' : Int) (t' : ByteArray) (r : List UInt8) (h0 : -9223372036854775808 ≤ n) (h1 : n ≤ 9223372036854775807) (h0' : -9223372036854775808 ≤ n') (h1' : n' ≤ 9223372036854775807)
    (hm : mayB b n t = true) (hm' : mayB b' n' t' = true) (h : layL b' n' t' = layL b n t ++ r) : b = b' ∧ n = n' ∧ t = t' := by
  cases b <;> cases b' <;> simp only [layL, Bool.false_eq_true, if_false, if_true, List.cons_append, List.cons.injEq] at h
  · simp only [mayB, Bool.false_eq_true, if_false, Bool.and_eq_true, decide_eq_true_eq] at hm hm'
    obtain ⟨_, hs, hd⟩ := h
    have hsz : t'.size = t.size := by
      have := congrArg UInt8.toNat hs
      simp at this; omega
    refine ⟨rfl, by omega, Go.WideShapes.bytes_inj ?_⟩
    have hl : t.data.toList.length = t'.data.toList.length := by rw [Array.length_toList, Array.length_toList]; exact hsz.symm
    have := congrArg (List.take t.data.toList.length) hd
    rw [List.take_left' rfl, hl, List.take_of_length_le (by omega)] at this
    exact this.symm
  · exact absurd h.1 (by decide)
  · exact absurd h.1 (by decide)
  · have hf := foldZ_bd n h0 h1
    have hf' := foldZ_bd n' h0' h1'
    have e := pkL_prefix _ _ r (by omega) (by omega) h.2
    have e2 : foldZ n = foldZ n' := by omega
    have e3 := congrArg unfoldZ e2
    rw [unfold_fold, unfold_fold] at e3
    exact ⟨rfl, e3, (empty_of t hm).trans (empty_of t' hm').symm⟩
theorem layL_inj (b : Bool) (n : Int) (t : ByteArray) (b' : Bool) (n' : Int) (t' : ByteArray) (h0 : -9223372036854775808 ≤ n) (h1 : n ≤ 9223372036854775807) (h0' : -9223372036854775808 ≤ n') (h1' : n' ≤ 9223372036854775807)
    (hm : mayB b n t = true) (hm' : mayB b' n' t' = true) (h : layL b n t = layL b' n' t') : b = b' ∧ n = n' ∧ t = t' :=
  layL_prefix b n t b' n' t' [] h0 h1 h0' h1' hm hm' (by rw [h]; simp)
/-! ### the written form -/
def decV : List UInt8 → Nat → Nat
  | [], a => a
  | b :: t, a => decV t (a * 10 + (b.toNat - 48))
theorem decV_append : ∀ (l m : List UInt8) (a : Nat), decV (l ++ m) a = decV m (decV l a)
  | [], m, a => rfl
  | b :: t, m, a => by simp [decV, decV_append t m]
theorem decDigits_val (u : Nat) : decV (Lib.decDigits u) 0 = u := by
  induction u using Nat.strongRecOn with
  | ind u ih =>
    rw [Lib.decDigits]
    split
    · simp [decV]; omega
    · rename_i h
      rw [decV_append, ih (u / 10) (by omega)]
      simp [decV]; omega
theorem decDigits_big (u : Nat) : ∀ b ∈ Lib.decDigits u, 48 ≤ b.toNat ∧ b.toNat ≤ 57 := by
  induction u using Nat.strongRecOn with
  | ind u ih =>
    rw [Lib.decDigits]
    split
    · intro b hb; simp at hb; subst hb; simp; omega
    · rename_i h
      intro b hb
      rw [List.mem_append] at hb
      rcases hb with hb | hb
      · exact ih (u / 10) (by omega) b hb
      · simp at hb; subst hb; simp; omega
theorem decDigits_ne (u : Nat) : Lib.decDigits u ≠ [] := by
  rw [Lib.decDigits]; split <;> simp
theorem itoa_inj (n m : Int) (h : Lib.itoa n = Lib.itoa m) : n = m := by
  unfold Lib.itoa at h
  have neg : ∀ (u : Nat) (r : List UInt8), Lib.decDigits u ≠ 45 :: r := fun u r e => by
    have := decDigits_big u 45 (by rw [e]; simp)
    simp at this
  split at h <;> split at h
  · have := congrArg (fun l => decV l 0) (List.cons.inj h).2
    simp only [decDigits_val] at this; omega
  · exact absurd h.symm (neg _ _)
  · exact absurd h (neg _ _)
  · have := congrArg (fun l => decV l 0) h
    simp only [decDigits_val] at this; omega
theorem itoa_head (n : Int) (r : List UInt8) : Lib.itoa n ≠ 34 :: r := by
  intro e
  unfold Lib.itoa at e
  split at e
  · have := (List.cons.inj e).1; exact absurd this (by decide)
  · have := decDigits_big n.toNat 34 (by rw [e]; simp)
    simp at this
theorem escL_inj : ∀ (a b : List UInt8), escL a = escL b → a = b
  | [], [], _ => rfl
  | [], y :: b, h => by simp only [escL] at h; split at h <;> simp at h
  | x :: a, [], h => by simp only [escL] at h; split at h <;> simp at h
  | x :: a, y :: b, h => by
    simp only [escL] at h
    have e92 : escB ((92 : UInt8).toNat : Int) = true := by decide
    split at h <;> split at h
    · simp only [List.cons_append, List.nil_append, List.cons.injEq, true_and] at h
      rw [h.1, escL_inj a b h.2]
    · rename_i hx hy
      simp only [List.cons_append, List.nil_append, List.cons.injEq] at h
      rw [← h.1] at hy; exact absurd e92 hy
    · rename_i hx hy
      simp only [List.cons_append, List.nil_append, List.cons.injEq] at h
      rw [h.1] at hx; exact absurd e92 hx
    · simp only [List.cons_append, List.nil_append, List.cons.injEq] at h
      rw [h.1, escL_inj a b h.2]
/-- A value's written form. -/
def wrL (b : Bool) (n : Int) (t : ByteArray) : List UInt8 := if b then Lib.itoa n else 34 :: escL t.data.toList ++ [34]
theorem wrL_inj (b : Bool) (n : Int) (t : ByteArray) (b' : Bool) (n' : Int) (t' : ByteArray) (hm : mayB b n t = true) (hm' : mayB b' n' t' = true) (h : wrL b n t = wrL b' n' t') : b = b' ∧ n = n' ∧ t = t' := by
  cases b <;> cases b' <;> simp only [wrL, Bool.false_eq_true, if_false, if_true] at h
  · simp only [mayB, Bool.false_eq_true, if_false, Bool.and_eq_true, decide_eq_true_eq] at hm hm'
    simp only [List.cons_append, List.cons.injEq, true_and] at h
    exact ⟨rfl, by omega, Go.WideShapes.bytes_inj (escL_inj _ _ (List.append_cancel_right h))⟩
  · exact absurd h.symm (itoa_head _ _)
  · exact absurd h (itoa_head _ _)
  · exact ⟨rfl, itoa_inj _ _ h, (empty_of t hm).trans (empty_of t' hm').symm⟩
/-- Lay, Write of a value that may be, their texts by name. -/
theorem lay_as (b : Bool) (n : Int) (t : ByteArray) (h0 : -9223372036854775808 ≤ n) (h1 : n ≤ 9223372036854775807) (hm : mayB b n t = true) :
    ∃ L : ByteArray, L.data.toList = layL b n t ∧ ∀ w, Calls Tryd.prog 11 #[.agg #[.bool b, .int .i64 n, .string t]] w fun E w' => E = .returned (.tuple #[.string L, .int .i64 0]) ∧ Below w.heap.size w w' := by
  cases b with
  | true => exact ⟨_, by rw [ByteArray.data_append]; simp [layL], fun w => lay_num n t w h0 h1 hm⟩
  | false =>
    simp only [mayB, Bool.false_eq_true, if_false, Bool.and_eq_true, decide_eq_true_eq] at hm
    obtain ⟨rfl, ht⟩ := hm
    refine ⟨_, ?_, fun w => lay_text t w ht⟩
    rw [small_pk _ ht, ByteArray.data_append, Array.toList_append, ByteArray.data_append]; simp [layL]
theorem write_as (b : Bool) (n : Int) (t : ByteArray) (h0 : -9223372036854775808 ≤ n) (h1 : n ≤ 9223372036854775807) (hm : mayB b n t = true) :
    ∀ w, Pow w → Calls Tryd.prog 12 #[.agg #[.bool b, .int .i64 n, .string t]] w fun E w' => E = .returned (.tuple #[.string ⟨(wrL b n t).toArray⟩, .int .i64 0]) ∧ Below w.heap.size w w' := by
  cases b with
  | true => exact fun w hp => write_num n t w h0 h1 hm hp
  | false =>
    simp only [mayB, Bool.false_eq_true, if_false, Bool.and_eq_true, decide_eq_true_eq] at hm
    obtain ⟨rfl, ht⟩ := hm
    exact fun w _ => write_text t w ht
end Go.Proofs.YtkakldlfgnijdaaDoor
