/- Layer 3: what is read is written as it was, what is written is read as it was. No Go in sight. -/
import Derived.Test.YtkakldlfgnijdaaDoorValN
import Derived.Test.YtkakldlfgnijdaaDoorValI
namespace Go.Proofs.YtkakldlfgnijdaaDoor
open Go.RowKit
def isD (b : UInt8) : Prop := 48 ≤ b.toNat ∧ b.toNat ≤ 57
theorem decV_mono : ∀ (ds : List UInt8) (a : Nat), a ≤ decV ds a
  | [], a => Nat.le_refl _
  | b :: t, a => by have := decV_mono t (a * 10 + (b.toNat - 48)); simp only [decV]; omega
/-- What rdN reads: a beginning of digits. -/
theorem rdN_spec (m : Nat) : ∀ (l : List UInt8) (n k : Nat), ∃ ds r, l = ds ++ r ∧ (∀ b ∈ ds, isD b) ∧ rdN m l n k = (decV ds n, k + ds.length)
  | [], n, k => ⟨[], [], rfl, fun _ h => by simp at h, rfl⟩
  | b :: t, n, k => by
    rw [rdN]
    split
    · rename_i hc
      obtain ⟨ds, r, e, hd, h⟩ := rdN_spec m t (n * 10 + (b.toNat - 48)) (k + 1)
      refine ⟨b :: ds, r, by rw [e]; rfl, ?_, by rw [h]; simp only [decV, List.length_cons]; congr 1; omega⟩
      intro c hcm
      rcases List.mem_cons.1 hcm with rfl | hcm
      · exact ⟨hc.1, hc.2.1⟩
      · exact hd c hcm
    · exact ⟨[], b :: t, rfl, fun _ h => by simp at h, rfl⟩
theorem rdN_back (m : Nat) : ∀ (ds : List UInt8) (n k : Nat), (∀ b ∈ ds, isD b) → decV ds n ≤ m → rdN m ds n k = (decV ds n, k + ds.length)
  | [], n, k, _, _ => rfl
  | b :: t, n, k, hd, hm => by
    have hb := hd b (by simp)
    have := decV_mono t (n * 10 + (b.toNat - 48))
    simp only [decV] at hm ⊢
    rw [rdN, if_pos ⟨hb.1, hb.2, by omega⟩, rdN_back m t _ _ (fun c hc => hd c (by simp [hc])) hm]
    simp only [List.length_cons]; congr 1; omega
theorem dec_of (ds : List UInt8) (hd : ∀ b ∈ ds, isD b) (hne : ds ≠ []) (h0 : ∀ t, ds ≠ 48 :: t) : Lib.decDigits (decV ds 0) = ds ∧ 1 ≤ decV ds 0 := by
  obtain ⟨n, hn⟩ : ∃ n, n = ds.length := ⟨_, rfl⟩
  induction n using Nat.strongRecOn generalizing ds with
  | ind n ih =>
    obtain ⟨a, d, rfl⟩ : ∃ a d, ds = a ++ [d] := ⟨ds.dropLast, ds.getLast hne, (List.dropLast_concat_getLast hne).symm⟩
    have hdd := hd d (by simp)
    have hu : UInt8.ofNat (48 + (d.toNat - 48)) = d := UInt8.toNat_inj.1 (by have := hdd.1; have := d.toNat_lt; simp; omega)
    cases a with
    | nil =>
      have hd0 : d.toNat ≠ 48 := fun e => h0 [] (by rw [show d = 48 from UInt8.toNat_inj.1 e]; rfl)
      have e : decV ([] ++ [d]) 0 = d.toNat - 48 := by simp [decV]
      have h1 := hdd.1
      have h2 := hdd.2
      refine ⟨?_, by rw [e]; omega⟩
      rw [e, Lib.decDigits, dif_pos (by omega), hu]; rfl
    | cons b t =>
      have ⟨i1, i2⟩ := ih (b :: t).length (by subst hn; simp) (b :: t) (fun c hc => hd c (by simp at hc ⊢; rcases hc with h | h; exact .inl h; exact .inr (.inl h))) (by simp) (fun t' e => h0 (t' ++ [d]) (by rw [e]; rfl)) rfl
      have e : decV (b :: t ++ [d]) 0 = decV (b :: t) 0 * 10 + (d.toNat - 48) := by rw [decV_append]; rfl
      have h1 := hdd.1
      have h2 := hdd.2
      rw [e]
      generalize decV (b :: t) 0 = U at *
      refine ⟨?_, by omega⟩
      rw [Lib.decDigits, dif_neg (by omega), show (U * 10 + (d.toNat - 48)) / 10 = U by omega, i1, show (U * 10 + (d.toNat - 48)) % 10 = d.toNat - 48 by omega, hu]
/-- readDigits, where it reads something: its digits are the number's. -/
theorem rdD_spec (m : Nat) (l : List UInt8) (N K : Nat) (h : rdD m l = (N, K)) : l.take K = if K = 0 then [] else Lib.decDigits N := by
  unfold rdD at h
  split at h
  · rename_i hp
    cases h
    cases l with
    | nil => simp [Lib.hasPrefix] at hp
    | cons b t =>
      rw [has1] at hp
      have : b = 48 := by simpa using hp
      subst this
      rw [if_neg (by decide), Lib.decDigits, dif_pos (by decide)]; rfl
  · rename_i hp
    obtain ⟨ds, r, e, hd, h'⟩ := rdN_spec m l 0 0
    rw [h'] at h
    cases h
    rw [Nat.zero_add]
    cases ds with
    | nil => rfl
    | cons b t =>
      have ⟨i1, _⟩ := dec_of (b :: t) hd (by simp) (fun t' e' => hp (by rw [e, e']; rfl))
      rw [if_neg (by simp), i1, e, List.take_left' rfl]
theorem rdD_zero (m : Nat) (l : List UInt8) (N K : Nat) (h : rdD m l = (N, K)) (h0 : K = 0) : N = 0 := by
  unfold rdD at h
  split at h
  · cases h; exact absurd h0 (by decide)
  · obtain ⟨ds, r, e, hd, h'⟩ := rdN_spec m l 0 0
    rw [h'] at h
    cases h
    cases ds with
    | nil => rfl
    | cons b t => simp at h0
theorem decDigits_head (u : Nat) (h0 : u ≠ 0) : ∀ t, Lib.decDigits u ≠ 48 :: t := by
  induction u using Nat.strongRecOn with
  | ind u ih =>
    intro t h
    rw [Lib.decDigits] at h
    split at h
    · rename_i hu
      have e := congrArg UInt8.toNat (List.cons.inj h).1
      simp at e; omega
    · rename_i hu
      cases hl : Lib.decDigits (u / 10) with
      | nil => exact decDigits_ne _ hl
      | cons c r =>
        rw [hl, List.cons_append] at h
        have e := (List.cons.inj h).1
        subst e
        exact ih (u / 10) (by omega) (by omega) r hl
theorem rdD_back (m u : Nat) (h : u ≤ m) : rdD m (Lib.decDigits u) = (u, (Lib.decDigits u).length) := by
  by_cases h0 : u = 0
  · subst h0; rw [Lib.decDigits, dif_pos (by decide)]; rfl
  · have hd := decDigits_big u
    have hv := decDigits_val u
    have hne := decDigits_ne u
    unfold rdD
    rw [if_neg, rdN_back m _ 0 0 hd (by rw [hv]; exact h), hv, Nat.zero_add]
    intro hp
    cases hl : Lib.decDigits u with
    | nil => exact hne hl
    | cons b t =>
      rw [hl, has1] at hp
      have : b = 48 := by simpa using hp
      subst this
      exact decDigits_head u h0 t hl
theorem escL_one (b : UInt8) (h : b.toNat ≠ 34) (h' : b.toNat ≠ 92) : escL [b] = [b] := by
  have : escB (b.toNat : Int) = false := by simp [escB]; omega
  simp [escL, this]
theorem escL_two (b : UInt8) (h : escB (b.toNat : Int) = true) : escL [b] = [92, b] := by simp [escL, h]
theorem rdT_spec : ∀ (n : Nat) (l x : List UInt8) (k : Nat) (y : List UInt8) (k' : Nat), l.length ≤ n → x.length ≤ 60 → rdT l x k = some (y, k') →
    ∃ z r, y = x ++ z ∧ l = escL z ++ 34 :: r ∧ k' = k + (escL z).length + 1 ∧ y.length ≤ 60
  | 0, [], x, k, y, k', _, _, h => by simp [rdT] at h
  | n + 1, [], x, k, y, k', _, _, h => by simp [rdT] at h
  | n + 1, b :: t, x, k, y, k', hn, hx, h => by
    simp only [List.length_cons] at hn
    by_cases h34 : b.toNat = 34
    · rw [rdT_34 _ _ _ _ h34] at h
      cases h
      exact ⟨[], t, by simp, by rw [show b = 34 from UInt8.toNat_inj.1 h34]; rfl, rfl, hx⟩
    · by_cases h92 : b.toNat = 92
      · have hb : b = 92 := UInt8.toNat_inj.1 h92
        cases t with
        | nil => rw [rdT_end _ _ _ h92] at h; cases h
        | cons c t =>
          cases he : escB (c.toNat : Int) with
          | false => rw [rdT_bad _ _ _ _ _ h92 he] at h; cases h
          | true =>
            by_cases hl : x.length = 60
            · rw [rdT_full2 _ _ _ _ _ h92 he hl] at h; cases h
            · rw [rdT_go2 _ _ _ _ _ h92 he hl] at h
              simp only [List.length_cons] at hn
              obtain ⟨z, r, e1, e2, e3, e4⟩ := rdT_spec n t _ _ y k' (by omega) (by simp; omega) h
              refine ⟨c :: z, r, by rw [e1]; simp, ?_, ?_, e4⟩
              · rw [show c :: z = [c] ++ z from rfl, escL_append, escL_two c he, e2, hb]; rfl
              · rw [show c :: z = [c] ++ z from rfl, escL_append, escL_two c he, e3]; simp; omega
      · by_cases hl : x.length = 60
        · rw [rdT_full _ _ _ _ h34 h92 hl] at h; cases h
        · rw [rdT_go _ _ _ _ h34 h92 hl] at h
          obtain ⟨z, r, e1, e2, e3, e4⟩ := rdT_spec n t _ _ y k' (by omega) (by simp; omega) h
          refine ⟨b :: z, r, by rw [e1]; simp, ?_, ?_, e4⟩
          · rw [show b :: z = [b] ++ z from rfl, escL_append, escL_one b h34 h92, e2]; rfl
          · rw [show b :: z = [b] ++ z from rfl, escL_append, escL_one b h34 h92, e3]; simp; omega
theorem rdT_back : ∀ (z x : List UInt8) (k : Nat), x.length + z.length ≤ 60 → rdT (escL z ++ [34]) x k = some (x ++ z, k + (escL z).length + 1)
  | [], x, k, _ => by show rdT [34] x k = _; rw [rdT_34 _ _ _ _ rfl]; simp [escL]
  | b :: z, x, k, h => by
    simp only [List.length_cons] at h
    cases he : escB (b.toNat : Int) with
    | true =>
      rw [show b :: z = [b] ++ z from rfl, escL_append, escL_two b he, List.append_assoc]
      show rdT (92 :: b :: (escL z ++ [34])) x k = _
      rw [rdT_go2 _ _ _ _ _ rfl he (by omega), rdT_back z _ _ (by simp; omega)]
      simp; omega
    | false =>
      have h' : b.toNat ≠ 34 ∧ b.toNat ≠ 92 := by simp [escB] at he; omega
      rw [show b :: z = [b] ++ z from rfl, escL_append, escL_one b h'.1 h'.2, List.append_assoc]
      show rdT (b :: (escL z ++ [34])) x k = _
      rw [rdT_go _ _ _ _ h'.1 h'.2 (by omega), rdT_back z _ _ (by simp; omega)]
      simp; omega
/-- WHAT IS READ IS WRITTEN AS IT WAS. -/
theorem readB_wr (l : List UInt8) (b : Bool) (n : Int) (x : List UInt8) (k : Nat) (h : readB l = some ((b, n, x), k)) :
    1 ≤ k ∧ k ≤ l.length ∧ mayB b n ⟨x.toArray⟩ = true ∧ -9223372036854775808 ≤ n ∧ n ≤ 9223372036854775807 ∧ wrL b n ⟨x.toArray⟩ = l.take k := by
  cases l with
  | nil => cases h
  | cons c t =>
    rw [readB] at h
    split at h
    · rename_i h34
      have hc : c = 34 := UInt8.toNat_inj.1 h34
      cases hr : rdT t [] 1 with
      | none => rw [hr] at h; cases h
      | some r =>
        obtain ⟨y, k'⟩ := r
        rw [hr] at h
        cases h
        obtain ⟨z, r, e1, e2, e3, e4⟩ := rdT_spec t.length t [] 1 y k' (Nat.le_refl _) (by simp) hr
        simp at e1
        subst e1
        subst hc
        have hk : k' = (34 :: escL y ++ [34]).length := by rw [e3]; simp; omega
        refine ⟨by omega, by rw [e2, hk]; simp, by simp [mayB]; exact e4, by decide, by decide, ?_⟩
        rw [hk, e2, show (34 :: (escL y ++ 34 :: r)) = (34 :: escL y ++ [34]) ++ r by simp, List.take_left' rfl]
        rfl
    · split at h
      · rename_i h45
        have hc : c = 45 := UInt8.toNat_inj.1 h45
        obtain ⟨N, K, hr⟩ : ∃ N K, rdD 9223372036854775808 t = (N, K) := ⟨_, _, rfl⟩
        have hle := rdD_le 9223372036854775808 (by omega) t
        rw [hr] at h hle
        simp only [] at h hle
        split at h
        · cases h
        · rename_i hN
          cases h
          have hs := rdD_spec _ _ _ _ hr
          have hK : K ≠ 0 := fun e => hN (rdD_zero _ _ _ _ hr e)
          rw [if_neg hK] at hs
          refine ⟨by omega, by simp; omega, (by show (ByteArray.toList _).isEmpty = true; rw [ByteArray.toList_eq]; rfl), by omega, by omega, ?_⟩
          subst hc
          rw [show 1 + K = K + 1 by omega, List.take_succ_cons, hs]
          unfold wrL Lib.itoa
          rw [if_pos rfl, if_pos (by omega), show (-(N : Int)).natAbs = N by omega]
      · obtain ⟨N, K, hr⟩ : ∃ N K, rdD 9223372036854775807 (c :: t) = (N, K) := ⟨_, _, rfl⟩
        have hle := rdD_le 9223372036854775807 (by omega) (c :: t)
        rw [hr] at h hle
        simp only [] at h hle
        split at h
        · cases h
        · rename_i hK
          cases h
          have hs := rdD_spec _ _ _ _ hr
          rw [if_neg hK] at hs
          refine ⟨by omega, hle.2, (by show (ByteArray.toList _).isEmpty = true; rw [ByteArray.toList_eq]; rfl), by omega, by omega, ?_⟩
          rw [hs]
          unfold wrL Lib.itoa
          rw [if_pos rfl, if_neg (by omega), Int.toNat_natCast]
/-- WHAT IS WRITTEN IS READ AS IT WAS. -/
theorem readB_back (b : Bool) (n : Int) (t : ByteArray) (h0 : -9223372036854775808 ≤ n) (h1 : n ≤ 9223372036854775807) (hm : mayB b n t = true) :
    readB (wrL b n t) = some ((b, n, t.data.toList), (wrL b n t).length) := by
  cases b with
  | false =>
    simp only [mayB, Bool.false_eq_true, if_false, Bool.and_eq_true, decide_eq_true_eq] at hm
    obtain ⟨rfl, ht⟩ := hm
    simp only [wrL, Bool.false_eq_true, if_false, List.cons_append]
    rw [readB, if_pos (by decide), rdT_back _ _ _ (by simp; omega)]
    simp; omega
  | true =>
    have he : t = ⟨#[]⟩ := empty_of t hm
    subst he
    simp only [wrL, if_true]
    unfold Lib.itoa
    split
    · rename_i hn
      have hb := rdD_back 9223372036854775808 n.natAbs (by omega)
      rw [readB, if_neg (by decide), if_pos (by decide), hb]
      simp only []
      rw [if_neg (by omega)]
      simp; omega
    · rename_i hn
      have hb := rdD_back 9223372036854775807 n.toNat (by omega)
      have hd := decDigits_big n.toNat
      cases hl : Lib.decDigits n.toNat with
      | nil => exact absurd hl (decDigits_ne _)
      | cons c r =>
        have hc := hd c (by rw [hl]; simp)
        rw [hl] at hb
        rw [readB, if_neg (by omega), if_neg (by omega), hb]
        simp only []
        rw [if_neg (by simp)]
        simp; omega
end Go.Proofs.YtkakldlfgnijdaaDoor
