/- Layer 3: readDigits. -/
import Derived.Test.YtkakldlfgnijdaaDoorValF
namespace Go.Proofs.YtkakldlfgnijdaaDoor
open Go.RowKit
/-- Is there a digit at that place? -/
def digB (s : ByteArray) (k : Nat) : Bool := match s.data.toList.drop k with
  | [] => false
  | b :: _ => decide (48 ≤ b.toNat) && decide (b.toNat ≤ 57)
/-- The number written where the octets l begin, at most m, with n read ahead of them in k octets. -/
def rdN (m : Nat) : List UInt8 → Nat → Nat → Nat × Nat
  | [], n, k => (n, k)
  | b :: t, n, k => if 48 ≤ b.toNat ∧ b.toNat ≤ 57 ∧ n ≤ (m - (b.toNat - 48)) / 10 then rdN m t (n * 10 + (b.toNat - 48)) (k + 1) else (n, k)
theorem drop_at (s : ByteArray) (k : Nat) (h : k < s.size) : s.data.toList.drop k = s[k]'h :: s.data.toList.drop (k + 1) := by
  rw [List.drop_eq_getElem_cons (by simpa using h)]; rfl
theorem drop_end (s : ByteArray) (k : Nat) (h : s.size ≤ k) : s.data.toList.drop k = [] := List.drop_eq_nil_of_le (by simpa using h)
set_option maxRecDepth 100000 in
set_option maxHeartbeats 400000 in
theorem isDigit_at (s : ByteArray) (w : World) (p : Nat) (k : Nat) (hc : w.cell? ⟨p, 0, none⟩ = some (.string s)) :
    Calls Tryd.prog 49 #[.int .i64 k, .pointer (some ⟨p, 0, none⟩)] w fun e w' => e = .returned (.bool (digB s k)) ∧ w = w' := by
  by_cases hk : k < s.size
  · have hd : digB s k = (decide (48 ≤ (s[k]'hk).toNat) && decide ((s[k]'hk).toNat ≤ 57)) := by unfold digB; rw [drop_at s k hk]
    have hk' : (k : Int) < s.size := by omega
    by_cases h1 : (48 : Int) ≤ (s[k]'hk).toNat
    · by_cases h2 : ((s[k]'hk).toNat : Int) ≤ 57
      · have e : digB s k = true := by rw [hd]; simp; omega
        rw [e]
        clear hd e
        go_enter Tryd.func49, Tryd.ntmps49
        go_wp2
        go_ret
        exact ⟨rfl, rfl⟩
      · have e : digB s k = false := by rw [hd]; simp; omega
        rw [e]
        clear hd e
        have h2' : (57 : Int) < (s[k]'hk).toNat := by omega
        clear h2
        go_enter Tryd.func49, Tryd.ntmps49
        go_wp2
        go_ret
        exact ⟨ret_bool (decide_eq_false (by omega)), rfl⟩
    · have e : digB s k = false := by rw [hd]; simp; omega
      rw [e]
      clear hd e
      have h1' : ((s[k]'hk).toNat : Int) < 48 := by omega
      clear h1
      go_enter Tryd.func49, Tryd.ntmps49
      go_wp2
      go_ret
      exact ⟨rfl, rfl⟩
  · have e : digB s k = false := by unfold digB; rw [drop_end s k (by omega)]
    rw [e]
    have hk' : (s.size : Int) ≤ k := by omega
    clear e hk
    go_enter Tryd.func49, Tryd.ntmps49
    go_wp2
    go_ret
    exact ⟨rfl, rfl⟩
theorem dig_yes (s : ByteArray) (k : Nat) (h : digB s k = true) : ∃ hk : k < s.size, 48 ≤ (s[k]'hk).toNat ∧ (s[k]'hk).toNat ≤ 57 := by
  by_cases hk : k < s.size
  · refine ⟨hk, ?_⟩
    unfold digB at h; rw [drop_at s k hk] at h
    simpa using h
  · unfold digB at h; rw [drop_end s k (by omega)] at h; exact absurd h (by decide)
theorem rdN_no (m : Nat) (s : ByteArray) (k N : Nat) (h : digB s k = false) : rdN m (s.data.toList.drop k) N k = (N, k) := by
  by_cases hk : k < s.size
  · unfold digB at h; rw [drop_at s k hk] at h ⊢
    simp at h
    rw [rdN, if_neg]; omega
  · rw [drop_end s k (by omega)]; rfl
theorem rdN_big (m : Nat) (s : ByteArray) (k N : Nat) (hk : k < s.size) (h : ¬ N ≤ (m - ((s[k]'hk).toNat - 48)) / 10) : rdN m (s.data.toList.drop k) N k = (N, k) := by
  rw [drop_at s k hk, rdN, if_neg]; omega
theorem rdN_go (m : Nat) (s : ByteArray) (k N : Nat) (hk : k < s.size) (h1 : 48 ≤ (s[k]'hk).toNat) (h2 : (s[k]'hk).toNat ≤ 57) (h : N ≤ (m - ((s[k]'hk).toNat - 48)) / 10) :
    rdN m (s.data.toList.drop k) N k = rdN m (s.data.toList.drop (k + 1)) (N * 10 + ((s[k]'hk).toNat - 48)) (k + 1) := by
  rw [drop_at s k hk, rdN, if_pos ⟨h1, h2, h⟩]
set_option maxRecDepth 100000 in
set_option maxHeartbeats 400000 in
theorem digits_any (s : ByteArray) (m : Nat) (w : World) (hz : Lib.hasPrefix s.data.toList (⟨#[48]⟩ : ByteArray).data.toList = false) (hs : s.size ≤ 1000) (hm : 100 ≤ m) (hm' : m ≤ 9223372036854775808) :
    Calls Tryd.prog 36 #[.string s, .int .u64 m] w fun e w' => e = .returned (.tuple #[.int .u64 (rdN m s.data.toList 0 0).1, .int .i64 (rdN m s.data.toList 0 0).2]) ∧ Below w.heap.size w w' := by
  have Hz := Lib.hid (pre_of s ⟨#[48]⟩ false hz)
  obtain ⟨R, hR⟩ : ∃ R, R = rdN m s.data.toList 0 0 := ⟨_, rfl⟩
  rw [← hR]
  have HR := Lib.hid hR
  clear hz hR
  go_enter Tryd.func36, Tryd.ntmps36
  go_wp2_with fail
  refine (Hz.out _).mono ?_
  rintro e wx ⟨rfl, rfl⟩
  go_wp2_with fail
  have hcell : (w.alloc (.cells #[.string s] 9)).cell? ⟨w.heap.size, 0, none⟩ = some (.string s) := by simp
  have D := Lib.hid (fun k : Nat => isDigit_at s _ w.heap.size k hcell)
  go_loop [7, 8] (fun n i => ∃ (k N : Nat), n = .int .u64 N ∧ i = .int .i64 k ∧ k ≤ s.size ∧ N ≤ m ∧ rdN m (s.data.toList.drop k) N k = R) (fun _ i => s.size - (intOf i).toNat)
  case atStart => exact ⟨0, 0, rfl, rfl, Nat.zero_le _, Nat.zero_le _, HR.out.symm⟩
  case round =>
    obtain ⟨k, N, rfl, rfl, hk, hN, hr⟩ := hrel
    have Hr := Lib.hid hr
    clear hr
    go_wp2_with fail
    refine (D.out _).mono ?_
    rintro e wx ⟨rfl, rfl⟩
    by_cases hd : digB s k = true
    · obtain ⟨hk', h1, h2⟩ := dig_yes s k hd
      have hb1 : (48 : Int) ≤ ((s[k]'hk').toNat : Int) ∧ ((s[k]'hk').toNat : Int) ≤ 57 := by omega
      rw [hd]
      by_cases hf : N ≤ (m - ((s[k]'hk').toNat - 48)) / 10
      · have hgo := rdN_go m s k N hk' h1 h2 hf
        have hle : N * 10 + ((s[k]'hk').toNat - 48) ≤ m := by omega
        have hf' : (N : Int) ≤ (m - ((s[k]'hk').toNat - 48)) / 10 := by omega
        have Hgo := Lib.hid hgo
        have Hle := Lib.hid hle
        clear hgo hf hd h1 h2 hle
        go_wp2
        go_round
        case rel => exact ⟨k + 1, N * 10 + ((s[k]'hk').toNat - 48), int_v (by omega), by go_num, by omega, Hle.out, Hgo.out.symm.trans Hr.out⟩
        case measure => simp [intOf]; omega
      · have hno := rdN_big m s k N hk' hf
        have hf' : ((m : Int) - ((s[k]'hk').toNat - 48)) / 10 < N := by omega
        have Hno := Lib.hid (Hr.out.symm.trans hno)
        clear hno hf hd h1 h2
        go_wp2
        go_ret2
        exact ⟨by have e := Hno.out; subst e; rfl, (Below.refl _ _).alloc (Nat.le_refl _) _⟩
    · have hd' : digB s k = false := by simpa using hd
      have Hno := Lib.hid (Hr.out.symm.trans (rdN_no m s k N hd'))
      rw [hd']
      clear hd hd'
      go_wp2
      go_ret2
      exact ⟨by have e := Hno.out; subst e; rfl, (Below.refl _ _).alloc (Nat.le_refl _) _⟩
end Go.Proofs.YtkakldlfgnijdaaDoor
