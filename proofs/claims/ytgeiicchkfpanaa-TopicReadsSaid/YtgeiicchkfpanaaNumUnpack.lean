/- Layer 1: the contracts of Get and Unpack. -/
import Derived.Test.YtgeiicchkfpanaaNumPack
namespace Go.Proofs.Ytgeiicchkfpanaa
open Go.RowKit
set_option maxHeartbeats 400000 in
theorem mayEnd_any (i b : Nat) (w : World) :
    Calls Try.prog 100 #[.int .i64 i, .int .u8 b] w fun e w' => e = .returned (.bool (mayEndB i b)) ∧ w = w' := by
  have e1 : Ending.returned (.bool (decide ((b : Int) = 1))) = .returned (.bool (decide (b = 1))) := by congr 3; simp; omega
  by_cases h9 : i = 9
  · have hb : ((i : Int) == 9) = true := by simp; omega
    have hm : mayEndB i b = ((b : Int) == 1) := by unfold mayEndB; rw [if_pos h9, Bool.eq_iff_iff]; simp; omega
    have Hm := Lib.hid hm
    clear h9 hm
    go_enter Try.func100, Try.ntmps100
    go_wp2
    go_ret
    exact ⟨ret_bool Hm.out.symm, rfl⟩
  · have hb : ((i : Int) == 9) = false := by simp; omega
    by_cases h0 : i = 0
    · have hb0 : ((i : Int) == 0) = true := by simp; omega
      have hm : mayEndB i b = true := by unfold mayEndB; rw [if_neg h9]; simp [h0]
      have Hm := Lib.hid hm
      clear h9 hm h0
      go_enter Try.func100, Try.ntmps100
      go_wp2
      go_ret
      exact ⟨ret_bool Hm.out.symm, rfl⟩
    · have hb0 : ((i : Int) == 0) = false := by simp; omega
      have hm : mayEndB i b = ((b : Int) != 0) := by unfold mayEndB; rw [if_neg h9, Bool.eq_iff_iff]; simp [h0]
      have Hm := Lib.hid hm
      clear h9 hm h0
      go_enter Try.func100, Try.ntmps100
      go_wp2
      go_ret
      exact ⟨ret_bool Hm.out.symm, rfl⟩
set_option maxRecDepth 100000 in
set_option maxHeartbeats 1000000 in
theorem unpack_any (s : ByteArray) (w : World) (hs : s.size ≤ 9223372036854775807) :
    Calls Try.prog 96 #[.string s] w fun e w' => e = .returned (.tuple #[.int .u64 (unpS s.data.toList).1, .int .i64 (unpS s.data.toList).2.1, .int .i64 (unpS s.data.toList).2.2]) ∧ w = w' := by
  obtain ⟨l, hl⟩ : ∃ l, l = s.data.toList := ⟨_, rfl⟩
  have hlen : l.length = s.size := by rw [hl]; simp
  have hat : ∀ j (h : j < s.size), gB l j = (s[j]'h).toNat := fun j h => by rw [hl]; exact gB_at s j h
  rw [← hl]
  have Hlen := Lib.hid hlen
  have Hat := Lib.hid hat
  clear hlen hat hl
  go_enter Try.func96, Try.ntmps96
  go_wp2
  go_loop [5, 10] (fun n i => ∃ (j : Nat) (x : Int), j ≤ 10 ∧ j ≤ s.size ∧ i = .int .i64 j ∧ n = .int .u64 x ∧ (j ≤ 9 → x = val7 l j) ∧ (∀ t, t < j → 128 ≤ gB l t)) (fun _ i => 10 - (intOf i).toNat)
  case atStart => exact ⟨0, 0, by omega, by omega, rfl, rfl, fun _ => rfl, fun t h => by omega⟩
  case round =>
    obtain ⟨j, x, hj, hjs, rfl, rfl, hx, hb⟩ := hrel
    have Hb := Lib.hid hb
    clear hb
    by_cases hlt : j < s.size ∧ j ≤ 9
    · obtain ⟨hjl, hj9⟩ := hlt
      obtain rfl := hx hj9
      have hbj : (0 : Int) ≤ ((s[j]'hjl).toNat : Int) ∧ ((s[j]'hjl).toNat : Int) < 256 := by have := (s[j]'hjl).toNat_lt; omega
      by_cases hbig : 128 ≤ ((s[j]'hjl).toNat : Int)
      · go_wp2
        go_round
        case rel =>
          have hg := Hat.out j hjl
          refine ⟨j + 1, _, by omega, by omega, by go_num, rfl, fun h => step7_go l j _ hg h, gB_set l j _ hg (by omega) Hb.out⟩
        case measure => simp [intOf]; omega
      · have hsm : ((s[j]'hjl).toNat : Int) < 128 := by omega
        clear hbig
        by_cases hm : mayEndB j (s[j]'hjl).toNat = true
        · have Hm := Lib.hid hm
          clear hm
          go_wp2_with fail
          refine (mayEnd_any _ _ _).mono ?_
          rintro e w' ⟨rfl, rfl⟩
          rw [Hm.out]
          go_wp2
          go_ret3
          have hg := Hat.out j hjl
          have hu := unp_yes l j _ hg hj9 (by have := Hlen.out; omega) (by omega) Hb.out Hm.out
          exact ⟨ret_3 hu.1 hu.2.1 hu.2.2, rfl⟩
        · have Hm := Lib.hid (Bool.eq_false_iff.2 hm)
          clear hm
          go_wp2_with fail
          refine (mayEnd_any _ _ _).mono ?_
          rintro e w' ⟨rfl, rfl⟩
          rw [Hm.out]
          go_wp2
          go_ret3
          have hg := Hat.out j hjl
          have hu := unp_no l j _ hg hj9 (by have := Hlen.out; omega) (by omega) Hb.out Hm.out
          exact ⟨ret_3 (by rw [hu]; rfl) (by rw [hu]; rfl) (by rw [hu]; rfl), rfl⟩
    · by_cases hsh : s.size < 10
      · go_wp2
        go_ret3
        have hu := unpS_short l j (by have := Hlen.out; omega) (by omega) Hb.out
        exact ⟨ret_3 (by rw [hu]; rfl) (by rw [hu]; rfl) (by rw [hu]; rfl), rfl⟩
      · obtain rfl : j = 10 := by omega
        go_wp2
        go_ret3
        have hu := unpS_long l (by have := Hlen.out; omega) Hb.out
        exact ⟨ret_3 (by rw [hu]; rfl) (by rw [hu]; rfl) (by rw [hu]; rfl), rfl⟩
end Go.Proofs.Ytgeiicchkfpanaa
