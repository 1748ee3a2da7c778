/- Layer 1: the contracts of Get, and of the document's Put, Get, Unpack. -/
import Derived.Test.YtleddhmfamkbgaaNumLawD
import Derived.Test.YtleddhmfamkbgaaNumMath3
namespace Go.Proofs.Ytleddhmfamkbgaa
open Go.RowKit
theorem ret_2 {a b a' b' : Int} {j k : IntKind} (h : a = a') (h' : b = b') : Ending.returned (.tuple #[.int j a, .int k b]) = .returned (.tuple #[.int j a', .int k b']) := by rw [h, h']
set_option maxHeartbeats 400000 in
theorem get_bad (s : ByteArray) (w : World) (_hs : s.size ≤ 9223372036854775807) (h : s.size < 1 ∨ 8 < s.size) :
    Calls Try.prog 15 #[.string s] w fun e w' => e = .returned (.tuple #[.int .u64 0, .int .i64 1]) ∧ w = w' := by
  by_cases h1 : s.size < 1
  · clear h
    go_enter Try.func15, Try.ntmps15
    go_wp2
    go_ret2
    exact ⟨rfl, rfl⟩
  · have h2 : 8 < s.size := by omega
    have h3 : 1 ≤ s.size := by omega
    clear h h1
    go_enter Try.func15, Try.ntmps15
    go_wp2
    go_ret2
    exact ⟨rfl, rfl⟩
set_option maxRecDepth 100000 in
set_option maxHeartbeats 400000 in
theorem get_good (s : ByteArray) (w : World) (h1 : 1 ≤ s.size) (h2 : s.size ≤ 8) :
    Calls Try.prog 15 #[.string s] w fun e w' => e = .returned (.tuple #[.int .u64 (beV s.data.toList s.size), .int .i64 0]) ∧ w = w' := by
  obtain ⟨l, hl⟩ : ∃ l, l = s.data.toList := ⟨_, rfl⟩
  have hat : ∀ j (h : j < s.size), gB l j = (s[j]'h).toNat := fun j h => by rw [hl]; exact gB_at s j h
  rw [← hl]
  have Hat := Lib.hid hat
  clear hat hl
  go_enter Try.func15, Try.ntmps15
  go_wp2
  go_loop [4, 16] (fun n i => ∃ j : Nat, j ≤ s.size ∧ i = .int .i64 j ∧ n = .int .u64 (beV l j)) (fun _ i => s.size - (intOf i).toNat)
  case atStart => exact ⟨0, by omega, rfl, rfl⟩
  case round =>
    obtain ⟨j, hj, rfl, rfl⟩ := hrel
    by_cases hlt : j < s.size
    · have hg := Hat.out j hlt
      have hbd : (0 : Int) ≤ ((s[j]'hlt).toNat : Int) ∧ ((s[j]'hlt).toNat : Int) < 256 := by have := (s[j]'hlt).toNat_lt; omega
      have hst := beV_step l j (by omega)
      rw [hg] at hst
      have Hst := Lib.hid hst
      clear hst hg
      go_wp2
      go_round
      case rel => exact ⟨j + 1, by omega, by go_num, by rw [Hst.out]⟩
      case measure => simp [intOf]; omega
    · obtain rfl : j = s.size := by omega
      go_wp2
      go_ret2
      exact ⟨rfl, rfl⟩
set_option maxRecDepth 100000 in
set_option maxHeartbeats 400000 in
theorem rget_any (s : ByteArray) (w : World) (hs : s.size ≤ 9223372036854775807) :
    Calls Try.prog 17 #[.string s] w fun e w' => e = .returned (.tuple #[.int .u64 (rgV s.data.toList s.size), .bool (rgB s.size)]) ∧ w = w' := by
  obtain ⟨l, hl⟩ : ∃ l, l = s.data.toList := ⟨_, rfl⟩
  have hat : ∀ j (h : j < s.size), gB l j = (s[j]'h).toNat := fun j h => by rw [hl]; exact gB_at s j h
  rw [← hl]
  have Hat := Lib.hid hat
  clear hat hl
  go_enter Try.func17, Try.ntmps17
  go_wp2
  go_loop [4, 5] (fun n i => ∃ j : Nat, j ≤ s.size ∧ i = .int .i64 j ∧ n = .int .u64 ((beV l j : Int) % 18446744073709551616)) (fun _ i => s.size - (intOf i).toNat)
  case atStart => exact ⟨0, by omega, rfl, rfl⟩
  case round =>
    obtain ⟨j, hj, rfl, rfl⟩ := hrel
    by_cases hlt : j < s.size
    · have hg := Hat.out j hlt
      have hbd : (0 : Int) ≤ ((s[j]'hlt).toNat : Int) ∧ ((s[j]'hlt).toNat : Int) < 256 := by have := (s[j]'hlt).toNat_lt; omega
      have hst := beV_step' l j
      rw [hg] at hst
      generalize (beV l j : Int) % 18446744073709551616 = x at *
      have Hst := Lib.hid hst
      clear hst hg
      go_wp2
      go_round
      case rel => exact ⟨j + 1, by omega, by go_num, by rw [Hst.out]⟩
      case measure => simp [intOf]; omega
    · obtain rfl : j = s.size := by omega
      by_cases h0 : s.size < 1
      · have he := data_nil s (by omega)
        have he' : s.toList.isEmpty = true := by rw [he]; rfl
        have Hd := Lib.hid (show rgB s.size = false from decide_eq_false (by omega))
        have Hi := Lib.hid (show rgV l s.size = 0 from if_neg (by omega))
        generalize (beV l s.size : Int) % 18446744073709551616 = x at *
        go_wp2
        go_ret2
        exact ⟨ret_ib Hi.out.symm Hd.out.symm, rfl⟩
      · have he := toList_ne s (by omega)
        have he' := toList_isEmpty s (by omega)
        by_cases h8 : 8 < s.size
        · have Hd := Lib.hid (show rgB s.size = false from decide_eq_false (by omega))
          have Hi := Lib.hid (show rgV l s.size = 0 from if_neg (by omega))
          generalize (beV l s.size : Int) % 18446744073709551616 = x at *
          go_wp2
          go_ret2
          exact ⟨ret_ib Hi.out.symm Hd.out.symm, rfl⟩
        · have Hd := Lib.hid (show rgB s.size = true from decide_eq_true (by omega))
          have hv := beV_lt l s.size
          have hp : (256 : Nat) ^ s.size ≤ 256 ^ 8 := Nat.pow_le_pow_right (by omega) (by omega)
          have e8 : (256 : Nat) ^ 8 = 18446744073709551616 := by decide
          have Hi := Lib.hid (show rgV l s.size = (beV l s.size : Int) % 18446744073709551616 from by
            unfold rgV; rw [if_pos (by omega), Int.emod_eq_of_lt (by omega) (by omega)])
          clear hv hp e8
          generalize (beV l s.size : Int) % 18446744073709551616 = x at *
          go_wp2
          go_ret2
          exact ⟨ret_ib Hi.out.symm Hd.out.symm, rfl⟩
set_option maxRecDepth 100000 in
set_option maxHeartbeats 400000 in
theorem rput_bad (n wide : Int) (w : World) (h : wide < 1 ∨ 8 < wide) :
    Calls Try.prog 11 #[.int .u64 n, .int .i64 wide] w fun e w' => e = .returned (.tuple #[.string ⟨#[]⟩, .bool false]) ∧ w = w' := by
  by_cases h1 : wide < 1
  · clear h
    go_enter Try.func11, Try.ntmps11
    go_wp2
    go_ret2
    exact ⟨rfl, rfl⟩
  · have h2 : 8 < wide := by omega
    clear h
    go_enter Try.func11, Try.ntmps11
    go_wp2
    go_ret2
    exact ⟨rfl, rfl⟩
theorem app_head {b : UInt8} {l m : List UInt8} (h : b :: l = m) : Value.string ((⟨#[b]⟩ : ByteArray) ++ ⟨l.toArray⟩) = .string ⟨m.toArray⟩ := by
  rw [← h, ByteArray.mk_append_mk]; simp
theorem beL_mod (n k : Nat) : UInt8.ofNat (n / 256 ^ k % 256) = UInt8.ofNat (n / 256 ^ k) := by
  apply UInt8.toNat_inj.1; simp
set_option maxRecDepth 100000 in
set_option maxHeartbeats 400000 in
theorem rput_any (n : Int) (k : Nat) (w : World) (h0 : 0 ≤ n) (h1 : n ≤ 18446744073709551615) (hk : 1 ≤ k) (hk' : k ≤ 8) :
    Calls Try.prog 11 #[.int .u64 n, .int .i64 k] w fun e w' => e = .returned (.tuple #[.string ⟨(rpS n.toNat k).toArray⟩, .bool (rpB n.toNat k)]) ∧ Below w.heap.size w w' := by
  have hx : (1 : Int) ≤ k := by omega
  have hy : (k : Int) ≤ 8 := by omega
  go_enter Try.func11, Try.ntmps11
  go_wp2
  go_loopw [0, 6, 7] (fun q s i wr => ∃ j : Nat, j ≤ k ∧ i = .int .i64 j ∧ q = .int .u64 (n / 256 ^ j) ∧ s = .string ⟨(beL j n.toNat).toArray⟩ ∧ Below w.heap.size w wr) (fun _ _ i _ => k - (intOf i).toNat)
  case atStart => exact ⟨0, by omega, rfl, by simp, rfl, Below.refl _ _⟩
  case round =>
    obtain ⟨j, hj, rfl, rfl, rfl, hbel⟩ := hrel
    obtain ⟨x, hx⟩ : ∃ x, x = n / 256 ^ j := ⟨_, rfl⟩
    have hx0 : 0 ≤ x := by rw [hx]; exact Int.ediv_nonneg h0 (Int.pow_nonneg (by omega))
    have hx1 : x ≤ 18446744073709551615 := by rw [hx]; exact Int.le_trans (Int.ediv_le_self _ h0) h1
    have hxn : x.toNat = n.toNat / 256 ^ j := by rw [hx]; exact toNat_div_pow n h0 256 j
    have hx2 : x / 256 = n / 256 ^ (j + 1) := by rw [hx, Int.ediv_ediv_of_nonneg (Int.pow_nonneg (by omega)), Int.pow_succ]
    rw [← hx]
    by_cases hlt : j < k
    · have hcv := conv_one (wr.alloc (.cells #[.int .u8 (x % 256)] 5)) wr.heap.size (x % 256) (by omega) (by omega) (by simp)
      have hl : (beL j n.toNat).length ≤ 8 := by rw [beL_length]; omega
      have hfin : UInt8.ofNat (x % 256).toNat :: beL j n.toNat = beL (j + 1) n.toNat := by
        rw [show beL (j + 1) n.toNat = UInt8.ofNat (n.toNat / 256 ^ j) :: beL j n.toNat from rfl, ← beL_mod, ← hxn]; congr 2; omega
      have hsum := fun W => run_string_add_sum (P := Try.prog) W ⟨#[UInt8.ofNat (x % 256).toNat]⟩ ⟨(beL j n.toNat).toArray⟩ (by simp [ByteArray.size]; omega)
      have Hx2 := Lib.hid hx2
      have Hfin := Lib.hid hfin
      clear hx2 hxn hx hfin
      go_wp2
      go_roundw
      case rel => exact ⟨j + 1, by omega, by go_num, by rw [Hx2.out], app_head Hfin.out, hbel.alloc hbel.size _⟩
      case measure => simp [intOf]; omega
    · obtain rfl : j = k := by omega
      have hpos : (0 : Nat) < 256 ^ j := Nat.pow_pos (by omega)
      by_cases hz : 0 < x
      · have Hb := Lib.hid (show rpB n.toNat j = false from decide_eq_false (fun h => by rw [Nat.div_eq_of_lt h] at hxn; omega))
        have Hs := Lib.hid (show rpS n.toNat j = [] from if_neg (fun h => by rw [Nat.div_eq_of_lt h] at hxn; omega))
        clear hx2 hxn hx hpos
        go_wp2
        go_ret2
        exact ⟨ret_sb Hs.out.symm Hb.out.symm, hbel⟩
      · have hz' : x ≤ 0 := by omega
        have hl : n.toNat < 256 ^ j := by
          by_cases g : n.toNat < 256 ^ j
          · exact g
          · have := Nat.div_pos (Nat.le_of_not_lt g) hpos; omega
        have Hb := Lib.hid (show rpB n.toNat j = true from decide_eq_true hl)
        have Hs := Lib.hid (show rpS n.toNat j = beL j n.toNat from if_pos hl)
        clear hx2 hxn hx hpos hl
        go_wp2
        go_ret2
        exact ⟨ret_sb Hs.out.symm Hb.out.symm, hbel⟩
end Go.Proofs.Ytleddhmfamkbgaa
