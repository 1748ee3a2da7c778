/- Layer 1: the walk of the law NumShort. -/
import Derived.Test.YtleddhmfamkbgaaNumAwake
namespace Go.Proofs.Ytleddhmfamkbgaa
open Go.RowKit
/-- Pack, its octets under a name. -/
theorem pack_as (n : Int) (h0 : 0 ≤ n) (h1 : n ≤ 18446744073709551615) : ∃ p : ByteArray, p = ⟨(pkL n.toNat).toArray⟩ ∧ p.size = pkW n.toNat + 1 ∧
    ∀ w, Calls Try.prog 12 #[.int .u64 n] w fun e w' => e = .returned (.string p) ∧ Below w.heap.size w w' :=
  ⟨_, rfl, pkL_size _, fun w => pack_any n w h0 h1⟩
set_option maxRecDepth 100000 in
set_option maxHeartbeats 1000000 in
theorem numShort_walk (a b : Int) (w : World) (h0 : 0 ≤ a) (h1 : a ≤ 18446744073709551615) (h2 : 0 ≤ b) (h3 : b ≤ 18446744073709551615) :
    Calls Try.prog 9 #[.int .u64 a, .int .u64 b] w fun e w' => e = .returned (.bool true) ∧ Below w.heap.size w w' := by
  obtain ⟨p, hpe, hp, cp⟩ := pack_as a h0 h1
  obtain ⟨q, hqe, hq, cq⟩ := pack_as b h2 h3
  obtain ⟨m, hm⟩ : ∃ m, m = pkW a.toNat := ⟨_, rfl⟩
  obtain ⟨k, hk⟩ : ∃ k, k = pkW b.toNat := ⟨_, rfl⟩
  have hm9 : m ≤ 9 := by rw [hm]; exact pkW_le9 _ (by omega)
  have hk9 : k ≤ 9 := by rw [hk]; exact pkW_le9 _ (by omega)
  have hmk : a ≤ b → m ≤ k := fun h => by rw [hm, hk]; exact pkW_mono _ _ (by omega) (by omega)
  rw [← hm] at hp
  rw [← hk] at hq
  have Cp := Lib.hid cp
  have Cq := Lib.hid cq
  have Hm := Lib.hid hm
  have Hmk := Lib.hid hmk
  clear cp cq hm hk hmk hpe hqe
  go_enter Try.func9, Try.ntmps9
  go_wp2_with fail
  refine (Cp.out _).mono ?_
  rintro e w1 ⟨rfl, hb1⟩
  go_wp2_with fail
  refine (Cq.out _).mono ?_
  rintro e w2 ⟨rfl, hb2⟩
  go_wp2_with fail
  go_loop [7, 8] (fun n q => ∃ j : Nat, j ≤ m ∧ n = .int .i64 (j + 1) ∧ q = .int .u64 (a / 128 ^ j)) (fun n _ => m + 1 - (intOf n).toNat)
  case atStart => exact ⟨0, Nat.zero_le _, rfl, by simp⟩
  case round =>
    obtain ⟨j, hj, rfl, rfl⟩ := hrel
    obtain ⟨x, hx⟩ : ∃ x, x = a / 128 ^ j := ⟨_, rfl⟩
    have hx0 : 0 ≤ x := by rw [hx]; exact Int.ediv_nonneg h0 (Int.pow_nonneg (by omega))
    have hx1 : x ≤ 18446744073709551615 := by rw [hx]; exact Int.le_trans (Int.ediv_le_self _ h0) h1
    have hxn : x.toNat = a.toNat / 128 ^ j := by rw [hx]; exact toNat_div_pow a h0 128 j
    have hle := pkW_le a.toNat j (by omega) (by omega)
    rw [← Hm.out, Nat.pow_succ] at hle
    have hpos : 0 < 128 ^ j := Nat.pow_pos (by omega)
    have hdl := Nat.div_lt_iff_lt_mul (x := a.toNat) (y := 128) hpos
    rw [← hxn, Nat.mul_comm] at hdl
    have hx2 : x / 128 = a / 128 ^ (j + 1) := by rw [hx, Int.ediv_ediv_of_nonneg (Int.pow_nonneg (by omega)), Int.pow_succ]
    rw [← hx]
    have Hx2 := Lib.hid hx2
    clear hx2 hxn hpos
    by_cases hbig : 128 ≤ x
    · have hjm : j < m := by
        have : ¬ x.toNat < 128 := by omega
        have : ¬ m ≤ j := fun g => this (hdl.2 (hle.1 g))
        omega
      clear hle hdl hx
      go_wp2
      go_round
      case rel => exact ⟨j + 1, by omega, by go_num, by rw [Hx2.out]⟩
      case measure => simp [intOf]; omega
    · have hjm : j = m := by
        have : x.toNat < 128 := by omega
        have := hle.2 (hdl.1 this)
        omega
      subst hjm
      have hx3 : x < 128 := by omega
      clear hle hdl hx hbig
      by_cases hab : b < a
      · go_wp2_with (go_at_call 16; refine (awake_any _).mono ?_; rintro e w3 ⟨rfl, hb3⟩)
        go_ret
        exact ⟨rfl, (chain (chain hb1 (Nat.le_refl _) hb2) (by omega) hb3)⟩
      · have hjk := Hmk.out (by omega)
        have hab' : a ≤ b := by omega
        clear hab
        go_wp2_with (go_at_call 16; refine (awake_any _).mono ?_; rintro e w3 ⟨rfl, hb3⟩)
        go_ret
        exact ⟨rfl, (chain (chain hb1 (Nat.le_refl _) hb2) (by omega) hb3)⟩
end Go.Proofs.Ytleddhmfamkbgaa
