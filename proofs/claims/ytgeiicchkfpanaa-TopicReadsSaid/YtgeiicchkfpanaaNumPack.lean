/- Layer 1: the contracts of Pack and of the document's Pack. -/
import Derived.Test.YtgeiicchkfpanaaNumBase
import Derived.Deep.RegionWith
import Derived.RegionTactic
namespace Go.Proofs.Ytgeiicchkfpanaa
open Go.RowKit
set_option maxRecDepth 100000
set_option maxHeartbeats 400000 in
theorem packedWide_any (n : Int) (w : World) (h0 : 0 ≤ n) (h1 : n ≤ 18446744073709551615) :
    Calls Try.prog 71 #[.int .u64 n] w fun e w' => e = .returned (.int .i64 (pkW n.toNat + 1)) ∧ w = w' := by
  have ho := u64_or1 n h0 (by omega)
  have hl := or_one_lt n.toNat (by omega)
  have hlb := Lib.bitLen_le (n.toNat ||| 1) 64 (by omega) hl
  have hpos : 1 ≤ Lib.bitLen (n.toNat ||| 1) := by
    have := bitLen_le_iff (n.toNat ||| 1) 0 hl
    rw [or_one] at this ⊢
    split at this <;> rename_i hh
    · rw [if_pos hh]; omega
    · rw [if_neg hh]; omega
  have hb : ((Lib.bitLen (n.toNat ||| 1) : Int) + 6) / 7 = (pkW n.toNat : Int) + 1 := by unfold pkW; omega
  have hge : (0 : Int) ≤ bits .or .u64 n 1 ∧ bits .or .u64 n 1 ≤ 18446744073709551615 := by rw [ho]; omega
  have hbi : (1 : Int) ≤ (Lib.bitLen (n.toNat ||| 1) : Int) ∧ (Lib.bitLen (n.toNat ||| 1) : Int) ≤ 64 := by omega
  have Ho := Lib.hid ho
  have Hb := Lib.hid hb
  clear ho hb hl hlb hpos
  go_enter Try.func71, Try.ntmps71
  go_wp2_with fail
  refine (len64_any _ _ hge.1 hge.2).mono ?_
  rintro e w' ⟨rfl, rfl⟩
  rw [Ho.out, Int.toNat_natCast]
  go_wp2
  go_ret
  exact ⟨ret_int' Hb.out, rfl⟩
set_option maxHeartbeats 400000 in
theorem pack_any (n : Int) (w : World) (h0 : 0 ≤ n) (h1 : n ≤ 18446744073709551615) :
    Calls Try.prog 48 #[.int .u64 n] w fun e w' => e = .returned (.string ⟨(pkL n.toNat).toArray⟩) ∧ Below w.heap.size w w' := by
  obtain ⟨i0, hi, hz0, hz1, hz2⟩ := info_parts info_u8
  have Hz0 := Lib.hid hz0
  have Hz1 := Lib.hid hz1
  have Hz2 := Lib.hid hz2
  clear hz0 hz1 hz2
  obtain ⟨m, hm⟩ : ∃ m, m = pkW n.toNat := ⟨_, rfl⟩
  have hm9 : m ≤ 9 := by rw [hm]; exact pkW_le9 _ (by omega)
  have Hm := Lib.hid hm
  clear hm
  go_enter Try.func48, Try.ntmps48
  go_wp2_with fail
  refine (packedWide_any _ _ h0 h1).mono ?_
  rintro e w' ⟨rfl, rfl⟩
  rw [← Hm.out]
  go_wp2_with (at_make; refine wpList_make_full _ rfl _ _ 58 rfl w.heap.size 5 i0 (.int .u8 0) 1 Try.underlying58 hi Hz0.out Hz1.out .i64 .i64 _ _ (m + 1) rfl rfl rfl rfl ?c1 ?c2 ?c3 ?_)
  case c1 => rw [Hz2.out]; omega
  case c2 => unfold maxLen; omega
  case c3 => exact Nat.le_refl _
  · intro w1 hown hgr
    have hown0 : w1.ownsRow w.heap.size 5 1 (.slice (some ⟨w.heap.size, 0, none⟩) (m + 1) (m + 1)) (m + 1) (pkC m 0 n.toNat) := by
      have e : pkC m 0 n.toNat = (madeCells #[Value.int IntKind.u8 0] (m + 1)).toList := by rw [toList_madeCells_one]; simp [pkC, pre7]
      rw [e]; exact hown
    have hbel : Below w.heap.size w w1 := (Below.refl _ _).grown hgr (Nat.le_refl _) (fun _ h => by cases h)
    clear hown hgr
    go_wp2
    go_loopw [0, 13] (fun q i wr => ∃ j : Nat, j ≤ m ∧ i = .int .i64 j ∧ q = .int .u64 (n / 128 ^ j) ∧ wr.ownsRow w.heap.size 5 1 (.slice (some ⟨w.heap.size, 0, none⟩) (m + 1) (m + 1)) (m + 1) (pkC m j n.toNat) ∧ Below w.heap.size w wr)
      (fun _ i _ => m - (intOf i).toNat)
    case atStart => exact ⟨0, Nat.zero_le _, rfl, by simp, hown0, hbel⟩
    case round =>
      clear hown0 hbel
      obtain ⟨j, hj, rfl, rfl, hown, hbel⟩ := hrel
      have hfr : wr.frozen? ⟨w.heap.size, j, none⟩ = false := hown.frozenAt _
      have hcl : ∃ v, wr.cell? ⟨w.heap.size, j, none⟩ = some v := by
        have := hown.cellAt j (by omega)
        rw [List.getElem?_eq_getElem (by rw [pkC_length _ _ _ (by omega)]; omega)] at this
        exact ⟨_, this⟩
      obtain ⟨vc, hc⟩ := hcl
      obtain ⟨q, hq⟩ : ∃ q, q = n / 128 ^ j := ⟨_, rfl⟩
      have hq0 : 0 ≤ q := by rw [hq]; exact Int.ediv_nonneg h0 (Int.pow_nonneg (by omega))
      have hq1 : q ≤ 18446744073709551615 := by rw [hq]; exact Int.le_trans (Int.ediv_le_self _ h0) h1
      have hqn : q.toNat = n.toNat / 128 ^ j := by rw [hq]; obtain ⟨t, rfl⟩ := Int.eq_ofNat_of_zero_le h0; norm_cast
      rw [← hq]
      by_cases hlt : j < m
      · have hst := hown.stored j (byteV (UInt8.ofNat (128 + n.toNat / 128 ^ j % 128)))
        rw [pkC_step m j n.toNat hlt] at hst
        have hq2 : q / 128 = n / 128 ^ (j + 1) := by rw [hq, Int.ediv_ediv_of_nonneg (Int.pow_nonneg (by omega)), Int.pow_succ]
        have Hst := Lib.hid hst.1
        have Hq2 := Lib.hid hq2
        have Hqn := Lib.hid hqn
        clear hst hq2 hqn hq hown
        have hval : Value.int IntKind.u8 (bits BinOp.or IntKind.u8 (bits BinOp.and IntKind.u64 q 127 % 256) 128) = byteV (UInt8.ofNat (128 + n.toNat / 128 ^ j % 128)) := by
          rw [u64_mask127 q hq0 (by omega), u8_or128 _ (by omega) (by omega), ← Hqn.out]; unfold byteV; congr 1; simp; omega
        have Hval := Lib.hid hval
        clear hval
        go_wp2
        go_roundw
        case rel => exact ⟨j + 1, by omega, by go_num, by rw [Hq2.out], by rw [Hval.out]; exact Hst.out, hbel.setCell (Nat.le_refl _) _⟩
        case measure => simp [intOf]; omega
      · obtain rfl : j = m := by omega
        have hlast : n.toNat / 128 ^ j < 128 := by
          have := pkW_lt n.toNat (by omega)
          rw [← Hm.out, Nat.pow_succ] at this
          exact Nat.div_lt_of_lt_mul this
        have hst := hown.stored j (byteV (UInt8.ofNat (n.toNat / 128 ^ j)))
        rw [pkC_last j n.toNat] at hst
        have hval : Value.int IntKind.u8 (q % 256) = byteV (UInt8.ofNat (n.toNat / 128 ^ j)) := by rw [← hqn]; unfold byteV; congr 1; simp; omega
        have hlen : (pre7 j n.toNat ++ [UInt8.ofNat (n.toNat / 128 ^ j)]).length = j + 1 := by simp [pre7_length]
        have hcv := conv_owned (wr := wr.setCell ⟨w.heap.size, j, none⟩ (.int .u8 (q % 256))) (base := w.heap.size) (g := w.heap.size) (cap := j + 1) (l := pre7 j n.toNat ++ [UInt8.ofNat (n.toNat / 128 ^ j)]) (by rw [hlen, hval]; exact hst.1)
        rw [hlen] at hcv
        have hfin : pre7 j n.toNat ++ [UInt8.ofNat (n.toNat / 128 ^ j)] = pkL n.toNat := by unfold pkL; rw [← Hm.out]
        have Hfin := Lib.hid hfin
        clear hst hqn hq hown hval hlen hlast hfin
        go_wp2
        go_ret
        exact ⟨ret_str Hfin.out, hbel.setCell (Nat.le_refl _) _⟩
/-- One octet in memory, as a text: of whatever world. -/
theorem conv_one : ∀ (W : World) (b : Nat) (c : Int), 0 ≤ c → c < 256 → W.cell? ⟨b, 0, none⟩ = some (.int .u8 c) →
    (convert 58 9 (.slice (some ⟨b, 0, none⟩) 1 1)).run Try.prog W = .ok (.string ⟨#[UInt8.ofNat c.toNat]⟩) W := by
  intro W b c h0 h1 hc
  refine run_convert_bytes_back W 58 9 5 ⟨b, 0, none⟩ 1 [UInt8.ofNat c.toNat] Try.underlying58 Try.underlying5 Try.underlying9 fun j hj => ?_
  obtain rfl : j = 0 := by simpa using hj
  have ea : (⟨b, 0, none⟩ : Addr).add 0 = ⟨b, 0, none⟩ := by simp [Addr.add]
  rw [ea, hc]; simp; omega
theorem bcell {W w1 : World} (hb : Below W.heap.size W w1) : (∀ b o, b < W.heap.size → w1.cell? ⟨b, o, none⟩ = W.cell? ⟨b, o, none⟩) ∧ (∀ b o, b < W.heap.size → w1.frozen? ⟨b, o, none⟩ = W.frozen? ⟨b, o, none⟩) :=
  ⟨fun b o h => hb.cell (p := ⟨b, o, none⟩) h, fun b o h => hb.frozen (p := ⟨b, o, none⟩) h⟩
theorem ret_app {b : UInt8} {l m : List UInt8} (h : b :: l = m) : Ending.returned (.string ((⟨#[b]⟩ : ByteArray) ++ ⟨l.toArray⟩)) = .returned (.string ⟨m.toArray⟩) := by
  rw [← h]; rw [ByteArray.mk_append_mk]; simp
theorem below_ad {w w' : World} {o : Obj} (hb : Below (w.alloc o).drew.heap.size (w.alloc o).drew w') : Below w.heap.size w w' :=
  (((Below.refl _ _).alloc (Nat.le_refl _) o).drew).trans (hb.mono (by simp))
theorem below_d {w w' : World} {o : Obj} (hb : Below w.drew.heap.size w.drew w') : Below w.heap.size w (w'.alloc o) :=
  (((Below.refl _ _).drew).trans (hb.mono (by simp))).alloc (by have := hb.size; simpa using this) o
theorem conv_later {W w1 : World} (hb : Below W.heap.size W w1) (b : Nat) (c : Int) (h0 : 0 ≤ c) (h1 : c < 256) (hlt : b < W.heap.size) (hc : W.cell? ⟨b, 0, none⟩ = some (.int .u8 c)) :
    (convert 58 9 (.slice (some ⟨b, 0, none⟩) 1 1)).run Try.prog w1 = .ok (.string ⟨#[UInt8.ofNat c.toNat]⟩) w1 :=
  conv_one w1 b c h0 h1 (((bcell hb).1 b 0 hlt).trans hc)
set_option maxHeartbeats 400000 in
theorem rpack_any : ∀ (k : Nat) (n : Int) (w : World) (_ : 0 ≤ n) (_ : n ≤ 18446744073709551615) (_ : pkW n.toNat ≤ k),
    Calls Try.prog 57 #[.int .u64 n] w fun e w' => e = .returned (.string ⟨(pkL n.toNat).toArray⟩) ∧ Below w.heap.size w w' := by
  intro k
  have small : ∀ (n : Int) (w : World), 0 ≤ n → n < 128 → Calls Try.prog 57 #[.int .u64 n] w fun e w' => e = .returned (.string ⟨(pkL n.toNat).toArray⟩) ∧ Below w.heap.size w w' := by
    intro n w h0 hs
    have hfin := pkL_small n.toNat (by omega)
    have Hfin := Lib.hid hfin
    have hcv := conv_one (w.alloc (.cells #[.int .u8 n] 5)) w.heap.size n h0 (by omega) (by simp)
    clear hfin
    go_enter Try.func57, Try.ntmps57
    go_wp2
    go_ret
    exact ⟨ret_str (by rw [Hfin.out]), (Below.refl _ _).alloc (Nat.le_refl _) _⟩
  induction k with
  | zero =>
    intro n w h0 h1 hk
    exact small n w h0 (by have := (pkW_le n.toNat 0 (by omega) (by omega)).1 hk; omega)
  | succ k ih =>
    intro n w h0 h1 hk
    by_cases hs : n < 128
    · exact small n w h0 hs
    · have hs' : 128 ≤ n := by omega
      have hfin := pkL_big n.toNat (by omega) (by omega)
      have hk' : pkW (n / 128).toNat ≤ k := by
        have := pkW_succ n.toNat (by omega) (by omega)
        rw [show (n / 128).toNat = n.toNat / 128 by omega]; omega
      have IH := Lib.hid (fun w => ih (n / 128) w (by omega) (by omega) hk')
      obtain ⟨c, hc⟩ : ∃ c, c = 128 + n % 128 := ⟨_, rfl⟩
      have hfin2 : UInt8.ofNat c.toNat :: pkL (n / 128).toNat = pkL n.toNat := by
        rw [hfin, show c.toNat = 128 + n.toNat % 128 by omega, show (n / 128).toNat = n.toNat / 128 by omega]
      have Hfin := Lib.hid hfin2
      have hc0 : 0 ≤ c := by omega
      have hc1 : c < 256 := by omega
      have e1 : IntKind.u8.wrap (IntKind.u64.wrap (128 + n.tmod 128)) = c := by
        rw [IntKind.wrap_u8, IntKind.wrap_u64, Int.tmod_eq_emod_of_nonneg h0]; omega
      have e2 : IntKind.u64.wrap (n.tdiv 128) = n / 128 := IntWalk.u64_quo n 128 ⟨h0, h1, by omega⟩
      have hcv1 := conv_one (w.alloc (.cells #[.int .u8 c] 5)).drew w.heap.size c hc0 hc1 (by simp)
      have hlen : (pkL (n / 128).toNat).length ≤ 10 := by
        have := pkW_le9 (n / 128).toNat (by omega)
        rw [pkL_length]; omega
      have hsum := fun W => run_string_add_sum (P := Try.prog) W ⟨#[UInt8.ofNat c.toNat]⟩ ⟨(pkL (n / 128).toNat).toArray⟩ (by simp [ByteArray.size]; omega)
      clear ih hs hfin hfin2 small hk hk' hc
      go_enter Try.func57, Try.ntmps57
      go_wp2_with fail
      go_region_with (first | (go_at_call 57; (with_reducible refine (IH.out (w.alloc (.cells #[.int .u8 c] 5)).drew).mono ?_); rintro e w' ⟨rfl, hb⟩; have hcv2 := conv_later hb w.heap.size c hc0 hc1 (by simp) (by simp)) | (go_at_call 57; (with_reducible refine (IH.out w.drew).mono ?_); rintro e w' ⟨rfl, hb⟩; have hcv3 := conv_one (w'.alloc (.cells #[.int .u8 c] 5)) w'.heap.size c hc0 hc1 (by simp)))
      all_goals go_wp2
      all_goals go_ret
      · exact ⟨ret_app Hfin.out, below_ad hb⟩
      · exact ⟨ret_app Hfin.out, below_ad hb⟩
      · exact ⟨ret_app Hfin.out, below_d hb⟩
end Go.Proofs.Ytgeiicchkfpanaa
