/- Layer 1: the contract of Put. -/
import Derived.Test.YtleddhmfamkbgaaNumSmall
import Derived.Test.YtleddhmfamkbgaaShelf
namespace Go.Proofs.Ytleddhmfamkbgaa
open Go.RowKit
theorem info_u8 : (Try.prog.info? 5).map (fun i => (i.zero, i.size, i.bytes)) = some (some (.int .u8 0), 1, 1) := by kernel_rfl
theorem len64_any (n : Int) (w : World) (h0 : 0 ≤ n) (h1 : n ≤ 18446744073709551615) :
    Calls Try.prog 23 #[.int .u64 n] w fun e w' => e = .returned (.int .i64 (Lib.bitLen n.toNat)) ∧ w = w' :=
  (Try.bits_Len64 n w h0 h1).mono fun _ _ ⟨a, b⟩ => ⟨a, b.symm⟩
/-- A row of octets that the call owns, as a text. -/
theorem conv_owned {wr : World} {base g cap : Nat} {l : List UInt8} (h : wr.ownsRow base 5 1 (.slice (some ⟨g, 0, none⟩) l.length cap) l.length (l.map byteV)) :
    (convert 47 9 (.slice (some ⟨g, 0, none⟩) l.length cap)).run Try.prog wr = .ok (.string ⟨l.toArray⟩) wr := by
  refine run_convert_bytes_back wr 47 9 5 ⟨g, 0, none⟩ cap l Try.underlying47 Try.underlying5 Try.underlying9 fun j hj => ?_
  have := h.cellAt j (by omega)
  have ea : (⟨g, 0, none⟩ : Addr).add j = ⟨g, j, none⟩ := by cases j <;> simp [Addr.add]
  rw [ea, this]; simp [byteV, hj]
set_option maxHeartbeats 400000 in
theorem put_bad (n wide : Int) (w : World) (h0 : 0 ≤ n) (h1 : n ≤ 18446744073709551615) (hw : wide < 1 ∨ 8 < wide ∨ 8 * wide < Lib.bitLen n.toNat) :
    Calls Try.prog 10 #[.int .u64 n, .int .i64 wide] w fun e w' => e = .returned (.tuple #[.string ⟨#[]⟩, .int .i64 1]) ∧ w = w' := by
  by_cases hw1 : wide < 1
  · clear hw
    go_enter Try.func10, Try.ntmps10
    go_wp2
    go_ret2
    exact ⟨rfl, rfl⟩
  · by_cases hw8 : 8 < wide
    · clear hw
      go_enter Try.func10, Try.ntmps10
      go_wp2
      go_ret2
      exact ⟨rfl, rfl⟩
    · have hx : 1 ≤ wide := by omega
      have hy : wide ≤ 8 := by omega
      have hb : 8 * wide < (Lib.bitLen n.toNat : Int) := by omega
      have hz : (Lib.bitLen n.toNat : Int) ≤ 64 := by have := Lib.bitLen_le n.toNat 64 (by omega) (by omega); omega
      clear hw hw1 hw8
      go_enter Try.func10, Try.ntmps10
      go_wp2_with (go_at_call 23; refine (len64_any _ _ h0 h1).mono ?_; rintro e w' ⟨rfl, rfl⟩)
      go_ret2
      exact ⟨rfl, rfl⟩
set_option maxHeartbeats 400000 in
theorem put_good (n : Int) (k : Nat) (w : World) (h0 : 0 ≤ n) (h1 : n ≤ 18446744073709551615) (hw : 1 ≤ k) (hw' : k ≤ 8) (hb : Lib.bitLen n.toNat ≤ 8 * k) :
    Calls Try.prog 10 #[.int .u64 n, .int .i64 k] w fun e w' => e = .returned (.tuple #[.string ⟨(beL k n.toNat).toArray⟩, .int .i64 0]) ∧ Below w.heap.size w w' := by
    obtain ⟨i0, hi, hz0, hz1, hz2⟩ := info_parts info_u8
    have Hz0 := Lib.hid hz0
    have Hz1 := Lib.hid hz1
    have Hz2 := Lib.hid hz2
    clear hz0 hz1 hz2
    have hx : (1 : Int) ≤ k := by omega
    have hy : (k : Int) ≤ 8 := by omega
    have hbi : (Lib.bitLen n.toNat : Int) ≤ 8 * k := by omega
    go_enter Try.func10, Try.ntmps10
    go_wp2_with (first | (go_at_call 23; refine (len64_any _ _ h0 h1).mono ?_; rintro e w' ⟨rfl, rfl⟩) | (at_make; refine wpList_make_full _ rfl _ _ 47 rfl w.heap.size 5 i0 (.int .u8 0) 1 Try.underlying47 hi Hz0.out Hz1.out .i64 .i64 _ _ k rfl rfl rfl rfl ?c1 ?c2 ?c3 ?_))
    case c1 => rw [Hz2.out]; omega
    case c2 => unfold maxLen; omega
    case c3 => exact Nat.le_refl _
    · intro w1 hown hgr
      have hown0 : w1.ownsRow w.heap.size 5 1 (.slice (some ⟨w.heap.size, 0, none⟩) k k) k (putC k 0 n.toNat) := by
        have e : putC k 0 n.toNat = (madeCells #[Value.int IntKind.u8 0] k).toList := by rw [toList_madeCells_one]; simp [putC, beL]
        rw [e]; exact hown
      have hbel : Below w.heap.size w w1 := (Below.refl _ _).grown hgr (Nat.le_refl _) (fun _ h => by cases h)
      clear hown hgr
      go_wp2
      go_loopw [24] (fun i wr => ∃ j : Nat, j ≤ k ∧ i = .int .i64 j ∧ wr.ownsRow w.heap.size 5 1 (.slice (some ⟨w.heap.size, 0, none⟩) k k) k (putC k j n.toNat) ∧ Below w.heap.size w wr)
        (fun i _ => k - (intOf i).toNat)
      case atStart => exact ⟨0, Nat.zero_le _, rfl, hown0, hbel⟩
      case round =>
        clear hown0 hbel
        obtain ⟨j, hj, rfl, hown, hbel⟩ := hrel
        have hfr : wr.frozen? ⟨w.heap.size, k - 1 - j, none⟩ = false := hown.frozenAt _
        by_cases hlt : j < k
        · have hcl : ∃ v, wr.cell? ⟨w.heap.size, k - 1 - j, none⟩ = some v := by
            have := hown.cellAt (k - 1 - j) (by omega)
            rw [List.getElem?_eq_getElem (by rw [putC_length _ _ _ (by omega)]; omega)] at this
            exact ⟨_, this⟩
          obtain ⟨vc, hc⟩ := hcl
          have hst := hown.stored (k - 1 - j) (byteV (UInt8.ofNat (n.toNat / 256 ^ j)))
          rw [putC_step k j n.toNat hlt] at hst
          have hval : Value.int IntKind.u8 (n / 2 ^ (8 * j) % 256) = byteV (UInt8.ofNat (n.toNat / 256 ^ j)) := byteV_shift n j h0
          have Hst := Lib.hid hst.1
          have Hval := Lib.hid hval
          clear hst hval hown
          go_wp2
          go_roundw
          case rel => exact ⟨j + 1, by omega, by go_num, by rw [Hval.out]; exact Hst.out, hbel.setCell (Nat.le_refl _) _⟩
          case measure => simp [intOf]; omega
        · obtain rfl : j = k := by omega
          have hcv := conv_owned (wr := wr) (l := beL j n.toNat) (by simpa [putC, beL_length] using hown)
          rw [beL_length] at hcv
          clear hown
          go_wp2
          go_ret2
          exact ⟨rfl, hbel⟩
end Go.Proofs.Ytleddhmfamkbgaa
