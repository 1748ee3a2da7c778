/- Layer 1: the chapter's examples hold. -/
import Derived.Test.YtleddhmfamkbgaaNumUnpack
namespace Go.Proofs.Ytleddhmfamkbgaa
open Go.RowKit
theorem put_ex (w : World) : Calls Try.prog 10 #[.int .u64 258, .int .i64 3] w fun e w' => e = .returned (.tuple #[.string ⟨#[0, 1, 2]⟩, .int .i64 0]) ∧ Below w.heap.size w w' := by
  have h := put_good 258 3 w (by omega) (by omega) (by omega) (by omega) (by decide +kernel)
  have e : (beL 3 (258 : Int).toNat).toArray = #[0, 1, 2] := by decide +kernel
  rw [e] at h; exact h
theorem unpack_ex (w : World) : Calls Try.prog 13 #[.string ⟨#[128, 0]⟩] w fun e w' => e = .returned (.tuple #[.int .u64 0, .int .i64 0, .int .i64 2]) ∧ w = w' := by
  have h := unpack_any ⟨#[128, 0]⟩ w (by decide)
  have e : unpS (⟨#[128, 0]⟩ : ByteArray).data.toList = (0, 0, 2) := by decide +kernel
  rw [e] at h; exact h
theorem pack_ex (w : World) : Calls Try.prog 12 #[.int .u64 300] w fun e w' => e = .returned (.string ⟨#[172, 2]⟩) ∧ Below w.heap.size w w' := by
  have h := pack_any 300 w (by omega) (by omega)
  have e : (pkL (300 : Int).toNat).toArray = #[172, 2] := by decide +kernel
  rw [e] at h; exact h
theorem fold_ex (w : World) : Calls Try.prog 19 #[.int .i64 (-3)] w fun e w' => e = .returned (.int .u64 5) ∧ w = w' := by
  have h := fold_any (-3) w (by omega) (by omega)
  have e : foldZ (-3) = 5 := by decide +kernel
  rw [e] at h; exact h
theorem chain {B : Nat} {a b c : World} (h : Below B a b) (hB : B ≤ a.heap.size) (k : Below b.heap.size b c) : Below B a c :=
  h.trans (k.mono (by have := h.size; omega))
set_option maxRecDepth 100000 in
set_option maxHeartbeats 1000000 in
theorem awake_any (w : World) : Calls Try.prog 16 #[] w fun e w' => e = .returned (.bool true) ∧ Below w.heap.size w w' := by
  go_enter Try.func16, Try.ntmps16
  go_wp2_with (first | (go_at_call 10; refine (put_ex _).mono ?_; rintro e w1 ⟨rfl, hb1⟩) | (go_at_call 13; refine (unpack_ex _).mono ?_; rintro e w' ⟨rfl, rfl⟩) | (go_at_call 12; refine (pack_ex _).mono ?_; rintro e w2 ⟨rfl, hb2⟩) | (go_at_call 19; refine (fold_ex _).mono ?_; rintro e w' ⟨rfl, rfl⟩))
  go_ret
  exact ⟨rfl, chain hb1 (Nat.le_refl _) hb2⟩
end Go.Proofs.Ytleddhmfamkbgaa
