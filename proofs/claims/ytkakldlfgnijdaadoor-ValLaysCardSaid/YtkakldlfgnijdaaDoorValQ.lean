/- Layer 3: the document's Digits, Write. -/
import Derived.Test.YtkakldlfgnijdaaDoorValP
import Derived.Test.YtkakldlfgnijdaaDoorValO
namespace Go.Proofs.YtkakldlfgnijdaaDoor
open Go.RowKit
theorem decDigits_len : ∀ (k u : Nat), u < 10 ^ (k + 1) → (Lib.decDigits u).length ≤ k + 1
  | 0, u, h => by rw [Lib.decDigits, dif_pos (by omega)]; simp
  | k + 1, u, h => by
    rw [Lib.decDigits]
    split
    · simp
    · have := decDigits_len k (u / 10) (by rw [Nat.div_lt_iff_lt_mul (by omega)]; rw [Nat.pow_succ] at h; omega)
      simp; omega
/-- What is left of the digits of a number, where X is left to be told, and S is told. -/
def dgL (X : Nat) (S : ByteArray) : List UInt8 := (if X = 0 ∧ S.size ≠ 0 then [] else Lib.decDigits X) ++ S.data.toList
theorem dgL_step (X : Nat) (S : ByteArray) (h : ¬ (X = 0 ∧ S.size ≠ 0)) : dgL (X / 10) (⟨#[UInt8.ofNat (48 + X % 10)]⟩ ++ S) = dgL X S := by
  have hsz : ((⟨#[UInt8.ofNat (48 + X % 10)]⟩ : ByteArray) ++ S).size ≠ 0 := by rw [ByteArray.size_append]; have : (⟨#[UInt8.ofNat (48 + X % 10)]⟩ : ByteArray).size = 1 := rfl; omega
  have hd : ((⟨#[UInt8.ofNat (48 + X % 10)]⟩ : ByteArray) ++ S).data.toList = UInt8.ofNat (48 + X % 10) :: S.data.toList := by rw [ByteArray.data_append]; simp
  unfold dgL
  rw [if_neg h, hd]
  by_cases h9 : X < 10
  · rw [if_pos ⟨by omega, hsz⟩, Lib.decDigits, dif_pos h9, Nat.mod_eq_of_lt h9]; rfl
  · rw [if_neg (by omega), Lib.decDigits.eq_def X, dif_neg h9, List.append_assoc]; rfl
set_option maxRecDepth 100000 in
set_option maxHeartbeats 400000 in
theorem rdigits_any (n : Int) (w : World) (h0 : -9223372036854775808 ≤ n) (h1 : n ≤ 9223372036854775807) :
    Calls Tryd.prog 39 #[.int .i64 n] w fun e w' => e = .returned (.string ⟨(Lib.itoa n).toArray⟩) ∧ Below w.heap.size w w' := by
  have hlen := decDigits_len 18 n.natAbs (by omega)
  obtain ⟨R, hR⟩ : ∃ R, R = Lib.decDigits n.natAbs := ⟨_, rfl⟩
  rw [← hR] at hlen
  have HR := Lib.hid hR
  clear hR
  go_enter Tryd.func39, Tryd.ntmps39
  go_wp2_with fail
  go_loopw [3, 4] (fun s m wr => ∃ (S : ByteArray) (M : Int), s = .string S ∧ m = .int .i64 M ∧ (0 ≤ n → 0 ≤ M) ∧ (n < 0 → M ≤ 0) ∧ M.natAbs ≤ 9223372036854775808 ∧ M ≤ 9223372036854775807 ∧ dgL M.natAbs S = R ∧ Below w.heap.size w wr) (fun s m _ => (intOf m).natAbs + (match s with | .string S => if S.size = 0 then 1 else 0 | _ => 0))
  case atStart => exact ⟨⟨#[]⟩, n, rfl, rfl, fun h => h, fun h => by omega, by omega, h1, by rw [HR.out]; unfold dgL; rw [if_neg (fun h => h.2 rfl)]; simp, Below.refl _ _⟩
  case round =>
    obtain ⟨S, M, rfl, rfl, hp, hn, hM, hM1, hr, hbel⟩ := hrel
    have hsz := hbel.size
    have hSl : S.size ≤ 19 := by
      have := congrArg List.length hr
      unfold dgL at this
      simp only [List.length_append, Array.length_toList] at this
      have e : S.data.size = S.size := rfl
      omega
    by_cases hend : M = 0 ∧ S.size ≠ 0
    · obtain ⟨rfl, hS⟩ := hend
      have hRS : S.data.toList = R := by unfold dgL at hr; rw [if_pos ⟨rfl, hS⟩] at hr; exact hr
      have hSd : S = ⟨R.toArray⟩ := Go.WideShapes.bytes_inj (by rw [hRS])
      have he := toList_ne S hS
      have he' := toList_isEmpty S hS
      by_cases hneg : n < 0
      · have hi : Lib.itoa n = 45 :: R := by unfold Lib.itoa; rw [if_pos hneg, ← HR.out]
        have Hi := Lib.hid hi
        have Hs := Lib.hid hSd
        have hsum := fun W => run_string_add_sum (P := Tryd.prog) W ⟨#[45]⟩ S (by have : (⟨#[45]⟩ : ByteArray).size = 1 := rfl; omega)
        clear hi hSd hRS hr
        go_wp2
        go_ret
        exact ⟨by rw [Hi.out, Hs.out]; rw [ByteArray.mk_append_mk]; simp, hbel⟩
      · have hi : Lib.itoa n = R := by unfold Lib.itoa; rw [if_neg hneg, HR.out, show n.toNat = n.natAbs by omega]
        have Hi := Lib.hid hi
        have Hs := Lib.hid hSd
        clear hi hSd hRS hr
        go_wp2
        go_ret
        exact ⟨by rw [Hi.out, ← Hs.out]; rfl, hbel⟩
    · have hst := dgL_step M.natAbs S (fun h => hend ⟨by omega, h.2⟩)
      have Hst := Lib.hid (hst.trans hr)
      clear hst hr
      by_cases hneg : M < 0
      · have hb : (M == 0) = false := by simp; omega
        clear hend
        obtain ⟨X, rfl⟩ : ∃ X : Nat, M = -(X : Int) := ⟨M.natAbs, by omega⟩
        have e0 : (-(X : Int)).tmod 10 = -((X % 10 : Nat) : Int) := Int.neg_tmod _ _
        have e2 : (-(X : Int)).tdiv 10 = -((X / 10 : Nat) : Int) := Int.neg_tdiv _ _
        rw [Int.natAbs_neg, Int.natAbs_natCast] at Hst
        obtain ⟨q, hq⟩ : ∃ q, q = UInt8.ofNat (48 + X % 10) := ⟨_, rfl⟩
        rw [← hq] at Hst
        have hcv : (convert 46 9 (.slice (some ⟨wr.heap.size, 0, none⟩) 1 1)).run Tryd.prog (wr.alloc (.cells #[.int .u8 (48 + (X : Int) % 10)] 5)) = .ok (.string ⟨#[q]⟩) (wr.alloc (.cells #[.int .u8 (48 + (X : Int) % 10)] 5)) := by
          have := conv_one (wr.alloc (.cells #[.int .u8 (48 + (X : Int) % 10)] 5)) wr.heap.size (48 + (X : Int) % 10) (by omega) (by omega) (by simp)
          rwa [show (48 + (X : Int) % 10).toNat = 48 + X % 10 by omega, ← hq] at this
        have hsum := fun W => run_string_add_sum (P := Tryd.prog) W ⟨#[q]⟩ S (by have : (⟨#[q]⟩ : ByteArray).size = 1 := rfl; omega)
        clear hq
        by_cases hD : X % 10 = 0
        all_goals
          try rw [show (48 + (X : Int) % 10) = 48 by omega] at hcv
          go_wp2
          go_roundw
          case rel => exact ⟨⟨#[q]⟩ ++ S, -((X / 10 : Nat) : Int), rfl, by go_num, fun h => by omega, fun h => by omega, by omega, by omega, by rw [Int.natAbs_neg, Int.natAbs_natCast]; exact Hst.out, hbel.alloc hsz _⟩
          case measure =>
            have e : ¬ ((⟨#[q]⟩ : ByteArray) = ByteArray.empty ∧ S = ByteArray.empty) := fun h => by
              have := congrArg ByteArray.size h.1
              have h1 : (⟨#[q]⟩ : ByteArray).size = 1 := rfl
              rw [h1] at this; cases this
            simp [intOf]
            rw [if_neg e]
            split <;> omega
      · obtain ⟨X, rfl⟩ : ∃ X : Nat, M = (X : Int) := ⟨M.natAbs, by omega⟩
        have e0 : ((X : Int)).tmod 10 = ((X % 10 : Nat) : Int) := rfl
        have e2 : ((X : Int)).tdiv 10 = ((X / 10 : Nat) : Int) := rfl
        rw [Int.natAbs_natCast] at Hst
        obtain ⟨q, hq⟩ : ∃ q, q = UInt8.ofNat (48 + X % 10) := ⟨_, rfl⟩
        rw [← hq] at Hst
        have hcv : (convert 46 9 (.slice (some ⟨wr.heap.size, 0, none⟩) 1 1)).run Tryd.prog (wr.alloc (.cells #[.int .u8 (48 + (X : Int) % 10)] 5)) = .ok (.string ⟨#[q]⟩) (wr.alloc (.cells #[.int .u8 (48 + (X : Int) % 10)] 5)) := by
          have := conv_one (wr.alloc (.cells #[.int .u8 (48 + (X : Int) % 10)] 5)) wr.heap.size (48 + (X : Int) % 10) (by omega) (by omega) (by simp)
          rwa [show (48 + (X : Int) % 10).toNat = 48 + X % 10 by omega, ← hq] at this
        have hsum := fun W => run_string_add_sum (P := Tryd.prog) W ⟨#[q]⟩ S (by have : (⟨#[q]⟩ : ByteArray).size = 1 := rfl; omega)
        clear hq
        by_cases hX : X = 0
        · have hS0 : S.size = 0 := by omega
          have hS : S = ⟨#[]⟩ := Go.WideShapes.bytes_inj (List.eq_nil_of_length_eq_zero (by rw [Array.length_toList]; exact hS0))
          have hS1 : S.toList = [] := by rw [ByteArray.toList_eq, hS]
          have hS2 : S.toList.isEmpty = true := by rw [hS1]; rfl
          have hb : ((X : Int) == 0) = true := by simp; omega
          have HSe := Lib.hid (show S = ByteArray.empty from hS)
          clear hend hS
          rw [show (48 + (X : Int) % 10) = 48 by omega] at hcv
          go_wp2
          go_roundw
          case rel => exact ⟨⟨#[q]⟩ ++ S, ((X / 10 : Nat) : Int), rfl, by go_num, fun h => by omega, fun h => by omega, by omega, by omega, by rw [Int.natAbs_natCast]; exact Hst.out, hbel.alloc hsz _⟩
          case measure =>
            have e : ¬ ((⟨#[q]⟩ : ByteArray) = ByteArray.empty ∧ S = ByteArray.empty) := fun h => by
              have := congrArg ByteArray.size h.1
              have h1 : (⟨#[q]⟩ : ByteArray).size = 1 := rfl
              rw [h1] at this; cases this
            simp [intOf]
            rw [if_neg e]
            rw [if_pos HSe.out]; omega
        · have hb : ((X : Int) == 0) = false := by simp; omega
          clear hend
          go_wp2
          go_roundw
          case rel => exact ⟨⟨#[q]⟩ ++ S, ((X / 10 : Nat) : Int), rfl, by go_num, fun h => by omega, fun h => by omega, by omega, by omega, by rw [Int.natAbs_natCast]; exact Hst.out, hbel.alloc hsz _⟩
          case measure =>
            have e : ¬ ((⟨#[q]⟩ : ByteArray) = ByteArray.empty ∧ S = ByteArray.empty) := fun h => by
              have := congrArg ByteArray.size h.1
              have h1 : (⟨#[q]⟩ : ByteArray).size = 1 := rfl
              rw [h1] at this; cases this
            simp [intOf]
            rw [if_neg e]
            split <;> omega
end Go.Proofs.YtkakldlfgnijdaaDoor
