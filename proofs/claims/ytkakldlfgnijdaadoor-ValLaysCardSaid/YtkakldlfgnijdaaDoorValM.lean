/- Layer 3: the contract of Read. -/
import Derived.Test.YtkakldlfgnijdaaDoorValK
namespace Go.Proofs.YtkakldlfgnijdaaDoor
open Go.RowKit
/-- readDigits, of octets. -/
def rdD (m : Nat) (l : List UInt8) : Nat × Nat := if Lib.hasPrefix l [48] then (0, 1) else rdN m l 0 0
/-- Read, of octets: the value's parts, and how many octets. -/
def readB : List UInt8 → Option ((Bool × Int × List UInt8) × Nat)
  | [] => none
  | b :: t =>
    if b.toNat = 34 then (rdT t [] 1).map fun r => ((false, 0, r.1), r.2)
    else if b.toNat = 45 then (if (rdD 9223372036854775808 t).1 = 0 then none else some ((true, -((rdD 9223372036854775808 t).1 : Int), []), 1 + (rdD 9223372036854775808 t).2))
    else if (rdD 9223372036854775807 (b :: t)).2 = 0 then none else some ((true, ((rdD 9223372036854775807 (b :: t)).1 : Int), []), (rdD 9223372036854775807 (b :: t)).2)
/-- What Read answers. -/
def readV : Option ((Bool × Int × List UInt8) × Nat) → Value
  | none => .tuple #[.agg #[.bool false, .int .i64 0, .string ⟨#[]⟩], .int .i64 0, .int .i64 2]
  | some ((b, n, x), k) => .tuple #[.agg #[.bool b, .int .i64 n, .string ⟨x.toArray⟩], .int .i64 k, .int .i64 0]
theorem rdN_le (m : Nat) (hm : 100 ≤ m) : ∀ (l : List UInt8) (n k : Nat), n ≤ m → (rdN m l n k).1 ≤ m ∧ k ≤ (rdN m l n k).2 ∧ (rdN m l n k).2 ≤ k + l.length
  | [], n, k, h => by simp [rdN]; exact h
  | b :: t, n, k, h => by
    rw [rdN]
    split
    · rename_i hc
      have := rdN_le m hm t (n * 10 + (b.toNat - 48)) (k + 1) (by omega)
      simp only [List.length_cons]; omega
    · simp; omega
theorem rdD_le (m : Nat) (hm : 100 ≤ m) (l : List UInt8) : (rdD m l).1 ≤ m ∧ (rdD m l).2 ≤ l.length := by
  unfold rdD
  split
  · rename_i h
    cases l with
    | nil => simp [Lib.hasPrefix] at h
    | cons b t => simp
  · have := rdN_le m hm l 0 0 (Nat.zero_le _); omega
theorem digits_all (s : ByteArray) (m : Nat) (hs : s.size ≤ 1000) (hm : 100 ≤ m) (hm' : m ≤ 9223372036854775808) (w : World) :
    Calls Tryd.prog 36 #[.string s, .int .u64 m] w fun e w' => e = .returned (.tuple #[.int .u64 (rdD m s.data.toList).1, .int .i64 (rdD m s.data.toList).2]) ∧ Below w.heap.size w w' := by
  cases hz : Lib.hasPrefix s.data.toList (⟨#[48]⟩ : ByteArray).data.toList with
  | true =>
    have e : rdD m s.data.toList = (0, 1) := by unfold rdD; rw [if_pos hz]
    rw [e]; exact digits_zero s m w hz
  | false =>
    have e : rdD m s.data.toList = rdN m s.data.toList 0 0 := by unfold rdD; rw [if_neg (by rw [show [48] = (⟨#[48]⟩ : ByteArray).data.toList from rfl, hz]; decide)]
    rw [e]; exact digits_any s m w hz hs hm hm'
theorem cut_yes (s p : ByteArray) (hb : Lib.hasPrefix s.data.toList p.data.toList = true) (w : World) :
    Calls Tryd.prog 35 #[.string s, .string p] w fun e w' => e = .returned (.tuple #[.string ⟨(Lib.trimPrefix s.data.toList p.data.toList).toArray⟩, .bool true]) ∧ w = w' :=
  (Tryd.strings_CutPrefix s p w).mono fun _ _ ⟨a, c⟩ => ⟨by rw [a, hb], c.symm⟩
set_option maxRecDepth 100000 in
set_option maxHeartbeats 400000 in
/-- Read of a number without a sign, or of none. -/
theorem read_pos (s : ByteArray) (w : World) (hs : s.size ≤ 1000) (h1 : Lib.hasPrefix s.data.toList (⟨#[34]⟩ : ByteArray).data.toList = false) (h2 : Lib.hasPrefix s.data.toList (⟨#[45]⟩ : ByteArray).data.toList = false) (N K : Nat) (hr : rdD 9223372036854775807 s.data.toList = (N, K)) :
    Calls Tryd.prog 19 #[.string s] w fun e w' => e = .returned (readV (if K = 0 then none else some ((true, (N : Int), []), K))) ∧ Below w.heap.size w w' := by
  have H1 := Lib.hid (pre_of s ⟨#[34]⟩ false h1)
  have H2 := Lib.hid (cut_no s ⟨#[45]⟩ h2)
  have H3 := Lib.hid (fun w => digits_all s 9223372036854775807 hs (by omega) (by omega) w)
  have hle := rdD_le 9223372036854775807 (by omega) s.data.toList
  rw [hr] at H3 hle
  obtain ⟨hN, hK⟩ := hle
  simp at hN hK
  clear h1 h2 hr
  by_cases hk : K = 0
  · have hk' : ((K : Int) == 0) = true := by simp; omega
    rw [if_pos hk]
    clear hk
    go_enter Tryd.func19, Tryd.ntmps19
    go_wp2_with fail
    refine (H1.out _).mono ?_
    rintro e wx ⟨rfl, rfl⟩
    go_wp2_with fail
    refine (H2.out _).mono ?_
    rintro e wx ⟨rfl, rfl⟩
    go_wp2_with fail
    refine (H3.out _).mono ?_
    rintro e w2 ⟨rfl, hb2⟩
    have hlt := box_lt hb2
    have hb0 := box_below hb2
    have hc0 := box_cell (i := 0) hb2
    have hc1 := box_cell (i := 1) hb2
    have hc2 := box_cell (i := 2) hb2
    have hf0 := hb2.frozen (p := ⟨w.heap.size, 0, none⟩) (by simp)
    have hf1 := hb2.frozen (p := ⟨w.heap.size, 1, none⟩) (by simp)
    have hf2 := hb2.frozen (p := ⟨w.heap.size, 2, none⟩) (by simp)
    simp at hc0 hc1 hc2 hf0 hf1 hf2
    go_wp2
    exact bodyPost_ret (v := .tuple #[.agg #[.bool false, .int .i64 0, .string ⟨#[]⟩], .int .i64 0, .int .i64 2]) (by simp [results, Tryd.results19, go_sem, hc0, hc1, hc2]) rfl ⟨rfl, ((hb0.setCell (Nat.le_refl _) _).setCell (Nat.le_refl _) _).setCell (Nat.le_refl _) _⟩
  · have hk' : ((K : Int) == 0) = false := by simp; omega
    rw [if_neg hk]
    have hk1 : K ≤ 1000 := by omega
    clear hk
    go_enter Tryd.func19, Tryd.ntmps19
    go_wp2_with fail
    refine (H1.out _).mono ?_
    rintro e wx ⟨rfl, rfl⟩
    go_wp2_with fail
    refine (H2.out _).mono ?_
    rintro e wx ⟨rfl, rfl⟩
    go_wp2_with fail
    refine (H3.out _).mono ?_
    rintro e w2 ⟨rfl, hb2⟩
    have hlt := box_lt hb2
    have hb0 := box_below hb2
    have hc0 := box_cell (i := 0) hb2
    have hc1 := box_cell (i := 1) hb2
    have hc2 := box_cell (i := 2) hb2
    have hf0 := hb2.frozen (p := ⟨w.heap.size, 0, none⟩) (by simp)
    have hf1 := hb2.frozen (p := ⟨w.heap.size, 1, none⟩) (by simp)
    have hf2 := hb2.frozen (p := ⟨w.heap.size, 2, none⟩) (by simp)
    simp at hc0 hc1 hc2 hf0 hf1 hf2
    go_wp2
    exact bodyPost_ret (v := .tuple #[.agg #[.bool true, .int .i64 N, .string ⟨#[]⟩], .int .i64 K, .int .i64 0]) (by simp [results, Tryd.results19, go_sem, hc0, hc1, hc2]) rfl ⟨rfl, ((hb0.setCell (Nat.le_refl _) _).setCell (Nat.le_refl _) _).setCell (Nat.le_refl _) _⟩
end Go.Proofs.YtkakldlfgnijdaaDoor
