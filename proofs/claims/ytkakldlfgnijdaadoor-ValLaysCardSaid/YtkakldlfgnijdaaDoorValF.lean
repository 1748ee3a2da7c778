/- Layer 3: the chapter's examples hold. -/
import Derived.Test.YtkakldlfgnijdaaDoorValE
namespace Go.Proofs.YtkakldlfgnijdaaDoor
open Go.RowKit
theorem pre_of (s p : ByteArray) (b : Bool) (hb : Lib.hasPrefix s.data.toList p.data.toList = b) (w : World) :
    Calls Tryd.prog 33 #[.string s, .string p] w fun e w' => e = .returned (.bool b) ∧ w = w' :=
  (Tryd.strings_HasPrefix s p w).mono fun _ _ ⟨a, c⟩ => ⟨by rw [a, hb], c.symm⟩
theorem cut_no (s p : ByteArray) (hb : Lib.hasPrefix s.data.toList p.data.toList = false) (w : World) :
    Calls Tryd.prog 35 #[.string s, .string p] w fun e w' => e = .returned (.tuple #[.string ⟨(Lib.trimPrefix s.data.toList p.data.toList).toArray⟩, .bool false]) ∧ w = w' :=
  (Tryd.strings_CutPrefix s p w).mono fun _ _ ⟨a, c⟩ => ⟨by rw [a, hb], c.symm⟩
set_option maxHeartbeats 400000 in
theorem digits_zero (s : ByteArray) (m : Int) (w : World) (hz : Lib.hasPrefix s.data.toList (⟨#[48]⟩ : ByteArray).data.toList = true) :
    Calls Tryd.prog 36 #[.string s, .int .u64 m] w fun e w' => e = .returned (.tuple #[.int .u64 0, .int .i64 1]) ∧ Below w.heap.size w w' := by
  have Hz := Lib.hid (pre_of s ⟨#[48]⟩ true hz)
  clear hz
  go_enter Tryd.func36, Tryd.ntmps36
  go_wp2_with fail
  refine (Hz.out _).mono ?_
  rintro e wx ⟨rfl, rfl⟩
  go_wp2
  go_ret2
  exact ⟨rfl, (Below.refl _ _).alloc (Nat.le_refl _) _⟩
set_option maxHeartbeats 400000 in
theorem read_zero (s : ByteArray) (w : World) (hz : Lib.hasPrefix s.data.toList (⟨#[48]⟩ : ByteArray).data.toList = true)
    (h1 : Lib.hasPrefix s.data.toList (⟨#[34]⟩ : ByteArray).data.toList = false) (h2 : Lib.hasPrefix s.data.toList (⟨#[45]⟩ : ByteArray).data.toList = false) :
    Calls Tryd.prog 19 #[.string s] w fun e w' => e = .returned (.tuple #[.agg #[.bool true, .int .i64 0, .string ⟨#[]⟩], .int .i64 1, .int .i64 0]) ∧ Below w.heap.size w w' := by
  have H1 := Lib.hid (pre_of s ⟨#[34]⟩ false h1)
  have H2 := Lib.hid (cut_no s ⟨#[45]⟩ h2)
  have H3 := Lib.hid (fun m w => digits_zero s m w hz)
  clear h1 h2 hz
  go_enter Tryd.func19, Tryd.ntmps19
  go_wp2_with fail
  refine (H1.out _).mono ?_
  rintro e wx ⟨rfl, rfl⟩
  go_wp2_with fail
  refine (H2.out _).mono ?_
  rintro e wx ⟨rfl, rfl⟩
  go_wp2_with fail
  refine (H3.out _ _).mono ?_
  rintro e w2 ⟨rfl, hb2⟩
  have hlt := box_lt hb2
  have hb0 := box_below hb2
  have hc0 := box_cell (i := 0) hb2
  have hc1 := box_cell (i := 1) hb2
  have hc2 := box_cell (i := 2) hb2
  have hf0 := hb2.frozen (p := ⟨w.heap.size, 0, none⟩) (by simp)
  have hf1 := hb2.frozen (p := ⟨w.heap.size, 1, none⟩) (by simp)
  have hf2 := hb2.frozen (p := ⟨w.heap.size, 2, none⟩) (by simp)
  simp at hc0 hc1 hc2 hf0 hf1 hf2
  go_wp2
  exact bodyPost_ret (v := .tuple #[.agg #[.bool true, .int .i64 0, .string ⟨#[]⟩], .int .i64 1, .int .i64 0]) (by simp [results, Tryd.results19, go_sem, hc0, hc1, hc2]) rfl ⟨rfl, ((hb0.setCell (Nat.le_refl _) _).setCell (Nat.le_refl _) _).setCell (Nat.le_refl _) _⟩
theorem write_ex1 (w : World) (hp : Pow w) : Calls Tryd.prog 12 #[.agg #[.bool true, .int .i64 (-5), .string ⟨#[]⟩]] w fun e w' => e = .returned (.tuple #[.string ⟨#[45, 53]⟩, .int .i64 0]) ∧ Below w.heap.size w w' := by
  have h := write_num (-5) ⟨#[]⟩ w (by omega) (by omega) (by rw [ByteArray.toList_eq]; rfl) hp
  have e : (Lib.itoa (-5)).toArray = #[45, 53] := by decide +kernel
  rw [e] at h; exact h
theorem write_ex2 (w : World) : Calls Tryd.prog 12 #[.agg #[.bool false, .int .i64 0, .string ⟨#[97, 34, 98]⟩]] w fun e w' => e = .returned (.tuple #[.string ⟨#[34, 97, 92, 34, 98, 34]⟩, .int .i64 0]) ∧ Below w.heap.size w w' := by
  have h := write_text ⟨#[97, 34, 98]⟩ w (by decide)
  have e : (34 :: escL (⟨#[97, 34, 98]⟩ : ByteArray).data.toList ++ [34]).toArray = #[34, 97, 92, 34, 98, 34] := by decide +kernel
  rw [e] at h; exact h
theorem lay_ex (w : World) : Calls Tryd.prog 11 #[.agg #[.bool true, .int .i64 1, .string ⟨#[]⟩]] w fun e w' => e = .returned (.tuple #[.string ⟨#[1, 2]⟩, .int .i64 0]) ∧ Below w.heap.size w w' := by
  have h := lay_num 1 ⟨#[]⟩ w (by omega) (by omega) (by rw [ByteArray.toList_eq]; rfl)
  have e : (pkL (foldZ 1).toNat).toArray = #[2] := by decide +kernel
  rw [e] at h; exact h
theorem read_ex (w : World) : Calls Tryd.prog 19 #[.string ⟨#[48, 53]⟩] w fun e w' => e = .returned (.tuple #[.agg #[.bool true, .int .i64 0, .string ⟨#[]⟩], .int .i64 1, .int .i64 0]) ∧ Below w.heap.size w w' :=
  read_zero ⟨#[48, 53]⟩ w (by decide +kernel) (by decide +kernel) (by decide +kernel)
set_option maxRecDepth 100000 in
set_option maxHeartbeats 1000000 in
theorem awake_any (w : World) (hp : Pow w) : Calls Tryd.prog 17 #[] w fun e w' => e = .returned (.bool true) ∧ Below w.heap.size w w' := by
  have Hp := Lib.hid hp
  clear hp
  go_enter Tryd.func17, Tryd.ntmps17
  go_wp2_with fail
  refine (write_ex1 _ Hp.out).mono ?_
  rintro e w1 ⟨rfl, hb1⟩
  go_wp2_with fail
  refine (write_ex2 _).mono ?_
  rintro e w2 ⟨rfl, hb2⟩
  go_wp2_with fail
  refine (lay_ex _).mono ?_
  rintro e w3 ⟨rfl, hb3⟩
  go_wp2_with fail
  refine (read_ex _).mono ?_
  rintro e w4 ⟨rfl, hb4⟩
  go_wp2
  go_ret
  exact ⟨rfl, (chain (chain (chain hb1 (Nat.le_refl _) hb2) (Nat.le_refl _) hb3) (Nat.le_refl _) hb4).alloc (by have := hb1.size; have := hb2.size; have := hb3.size; have := hb4.size; omega) _⟩
end Go.Proofs.YtkakldlfgnijdaaDoor
