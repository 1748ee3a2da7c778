/- Layer 3: contracts of Lay, Take, and the document's Take. -/
import Derived.Test.YtkakldlfgnijdaaDoorValB
namespace Go.Proofs.YtkakldlfgnijdaaDoor
open Go.RowKit
theorem box_below {w w1 : World} {o : Obj} (hb1 : Below (w.alloc o).heap.size (w.alloc o) w1) : Below w.heap.size w w1 := ((Below.refl _ _).alloc (Nat.le_refl _) o).trans (hb1.mono (by simp))
theorem box_lt {w w1 : World} {o : Obj} (hb1 : Below (w.alloc o).heap.size (w.alloc o) w1) : w.heap.size < w1.heap.size := by have := hb1.size; simp at this; omega
theorem box_cell {w w1 : World} {c : Array Value} {t : TypeId} {i : Nat} (hb1 : Below (w.alloc (.cells c t)).heap.size (w.alloc (.cells c t)) w1) : w1.cell? ⟨w.heap.size, i, none⟩ = c[i]? := by
  have := hb1.cell (p := ⟨w.heap.size, i, none⟩) (by simp)
  rw [this]; simp
theorem lift_cell {w1 w2 : World} {b i : Nat} {v : Value} (h : w1.cell? ⟨b, i, none⟩ = some v) (hb : Below w1.heap.size w1 w2) (hlt : b < w1.heap.size) : w2.cell? ⟨b, i, none⟩ = some v := (hb.cell (p := ⟨b, i, none⟩) hlt).trans h
theorem below_undrew {w w' : World} (hb : Below w.drew.heap.size w.drew w') : Below w.heap.size w w' := ((Below.refl _ _).drew).trans (hb.mono (by simp))
set_option maxHeartbeats 400000 in
theorem lay_bad (b : Bool) (n : Int) (s : ByteArray) (w : World) (hm : mayB b n s = false) :
    Calls Tryd.prog 11 #[.agg #[.bool b, .int .i64 n, .string s]] w fun e w' => e = .returned (.tuple #[.string ⟨#[]⟩, .int .i64 1]) ∧ Below w.heap.size w w' := by
  have Hm := Lib.hid hm
  clear hm
  go_enter Tryd.func11, Tryd.ntmps11
  go_wp2_with fail
  refine (may_any b n s _).mono ?_
  rintro e w1 ⟨rfl, hb1⟩
  rw [Hm.out]
  go_wp2
  go_ret2
  exact ⟨rfl, box_below hb1⟩
set_option maxHeartbeats 400000 in
theorem lay_num (n : Int) (s : ByteArray) (w : World) (h0 : -9223372036854775808 ≤ n) (h1 : n ≤ 9223372036854775807) (hs : s.toList.isEmpty = true) :
    Calls Tryd.prog 11 #[.agg #[.bool true, .int .i64 n, .string s]] w fun e w' => e = .returned (.tuple #[.string (⟨#[1]⟩ ++ ⟨(pkL (foldZ n).toNat).toArray⟩), .int .i64 0]) ∧ Below w.heap.size w w' := by
  have Hm := Lib.hid (show mayB true n s = true from hs)
  have hf := foldZ_bd n h0 h1
  have h9 := pkW_le9 (foldZ n).toNat (by omega)
  obtain ⟨p, hpe, hp, cp⟩ := pack_as (foldZ n) hf.1 hf.2
  rw [← hpe]
  have hps : p.size ≤ 10 := by omega
  have Cp := Lib.hid cp
  clear hs hp hpe cp h9
  go_enter Tryd.func11, Tryd.ntmps11
  go_wp2_with fail
  refine (may_any true n s _).mono ?_
  rintro e w1 ⟨rfl, hb1⟩
  rw [Hm.out]
  have hc0 := box_cell (i := 0) hb1
  have hc1 := box_cell (i := 1) hb1
  simp at hc0 hc1
  go_wp2_with fail
  refine (fold_any n _ h0 h1).mono ?_
  rintro e wx ⟨rfl, rfl⟩
  go_wp2_with fail
  refine (Cp.out _).mono ?_
  rintro e w2 ⟨rfl, hb2⟩
  go_wp2
  go_ret2
  exact ⟨rfl, chain (box_below hb1) (Nat.le_refl _) hb2⟩
set_option maxHeartbeats 400000 in
theorem lay_text (s : ByteArray) (w : World) (hs : s.size ≤ 60) :
    Calls Tryd.prog 11 #[.agg #[.bool false, .int .i64 0, .string s]] w fun e w' => e = .returned (.tuple #[.string (⟨#[2]⟩ ++ ⟨(pkL s.size).toArray⟩ ++ s), .int .i64 0]) ∧ Below w.heap.size w w' := by
  have Hm := Lib.hid (show mayB false 0 s = true by simp [mayB]; omega)
  have h9 := pkW_le9 s.size (by omega)
  obtain ⟨p, hpe, hp, cp⟩ := pack_as (s.size : Int) (by omega) (by omega)
  rw [Int.toNat_natCast] at hpe hp
  rw [← hpe]
  have hps : p.size ≤ 10 := by omega
  have e1 : IntKind.u64.wrap (s.size : Int) = s.size := IntWalk.u64_in _ (by omega)
  have hsum1 := fun W => run_string_add_sum (P := Tryd.prog) W ⟨#[2]⟩ p (by have : (⟨#[2]⟩ : ByteArray).size = 1 := rfl; omega)
  have hsum2 := fun W => run_string_add_sum (P := Tryd.prog) W (⟨#[2]⟩ ++ p) s (by rw [ByteArray.size_append]; have : (⟨#[2]⟩ : ByteArray).size = 1 := rfl; omega)
  have Cp := Lib.hid cp
  clear hp hpe cp h9
  go_enter Tryd.func11, Tryd.ntmps11
  go_wp2_with fail
  refine (may_any false 0 s _).mono ?_
  rintro e w1 ⟨rfl, hb1⟩
  rw [Hm.out]
  have hc0 := box_cell (i := 0) hb1
  have hc2 := box_cell (i := 2) hb1
  simp at hc0 hc2
  have hz := box_lt hb1
  go_wp2_with fail
  go_region_with (go_at_call 24; refine (Cp.out _).mono ?_; rintro e w2 ⟨rfl, hb2⟩; have hc2' := lift_cell hc2 (below_undrew hb2) hz)
  all_goals go_wp2
  all_goals go_ret2
  all_goals exact ⟨rfl, chain (box_below hb1) (Nat.le_refl _) (below_undrew hb2)⟩
end Go.Proofs.YtkakldlfgnijdaaDoor
