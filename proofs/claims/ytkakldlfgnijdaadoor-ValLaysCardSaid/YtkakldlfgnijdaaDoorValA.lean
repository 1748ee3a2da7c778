/- Layer 3: contracts of May, Few, Compare, isEscaped, Write. -/
import Derived.Test.YtkakldlfgnijdaaDoorNumRUnp
import Derived.Lib.SmallJoins
namespace Go.Proofs.YtkakldlfgnijdaaDoor
open Go.RowKit
theorem ret_agg {b b' : Bool} {n n' : Int} {s s' : ByteArray} (h : b = b') (h' : n = n') (h'' : s = s') : Ending.returned (.agg #[.bool b, .int .i64 n, .string s]) = .returned (.agg #[.bool b', .int .i64 n', .string s']) := by rw [h, h', h'']
set_option maxHeartbeats 400000 in
theorem few_short (b : Bool) (n : Int) (s : ByteArray) (w : World) (hs : s.size ≤ 70) :
    Calls Tryd.prog 10 #[.agg #[.bool b, .int .i64 n, .string s]] w fun e w' => e = .returned (.agg #[.bool b, .int .i64 n, .string s]) ∧ Below w.heap.size w w' := by
  go_enter Tryd.func10, Tryd.ntmps10
  go_wp2
  exact bodyPost_ret (v := .agg #[.bool b, .int .i64 n, .string s]) (by simp [results, Tryd.results10, go_sem]) rfl ⟨rfl, ((Below.refl _ _).alloc (Nat.le_refl _) _).alloc (by simp) _⟩
set_option maxHeartbeats 400000 in
theorem few_long (b : Bool) (n : Int) (s : ByteArray) (w : World) (hs : 70 < s.size) :
    Calls Tryd.prog 10 #[.agg #[.bool b, .int .i64 n, .string s]] w fun e w' => e = .returned (.agg #[.bool b, .int .i64 n, .string (s.extract 0 70)]) ∧ Below w.heap.size w w' := by
  go_enter Tryd.func10, Tryd.ntmps10
  go_wp2
  exact bodyPost_ret (v := .agg #[.bool b, .int .i64 n, .string (s.extract 0 70)]) (by simp [results, Tryd.results10, go_sem]) rfl ⟨rfl, ((Below.refl _ _).alloc (Nat.le_refl _) _).alloc (by simp) _⟩
def fw (s : ByteArray) : ByteArray := if 70 < s.size then s.extract 0 70 else s
theorem fw_size (s : ByteArray) : (fw s).size ≤ 70 := by
  unfold fw; split
  · rw [ByteArray.size_extract]; omega
  · omega
theorem few_any (b : Bool) (n : Int) (s : ByteArray) (w : World) :
    Calls Tryd.prog 10 #[.agg #[.bool b, .int .i64 n, .string s]] w fun e w' => e = .returned (.agg #[.bool b, .int .i64 n, .string (fw s)]) ∧ Below w.heap.size w w' := by
  by_cases h : 70 < s.size
  · rw [show fw s = s.extract 0 70 from if_pos h]; exact few_long b n s w h
  · rw [show fw s = s from if_neg h]; exact few_short b n s w (by omega)
def mayB (b : Bool) (n : Int) (s : ByteArray) : Bool := if b then s.toList.isEmpty else decide (n = 0) && decide (s.size ≤ 60)
set_option maxHeartbeats 400000 in
theorem may_any (b : Bool) (n : Int) (s : ByteArray) (w : World) :
    Calls Tryd.prog 13 #[.agg #[.bool b, .int .i64 n, .string s]] w fun e w' => e = .returned (.bool (mayB b n s)) ∧ Below w.heap.size w w' := by
  cases b with
  | true =>
    go_enter Tryd.func13, Tryd.ntmps13
    go_wp2
    go_ret
    exact ⟨rfl, (Below.refl _ _).alloc (Nat.le_refl _) _⟩
  | false =>
    by_cases h0 : n = 0
    · subst h0
      by_cases hs : s.size ≤ 60
      · have hm := Lib.hid (show mayB false 0 s = true by simp [mayB, hs])
        go_enter Tryd.func13, Tryd.ntmps13
        go_wp2
        go_ret
        exact ⟨ret_bool (by rw [hm.out]; simp; omega), (Below.refl _ _).alloc (Nat.le_refl _) _⟩
      · have hm := Lib.hid (show mayB false 0 s = false by simp [mayB]; omega)
        go_enter Tryd.func13, Tryd.ntmps13
        go_wp2
        go_ret
        exact ⟨ret_bool (by rw [hm.out]; simp; omega), (Below.refl _ _).alloc (Nat.le_refl _) _⟩
    · have hb : (n == 0) = false := by simpa using h0
      have hm := Lib.hid (show mayB false n s = false by simp [mayB, h0])
      clear h0
      go_enter Tryd.func13, Tryd.ntmps13
      go_wp2
      go_ret
      exact ⟨ret_bool (by rw [hm.out]), (Below.refl _ _).alloc (Nat.le_refl _) _⟩
def escB (c : Int) : Bool := decide (c = 34) || decide (c = 92)
set_option maxHeartbeats 400000 in
theorem esc_any (c : Int) (w : World) :
    Calls Tryd.prog 27 #[.int .u8 c] w fun e w' => e = .returned (.bool (escB c)) ∧ w = w' := by
  by_cases h0 : c = 34
  · subst h0
    go_enter Tryd.func27, Tryd.ntmps27
    go_wp2
    go_ret
    exact ⟨rfl, rfl⟩
  · have hb : (c == 34) = false := by simpa using h0
    have hm := Lib.hid (show escB c = (c == 92) by simp [escB, h0]; rw [Bool.eq_iff_iff]; simp)
    clear h0
    go_enter Tryd.func27, Tryd.ntmps27
    go_wp2
    go_ret
    exact ⟨ret_bool (by rw [hm.out]), rfl⟩
/-- The table of strconv's powers of ten, in a world. -/
def Pow (w : World) : Prop := Lib.TabIs Tryd.prog w "internal/strconv.uint64pow10" .u64 Lib.pow10Tab
theorem gPow : Tryd.prog.globalNamed "internal/strconv.uint64pow10" = some 0 := by kernel_rfl
theorem Pow.later {w w' : World} (h : Pow w) (hb : Below w.heap.size w w') : Pow w' := Go.Joins.tab_stays gPow h hb (Nat.le_refl _)
theorem below_grow {w : World} (k : Nat) (os : Array Obj) : Below w.heap.size w (Go.Sort.grow (w.drewN k) os) := by
  refine ⟨rfl, rfl, rfl, ?_, fun j hj => ?_⟩
  · show w.heap.size ≤ (w.heap ++ os).size
    rw [Array.size_append]; omega
  · show (w.heap ++ os)[j]? = w.heap[j]?
    rw [Array.getElem?_append_left hj]
theorem itoa_any (n : Int) (h0 : -9223372036854775808 ≤ n) (h1 : n ≤ 9223372036854775807) (w : World) (hp : Pow w) :
    Calls Tryd.prog 26 #[.int .i64 n, .int .i64 10] w fun e w' => e = .returned (.string ⟨(Lib.itoa n).toArray⟩) ∧ Below w.heap.size w w' :=
  (Tryd.strconv_FormatInt_10 n h0 h1 w hp).mono fun _ _ ⟨a, k, os, b⟩ => ⟨a, b ▸ below_grow k os⟩
theorem ret_se {s s' : ByteArray} {n n' : Int} (h : s = s') (h' : n = n') : Ending.returned (.tuple #[.string s, .int .i64 n]) = .returned (.tuple #[.string s', .int .i64 n']) := by rw [h, h']
set_option maxHeartbeats 400000 in
theorem write_bad (b : Bool) (n : Int) (s : ByteArray) (w : World) (hm : mayB b n s = false) :
    Calls Tryd.prog 12 #[.agg #[.bool b, .int .i64 n, .string s]] w fun e w' => e = .returned (.tuple #[.string ⟨#[]⟩, .int .i64 1]) ∧ Below w.heap.size w w' := by
  have Hm := Lib.hid hm
  clear hm
  go_enter Tryd.func12, Tryd.ntmps12
  go_wp2_with fail
  refine (may_any b n s _).mono ?_
  rintro e w1 ⟨rfl, hb1⟩
  rw [Hm.out]
  go_wp2
  go_ret2
  exact ⟨rfl, ((Below.refl _ _).alloc (Nat.le_refl _) _).trans (hb1.mono (by simp))⟩
set_option maxHeartbeats 400000 in
theorem write_num (n : Int) (s : ByteArray) (w : World) (h0 : -9223372036854775808 ≤ n) (h1 : n ≤ 9223372036854775807) (hs : s.toList.isEmpty = true) (hp : Pow w) :
    Calls Tryd.prog 12 #[.agg #[.bool true, .int .i64 n, .string s]] w fun e w' => e = .returned (.tuple #[.string ⟨(Lib.itoa n).toArray⟩, .int .i64 0]) ∧ Below w.heap.size w w' := by
  have Hm := Lib.hid (show mayB true n s = true from hs)
  have Hp := Lib.hid hp
  clear hs hp
  go_enter Tryd.func12, Tryd.ntmps12
  go_wp2_with fail
  refine (may_any true n s _).mono ?_
  rintro e w1 ⟨rfl, hb1⟩
  rw [Hm.out]
  have hb0 : Below w.heap.size w w1 := ((Below.refl _ _).alloc (Nat.le_refl _) _).trans (hb1.mono (by simp))
  have hc := hb1.cell (p := ⟨w.heap.size, 0, none⟩) (by simp)
  have hc1 := hb1.cell (p := ⟨w.heap.size, 1, none⟩) (by simp)
  simp at hc hc1
  have hz : w.heap.size < w1.heap.size := by have := hb1.size; simp at this; omega
  have Hp1 := Lib.hid (Hp.out.later hb0)
  go_wp2_with (go_at_call 26; refine (itoa_any n h0 h1 _ Hp1.out).mono ?_; rintro e w2 ⟨rfl, hb2⟩)
  go_ret2
  exact ⟨rfl, chain hb0 (Nat.le_refl _) hb2⟩
end Go.Proofs.YtkakldlfgnijdaaDoor
