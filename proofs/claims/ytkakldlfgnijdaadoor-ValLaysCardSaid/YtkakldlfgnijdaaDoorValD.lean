/- Layer 3: contracts of Take, and of the document's Take. -/
import Derived.Test.YtkakldlfgnijdaaDoorValC
namespace Go.Proofs.YtkakldlfgnijdaaDoor
open Go.RowKit
def vZ : Value := .agg #[.bool false, .int .i64 0, .string ⟨#[]⟩]
set_option maxHeartbeats 400000 in
theorem tt_long (s : ByteArray) (k x : Int) (w : World) (hx : 60 < x) :
    Calls Tryd.prog 32 #[.string s, .int .i64 k, .int .u64 x] w fun e w' => e = .returned (.tuple #[.agg #[.bool false, .int .i64 0, .string ⟨#[]⟩], .int .i64 0, .int .i64 2]) ∧ Below w.heap.size w w' := by
  go_enter Tryd.func32, Tryd.ntmps32
  go_wp2
  exact bodyPost_ret (v := .tuple #[.agg #[.bool false, .int .i64 0, .string ⟨#[]⟩], .int .i64 0, .int .i64 2]) (by simp [results, Tryd.results32, go_sem]) rfl ⟨rfl, (Below.refl _ _).alloc (Nat.le_refl _) _⟩
set_option maxHeartbeats 400000 in
theorem tt_short (s : ByteArray) (k x : Int) (w : World) (hk : 0 ≤ k) (hk1 : k ≤ 1000) (hx0 : 0 ≤ x) (hx : x ≤ 60) (hs : (s.size : Int) < k + x) :
    Calls Tryd.prog 32 #[.string s, .int .i64 k, .int .u64 x] w fun e w' => e = .returned (.tuple #[.agg #[.bool false, .int .i64 0, .string ⟨#[]⟩], .int .i64 0, .int .i64 3]) ∧ Below w.heap.size w w' := by
  go_enter Tryd.func32, Tryd.ntmps32
  go_wp2
  exact bodyPost_ret (v := .tuple #[.agg #[.bool false, .int .i64 0, .string ⟨#[]⟩], .int .i64 0, .int .i64 3]) (by simp [results, Tryd.results32, go_sem]) rfl ⟨rfl, (Below.refl _ _).alloc (Nat.le_refl _) _⟩
set_option maxHeartbeats 400000 in
theorem tt_ok (s : ByteArray) (k x : Nat) (w : World) (hk1 : k ≤ 1000) (hx : x ≤ 60) (hs : k + x ≤ s.size) :
    Calls Tryd.prog 32 #[.string s, .int .i64 k, .int .u64 x] w fun e w' => e = .returned (.tuple #[.agg #[.bool false, .int .i64 0, .string (s.extract k (k + x))], .int .i64 (k + x), .int .i64 0]) ∧ Below w.heap.size w w' := by
  have hs' : (k : Int) + x ≤ s.size := by omega
  go_enter Tryd.func32, Tryd.ntmps32
  go_wp2
  exact bodyPost_ret (v := .tuple #[.agg #[.bool false, .int .i64 0, .string (s.extract k (k + x))], .int .i64 (k + x), .int .i64 0]) (by simp [results, Tryd.results32, go_sem]) rfl ⟨rfl, (Below.refl _ _).alloc (Nat.le_refl _) _⟩
theorem take1 (l : List UInt8) (h : 0 < l.length) : l.take 1 = [l[0]] := by
  cases l with
  | nil => simp at h
  | cons a t => simp
theorem first1 (s : ByteArray) (h : 0 < s.size) : (s.extract 0 1).toList = [s[0]'h] := by
  rw [ByteArray.toList_eq, ext_data, take1 _ (by simpa using h)]
  rfl
set_option maxHeartbeats 400000 in
theorem take_empty (s : ByteArray) (w : World) (h : s.size = 0) :
    Calls Tryd.prog 18 #[.string s] w fun e w' => e = .returned (.tuple #[.agg #[.bool false, .int .i64 0, .string ⟨#[]⟩], .int .i64 0, .int .i64 3]) ∧ Below w.heap.size w w' := by
  have he : s.toList = [] := by rw [ByteArray.toList_eq]; exact List.eq_nil_of_length_eq_zero (by rw [Array.length_toList]; exact h)
  have he' : s.toList.isEmpty = true := by rw [he]; rfl
  go_enter Tryd.func18, Tryd.ntmps18
  go_wp2
  exact bodyPost_ret (v := .tuple #[.agg #[.bool false, .int .i64 0, .string ⟨#[]⟩], .int .i64 0, .int .i64 3]) (by simp [results, Tryd.results18, go_sem]) rfl ⟨rfl, (Below.refl _ _).alloc (Nat.le_refl _) _⟩
set_option maxHeartbeats 400000 in
theorem take_mark (s : ByteArray) (w : World) (h : 0 < s.size) (h1 : (s[0]'h).toNat ≠ 1) (h2 : (s[0]'h).toNat ≠ 2) :
    Calls Tryd.prog 18 #[.string s] w fun e w' => e = .returned (.tuple #[.agg #[.bool false, .int .i64 0, .string ⟨#[]⟩], .int .i64 0, .int .i64 2]) ∧ Below w.heap.size w w' := by
  have hn := toList_ne s (by omega)
  have hn' := toList_isEmpty s (by omega)
  have hf := first1 s h
  obtain ⟨c, hc⟩ : ∃ c, c = s[0]'h := ⟨_, rfl⟩
  rw [← hc] at hf h1 h2
  have f1 : (c == 1) = false := by simp only [beq_eq_false_iff_ne, ne_eq]; intro e; subst e; exact h1 rfl
  have f2 : (c == 2) = false := by simp only [beq_eq_false_iff_ne, ne_eq]; intro e; subst e; exact h2 rfl
  have g1 : ((s.extract 0 1).toList == [1]) = false := by rw [hf]; simpa using f1
  have g2 : ((s.extract 0 1).toList == [2]) = false := by rw [hf]; simpa using f2
  clear hf hc h1 h2 f1 f2
  go_enter Tryd.func18, Tryd.ntmps18
  go_wp2
  exact bodyPost_ret (v := .tuple #[.agg #[.bool false, .int .i64 0, .string ⟨#[]⟩], .int .i64 0, .int .i64 2]) (by simp [results, Tryd.results18, go_sem]) rfl ⟨rfl, (Below.refl _ _).alloc (Nat.le_refl _) _⟩
/-- Octets behind a mark: what Unpack tells of those behind it. -/
def unpB (s : ByteArray) : Nat × Nat × Nat := unpS (s.extract 1 s.size).data.toList
theorem unpB_any (s : ByteArray) (hs : s.size ≤ 1000) (w : World) : Calls Tryd.prog 30 #[.string (s.extract 1 s.size)] w fun e w' => e = .returned (.tuple #[.int .u64 (unpB s).1, .int .i64 (unpB s).2.1, .int .i64 (unpB s).2.2]) ∧ w = w' :=
  unpack_any _ w (by rw [ByteArray.size_extract]; omega)
set_option maxHeartbeats 400000 in
theorem take_err (s : ByteArray) (w : World) (h : 0 < s.size) (hs : s.size ≤ 1000) (b : UInt8) (hb : s[0]'h = b) (hb12 : b = 1 ∨ b = 2) (x y z : Nat) (hu : unpB s = (x, y, z)) (hz : z ≠ 0) :
    Calls Tryd.prog 18 #[.string s] w fun e w' => e = .returned (.tuple #[.agg #[.bool false, .int .i64 0, .string ⟨#[]⟩], .int .i64 0, .int .i64 z]) ∧ Below w.heap.size w w' := by
  have hn := toList_ne s (by omega)
  have hn' := toList_isEmpty s (by omega)
  have hf := first1 s h
  rw [hb] at hf
  have Cu := Lib.hid (unpB_any s hs)
  rw [hu] at Cu
  have hz' : ((z : Int) == 0) = false := by simp; omega
  have h1 : (1 : Int) ≤ s.size := by omega
  clear hb hu hz
  rcases hb12 with rfl | rfl
  all_goals
    go_enter Tryd.func18, Tryd.ntmps18
    go_wp2_with fail
    refine (Cu.out _).mono ?_
    rintro e wx ⟨rfl, rfl⟩
    go_wp2
    exact bodyPost_ret (v := .tuple #[.agg #[.bool false, .int .i64 0, .string ⟨#[]⟩], .int .i64 0, .int .i64 z]) (by simp [results, Tryd.results18, go_sem]) rfl ⟨rfl, (Below.refl _ _).alloc (Nat.le_refl _) _⟩
set_option maxHeartbeats 400000 in
theorem take_num (s : ByteArray) (w : World) (h : 0 < s.size) (hs : s.size ≤ 1000) (hb : s[0]'h = 1) (x y : Nat) (hu : unpB s = (x, y, 0)) (hx : x ≤ 18446744073709551615) (hy : y ≤ 10) :
    Calls Tryd.prog 18 #[.string s] w fun e w' => e = .returned (.tuple #[.agg #[.bool true, .int .i64 (unfoldZ x), .string ⟨#[]⟩], .int .i64 (1 + y), .int .i64 0]) ∧ Below w.heap.size w w' := by
  have hn := toList_ne s (by omega)
  have hn' := toList_isEmpty s (by omega)
  have hf := first1 s h
  rw [hb] at hf
  have Cu := Lib.hid (unpB_any s hs)
  rw [hu] at Cu
  have h1 : (1 : Int) ≤ s.size := by omega
  clear hb hu
  go_enter Tryd.func18, Tryd.ntmps18
  go_wp2_with fail
  refine (Cu.out _).mono ?_
  rintro e wx ⟨rfl, rfl⟩
  go_wp2_with fail
  refine (unfold_any x _ (by omega) (by omega)).mono ?_
  rintro e wx ⟨rfl, rfl⟩
  go_wp2
  exact bodyPost_ret (v := .tuple #[.agg #[.bool true, .int .i64 (unfoldZ x), .string ⟨#[]⟩], .int .i64 (1 + y), .int .i64 0]) (by simp [results, Tryd.results18, go_sem]) rfl ⟨rfl, (Below.refl _ _).alloc (Nat.le_refl _) _⟩
/-- A text's octets: what takeText answers is what Take answers. -/
theorem take_by (s : ByteArray) (w : World) (h : 0 < s.size) (hs : s.size ≤ 1000) (hb : s[0]'h = 2) (x y : Nat) (hu : unpB s = (x, y, 0)) (hy : y ≤ 10) (t : ByteArray) (m e : Int)
    (ht : ∀ w, Calls Tryd.prog 32 #[.string s, .int .i64 (1 + y), .int .u64 x] w fun E w' => E = .returned (.tuple #[.agg #[.bool false, .int .i64 0, .string t], .int .i64 m, .int .i64 e]) ∧ Below w.heap.size w w') :
    Calls Tryd.prog 18 #[.string s] w fun E w' => E = .returned (.tuple #[.agg #[.bool false, .int .i64 0, .string t], .int .i64 m, .int .i64 e]) ∧ Below w.heap.size w w' := by
  have hn := toList_ne s (by omega)
  have hn' := toList_isEmpty s (by omega)
  have hf := first1 s h
  rw [hb] at hf
  have Cu := Lib.hid (unpB_any s hs)
  rw [hu] at Cu
  have h1 : (1 : Int) ≤ s.size := by omega
  have Ht := Lib.hid ht
  clear hb hu ht
  go_enter Tryd.func18, Tryd.ntmps18
  go_wp2_with fail
  refine (Cu.out _).mono ?_
  rintro e1 wx ⟨rfl, rfl⟩
  go_wp2_with fail
  refine (Ht.out _).mono ?_
  rintro e2 w2 ⟨rfl, hb2⟩
  have hlt := box_lt hb2
  have hb0 := box_below hb2
  have hc0 := box_cell (i := 0) hb2
  have hc1 := box_cell (i := 1) hb2
  have hc2 := box_cell (i := 2) hb2
  have hf0 := hb2.frozen (p := ⟨w.heap.size, 0, none⟩) (by simp)
  have hf1 := hb2.frozen (p := ⟨w.heap.size, 1, none⟩) (by simp)
  have hf2 := hb2.frozen (p := ⟨w.heap.size, 2, none⟩) (by simp)
  simp at hc0 hc1 hc2 hf0 hf1 hf2
  go_wp2
  exact bodyPost_ret (v := .tuple #[.agg #[.bool false, .int .i64 0, .string t], .int .i64 m, .int .i64 e]) (by simp [results, Tryd.results18, go_sem, hc0, hc1, hc2]) rfl ⟨rfl, ((hb0.setCell (Nat.le_refl _) _).setCell (Nat.le_refl _) _).setCell (Nat.le_refl _) _⟩
end Go.Proofs.YtkakldlfgnijdaaDoor
