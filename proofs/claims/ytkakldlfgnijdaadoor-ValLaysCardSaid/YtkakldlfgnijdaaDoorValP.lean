/- Layer 3: the document's May, Order, Lay. -/
import Derived.Test.YtkakldlfgnijdaaDoorValH
import Derived.Test.YtkakldlfgnijdaaDoorValI
namespace Go.Proofs.YtkakldlfgnijdaaDoor
open Go.RowKit
set_option maxRecDepth 100000 in
set_option maxHeartbeats 400000 in
theorem rmay_any (b : Bool) (n : Int) (s : ByteArray) (w : World) :
    Calls Tryd.prog 14 #[.agg #[.bool b, .int .i64 n, .string s]] w fun e w' => e = .returned (.bool (mayB b n s)) ∧ Below w.heap.size w w' := by
  cases b with
  | true =>
    cases hs : s.toList.isEmpty with
    | true =>
      have hm := Lib.hid (show mayB true n s = true from hs)
      rw [hm.out]
      go_enter Tryd.func14, Tryd.ntmps14
      go_wp2
      go_ret
      exact ⟨rfl, (Below.refl _ _).alloc (Nat.le_refl _) _⟩
    | false =>
      have hm := Lib.hid (show mayB true n s = false from hs)
      rw [hm.out]
      go_enter Tryd.func14, Tryd.ntmps14
      go_wp2
      go_ret
      exact ⟨rfl, (Below.refl _ _).alloc (Nat.le_refl _) _⟩
  | false =>
    by_cases h0 : n = 0
    · subst h0
      by_cases hs : s.size ≤ 60
      · have hm := Lib.hid (show mayB false 0 s = true by simp [mayB, hs])
        rw [hm.out]
        go_enter Tryd.func14, Tryd.ntmps14
        go_wp2
        go_ret
        exact ⟨ret_bool (by simp; omega), (Below.refl _ _).alloc (Nat.le_refl _) _⟩
      · have hm := Lib.hid (show mayB false 0 s = false by simp [mayB]; omega)
        rw [hm.out]
        go_enter Tryd.func14, Tryd.ntmps14
        go_wp2
        go_ret
        exact ⟨ret_bool (by simp; omega), (Below.refl _ _).alloc (Nat.le_refl _) _⟩
    · have hb : (n == 0) = false := by simpa using h0
      have hm := Lib.hid (show mayB false n s = false by simp [mayB, h0])
      rw [hm.out]
      clear h0
      go_enter Tryd.func14, Tryd.ntmps14
      go_wp2
      go_ret
      exact ⟨rfl, (Below.refl _ _).alloc (Nat.le_refl _) _⟩
set_option maxRecDepth 100000 in
set_option maxHeartbeats 800000 in
theorem rorder_any (b : Bool) (n : Int) (s : ByteArray) (b' : Bool) (n' : Int) (s' : ByteArray) (w : World) :
    Calls Tryd.prog 16 #[.agg #[.bool b, .int .i64 n, .string s], .agg #[.bool b', .int .i64 n', .string s']] w fun e w' => e = .returned (.int .i64 (ordV b n s b' n' s')) ∧ Below w.heap.size w w' := by
  have bel : ∀ (o o' : Obj), Below w.heap.size w ((w.alloc o).alloc o') := fun o o' => ((Below.refl _ _).alloc (Nat.le_refl _) _).alloc (by simp) _
  cases b <;> cases b'
  · rcases less_total s.toList s'.toList with h | h | h
    · have H := Lib.hid (show ordV false n s false n' s' = -1 from if_pos h)
      rw [H.out]
      have h2 := less_asymm _ _ h
      go_enter Tryd.func16, Tryd.ntmps16
      go_wp2
      go_ret
      exact ⟨rfl, bel _ _⟩
    · have e : s = s' := by
        rw [ByteArray.toList_eq, ByteArray.toList_eq] at h; exact Go.WideShapes.bytes_inj h
      subst e
      have H := Lib.hid (show ordV false n s false n' s = 0 from (cmpL_zero _ _).2 rfl)
      rw [H.out]
      have h1 := less_irrefl s.toList
      clear h
      go_enter Tryd.func16, Tryd.ntmps16
      go_wp2
      go_ret
      exact ⟨rfl, bel _ _⟩
    · have h2 := less_asymm _ _ h
      have hne : ¬ s.toList = s'.toList := fun e => by rw [e, less_irrefl] at h; cases h
      have H := Lib.hid (show ordV false n s false n' s' = 1 by unfold ordV cmpL; simp [h2, hne])
      rw [H.out]
      have hb : (s.toList == s'.toList) = false := by simpa using hne
      clear hne
      go_enter Tryd.func16, Tryd.ntmps16
      go_wp2
      go_ret
      exact ⟨rfl, bel _ _⟩
  · have H := Lib.hid (show ordV false n s true n' s' = 1 from rfl)
    rw [H.out]
    go_enter Tryd.func16, Tryd.ntmps16
    go_wp2
    go_ret
    exact ⟨rfl, bel _ _⟩
  · have H := Lib.hid (show ordV true n s false n' s' = -1 from rfl)
    rw [H.out]
    go_enter Tryd.func16, Tryd.ntmps16
    go_wp2
    go_ret
    exact ⟨rfl, bel _ _⟩
  · rcases Int.lt_trichotomy n n' with h | h | h
    · have H := Lib.hid (show ordV true n s true n' s' = -1 from if_pos h)
      rw [H.out]
      go_enter Tryd.func16, Tryd.ntmps16
      go_wp2
      go_ret
      exact ⟨rfl, bel _ _⟩
    · subst h
      have H := Lib.hid (show ordV true n s true n s' = 0 by simp [ordV, cmpZ])
      rw [H.out]
      go_enter Tryd.func16, Tryd.ntmps16
      go_wp2
      go_ret
      exact ⟨rfl, bel _ _⟩
    · have H := Lib.hid (show ordV true n s true n' s' = 1 by unfold ordV cmpZ; simp; omega)
      rw [H.out]
      have h' : ¬ n < n' := by omega
      go_enter Tryd.func16, Tryd.ntmps16
      go_wp2
      go_ret
      exact ⟨rfl, bel _ _⟩
set_option maxRecDepth 100000 in
set_option maxHeartbeats 400000 in
theorem rlay_num (n : Int) (s : ByteArray) (w : World) (h0 : -9223372036854775808 ≤ n) (h1 : n ≤ 9223372036854775807) :
    Calls Tryd.prog 20 #[.agg #[.bool true, .int .i64 n, .string s]] w fun e w' => e = .returned (.string (⟨#[1]⟩ ++ ⟨(pkL (foldZ n).toNat).toArray⟩)) ∧ Below w.heap.size w w' := by
  have hf := foldZ_bd n h0 h1
  have h9 := pkW_le9 (foldZ n).toNat (by omega)
  obtain ⟨p, hp, cp⟩ := rpack_named (foldZ n).toNat (by omega)
  rw [Int.toNat_of_nonneg hf.1] at cp
  have hps : p.size ≤ 10 := by rw [hp]; show (pkL (foldZ n).toNat).toArray.size ≤ 10; simp [pkL_length]; omega
  rw [← hp]
  have Cp := Lib.hid cp
  clear hp cp h9
  go_enter Tryd.func20, Tryd.ntmps20
  go_wp2_with fail
  refine (rfold_any n _ h0 h1).mono ?_
  rintro e wx ⟨rfl, rfl⟩
  go_wp2_with fail
  refine (Cp.out _).mono ?_
  rintro e w2 ⟨rfl, hb2⟩
  go_wp2
  go_ret
  exact ⟨rfl, box_below hb2⟩
set_option maxRecDepth 100000 in
set_option maxHeartbeats 400000 in
theorem rlay_text (s : ByteArray) (w : World) (hs : s.size ≤ 60) :
    Calls Tryd.prog 20 #[.agg #[.bool false, .int .i64 0, .string s]] w fun e w' => e = .returned (.string (⟨#[2]⟩ ++ ⟨(pkL s.size).toArray⟩ ++ s)) ∧ Below w.heap.size w w' := by
  have h9 := pkW_le9 s.size (by omega)
  obtain ⟨p, hp, cp⟩ := rpack_named s.size (by omega)
  have hps : p.size ≤ 10 := by rw [hp]; show (pkL s.size).toArray.size ≤ 10; simp [pkL_length]; omega
  rw [← hp]
  have e1 : IntKind.u64.wrap (s.size : Int) = s.size := IntWalk.u64_in _ (by omega)
  have hsum1 := fun W => run_string_add_sum (P := Tryd.prog) W ⟨#[2]⟩ p (by have : (⟨#[2]⟩ : ByteArray).size = 1 := rfl; omega)
  have hsum2 := fun W => run_string_add_sum (P := Tryd.prog) W (⟨#[2]⟩ ++ p) s (by rw [ByteArray.size_append]; have : (⟨#[2]⟩ : ByteArray).size = 1 := rfl; omega)
  have Cp := Lib.hid cp
  have hc2 : (w.alloc (.cells #[.bool false, .int .i64 0, .string s] 23)).cell? ⟨w.heap.size, 2, none⟩ = some (.string s) := by simp
  have hz : w.heap.size < (w.alloc (.cells #[.bool false, .int .i64 0, .string s] 23)).heap.size := by simp
  clear hp cp h9
  go_enter Tryd.func20, Tryd.ntmps20
  go_wp2_with fail
  go_region_with (go_at_call 37; refine (Cp.out _).mono ?_; rintro e w2 ⟨rfl, hb2⟩; have hc2' := lift_cell hc2 (below_undrew hb2) hz)
  all_goals go_wp2
  all_goals go_ret
  all_goals exact ⟨rfl, box_below (below_undrew hb2)⟩
end Go.Proofs.YtkakldlfgnijdaaDoor
