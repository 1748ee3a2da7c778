/- Layer 1: contracts of the calls without memory: Fold, Unfold, and the document's own. -/
import Derived.Test.YtgeiicchkfpanaaRows
import Derived.Test.YtgeiicchkfpanaaNumMath
import Derived.WalkKit
import Derived.WalkSpells
import Derived.WalkLawsBesides
import Derived.Lib.Hide
namespace Go.Proofs.Ytgeiicchkfpanaa
open Go.RowKit
theorem ret_int' {k : IntKind} {a b : Int} (h : a = b) : Ending.returned (.int k a) = .returned (.int k b) := by rw [h]
theorem ret_bool {a b : Bool} (h : a = b) : Ending.returned (.bool a) = .returned (.bool b) := by rw [h]
theorem ret_3 {a b : Int} {a' b' : Int} {c c' : Int} {j k l : IntKind} (h : a = a') (h' : b = b') (h'' : c = c') : Ending.returned (.tuple #[.int j a, .int k b, .int l c]) = .returned (.tuple #[.int j a', .int k b', .int l c']) := by rw [h, h', h'']
theorem ret_str {a b : List UInt8} (h : a = b) : Ending.returned (.string ⟨a.toArray⟩) = .returned (.string ⟨b.toArray⟩) := by rw [h]
set_option maxHeartbeats 400000 in
theorem fold_any (a : Int) (w : World) (h0 : -9223372036854775808 ≤ a) (h1 : a ≤ 9223372036854775807) :
    Calls Try.prog 73 #[.int .i64 a] w fun e w' => e = .returned (.int .u64 (foldZ a)) ∧ w = w' := by
  by_cases hneg : a < 0
  · go_enter Try.func73, Try.ntmps73
    go_wp2
    go_ret
    exact ⟨ret_int' (fold_neg_eq a h0 hneg), rfl⟩
  · have h2 : 0 ≤ a := by omega
    clear hneg
    go_enter Try.func73, Try.ntmps73
    go_wp2
    go_ret
    exact ⟨ret_int' (by unfold foldZ; split <;> omega), rfl⟩
set_option maxHeartbeats 400000 in
theorem unfold_any (a : Int) (w : World) (h0 : 0 ≤ a) (h1 : a ≤ 18446744073709551615)  :
    Calls Try.prog 101 #[.int .u64 a] w fun e w' => e = .returned (.int .i64 (unfoldZ a)) ∧ w = w' := by
  have hm := u64_mask1 a h0 (by omega)
  by_cases hodd : a % 2 = 1
  · have hb : (bits .and .u64 a 1 == 1) = true := by rw [hm, hodd]; rfl
    have hn := i64_not' (a / 2) (by omega) (by omega)
    have Hn := Lib.hid hn
    have Ho := Lib.hid hodd
    clear hm hn hodd
    go_enter Try.func101, Try.ntmps101
    go_wp2
    go_ret
    exact ⟨ret_int' (by rw [Hn.out]; unfold unfoldZ; rw [if_pos Ho.out]; omega), rfl⟩
  · have hb : (bits .and .u64 a 1 == 1) = false := by rw [hm]; simp; omega
    have Ho := Lib.hid hodd
    clear hm hodd
    go_enter Try.func101, Try.ntmps101
    go_wp2
    go_ret
    exact ⟨ret_int' (by unfold unfoldZ; rw [if_neg Ho.out]), rfl⟩
set_option maxHeartbeats 400000 in
theorem rfold_any (a : Int) (w : World) (h0 : -9223372036854775808 ≤ a) (h1 : a ≤ 9223372036854775807) :
    Calls Try.prog 75 #[.int .i64 a] w fun e w' => e = .returned (.int .u64 (foldZ a)) ∧ w = w' := by
  by_cases hp : 0 ≤ a
  · go_enter Try.func75, Try.ntmps75
    go_wp2
    go_ret
    exact ⟨ret_int' (by unfold foldZ; split <;> omega), rfl⟩
  · have h2 : a < 0 := by omega
    clear hp
    go_enter Try.func75, Try.ntmps75
    go_wp2
    go_ret
    exact ⟨ret_int' (by unfold foldZ; split <;> omega), rfl⟩
set_option maxHeartbeats 400000 in
theorem runfold_any (a : Int) (w : World) (h0 : 0 ≤ a) (h1 : a ≤ 18446744073709551615)  :
    Calls Try.prog 81 #[.int .u64 a] w fun e w' => e = .returned (.int .i64 (unfoldZ a)) ∧ w = w' := by
  by_cases hev : a % 2 = 0
  · have hb : (a % 2 == 0) = true := by simpa using hev
    have Ho := Lib.hid hev
    clear hev
    go_enter Try.func81, Try.ntmps81
    go_wp2
    go_ret
    exact ⟨ret_int' (by unfold unfoldZ; rw [if_neg (by have := Ho.out; omega)]), rfl⟩
  · have hb : (a % 2 == 0) = false := by simpa using hev
    have Ho := Lib.hid hev
    clear hev
    go_enter Try.func81, Try.ntmps81
    go_wp2
    go_ret
    exact ⟨ret_int' (by unfold unfoldZ; rw [if_pos (by have := Ho.out; omega)]), rfl⟩
end Go.Proofs.Ytgeiicchkfpanaa
