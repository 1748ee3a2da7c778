/- Layer 11: timers in a world; the contract of their order. -/
import Derived.Test.YtgipohicgbppaaaShelf
import Derived.Test.YtgipohicgbppaaaChecked
import Derived.WalkKit
import Derived.Lib.Walk
import Derived.Lib.Hide
import Derived.Laws.DeepNot64
import Derived.LoopTactic
import Derived.Below
import Derived.RegionTactic
import Derived.Deep.RegionHeld3
import Derived.Deep.RegionWith
import Derived.Shelf.Abstract
import Derived.WalkLawsBesides
import Derived.WalkSpells
import Derived.Laws.AppendOwn
import Derived.Laws.OwnMore
import Derived.Lib.SmallJoins
namespace Go.Proofs.Ytgipohicgbppaaa
open Go.RowKit Go.Shelf
theorem ret_int' {n m : Int} (h : n = m) : Ending.returned (Value.int .i64 n) = Ending.returned (Value.int .i64 m) := by rw [h]
/-- A timer: when it rings, and its Id. -/
abbrev Tm := Int × Int
abbrev tmV (x : Tm) : Value := .agg #[.int .i64 x.1, .int .u64 x.2]
def cmpZ (a b : Int) : Int := if a < b then -1 else if b < a then 1 else 0
theorem cmpZ_bd (a b : Int) : cmpZ a b = -1 ∨ cmpZ a b = 0 ∨ cmpZ a b = 1 := by
  unfold cmpZ
  split
  · exact .inl rfl
  · split
    · exact .inr (.inr rfl)
    · exact .inr (.inl rfl)
/-- The order of timers. -/
def ordT (x y : Tm) : Int := if cmpZ x.1 y.1 = 0 then cmpZ x.2 y.2 else cmpZ x.1 y.1
theorem ordT_bd (x y : Tm) : ordT x y = -1 ∨ ordT x y = 0 ∨ ordT x y = 1 := by
  unfold ordT
  split
  · exact cmpZ_bd _ _
  · exact cmpZ_bd _ _
theorem cmpInt_any (a b : Int) (w : World) :
    Calls Try.prog 38 #[.int .i64 a, .int .i64 b] w fun e w' => e = .returned (.int .i64 (cmpZ a b)) ∧ w = w' := by
  rcases Int.lt_trichotomy a b with h | h | h
  · have H := Lib.hid (show cmpZ a b = -1 from if_pos h)
    go_enter Try.func38, Try.ntmps38
    go_wp2
    go_ret
    exact ⟨ret_int' H.out.symm, rfl⟩
  · subst h
    have H := Lib.hid (show cmpZ a a = 0 by simp [cmpZ])
    go_enter Try.func38, Try.ntmps38
    go_wp2
    go_ret
    exact ⟨ret_int' H.out.symm, rfl⟩
  · have H := Lib.hid (show cmpZ a b = 1 by unfold cmpZ; rw [if_neg (by omega), if_pos h])
    have h' : ¬ a < b := by omega
    go_enter Try.func38, Try.ntmps38
    go_wp2
    go_ret
    exact ⟨ret_int' H.out.symm, rfl⟩
theorem cmpU_any (a b : Int) (w : World) :
    Calls Try.prog 39 #[.int .u64 a, .int .u64 b] w fun e w' => e = .returned (.int .i64 (cmpZ a b)) ∧ w = w' := by
  rcases Int.lt_trichotomy a b with h | h | h
  · have H := Lib.hid (show cmpZ a b = -1 from if_pos h)
    go_enter Try.func39, Try.ntmps39
    go_wp2
    go_ret
    exact ⟨ret_int' H.out.symm, rfl⟩
  · subst h
    have H := Lib.hid (show cmpZ a a = 0 by simp [cmpZ])
    go_enter Try.func39, Try.ntmps39
    go_wp2
    go_ret
    exact ⟨ret_int' H.out.symm, rfl⟩
  · have H := Lib.hid (show cmpZ a b = 1 by unfold cmpZ; rw [if_neg (by omega), if_pos h])
    have h' : ¬ a < b := by omega
    go_enter Try.func39, Try.ntmps39
    go_wp2
    go_ret
    exact ⟨ret_int' H.out.symm, rfl⟩
theorem or_any (a b : Int) (g : Nat) (w : World) (h0 : w.cell? ⟨g, 0, none⟩ = some (.int .i64 a)) (h1 : w.cell? ⟨g, 1, none⟩ = some (.int .i64 b)) :
    Calls Try.prog 37 #[.slice (some ⟨g, 0, none⟩) 2 2] w fun e w' => e = .returned (.int .i64 (if a = 0 then b else a)) ∧ w = w' := by
  by_cases ha : a = 0
  · subst ha
    by_cases hb : b = 0
    · subst hb
      go_enter Try.func37, Try.ntmps37
      go_wp2_with fail
      go_loop [8] (fun i => i = .int .i64 0 ∨ i = .int .i64 1 ∨ i = .int .i64 2) (fun i => 2 - (intOf i).toNat)
      case atStart => exact .inl rfl
      case round =>
        rcases hrel with rfl | rfl | rfl
        · go_wp2
          go_round
          case rel => exact .inr (.inl rfl)
          case measure => decide
        · go_wp2
          go_round
          case rel => exact .inr (.inr rfl)
          case measure => decide
        · go_wp2
          go_ret
          exact ⟨rfl, rfl⟩
    · go_enter Try.func37, Try.ntmps37
      go_wp2_with fail
      go_loop [8] (fun i => i = .int .i64 0 ∨ i = .int .i64 1) (fun i => 2 - (intOf i).toNat)
      case atStart => exact .inl rfl
      case round =>
        rcases hrel with rfl | rfl
        · go_wp2
          go_round
          case rel => exact .inr rfl
          case measure => decide
        · go_wp2
          go_ret
          exact ⟨rfl, rfl⟩
  · rw [if_neg ha]
    go_enter Try.func37, Try.ntmps37
    go_wp2_with fail
    go_loop [8] (fun i => i = .int .i64 0) (fun i => 2 - (intOf i).toNat)
    case atStart => rfl
    case round =>
      obtain rfl := hrel
      go_wp2
      go_ret
      exact ⟨rfl, rfl⟩
end Go.Proofs.Ytgipohicgbppaaa
