/- Layer 11: the contract of the document's ahead. -/
import Derived.Test.YtgipohicgbppaaaWhMathB
namespace Go.Proofs.Ytgipohicgbppaaa
open Go.RowKit Go.Shelf
def aheadB (x y : Tm) : Bool := decide (x.1 < y.1) || (decide (x.1 = y.1) && decide (x.2 < y.2))
theorem aheadB_iff (x y : Tm) : aheadB x y = true ↔ ltT x y := by unfold aheadB ltT; simp
set_option maxHeartbeats 2000000 in
set_option maxRecDepth 100000 in
theorem ahead_any (x y : Tm) (w : World) : Calls Try.prog 28 #[tmV x, tmV y] w fun e w' => e = .returned (.bool (aheadB x y)) ∧ Below w.heap.size w w' := by
  obtain ⟨x1, x2⟩ := x
  obtain ⟨y1, y2⟩ := y
  have hb : Below w.heap.size w ((w.alloc (.cells #[.int .i64 x1, .int .u64 x2] 38)).alloc (.cells #[.int .i64 y1, .int .u64 y2] 38)) := ((Below.refl _ _).alloc (Nat.le_refl _) _).alloc (by simp) _
  by_cases h1 : x1 < y1
  · have hv : aheadB (x1, x2) (y1, y2) = true := by rw [aheadB_iff]; exact .inl h1
    rw [hv]
    go_enter Try.func28, Try.ntmps28
    go_wp2
    go_ret
    exact ⟨rfl, hb⟩
  · have h1d : decide (x1 < y1) = false := by simpa using h1
    by_cases h2 : x1 = y1
    · subst h2
      have hv : aheadB (x1, x2) (x1, y2) = decide (x2 < y2) := by unfold aheadB; simp
      rw [hv]
      go_enter Try.func28, Try.ntmps28
      go_wp2
      go_ret
      exact ⟨rfl, hb⟩
    · have hv : aheadB (x1, x2) (y1, y2) = false := by unfold aheadB; simp [h1, h2]
      rw [hv]
      go_enter Try.func28, Try.ntmps28
      go_wp2
      go_ret
      exact ⟨rfl, hb⟩
end Go.Proofs.Ytgipohicgbppaaa
