/- Layer 3: the walk of the law ValTakes. -/
import Derived.Test.YtkakldlfgnijdaaDoorValF
import Derived.Test.YtkakldlfgnijdaaDoorPowLaid
namespace Go.Proofs.YtkakldlfgnijdaaDoor
open Go.RowKit
set_option maxRecDepth 100000 in
set_option maxHeartbeats 1000000 in
theorem valTakes_walk (s : ByteArray) (w : World) (hp : Pow w) (hs : s.size ≤ maxLen) :
    Calls Tryd.prog 4 #[.string s] w fun e w' => e = .returned (.bool true) ∧ Below w.heap.size w w' := by
  unfold maxLen at hs
  have Hp := Lib.hid hp
  clear hp
  by_cases hbig : 150 < s.size
  · obtain ⟨b, n, t, m, e, c1, c2⟩ := takes_at (s.extract 0 150) (by rw [ByteArray.size_extract]; omega)
    have C1 := Lib.hid c1
    have C2 := Lib.hid c2
    clear c1 c2
    go_enter Tryd.func4, Tryd.ntmps4
    go_wp2_with fail
    refine (C1.out _).mono ?_
    rintro e1 w1 ⟨rfl, hb1⟩
    go_wp2_with fail
    refine (C2.out _).mono ?_
    rintro e2 w2 ⟨rfl, hb2⟩
    have hlt := box_lt hb2
    have hb0 := box_below hb2
    have hc0 := box_cell (i := 0) hb2
    have hc1 := box_cell (i := 1) hb2
    have hc2 := box_cell (i := 2) hb2
    simp at hc0 hc1 hc2
    have hb02 := chain hb1 (Nat.le_refl _) hb0
    have hb03 := hb02.alloc hb02.size (.cells #[.bool b, .int .i64 n, .string t] 23)
    have Hp2 := Lib.hid (Hp.out.later hb03)
    go_wp2_with (go_at_call 17; refine (awake_any _ Hp2.out).mono ?_; rintro e3 w3 ⟨rfl, hb3⟩)
    go_ret
    exact ⟨rfl, chain hb03 (Nat.le_refl _) hb3⟩
  · obtain ⟨b, n, t, m, e, c1, c2⟩ := takes_at s (by omega)
    have C1 := Lib.hid c1
    have C2 := Lib.hid c2
    have hsm : s.size ≤ 150 := by omega
    clear c1 c2 hbig
    go_enter Tryd.func4, Tryd.ntmps4
    go_wp2_with fail
    refine (C1.out _).mono ?_
    rintro e1 w1 ⟨rfl, hb1⟩
    go_wp2_with fail
    refine (C2.out _).mono ?_
    rintro e2 w2 ⟨rfl, hb2⟩
    have hlt := box_lt hb2
    have hb0 := box_below hb2
    have hc0 := box_cell (i := 0) hb2
    have hc1 := box_cell (i := 1) hb2
    have hc2 := box_cell (i := 2) hb2
    simp at hc0 hc1 hc2
    have hb02 := chain hb1 (Nat.le_refl _) hb0
    have hb03 := hb02.alloc hb02.size (.cells #[.bool b, .int .i64 n, .string t] 23)
    have Hp2 := Lib.hid (Hp.out.later hb03)
    go_wp2_with (go_at_call 17; refine (awake_any _ Hp2.out).mono ?_; rintro e3 w3 ⟨rfl, hb3⟩)
    go_ret
    exact ⟨rfl, chain hb03 (Nat.le_refl _) hb3⟩
end Go.Proofs.YtkakldlfgnijdaaDoor
