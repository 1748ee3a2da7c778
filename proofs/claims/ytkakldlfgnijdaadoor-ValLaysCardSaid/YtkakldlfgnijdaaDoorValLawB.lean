/- Layer 3: the walk of the law ValBehind. -/
import Derived.Test.YtkakldlfgnijdaaDoorValG
import Derived.Test.YtkakldlfgnijdaaDoorPowLaid
namespace Go.Proofs.YtkakldlfgnijdaaDoor
open Go.RowKit
/-- A box that is written anew. -/
theorem box_set {w1 : World} {g : Nat} {x0 x1 x2 y0 y1 y2 : Value} (h0 : w1.cell? ⟨g, 0, none⟩ = some x0) (h1 : w1.cell? ⟨g, 1, none⟩ = some x1) (h2 : w1.cell? ⟨g, 2, none⟩ = some x2) :
    (((w1.setCell ⟨g, 0, none⟩ y0).setCell ⟨g, 1, none⟩ y1).setCell ⟨g, 2, none⟩ y2).cell? ⟨g, 0, none⟩ = some y0 ∧
    (((w1.setCell ⟨g, 0, none⟩ y0).setCell ⟨g, 1, none⟩ y1).setCell ⟨g, 2, none⟩ y2).cell? ⟨g, 1, none⟩ = some y1 ∧
    (((w1.setCell ⟨g, 0, none⟩ y0).setCell ⟨g, 1, none⟩ y1).setCell ⟨g, 2, none⟩ y2).cell? ⟨g, 2, none⟩ = some y2 ∧
    (((w1.setCell ⟨g, 0, none⟩ y0).setCell ⟨g, 1, none⟩ y1).setCell ⟨g, 2, none⟩ y2).heap.size = w1.heap.size := by
  refine ⟨by simp [go_sem, h0], by simp [go_sem, h1], by simp [go_sem, h2], by simp [World.setCell]⟩
set_option maxRecDepth 100000 in
set_option maxHeartbeats 1000000 in
theorem valBehind_walk (b : Bool) (n : Int) (s r0 : ByteArray) (w : World) (hp : Pow w) (h0 : -9223372036854775808 ≤ n) (h1 : n ≤ 9223372036854775807) (_hs : s.size ≤ maxLen) (hr : r0.size ≤ maxLen) :
    Calls Tryd.prog 8 #[.agg #[.bool b, .int .i64 n, .string s], .string r0] w fun e w' => e = .returned (.bool true) ∧ Below w.heap.size w w' := by
  unfold maxLen at hr
  have Hp := Lib.hid hp
  obtain ⟨t, ht⟩ : ∃ t, t = fw s := ⟨_, rfl⟩
  have cf := few_any b n s
  rw [← ht] at cf
  have Cf := Lib.hid cf
  clear hp cf ht
  by_cases hm : mayB b n t = true
  · obtain ⟨L, hL1, hL2, cl, ct, cc⟩ := lays_back b n t h0 h1 hm
    have hln := toList_ne L (by omega)
    have hle := toList_isEmpty L (by omega)
    have Cl := Lib.hid cl
    have Cc := Lib.hid cc
    by_cases hbig : 60 < r0.size
    · have Ct := Lib.hid (ct (r0.extract 0 60) (by rw [ByteArray.size_extract]; omega))
      have hrs : (r0.extract 0 60).size ≤ 60 := by rw [ByteArray.size_extract]; omega
      clear cl ct cc hm
      go_enter Tryd.func8, Tryd.ntmps8
      go_wp2_with fail
      refine (Cf.out _).mono ?_
      rintro e1 w1 ⟨rfl, hb1⟩
      have hlt := box_lt hb1
      have hb0 := box_below hb1
      have hc0 := box_cell (i := 0) hb1
      have hc1 := box_cell (i := 1) hb1
      have hc2 := box_cell (i := 2) hb1
      have hf0 := hb1.frozen (p := ⟨w.heap.size, 0, none⟩) (by simp)
      have hf1 := hb1.frozen (p := ⟨w.heap.size, 1, none⟩) (by simp)
      have hf2 := hb1.frozen (p := ⟨w.heap.size, 2, none⟩) (by simp)
      simp at hc0 hc1 hc2 hf0 hf1 hf2
      go_wp2_with fail
      have hset := box_set (y0 := .bool b) (y1 := .int .i64 n) (y2 := .string t) hc0 hc1 hc2
      have hbW := ((hb0.setCell (p := ⟨w.heap.size, 0, none⟩) (Nat.le_refl _) (.bool b)).setCell (p := ⟨w.heap.size, 1, none⟩) (Nat.le_refl _) (.int .i64 n)).setCell (p := ⟨w.heap.size, 2, none⟩) (Nat.le_refl _) (.string t)
      generalize hW : ((w1.setCell ⟨w.heap.size, 0, none⟩ (.bool b)).setCell ⟨w.heap.size, 1, none⟩ (.int .i64 n)).setCell ⟨w.heap.size, 2, none⟩ (.string t) = W at *
      obtain ⟨k0, k1, k2, kz⟩ := hset
      have hWlt : w.heap.size < W.heap.size := by omega
      clear hc0 hc1 hc2 hf0 hf1 hf2 hb1 hW kz
      refine (Cl.out _).mono ?_
      rintro e2 w2 ⟨rfl, hb2⟩
      have hb02 := chain hbW (Nat.le_refl _) hb2
      have hz2 := Nat.lt_of_lt_of_le hWlt hb2.size
      have l0 := lift_cell k0 hb2 hWlt
      have l1 := lift_cell k1 hb2 hWlt
      have l2 := lift_cell k2 hb2 hWlt
      clear k0 k1 k2 hb2 hbW
      go_wp2_with fail
      refine (Ct.out _).mono ?_
      rintro e3 w3 ⟨rfl, hb3⟩
      have hb03 := chain hb02 (Nat.le_refl _) hb3
      have hz3 := Nat.lt_of_lt_of_le hz2 hb3.size
      have m0 := lift_cell l0 hb3 hz2
      have m1 := lift_cell l1 hb3 hz2
      have m2 := lift_cell l2 hb3 hz2
      clear l0 l1 l2 hb3 hb02
      go_wp2_with fail
      refine (Cc.out _ (by omega) _).mono ?_
      rintro e4 w4 ⟨rfl, hb4⟩
      have hb4' := box_below hb4
      have hb04 := chain hb03 (Nat.le_refl _) hb4'
      have n0 := lift_cell m0 hb4' hz3
      have n1 := lift_cell m1 hb4' hz3
      have n2 := lift_cell m2 hb4' hz3
      have p0 := box_cell (i := 0) hb4
      have p1 := box_cell (i := 1) hb4
      have p2 := box_cell (i := 2) hb4
      have hz4 := Nat.lt_of_lt_of_le hz3 hb4'.size
      have hz5 := box_lt hb4
      simp at p0 p1 p2
      have hb05 := hb04.alloc hb04.size (.cells #[.bool false, .int .i64 0, .string ⟨#[]⟩] 23)
      have Hp5 := Lib.hid (Hp.out.later hb05)
      clear m0 m1 m2 hb03 hb4' hb4
      go_wp2_with (go_at_call 17; refine (awake_any _ Hp5.out).mono ?_; rintro e6 w6 ⟨rfl, hb6⟩)
      go_ret
      exact ⟨rfl, chain hb05 (Nat.le_refl _) hb6⟩
    · have Ct := Lib.hid (ct r0 (by omega))
      have hrs : r0.size ≤ 60 := by omega
      clear cl ct cc hm hbig
      go_enter Tryd.func8, Tryd.ntmps8
      go_wp2_with fail
      refine (Cf.out _).mono ?_
      rintro e1 w1 ⟨rfl, hb1⟩
      have hlt := box_lt hb1
      have hb0 := box_below hb1
      have hc0 := box_cell (i := 0) hb1
      have hc1 := box_cell (i := 1) hb1
      have hc2 := box_cell (i := 2) hb1
      have hf0 := hb1.frozen (p := ⟨w.heap.size, 0, none⟩) (by simp)
      have hf1 := hb1.frozen (p := ⟨w.heap.size, 1, none⟩) (by simp)
      have hf2 := hb1.frozen (p := ⟨w.heap.size, 2, none⟩) (by simp)
      simp at hc0 hc1 hc2 hf0 hf1 hf2
      go_wp2_with fail
      have hset := box_set (y0 := .bool b) (y1 := .int .i64 n) (y2 := .string t) hc0 hc1 hc2
      have hbW := ((hb0.setCell (p := ⟨w.heap.size, 0, none⟩) (Nat.le_refl _) (.bool b)).setCell (p := ⟨w.heap.size, 1, none⟩) (Nat.le_refl _) (.int .i64 n)).setCell (p := ⟨w.heap.size, 2, none⟩) (Nat.le_refl _) (.string t)
      generalize hW : ((w1.setCell ⟨w.heap.size, 0, none⟩ (.bool b)).setCell ⟨w.heap.size, 1, none⟩ (.int .i64 n)).setCell ⟨w.heap.size, 2, none⟩ (.string t) = W at *
      obtain ⟨k0, k1, k2, kz⟩ := hset
      have hWlt : w.heap.size < W.heap.size := by omega
      clear hc0 hc1 hc2 hf0 hf1 hf2 hb1 hW kz
      refine (Cl.out _).mono ?_
      rintro e2 w2 ⟨rfl, hb2⟩
      have hb02 := chain hbW (Nat.le_refl _) hb2
      have hz2 := Nat.lt_of_lt_of_le hWlt hb2.size
      have l0 := lift_cell k0 hb2 hWlt
      have l1 := lift_cell k1 hb2 hWlt
      have l2 := lift_cell k2 hb2 hWlt
      clear k0 k1 k2 hb2 hbW
      go_wp2_with fail
      refine (Ct.out _).mono ?_
      rintro e3 w3 ⟨rfl, hb3⟩
      have hb03 := chain hb02 (Nat.le_refl _) hb3
      have hz3 := Nat.lt_of_lt_of_le hz2 hb3.size
      have m0 := lift_cell l0 hb3 hz2
      have m1 := lift_cell l1 hb3 hz2
      have m2 := lift_cell l2 hb3 hz2
      clear l0 l1 l2 hb3 hb02
      go_wp2_with fail
      refine (Cc.out _ (by omega) _).mono ?_
      rintro e4 w4 ⟨rfl, hb4⟩
      have hb4' := box_below hb4
      have hb04 := chain hb03 (Nat.le_refl _) hb4'
      have n0 := lift_cell m0 hb4' hz3
      have n1 := lift_cell m1 hb4' hz3
      have n2 := lift_cell m2 hb4' hz3
      have p0 := box_cell (i := 0) hb4
      have p1 := box_cell (i := 1) hb4
      have p2 := box_cell (i := 2) hb4
      have hz4 := Nat.lt_of_lt_of_le hz3 hb4'.size
      have hz5 := box_lt hb4
      simp at p0 p1 p2
      have hb05 := hb04.alloc hb04.size (.cells #[.bool false, .int .i64 0, .string ⟨#[]⟩] 23)
      have Hp5 := Lib.hid (Hp.out.later hb05)
      clear m0 m1 m2 hb03 hb4' hb4
      go_wp2_with (go_at_call 17; refine (awake_any _ Hp5.out).mono ?_; rintro e6 w6 ⟨rfl, hb6⟩)
      go_ret
      exact ⟨rfl, chain hb05 (Nat.le_refl _) hb6⟩
  · have hm' : mayB b n t = false := by simpa using hm
    have Cl := Lib.hid (lay_bad b n t · hm')
    clear hm hm'
    by_cases hbig : 60 < r0.size
    all_goals
      go_enter Tryd.func8, Tryd.ntmps8
      go_wp2_with fail
      refine (Cf.out _).mono ?_
      rintro e1 w1 ⟨rfl, hb1⟩
      have hlt := box_lt hb1
      have hb0 := box_below hb1
      have hc0 := box_cell (i := 0) hb1
      have hc1 := box_cell (i := 1) hb1
      have hc2 := box_cell (i := 2) hb1
      have hf0 := hb1.frozen (p := ⟨w.heap.size, 0, none⟩) (by simp)
      have hf1 := hb1.frozen (p := ⟨w.heap.size, 1, none⟩) (by simp)
      have hf2 := hb1.frozen (p := ⟨w.heap.size, 2, none⟩) (by simp)
      simp at hc0 hc1 hc2 hf0 hf1 hf2
      go_wp2_with fail
      have hset := box_set (y0 := .bool b) (y1 := .int .i64 n) (y2 := .string t) hc0 hc1 hc2
      have hbW := ((hb0.setCell (p := ⟨w.heap.size, 0, none⟩) (Nat.le_refl _) (.bool b)).setCell (p := ⟨w.heap.size, 1, none⟩) (Nat.le_refl _) (.int .i64 n)).setCell (p := ⟨w.heap.size, 2, none⟩) (Nat.le_refl _) (.string t)
      generalize hW : ((w1.setCell ⟨w.heap.size, 0, none⟩ (.bool b)).setCell ⟨w.heap.size, 1, none⟩ (.int .i64 n)).setCell ⟨w.heap.size, 2, none⟩ (.string t) = W at *
      obtain ⟨k0, k1, k2, kz⟩ := hset
      have hWlt : w.heap.size < W.heap.size := by omega
      clear hc0 hc1 hc2 hf0 hf1 hf2 hb1 hW kz
      refine (Cl.out _).mono ?_
      rintro e2 w2 ⟨rfl, hb2⟩
      have hb02 := chain hbW (Nat.le_refl _) hb2
      have Hp2 := Lib.hid (Hp.out.later hb02)
      clear k0 k1 k2 hb2 hbW
      go_wp2_with (go_at_call 17; refine (awake_any _ Hp2.out).mono ?_; rintro e6 w6 ⟨rfl, hb6⟩)
      go_ret
      exact ⟨rfl, chain hb02 (Nat.le_refl _) hb6⟩
end Go.Proofs.YtkakldlfgnijdaaDoor
