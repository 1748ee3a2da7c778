/- Layer 3: the walk of the law ValLays. -/
import Derived.Test.YtkakldlfgnijdaaDoorValR
import Derived.Test.YtkakldlfgnijdaaDoorValLawD
namespace Go.Proofs.YtkakldlfgnijdaaDoor
open Go.RowKit
theorem keep6 {B : Nat} {w0 W w' : World} {x0 x1 x2 y0 y1 y2 : Value} (hb : Below W.heap.size W w') (a0 : W.cell? ⟨B, 0, none⟩ = some x0) (a1 : W.cell? ⟨B, 1, none⟩ = some x1) (a2 : W.cell? ⟨B, 2, none⟩ = some x2)
    (b0 : W.cell? ⟨B + 1, 0, none⟩ = some y0) (b1 : W.cell? ⟨B + 1, 1, none⟩ = some y1) (b2 : W.cell? ⟨B + 1, 2, none⟩ = some y2) (hs : B + 1 < W.heap.size) (hB : Below B w0 W) :
    w'.cell? ⟨B, 0, none⟩ = some x0 ∧ w'.cell? ⟨B, 1, none⟩ = some x1 ∧ w'.cell? ⟨B, 2, none⟩ = some x2 ∧ w'.cell? ⟨B + 1, 0, none⟩ = some y0 ∧ w'.cell? ⟨B + 1, 1, none⟩ = some y1 ∧ w'.cell? ⟨B + 1, 2, none⟩ = some y2 ∧ B + 1 < w'.heap.size ∧ Below B w0 w' :=
  ⟨lift_cell a0 hb (by omega), lift_cell a1 hb (by omega), lift_cell a2 hb (by omega), lift_cell b0 hb (by omega), lift_cell b1 hb (by omega), lift_cell b2 hb (by omega), Nat.lt_of_lt_of_le hs hb.size, hB.trans (hb.mono (by omega))⟩
set_option maxRecDepth 100000 in
set_option maxHeartbeats 4000000 in
theorem valLays_walk (b : Bool) (n : Int) (s : ByteArray) (b' : Bool) (n' : Int) (s' : ByteArray) (w : World) (hp : Pow w)
    (h0 : -9223372036854775808 ≤ n) (h1 : n ≤ 9223372036854775807) (_hs : s.size ≤ maxLen) (_h0' : -9223372036854775808 ≤ n') (_h1' : n' ≤ 9223372036854775807) (_hs' : s'.size ≤ maxLen) :
    Calls Tryd.prog 3 #[.agg #[.bool b, .int .i64 n, .string s], .agg #[.bool b', .int .i64 n', .string s']] w fun e w' => e = .returned (.bool true) ∧ Below w.heap.size w w' := by
  have Hp := Lib.hid hp
  obtain ⟨t, ht⟩ : ∃ t, t = fw s := ⟨_, rfl⟩
  obtain ⟨t', ht'⟩ : ∃ t', t' = fw s' := ⟨_, rfl⟩
  have C1 := few_any b n s
  have C2 := few_any b' n' s'
  rw [← ht] at C1
  rw [← ht'] at C2
  have D1 := Lib.hid C1
  have D2 := Lib.hid C2
  clear hp C1 C2 ht ht'
  go_enter Tryd.func3, Tryd.ntmps3
  go_upto_region 1 with fail
  go_cut [] (fun wx => Two w.heap.size w wx b n t b' n' t')
  case first =>
    go_wp2_with fail
    have T0 : Two w.heap.size w ((w.alloc (.cells #[.bool b, .int .i64 n, .string s] 23)).alloc (.cells #[.bool b', .int .i64 n', .string s'] 23)) b n s b' n' s' := by
      refine ⟨⟨?_, ?_, ?_, ?_, ?_, ?_⟩, ⟨?_, ?_, ?_, ?_, ?_, ?_⟩, by simp, ((Below.refl _ _).alloc (Nat.le_refl _) _).alloc (by simp) _⟩
      all_goals simp [go_sem]
    generalize (w.alloc (.cells #[.bool b, .int .i64 n, .string s] 23)).alloc (.cells #[.bool b', .int .i64 n', .string s'] 23) = W at *
    have qxc0 := T0.x.c0; have qxc1 := T0.x.c1; have qxc2 := T0.x.c2; have qxf0 := T0.x.f0; have qxf1 := T0.x.f1; have qxf2 := T0.x.f2; have qyc0 := T0.y.c0; have qyc1 := T0.y.c1; have qyc2 := T0.y.c2; have qyf0 := T0.y.f0; have qyf1 := T0.y.f1; have qyf2 := T0.y.f2
    go_region_with (go_at_call 10; (with_reducible first | refine (D1.out _).mono ?_ | refine (D2.out _).mono ?_); rintro e w1 ⟨rfl, hb1⟩; (first | (have T1 := Two.step (by assumption) (below_undrew hb1)) | (have T1 := Two.step (by assumption) hb1)); have rxc0 := T1.x.c0; have rxc1 := T1.x.c1; have rxc2 := T1.x.c2; have rxf0 := T1.x.f0; have rxf1 := T1.x.f1; have rxf2 := T1.x.f2; have ryc0 := T1.y.c0; have ryc1 := T1.y.c1; have ryc2 := T1.y.c2; have ryf0 := T1.y.f0; have ryf1 := T1.y.f1; have ryf2 := T1.y.f2)
    all_goals go_wp2_with fail
    all_goals go_meet
    all_goals exact Two.store (by assumption) _ _ _ _ _ _
  case rest =>
    have T0 := hcut
    clear D1 D2 hcut
    have o1 := fun w => order_any b n t b' n' t' w
    have o2 := fun w => rorder_any b n t b' n' t' w
    have ob := ordV_bd b n t b' n' t'
    have m1 := fun w => may_any b n t w
    have m2 := fun w => rmay_any b n t w
    generalize ordV b n t b' n' t' = X at *
    have O1 := Lib.hid o1
    have O2 := Lib.hid o2
    clear o1 o2
    by_cases hm : mayB b n t = true
    · obtain ⟨L, P, hL1, hL2, hP1, hP2, cl, cl', cw, cw', ct, cr⟩ := lays_all b n t h0 h1 hm
      rw [hm] at m1 m2
      have M1 := Lib.hid m1
      have M2 := Lib.hid m2
      have Cl := Lib.hid cl
      have Cl' := Lib.hid cl'
      have Cw := Lib.hid cw
      have Cw' := Lib.hid cw'
      have Ct := Lib.hid ct
      have Cr := Lib.hid cr
      clear m1 m2 cl cl' cw cw' ct cr hm
      have q0xc0 := T0.x.c0; have q0xc1 := T0.x.c1; have q0xc2 := T0.x.c2; have q0yc0 := T0.y.c0; have q0yc1 := T0.y.c1; have q0yc2 := T0.y.c2
      go_wp2_with fail
      refine (Cl.out _).mono ?_
      rintro e1 w1 ⟨rfl, hb1⟩
      have T1 := T0.step hb1
      clear q0xc0 q0xc1 q0xc2 q0yc0 q0yc1 q0yc2 T0
      have q1xc0 := T1.x.c0; have q1xc1 := T1.x.c1; have q1xc2 := T1.x.c2; have q1yc0 := T1.y.c0; have q1yc1 := T1.y.c1; have q1yc2 := T1.y.c2
      go_wp2_with fail
      refine (Cw.out _ (Hp.out.later T1.below)).mono ?_
      rintro e2 w2 ⟨rfl, hb2⟩
      have T2 := T1.step hb2
      clear q1xc0 q1xc1 q1xc2 q1yc0 q1yc1 q1yc2 T1
      have qxc0 := T2.x.c0; have qxc1 := T2.x.c1; have qxc2 := T2.x.c2; have qyc0 := T2.y.c0; have qyc1 := T2.y.c1; have qyc2 := T2.y.c2
      have hsz := T2.size
      have hbl := T2.below
      go_wp2_with fail
      go_region_held3 (fun w' => w'.cell? ⟨w.heap.size, 0, none⟩ = some (.bool b) ∧ w'.cell? ⟨w.heap.size, 1, none⟩ = some (.int .i64 n) ∧ w'.cell? ⟨w.heap.size, 2, none⟩ = some (.string t) ∧ w'.cell? ⟨w.heap.size + 1, 0, none⟩ = some (.bool b') ∧ w'.cell? ⟨w.heap.size + 1, 1, none⟩ = some (.int .i64 n') ∧ w'.cell? ⟨w.heap.size + 1, 2, none⟩ = some (.string t') ∧ w.heap.size + 1 < w'.heap.size ∧ Below w.heap.size w w') (first | (exact ⟨qxc0, qxc1, qxc2, qyc0, qyc1, qyc2, hsz, hbl.drew⟩) | (go_split_ands; exact keep6 hb1 (by assumption) (by assumption) (by assumption) (by assumption) (by assumption) (by assumption) (by assumption) (by assumption))) (first | (go_at_call 15; (with_reducible refine (O1.out _).mono ?_); rintro e w1 ⟨rfl, hb1⟩) | (go_at_call 16; (with_reducible refine (O2.out _).mono ?_); rintro e w1 ⟨rfl, hb1⟩) | (go_at_call 13; (with_reducible refine (M1.out _).mono ?_); rintro e w1 ⟨rfl, hb1⟩) | (go_at_call 14; (with_reducible refine (M2.out _).mono ?_); rintro e w1 ⟨rfl, hb1⟩))
      go_split_ands
      have x0 : w1.cell? ⟨w.heap.size, 0, none⟩ = some (.bool b) := by assumption
      have x1 : w1.cell? ⟨w.heap.size, 1, none⟩ = some (.int .i64 n) := by assumption
      have x2 : w1.cell? ⟨w.heap.size, 2, none⟩ = some (.string t) := by assumption
      have sz1 : w.heap.size + 1 < w1.heap.size := by assumption
      have bl1 : Below w.heap.size w w1 := by assumption
      clear qxc0 qxc1 qxc2 qyc0 qyc1 qyc2 T2
      go_wp2_with fail
      refine (M2.out _).mono ?_
      rintro e3 w3 ⟨rfl, hb3⟩
      have a0 := lift_cell x0 hb3 (by omega)
      have a1 := lift_cell x1 hb3 (by omega)
      have a2 := lift_cell x2 hb3 (by omega)
      have sz3 : w.heap.size + 1 < w3.heap.size := Nat.lt_of_lt_of_le sz1 hb3.size
      have bl3 := bl1.trans (hb3.mono (by omega))
      clear x0 x1 x2
      go_wp2_with fail
      refine (Ct.out _).mono ?_
      rintro e4 w4 ⟨rfl, hb4⟩
      have a0 := lift_cell a0 hb4 (by omega)
      have a1 := lift_cell a1 hb4 (by omega)
      have a2 := lift_cell a2 hb4 (by omega)
      have sz4 : w.heap.size + 1 < w4.heap.size := Nat.lt_of_lt_of_le sz3 hb4.size
      have bl4 := bl3.trans (hb4.mono (by omega))
      go_wp2_with fail
      refine (Cr.out _).mono ?_
      rintro e5 w5 ⟨rfl, hb5⟩
      have hb5' := box_below hb5
      have a0 := lift_cell a0 hb5' (by omega)
      have a1 := lift_cell a1 hb5' (by omega)
      have a2 := lift_cell a2 hb5' (by omega)
      have c0 := box_cell (i := 0) hb5
      have c1 := box_cell (i := 1) hb5
      have c2 := box_cell (i := 2) hb5
      have lt5 := box_lt hb5
      simp at c0 c1 c2
      have sz5 : w.heap.size + 1 < w5.heap.size := Nat.lt_of_lt_of_le sz4 hb5'.size
      have bl5 := bl4.trans (hb5'.mono (by omega))
      have lt5' : w.heap.size < w5.heap.size := by omega
      clear hb5
      go_wp2_with fail
      refine (Cl'.out _).mono ?_
      rintro e6 w6 ⟨rfl, hb6⟩
      have hb6' := box_below hb6
      have a0 := lift_cell a0 hb6' (by omega)
      have a1 := lift_cell a1 hb6' (by omega)
      have a2 := lift_cell a2 hb6' (by omega)
      have c0 := lift_cell c0 hb6' (by omega)
      have c1 := lift_cell c1 hb6' (by omega)
      have c2 := lift_cell c2 hb6' (by omega)
      have d0 := box_cell (i := 0) hb6
      have d1 := box_cell (i := 1) hb6
      have d2 := box_cell (i := 2) hb6
      have lt6 := box_lt hb6
      simp at d0 d1 d2
      have sz6 : w.heap.size + 1 < w6.heap.size := Nat.lt_of_lt_of_le sz5 hb6'.size
      have bl6 := bl5.trans (hb6'.mono (by omega))
      have lt6' : w.heap.size < w6.heap.size := by omega
      clear hb6
      go_wp2_with fail
      refine (Cw'.out _).mono ?_
      rintro e7 w7 ⟨rfl, hb7⟩
      have a0 := lift_cell a0 hb7 (by omega)
      have a1 := lift_cell a1 hb7 (by omega)
      have a2 := lift_cell a2 hb7 (by omega)
      have c0 := lift_cell c0 hb7 (by omega)
      have c1 := lift_cell c1 hb7 (by omega)
      have c2 := lift_cell c2 hb7 (by omega)
      have d0 := lift_cell d0 hb7 (by omega)
      have d1 := lift_cell d1 hb7 (by omega)
      have d2 := lift_cell d2 hb7 (by omega)
      have bl7 := bl6.trans (hb7.mono (by omega))
      have Hp7 := Lib.hid (Hp.out.later bl7)
      go_wp2_with (go_at_call 17; refine (awake_any _ Hp7.out).mono ?_; rintro e8 w8 ⟨rfl, hb8⟩)
      go_ret
      exact ⟨rfl, chain bl7 (Nat.le_refl _) hb8⟩
    · have hm' : mayB b n t = false := by simpa using hm
      rw [hm'] at m1 m2
      have M1 := Lib.hid m1
      have M2 := Lib.hid m2
      have Cl := Lib.hid (fun w => lay_bad b n t w hm')
      have Cw := Lib.hid (fun w => write_bad b n t w hm')
      clear m1 m2 hm hm'
      have q0xc0 := T0.x.c0; have q0xc1 := T0.x.c1; have q0xc2 := T0.x.c2; have q0yc0 := T0.y.c0; have q0yc1 := T0.y.c1; have q0yc2 := T0.y.c2
      go_wp2_with fail
      refine (Cl.out _).mono ?_
      rintro e1 w1 ⟨rfl, hb1⟩
      have T1 := T0.step hb1
      clear q0xc0 q0xc1 q0xc2 q0yc0 q0yc1 q0yc2 T0
      have q1xc0 := T1.x.c0; have q1xc1 := T1.x.c1; have q1xc2 := T1.x.c2; have q1yc0 := T1.y.c0; have q1yc1 := T1.y.c1; have q1yc2 := T1.y.c2
      go_wp2_with fail
      refine (Cw.out _).mono ?_
      rintro e2 w2 ⟨rfl, hb2⟩
      have T2 := T1.step hb2
      clear q1xc0 q1xc1 q1xc2 q1yc0 q1yc1 q1yc2 T1
      have qxc0 := T2.x.c0; have qxc1 := T2.x.c1; have qxc2 := T2.x.c2; have qyc0 := T2.y.c0; have qyc1 := T2.y.c1; have qyc2 := T2.y.c2
      have hsz := T2.size
      have hbl := T2.below
      go_wp2_with fail
      go_region_held3 (fun w' => w'.cell? ⟨w.heap.size, 0, none⟩ = some (.bool b) ∧ w'.cell? ⟨w.heap.size, 1, none⟩ = some (.int .i64 n) ∧ w'.cell? ⟨w.heap.size, 2, none⟩ = some (.string t) ∧ w'.cell? ⟨w.heap.size + 1, 0, none⟩ = some (.bool b') ∧ w'.cell? ⟨w.heap.size + 1, 1, none⟩ = some (.int .i64 n') ∧ w'.cell? ⟨w.heap.size + 1, 2, none⟩ = some (.string t') ∧ w.heap.size + 1 < w'.heap.size ∧ Below w.heap.size w w') (first | (exact ⟨qxc0, qxc1, qxc2, qyc0, qyc1, qyc2, hsz, hbl.drew⟩) | (go_split_ands; exact keep6 hb1 (by assumption) (by assumption) (by assumption) (by assumption) (by assumption) (by assumption) (by assumption) (by assumption))) (first | (go_at_call 15; (with_reducible refine (O1.out _).mono ?_); rintro e w1 ⟨rfl, hb1⟩) | (go_at_call 16; (with_reducible refine (O2.out _).mono ?_); rintro e w1 ⟨rfl, hb1⟩) | (go_at_call 13; (with_reducible refine (M1.out _).mono ?_); rintro e w1 ⟨rfl, hb1⟩) | (go_at_call 14; (with_reducible refine (M2.out _).mono ?_); rintro e w1 ⟨rfl, hb1⟩))
      go_split_ands
      have x0 : w1.cell? ⟨w.heap.size, 0, none⟩ = some (.bool b) := by assumption
      have x1 : w1.cell? ⟨w.heap.size, 1, none⟩ = some (.int .i64 n) := by assumption
      have x2 : w1.cell? ⟨w.heap.size, 2, none⟩ = some (.string t) := by assumption
      have sz1 : w.heap.size + 1 < w1.heap.size := by assumption
      have bl1 : Below w.heap.size w w1 := by assumption
      clear qxc0 qxc1 qxc2 qyc0 qyc1 qyc2 T2
      go_wp2_with fail
      refine (M2.out _).mono ?_
      rintro e3 w3 ⟨rfl, hb3⟩
      have bl3 := bl1.trans (hb3.mono (by omega))
      have Hp3 := Lib.hid (Hp.out.later bl3)
      go_wp2_with (go_at_call 17; refine (awake_any _ Hp3.out).mono ?_; rintro e8 w8 ⟨rfl, hb8⟩)
      go_ret
      exact ⟨rfl, chain bl3 (Nat.le_refl _) hb8⟩
end Go.Proofs.YtkakldlfgnijdaaDoor
