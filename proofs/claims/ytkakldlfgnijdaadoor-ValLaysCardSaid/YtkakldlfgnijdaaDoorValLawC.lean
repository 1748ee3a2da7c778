/- Layer 3: the walk of the law ValOrders. -/
import Derived.Test.YtkakldlfgnijdaaDoorValH
import Derived.Test.YtkakldlfgnijdaaDoorValLawB
import Derived.Deep.DeepCutAuto
import Derived.Deep.RegionHeld3
namespace Go.Proofs.YtkakldlfgnijdaaDoor
open Go.RowKit
/-- A box in a world: its three cells, none of them frozen. -/
structure Boxed (w : World) (g : Nat) (b : Bool) (n : Int) (s : ByteArray) : Prop where
  c0 : w.cell? ⟨g, 0, none⟩ = some (.bool b)
  c1 : w.cell? ⟨g, 1, none⟩ = some (.int .i64 n)
  c2 : w.cell? ⟨g, 2, none⟩ = some (.string s)
  f0 : w.frozen? ⟨g, 0, none⟩ = false
  f1 : w.frozen? ⟨g, 1, none⟩ = false
  f2 : w.frozen? ⟨g, 2, none⟩ = false
theorem Boxed.lift {w w' : World} {g : Nat} {b : Bool} {n : Int} {s : ByteArray} (h : Boxed w g b n s) (hb : Below w.heap.size w w') (hg : g < w.heap.size) : Boxed w' g b n s :=
  ⟨(hb.cell (p := ⟨g, 0, none⟩) hg).trans h.c0, (hb.cell (p := ⟨g, 1, none⟩) hg).trans h.c1, (hb.cell (p := ⟨g, 2, none⟩) hg).trans h.c2, (hb.frozen (p := ⟨g, 0, none⟩) hg).trans h.f0, (hb.frozen (p := ⟨g, 1, none⟩) hg).trans h.f1, (hb.frozen (p := ⟨g, 2, none⟩) hg).trans h.f2⟩
/-- Three boxes in a world, behind the blocks that were there. -/
structure Three (B : Nat) (w0 w : World) (b : Bool) (n : Int) (s : ByteArray) (b' : Bool) (n' : Int) (s' : ByteArray) (b'' : Bool) (n'' : Int) (s'' : ByteArray) : Prop where
  x : Boxed w B b n s
  y : Boxed w (B + 1) b' n' s'
  z : Boxed w (B + 1 + 1) b'' n'' s''
  size : B + 1 + 1 < w.heap.size
  below : Below B w0 w
theorem Three.step {B : Nat} {w0 w w' : World} {b : Bool} {n : Int} {s : ByteArray} {b' : Bool} {n' : Int} {s' : ByteArray} {b'' : Bool} {n'' : Int} {s'' : ByteArray} (h : Three B w0 w b n s b' n' s' b'' n'' s'') (hb : Below w.heap.size w w') : Three B w0 w' b n s b' n' s' b'' n'' s'' :=
  ⟨h.x.lift hb (by have := h.size; omega), h.y.lift hb (by have := h.size; omega), h.z.lift hb (by have := h.size; omega), Nat.lt_of_lt_of_le h.size hb.size, h.below.trans (hb.mono (by have := h.size; omega))⟩
theorem Three.store {B : Nat} {w0 w : World} {b : Bool} {n : Int} {s : ByteArray} {b' : Bool} {n' : Int} {s' : ByteArray} {b'' : Bool} {n'' : Int} {s'' : ByteArray} (h : Three B w0 w b n s b' n' s' b'' n'' s'') (c : Bool) (m : Int) (t : ByteArray) (c' : Bool) (m' : Int) (t' : ByteArray) (c'' : Bool) (m'' : Int) (t'' : ByteArray) :
    Three B w0 (((((((((w.setCell ⟨B, 0, none⟩ (.bool c)).setCell ⟨B, 1, none⟩ (.int .i64 m)).setCell ⟨B, 2, none⟩ (.string t)).setCell ⟨B + 1, 0, none⟩ (.bool c')).setCell ⟨B + 1, 1, none⟩ (.int .i64 m')).setCell ⟨B + 1, 2, none⟩ (.string t')).setCell ⟨B + 1 + 1, 0, none⟩ (.bool c'')).setCell ⟨B + 1 + 1, 1, none⟩ (.int .i64 m'')).setCell ⟨B + 1 + 1, 2, none⟩ (.string t'')) c m t c' m' t' c'' m'' t'' := by
  obtain ⟨⟨x0, x1, x2, xf0, xf1, xf2⟩, ⟨y0, y1, y2, yf0, yf1, yf2⟩, ⟨z0, z1, z2, zf0, zf1, zf2⟩, hz, hb⟩ := h
  refine ⟨⟨?_, ?_, ?_, ?_, ?_, ?_⟩, ⟨?_, ?_, ?_, ?_, ?_, ?_⟩, ⟨?_, ?_, ?_, ?_, ?_, ?_⟩, by simpa [World.setCell] using hz, ?_⟩
  case refine_19 => exact ((((((((hb.setCell (p := ⟨B, 0, none⟩) (Nat.le_refl _) _).setCell (p := ⟨B, 1, none⟩) (Nat.le_refl _) _).setCell (p := ⟨B, 2, none⟩) (Nat.le_refl _) _).setCell (p := ⟨B + 1, 0, none⟩) (Nat.le_succ _) _).setCell (p := ⟨B + 1, 1, none⟩) (Nat.le_succ _) _).setCell (p := ⟨B + 1, 2, none⟩) (Nat.le_succ _) _).setCell (p := ⟨B + 1 + 1, 0, none⟩) (Nat.le_trans (Nat.le_succ _) (Nat.le_succ _)) _).setCell (p := ⟨B + 1 + 1, 1, none⟩) (Nat.le_trans (Nat.le_succ _) (Nat.le_succ _)) _).setCell (p := ⟨B + 1 + 1, 2, none⟩) (Nat.le_trans (Nat.le_succ _) (Nat.le_succ _)) _
  all_goals simp [go_sem, *]
theorem keep9 {B : Nat} {w0 W w' : World} {x0 x1 x2 y0 y1 y2 z0 z1 z2 : Value} (hb : Below W.heap.size W w') (a0 : W.cell? ⟨B, 0, none⟩ = some x0) (a1 : W.cell? ⟨B, 1, none⟩ = some x1) (a2 : W.cell? ⟨B, 2, none⟩ = some x2)
    (b0 : W.cell? ⟨B + 1, 0, none⟩ = some y0) (b1 : W.cell? ⟨B + 1, 1, none⟩ = some y1) (b2 : W.cell? ⟨B + 1, 2, none⟩ = some y2)
    (c0 : W.cell? ⟨B + 1 + 1, 0, none⟩ = some z0) (c1 : W.cell? ⟨B + 1 + 1, 1, none⟩ = some z1) (c2 : W.cell? ⟨B + 1 + 1, 2, none⟩ = some z2) (hs : B + 1 + 1 < W.heap.size) (hB : Below B w0 W) :
    w'.cell? ⟨B, 0, none⟩ = some x0 ∧ w'.cell? ⟨B, 1, none⟩ = some x1 ∧ w'.cell? ⟨B, 2, none⟩ = some x2 ∧ w'.cell? ⟨B + 1, 0, none⟩ = some y0 ∧ w'.cell? ⟨B + 1, 1, none⟩ = some y1 ∧ w'.cell? ⟨B + 1, 2, none⟩ = some y2 ∧
    w'.cell? ⟨B + 1 + 1, 0, none⟩ = some z0 ∧ w'.cell? ⟨B + 1 + 1, 1, none⟩ = some z1 ∧ w'.cell? ⟨B + 1 + 1, 2, none⟩ = some z2 ∧ B + 1 + 1 < w'.heap.size ∧ Below B w0 w' :=
  ⟨lift_cell a0 hb (by omega), lift_cell a1 hb (by omega), lift_cell a2 hb (by omega), lift_cell b0 hb (by omega), lift_cell b1 hb (by omega), lift_cell b2 hb (by omega), lift_cell c0 hb (by omega), lift_cell c1 hb (by omega), lift_cell c2 hb (by omega), Nat.lt_of_lt_of_le hs hb.size, hB.trans (hb.mono (by omega))⟩
set_option maxRecDepth 100000 in
set_option maxHeartbeats 4000000 in
theorem valOrders_walk (b : Bool) (n : Int) (s : ByteArray) (b' : Bool) (n' : Int) (s' : ByteArray) (b'' : Bool) (n'' : Int) (s'' : ByteArray) (w : World) (hp : Pow w)
    (_h0 : -9223372036854775808 ≤ n) (_h1 : n ≤ 9223372036854775807) (_hs : s.size ≤ maxLen) (_h0' : -9223372036854775808 ≤ n') (_h1' : n' ≤ 9223372036854775807) (_hs' : s'.size ≤ maxLen) (_h0'' : -9223372036854775808 ≤ n'') (_h1'' : n'' ≤ 9223372036854775807) (_hs'' : s''.size ≤ maxLen) :
    Calls Tryd.prog 6 #[.agg #[.bool b, .int .i64 n, .string s], .agg #[.bool b', .int .i64 n', .string s'], .agg #[.bool b'', .int .i64 n'', .string s'']] w fun e w' => e = .returned (.bool true) ∧ Below w.heap.size w w' := by
  have Hp := Lib.hid hp
  obtain ⟨t, ht⟩ : ∃ t, t = fw s := ⟨_, rfl⟩
  obtain ⟨t', ht'⟩ : ∃ t', t' = fw s' := ⟨_, rfl⟩
  obtain ⟨t'', ht''⟩ : ∃ t'', t'' = fw s'' := ⟨_, rfl⟩
  have C1 := few_any b n s
  have C2 := few_any b' n' s'
  have C3 := few_any b'' n'' s''
  rw [← ht] at C1
  rw [← ht'] at C2
  rw [← ht''] at C3
  have D1 := Lib.hid C1
  have D2 := Lib.hid C2
  have D3 := Lib.hid C3
  clear hp C1 C2 C3 ht ht' ht''
  go_enter Tryd.func6, Tryd.ntmps6
  go_upto_region 1 with fail
  go_cut [] (fun wx => Three w.heap.size w wx b n t b' n' t' b'' n'' t'')
  case first =>
    go_wp2_with fail
    have T0 : Three w.heap.size w (((w.alloc (.cells #[.bool b, .int .i64 n, .string s] 23)).alloc (.cells #[.bool b', .int .i64 n', .string s'] 23)).alloc (.cells #[.bool b'', .int .i64 n'', .string s''] 23)) b n s b' n' s' b'' n'' s'' := by
      refine ⟨⟨?_, ?_, ?_, ?_, ?_, ?_⟩, ⟨?_, ?_, ?_, ?_, ?_, ?_⟩, ⟨?_, ?_, ?_, ?_, ?_, ?_⟩, by simp, (((Below.refl _ _).alloc (Nat.le_refl _) _).alloc (by simp) _).alloc (by simp; omega) _⟩
      all_goals simp [go_sem]
    generalize ((w.alloc (.cells #[.bool b, .int .i64 n, .string s] 23)).alloc (.cells #[.bool b', .int .i64 n', .string s'] 23)).alloc (.cells #[.bool b'', .int .i64 n'', .string s''] 23) = W at *
    have qxc0 := T0.x.c0; have qxc1 := T0.x.c1; have qxc2 := T0.x.c2; have qxf0 := T0.x.f0; have qxf1 := T0.x.f1; have qxf2 := T0.x.f2; have qyc0 := T0.y.c0; have qyc1 := T0.y.c1; have qyc2 := T0.y.c2; have qyf0 := T0.y.f0; have qyf1 := T0.y.f1; have qyf2 := T0.y.f2; have qzc0 := T0.z.c0; have qzc1 := T0.z.c1; have qzc2 := T0.z.c2; have qzf0 := T0.z.f0; have qzf1 := T0.z.f1; have qzf2 := T0.z.f2
    go_region_with (go_at_call 10; (with_reducible first | refine (D1.out _).mono ?_ | refine (D2.out _).mono ?_ | refine (D3.out _).mono ?_); rintro e w1 ⟨rfl, hb1⟩; (first | (have T1 := Three.step (by assumption) (below_undrew hb1)) | (have T1 := Three.step (by assumption) hb1)); have rxc0 := T1.x.c0; have rxc1 := T1.x.c1; have rxc2 := T1.x.c2; have rxf0 := T1.x.f0; have rxf1 := T1.x.f1; have rxf2 := T1.x.f2; have ryc0 := T1.y.c0; have ryc1 := T1.y.c1; have ryc2 := T1.y.c2; have ryf0 := T1.y.f0; have ryf1 := T1.y.f1; have ryf2 := T1.y.f2; have rzc0 := T1.z.c0; have rzc1 := T1.z.c1; have rzc2 := T1.z.c2; have rzf0 := T1.z.f0; have rzf1 := T1.z.f1; have rzf2 := T1.z.f2)
    all_goals go_wp2_with fail
    all_goals go_meet
    all_goals exact Three.store (by assumption) _ _ _ _ _ _ _ _ _
  case rest =>
    have R1 := ordV_anti b n t b' n' t'
    have R2 := ordV_trans b n t b' n' t' b'' n'' t''
    have R3 := ordV_zero b n t b' n' t'
    have R4 := ordV_bd b n t b' n' t'
    have R5 := ordV_bd b' n' t' b n t
    have o1 := order_any b n t b' n' t'
    have o2 := order_any b' n' t' b'' n'' t''
    have o3 := order_any b n t b'' n'' t''
    have o4 := order_any b' n' t' b n t
    have m1 := may_any b n t
    have m2 := may_any b' n' t'
    generalize ordV b n t b' n' t' = X at *
    generalize ordV b' n' t' b'' n'' t'' = Y at *
    generalize ordV b n t b'' n'' t'' = Z at *
    generalize ordV b' n' t' b n t = X' at *
    generalize mayB b n t = A at *
    generalize mayB b' n' t' = B at *
    have O1 := Lib.hid o1
    have O2 := Lib.hid o2
    have O3 := Lib.hid o3
    have O4 := Lib.hid o4
    have M1 := Lib.hid m1
    have M2 := Lib.hid m2
    have HR2 := Lib.hid R2
    have HR3 := Lib.hid R3
    have bx : (X == -X') = true := by rw [R1]; simp
    have HR1 := Lib.hid R1
    clear o1 o2 o3 o4 m1 m2 R2 R3 R1
    have T0 := hcut
    have qxc0 := T0.x.c0; have qxc1 := T0.x.c1; have qxc2 := T0.x.c2; have qyc0 := T0.y.c0; have qyc1 := T0.y.c1; have qyc2 := T0.y.c2; have qzc0 := T0.z.c0; have qzc1 := T0.z.c1; have qzc2 := T0.z.c2
    have hsz := T0.size
    have hbl := T0.below
    go_wp2_with fail
    go_region_held3 (fun w' => w'.cell? ⟨w.heap.size, 0, none⟩ = some (.bool b) ∧ w'.cell? ⟨w.heap.size, 1, none⟩ = some (.int .i64 n) ∧ w'.cell? ⟨w.heap.size, 2, none⟩ = some (.string t) ∧ w'.cell? ⟨w.heap.size + 1, 0, none⟩ = some (.bool b') ∧ w'.cell? ⟨w.heap.size + 1, 1, none⟩ = some (.int .i64 n') ∧ w'.cell? ⟨w.heap.size + 1, 2, none⟩ = some (.string t') ∧ w'.cell? ⟨w.heap.size + 1 + 1, 0, none⟩ = some (.bool b'') ∧ w'.cell? ⟨w.heap.size + 1 + 1, 1, none⟩ = some (.int .i64 n'') ∧ w'.cell? ⟨w.heap.size + 1 + 1, 2, none⟩ = some (.string t'') ∧ w.heap.size + 1 + 1 < w'.heap.size ∧ Below w.heap.size w w') (first | (exact ⟨qxc0, qxc1, qxc2, qyc0, qyc1, qyc2, qzc0, qzc1, qzc2, hsz, hbl.drew⟩) | (go_split_ands; exact keep9 hb1 (by assumption) (by assumption) (by assumption) (by assumption) (by assumption) (by assumption) (by assumption) (by assumption) (by assumption) (by assumption) (by assumption))) (first | (go_at_call 15; (with_reducible first | refine (O1.out _).mono ?_ | refine (O2.out _).mono ?_ | refine (O3.out _).mono ?_); rintro e w1 ⟨rfl, hb1⟩))
    go_split_ands
    have x0 : w1.cell? ⟨w.heap.size, 0, none⟩ = some (.bool b) := by assumption
    have x1 : w1.cell? ⟨w.heap.size, 1, none⟩ = some (.int .i64 n) := by assumption
    have x2 : w1.cell? ⟨w.heap.size, 2, none⟩ = some (.string t) := by assumption
    have y0 : w1.cell? ⟨w.heap.size + 1, 0, none⟩ = some (.bool b') := by assumption
    have y1 : w1.cell? ⟨w.heap.size + 1, 1, none⟩ = some (.int .i64 n') := by assumption
    have y2 : w1.cell? ⟨w.heap.size + 1, 2, none⟩ = some (.string t') := by assumption
    have sz1 : w.heap.size + 1 + 1 < w1.heap.size := by assumption
    have bl1 : Below w.heap.size w w1 := by assumption
    go_wp2_with fail
    refine (O4.out _).mono ?_
    rintro e w2 ⟨rfl, hb2⟩
    have u0 := lift_cell x0 hb2 (by omega)
    have u1 := lift_cell x1 hb2 (by omega)
    have u2 := lift_cell x2 hb2 (by omega)
    have v0 := lift_cell y0 hb2 (by omega)
    have v1 := lift_cell y1 hb2 (by omega)
    have v2 := lift_cell y2 hb2 (by omega)
    have sz2 : w.heap.size + 1 + 1 < w2.heap.size := Nat.lt_of_lt_of_le sz1 hb2.size
    have bl2 := bl1.trans (hb2.mono (by omega))
    clear x0 x1 x2 y0 y1 y2
    have hc : 0 < X ∨ (X ≤ 0 ∧ 0 < Y) ∨ (X ≤ 0 ∧ Y ≤ 0 ∧ Z ≤ 0) := by
      by_cases h1 : 0 < X
      · exact .inl h1
      · by_cases h2 : 0 < Y
        · exact .inr (.inl ⟨by omega, h2⟩)
        · exact .inr (.inr ⟨by omega, by omega, HR2.out (by omega) (by omega)⟩)
    cases A with
    | false =>
      rcases hc with hc | ⟨hc, hc'⟩ | ⟨hc, hc', hc''⟩
      all_goals
        go_wp2_with fail
        refine (M1.out _).mono ?_
        rintro e w3 ⟨rfl, hb3⟩
        have bl3 := bl2.trans (hb3.mono (by omega))
        have Hp3 := Lib.hid (Hp.out.later bl3)
        go_wp2_with (go_at_call 17; refine (awake_any _ Hp3.out).mono ?_; rintro e6 w6 ⟨rfl, hb6⟩)
        go_ret
        exact ⟨rfl, chain bl3 (Nat.le_refl _) hb6⟩
    | true =>
      rcases hc with hc | ⟨hc, hc'⟩ | ⟨hc, hc', hc''⟩
      all_goals
        go_wp2_with fail
        refine (M1.out _).mono ?_
        rintro e w3 ⟨rfl, hb3⟩
        have u0 := lift_cell u0 hb3 (by omega)
        have u1 := lift_cell u1 hb3 (by omega)
        have u2 := lift_cell u2 hb3 (by omega)
        have v0 := lift_cell v0 hb3 (by omega)
        have v1 := lift_cell v1 hb3 (by omega)
        have v2 := lift_cell v2 hb3 (by omega)
        have sz3 : w.heap.size + 1 + 1 < w3.heap.size := Nat.lt_of_lt_of_le sz2 hb3.size
        have bl3 := bl2.trans (hb3.mono (by omega))
        go_wp2_with fail
        refine (M2.out _).mono ?_
        rintro e w4 ⟨rfl, hb4⟩
        have u0 := lift_cell u0 hb4 (by omega)
        have u1 := lift_cell u1 hb4 (by omega)
        have u2 := lift_cell u2 hb4 (by omega)
        have v0 := lift_cell v0 hb4 (by omega)
        have v1 := lift_cell v1 hb4 (by omega)
        have v2 := lift_cell v2 hb4 (by omega)
        have bl4 := bl3.trans (hb4.mono (by omega))
        have Hp4 := Lib.hid (Hp.out.later bl4)
        cases B with
        | false =>
          go_wp2_with (go_at_call 17; refine (awake_any _ Hp4.out).mono ?_; rintro e6 w6 ⟨rfl, hb6⟩)
          go_ret
          exact ⟨rfl, chain bl4 (Nat.le_refl _) hb6⟩
        | true =>
          have r3 := HR3.out (by first | rfl | trivial) (by first | rfl | trivial)
          by_cases eb : b = b'
          · by_cases en : n = n'
            · by_cases et : t = t'
              · have x0 : X = 0 := r3.2 ⟨eb, en, et⟩
                have x1 : (X == 0) = true := by rw [x0]; rfl
                subst eb en et
                clear r3 x0
                go_wp2_with (go_at_call 17; refine (awake_any _ Hp4.out).mono ?_; rintro e6 w6 ⟨rfl, hb6⟩)
                go_ret
                exact ⟨rfl, chain bl4 (Nat.le_refl _) hb6⟩
              · have x1 : (X == 0) = false := by simp only [beq_eq_false_iff_ne, ne_eq]; exact fun h => et (r3.1 h).2.2
                have et' : (t.toList == t'.toList) = false := beq_toList t t' (fun h => et (Go.WideShapes.bytes_inj h))
                have et2 : ¬ t.toList = t'.toList := by simpa using et'
                subst eb en
                clear r3
                go_wp2_with (go_at_call 17; refine (awake_any _ Hp4.out).mono ?_; rintro e6 w6 ⟨rfl, hb6⟩)
                go_ret
                exact ⟨rfl, chain bl4 (Nat.le_refl _) hb6⟩
            · have x1 : (X == 0) = false := by simp only [beq_eq_false_iff_ne, ne_eq]; exact fun h => en (r3.1 h).2.1
              have en' : (n == n') = false := by simpa using en
              subst eb
              clear r3
              go_wp2_with (go_at_call 17; refine (awake_any _ Hp4.out).mono ?_; rintro e6 w6 ⟨rfl, hb6⟩)
              go_ret
              exact ⟨rfl, chain bl4 (Nat.le_refl _) hb6⟩
          · have x1 : (X == 0) = false := by simp only [beq_eq_false_iff_ne, ne_eq]; exact fun h => eb (r3.1 h).1
            have eb' : (b == b') = false := by simpa using eb
            clear r3
            go_wp2_with (go_at_call 17; refine (awake_any _ Hp4.out).mono ?_; rintro e6 w6 ⟨rfl, hb6⟩)
            go_ret
            exact ⟨rfl, chain bl4 (Nat.le_refl _) hb6⟩
end Go.Proofs.YtkakldlfgnijdaaDoor
