/- Layer 3: the walk of the law ValApart. -/
import Derived.Test.YtkakldlfgnijdaaDoorValI
import Derived.Test.YtkakldlfgnijdaaDoorValLawC
namespace Go.Proofs.YtkakldlfgnijdaaDoor
open Go.RowKit
/-- Two boxes in a world, behind the blocks that were there. -/
structure Two (B : Nat) (w0 w : World) (b : Bool) (n : Int) (s : ByteArray) (b' : Bool) (n' : Int) (s' : ByteArray) : Prop where
  x : Boxed w B b n s
  y : Boxed w (B + 1) b' n' s'
  size : B + 1 < w.heap.size
  below : Below B w0 w
theorem Two.step {B : Nat} {w0 w w' : World} {b : Bool} {n : Int} {s : ByteArray} {b' : Bool} {n' : Int} {s' : ByteArray} (h : Two B w0 w b n s b' n' s') (hb : Below w.heap.size w w') : Two B w0 w' b n s b' n' s' :=
  ⟨h.x.lift hb (by have := h.size; omega), h.y.lift hb (by have := h.size; omega), Nat.lt_of_lt_of_le h.size hb.size, h.below.trans (hb.mono (by have := h.size; omega))⟩
theorem Two.store {B : Nat} {w0 w : World} {b : Bool} {n : Int} {s : ByteArray} {b' : Bool} {n' : Int} {s' : ByteArray} (h : Two B w0 w b n s b' n' s') (c : Bool) (m : Int) (t : ByteArray) (c' : Bool) (m' : Int) (t' : ByteArray) :
    Two B w0 ((((((w.setCell ⟨B, 0, none⟩ (.bool c)).setCell ⟨B, 1, none⟩ (.int .i64 m)).setCell ⟨B, 2, none⟩ (.string t)).setCell ⟨B + 1, 0, none⟩ (.bool c')).setCell ⟨B + 1, 1, none⟩ (.int .i64 m')).setCell ⟨B + 1, 2, none⟩ (.string t')) c m t c' m' t' := by
  obtain ⟨⟨x0, x1, x2, xf0, xf1, xf2⟩, ⟨y0, y1, y2, yf0, yf1, yf2⟩, hz, hb⟩ := h
  refine ⟨⟨?_, ?_, ?_, ?_, ?_, ?_⟩, ⟨?_, ?_, ?_, ?_, ?_, ?_⟩, by simpa [World.setCell] using hz, ?_⟩
  case refine_13 => exact (((((hb.setCell (p := ⟨B, 0, none⟩) (Nat.le_refl _) _).setCell (p := ⟨B, 1, none⟩) (Nat.le_refl _) _).setCell (p := ⟨B, 2, none⟩) (Nat.le_refl _) _).setCell (p := ⟨B + 1, 0, none⟩) (Nat.le_succ _) _).setCell (p := ⟨B + 1, 1, none⟩) (Nat.le_succ _) _).setCell (p := ⟨B + 1, 2, none⟩) (Nat.le_succ _) _
  all_goals simp [go_sem, *]
set_option maxRecDepth 100000 in
set_option maxHeartbeats 4000000 in
theorem valApart_walk (b : Bool) (n : Int) (s : ByteArray) (b' : Bool) (n' : Int) (s' : ByteArray) (w : World) (hp : Pow w)
    (h0 : -9223372036854775808 ≤ n) (h1 : n ≤ 9223372036854775807) (_hs : s.size ≤ maxLen) (h0' : -9223372036854775808 ≤ n') (h1' : n' ≤ 9223372036854775807) (_hs' : s'.size ≤ maxLen) :
    Calls Tryd.prog 7 #[.agg #[.bool b, .int .i64 n, .string s], .agg #[.bool b', .int .i64 n', .string s']] w fun e w' => e = .returned (.bool true) ∧ Below w.heap.size w w' := by
  have Hp := Lib.hid hp
  obtain ⟨t, ht⟩ : ∃ t, t = fw s := ⟨_, rfl⟩
  obtain ⟨t', ht'⟩ : ∃ t', t' = fw s' := ⟨_, rfl⟩
  have C1 := few_any b n s
  have C2 := few_any b' n' s'
  rw [← ht] at C1
  rw [← ht'] at C2
  have D1 := Lib.hid C1
  have D2 := Lib.hid C2
  clear hp C1 C2 ht ht'
  go_enter Tryd.func7, Tryd.ntmps7
  go_upto_region 1 with fail
  go_cut [] (fun wx => Two w.heap.size w wx b n t b' n' t')
  case first =>
    go_wp2_with fail
    have T0 : Two w.heap.size w ((w.alloc (.cells #[.bool b, .int .i64 n, .string s] 23)).alloc (.cells #[.bool b', .int .i64 n', .string s'] 23)) b n s b' n' s' := by
      refine ⟨⟨?_, ?_, ?_, ?_, ?_, ?_⟩, ⟨?_, ?_, ?_, ?_, ?_, ?_⟩, by simp, ((Below.refl _ _).alloc (Nat.le_refl _) _).alloc (by simp) _⟩
      all_goals simp [go_sem]
    generalize (w.alloc (.cells #[.bool b, .int .i64 n, .string s] 23)).alloc (.cells #[.bool b', .int .i64 n', .string s'] 23) = W at *
    have qxc0 := T0.x.c0; have qxc1 := T0.x.c1; have qxc2 := T0.x.c2; have qxf0 := T0.x.f0; have qxf1 := T0.x.f1; have qxf2 := T0.x.f2; have qyc0 := T0.y.c0; have qyc1 := T0.y.c1; have qyc2 := T0.y.c2; have qyf0 := T0.y.f0; have qyf1 := T0.y.f1; have qyf2 := T0.y.f2
    go_region_with (go_at_call 10; (with_reducible first | refine (D1.out _).mono ?_ | refine (D2.out _).mono ?_); rintro e w1 ⟨rfl, hb1⟩; (first | (have T1 := Two.step (by assumption) (below_undrew hb1)) | (have T1 := Two.step (by assumption) hb1)); have rxc0 := T1.x.c0; have rxc1 := T1.x.c1; have rxc2 := T1.x.c2; have rxf0 := T1.x.f0; have rxf1 := T1.x.f1; have rxf2 := T1.x.f2; have ryc0 := T1.y.c0; have ryc1 := T1.y.c1; have ryc2 := T1.y.c2; have ryf0 := T1.y.f0; have ryf1 := T1.y.f1; have ryf2 := T1.y.f2)
    all_goals go_wp2_with fail
    all_goals go_meet
    all_goals exact Two.store (by assumption) _ _ _ _ _ _
  case rest =>
    have T0 := hcut
    clear D1 D2 hcut
    by_cases hm : mayB b n t = true
    · obtain ⟨L, hL, cl⟩ := lay_as b n t h0 h1 hm
      by_cases hm' : mayB b' n' t' = true
      · obtain ⟨L', hL', cl'⟩ := lay_as b' n' t' h0' h1' hm'
        have Cl := Lib.hid cl
        have Cl' := Lib.hid cl'
        have Cw := Lib.hid (write_as b n t h0 h1 hm)
        have Cw' := Lib.hid (write_as b' n' t' h0' h1' hm')
        obtain ⟨P, hP⟩ : ∃ P : ByteArray, P = ⟨(wrL b n t).toArray⟩ := ⟨_, rfl⟩
        obtain ⟨P', hP'⟩ : ∃ P' : ByteArray, P' = ⟨(wrL b' n' t').toArray⟩ := ⟨_, rfl⟩
        have hPd : P.data.toList = wrL b n t := by rw [hP]
        have hPd' : P'.data.toList = wrL b' n' t' := by rw [hP']
        rw [← hP] at Cw
        rw [← hP'] at Cw'
        have key : (b = b' ∧ n = n' ∧ t = t') ∨ ((¬ (b = b' ∧ n = n' ∧ t = t')) ∧ (L.toList == L'.toList) = false ∧ (P.toList == P'.toList) = false ∧ ((L'.extract 0 L.size).toList == L.toList) = false) := by
          by_cases e : b = b' ∧ n = n' ∧ t = t'
          · exact .inl e
          · refine .inr ⟨e, ?_, ?_, ?_⟩
            · exact beq_toList _ _ fun h => e (layL_inj b n t b' n' t' h0 h1 h0' h1' hm hm' (by rw [← hL, ← hL', h]))
            · exact beq_toList _ _ fun h => e (wrL_inj b n t b' n' t' hm hm' (by rw [← hPd, ← hPd', h]))
            · refine beq_toList _ _ fun h => e (layL_prefix b n t b' n' t' (L'.data.toList.drop L.size) h0 h1 h0' h1' hm hm' ?_)
              rw [ext_data] at h
              rw [← hL, ← hL', ← h, List.take_append_drop]
        have eqs : (b = b' ∧ n = n' ∧ t = t') → L.toList = L'.toList ∧ P.toList = P'.toList := by
          rintro ⟨rfl, rfl, rfl⟩
          refine ⟨?_, ?_⟩
          · rw [ByteArray.toList_eq, ByteArray.toList_eq, hL, hL']
          · rw [ByteArray.toList_eq, ByteArray.toList_eq, hPd, hPd']
        have Key := Lib.hid key
        have Eqs := Lib.hid eqs
        clear hm hm' hL hL' cl cl' hP hP' hPd hPd' key eqs
        have q0xc0 := T0.x.c0; have q0xc1 := T0.x.c1; have q0xc2 := T0.x.c2; have q0yc0 := T0.y.c0; have q0yc1 := T0.y.c1; have q0yc2 := T0.y.c2
        go_wp2_with fail
        refine (Cl.out _).mono ?_
        rintro e1 w1 ⟨rfl, hb1⟩
        have T1 := T0.step hb1
        clear q0xc0 q0xc1 q0xc2 q0yc0 q0yc1 q0yc2 T0
        have q1xc0 := T1.x.c0; have q1xc1 := T1.x.c1; have q1xc2 := T1.x.c2; have q1yc0 := T1.y.c0; have q1yc1 := T1.y.c1; have q1yc2 := T1.y.c2
        go_wp2_with fail
        refine (Cl'.out _).mono ?_
        rintro e2 w2 ⟨rfl, hb2⟩
        have T2 := T1.step hb2
        clear q1xc0 q1xc1 q1xc2 q1yc0 q1yc1 q1yc2 T1
        have q2xc0 := T2.x.c0; have q2xc1 := T2.x.c1; have q2xc2 := T2.x.c2; have q2yc0 := T2.y.c0; have q2yc1 := T2.y.c1; have q2yc2 := T2.y.c2
        go_wp2_with fail
        refine (Cw.out _ (Hp.out.later T2.below)).mono ?_
        rintro e3 w3 ⟨rfl, hb3⟩
        have T3 := T2.step hb3
        clear q2xc0 q2xc1 q2xc2 q2yc0 q2yc1 q2yc2 T2
        have q3xc0 := T3.x.c0; have q3xc1 := T3.x.c1; have q3xc2 := T3.x.c2; have q3yc0 := T3.y.c0; have q3yc1 := T3.y.c1; have q3yc2 := T3.y.c2
        go_wp2_with fail
        refine (Cw'.out _ (Hp.out.later T3.below)).mono ?_
        rintro e4 w4 ⟨rfl, hb4⟩
        have T4 := T3.step hb4
        clear q3xc0 q3xc1 q3xc2 q3yc0 q3yc1 q3yc2 T3
        have q4xc0 := T4.x.c0; have q4xc1 := T4.x.c1; have q4xc2 := T4.x.c2; have q4yc0 := T4.y.c0; have q4yc1 := T4.y.c1; have q4yc2 := T4.y.c2
        have Hp4 := Lib.hid (Hp.out.later T4.below)
        rcases Key.out with k | ⟨k, k1, k2, k3⟩
        · have g := Eqs.out k
          have l1 : L = L' := by
            have := g.1; rw [ByteArray.toList_eq, ByteArray.toList_eq] at this; exact Go.WideShapes.bytes_inj this
          have l2 : P = P' := by
            have := g.2; rw [ByteArray.toList_eq, ByteArray.toList_eq] at this; exact Go.WideShapes.bytes_inj this
          obtain ⟨rfl, rfl, rfl⟩ := k
          subst l1 l2
          clear g
          go_wp2_with (go_at_call 17; refine (awake_any _ Hp4.out).mono ?_; rintro e6 w6 ⟨rfl, hb6⟩)
          go_ret
          exact ⟨rfl, chain T4.below (Nat.le_refl _) hb6⟩
        · have k4 : ((L'.extract 0 L.size).toList != L.toList) = true := by rw [bne, k3]; rfl
          by_cases hlen : L'.size < L.size
          all_goals
            by_cases eb : b = b'
            · by_cases en : n = n'
              · have et : ¬ t = t' := fun h => k ⟨eb, en, h⟩
                have et' : (t.toList == t'.toList) = false := beq_toList t t' (fun h => et (Go.WideShapes.bytes_inj h))
                have et2 : ¬ t.toList = t'.toList := by simpa using et'
                subst eb en
                clear k
                go_wp2_with (go_at_call 17; refine (awake_any _ Hp4.out).mono ?_; rintro e6 w6 ⟨rfl, hb6⟩)
                go_ret
                exact ⟨rfl, chain T4.below (Nat.le_refl _) hb6⟩
              · have en' : (n == n') = false := by simpa using en
                subst eb
                clear k
                go_wp2_with (go_at_call 17; refine (awake_any _ Hp4.out).mono ?_; rintro e6 w6 ⟨rfl, hb6⟩)
                go_ret
                exact ⟨rfl, chain T4.below (Nat.le_refl _) hb6⟩
            · have eb' : (b == b') = false := by simpa using eb
              clear k
              go_wp2_with (go_at_call 17; refine (awake_any _ Hp4.out).mono ?_; rintro e6 w6 ⟨rfl, hb6⟩)
              go_ret
              exact ⟨rfl, chain T4.below (Nat.le_refl _) hb6⟩
      · have hm2 : mayB b' n' t' = false := by simpa using hm'
        have Cl := Lib.hid cl
        have Cl' := Lib.hid (fun w => lay_bad b' n' t' w hm2)
        clear hm hm' hm2 hL cl
        have q0xc0 := T0.x.c0; have q0xc1 := T0.x.c1; have q0xc2 := T0.x.c2; have q0yc0 := T0.y.c0; have q0yc1 := T0.y.c1; have q0yc2 := T0.y.c2
        go_wp2_with fail
        refine (Cl.out _).mono ?_
        rintro e1 w1 ⟨rfl, hb1⟩
        have T1 := T0.step hb1
        clear q0xc0 q0xc1 q0xc2 q0yc0 q0yc1 q0yc2 T0
        have q1xc0 := T1.x.c0; have q1xc1 := T1.x.c1; have q1xc2 := T1.x.c2; have q1yc0 := T1.y.c0; have q1yc1 := T1.y.c1; have q1yc2 := T1.y.c2
        go_wp2_with fail
        refine (Cl'.out _).mono ?_
        rintro e2 w2 ⟨rfl, hb2⟩
        have T2 := T1.step hb2
        have Hp2 := Lib.hid (Hp.out.later T2.below)
        go_wp2_with (go_at_call 17; refine (awake_any _ Hp2.out).mono ?_; rintro e6 w6 ⟨rfl, hb6⟩)
        go_ret
        exact ⟨rfl, chain T2.below (Nat.le_refl _) hb6⟩
    · have hm2 : mayB b n t = false := by simpa using hm
      have Cl := Lib.hid (fun w => lay_bad b n t w hm2)
      have Cl' : Hid (∃ (L' : ByteArray) (e' : Int), ∀ w, Calls Tryd.prog 11 #[.agg #[.bool b', .int .i64 n', .string t']] w fun E w' => E = .returned (.tuple #[.string L', .int .i64 e']) ∧ Below w.heap.size w w') := by
        by_cases hm' : mayB b' n' t' = true
        · obtain ⟨L', _, cl'⟩ := lay_as b' n' t' h0' h1' hm'
          exact ⟨L', 0, cl'⟩
        · exact ⟨_, _, fun w => lay_bad b' n' t' w (by simpa using hm')⟩
      obtain ⟨L', e', cl'⟩ := Cl'.out
      have Cm := Lib.hid cl'
      clear hm hm2 Cl' cl'
      have q0xc0 := T0.x.c0; have q0xc1 := T0.x.c1; have q0xc2 := T0.x.c2; have q0yc0 := T0.y.c0; have q0yc1 := T0.y.c1; have q0yc2 := T0.y.c2
      go_wp2_with fail
      refine (Cl.out _).mono ?_
      rintro e1 w1 ⟨rfl, hb1⟩
      have T1 := T0.step hb1
      clear q0xc0 q0xc1 q0xc2 q0yc0 q0yc1 q0yc2 T0
      have q1xc0 := T1.x.c0; have q1xc1 := T1.x.c1; have q1xc2 := T1.x.c2; have q1yc0 := T1.y.c0; have q1yc1 := T1.y.c1; have q1yc2 := T1.y.c2
      go_wp2_with fail
      refine (Cm.out _).mono ?_
      rintro e2 w2 ⟨rfl, hb2⟩
      have T2 := T1.step hb2
      have Hp2 := Lib.hid (Hp.out.later T2.below)
      go_wp2_with (go_at_call 17; refine (awake_any _ Hp2.out).mono ?_; rintro e6 w6 ⟨rfl, hb6⟩)
      go_ret
      exact ⟨rfl, chain T2.below (Nat.le_refl _) hb6⟩
end Go.Proofs.YtkakldlfgnijdaaDoor
