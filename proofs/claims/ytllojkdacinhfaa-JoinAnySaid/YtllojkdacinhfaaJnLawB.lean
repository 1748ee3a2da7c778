/- Layer 9: the walk of JoinAny (written by gen/joinAny.py). -/
import Derived.Test.YtllojkdacinhfaaJnH
import Derived.Test.YtllojkdacinhfaaJnI
namespace Go.Proofs.Ytllojkdacinhfaa.Jn
open Go.RowKit Go.Shelf Go.Proofs.Ytllojkdacinhfaa Go.Proofs.Ytllojkdacinhfaa.Ke
set_option linter.unusedVariables false
set_option linter.unusedSimpArgs false
set_option maxHeartbeats 8000000 in
set_option maxRecDepth 100000 in
theorem joinAny_walk (X : List El) (pa : Option Addr) (cap : Nat) (count : Bool) (w : World) (hXm : X.length ≤ 9223372036854775807) (hR : Rd w pa X) :
    Calls Try.prog 10 #[.slice pa X.length cap, .bool count] w fun e w' => e = .returned (.bool true) ∧ Below w.heap.size w w' := by
  have HR := Lib.hid hR
  have AW := Lib.hid awakeJ_any
  have SM := Lib.hid (fun Z hZ pa pb ca cb w hA hB => same_any Z Z pa pb ca cb w hZ hA hB)
  have hdd : ∀ Z : List El, decide (Z = Z) = true := fun Z => by simp
  have B0 := Lib.hid (jBelow w bAny 6 0 3)
  have HA := Lib.hid (any1 count)
  clear hR
  cases count
  · go_enter Try.func10, Try.ntmps10
    go_wp2_with fail
    go_loopw [6] (fun i wx => ∃ k : Nat, i = .int .i64 k ∧ k ≤ X.length ∧ k ≤ 20 ∧ Hid (Jx wx w.heap.size bAny 6 0 3) ∧ Below w.heap.size w wx) (fun i _ => 20 - (intOf i).toNat)
    case atStart => exact ⟨0, rfl, Nat.zero_le _, Nat.zero_le _, Lib.hid ⟨by simp [go_sem], by simp [go_sem], by simp [go_sem], by simp [go_sem], by simp⟩, B0.out⟩
    case round =>
      obtain ⟨k, rfl, hk, hk20, JX, kk⟩ := hrel
      have KK := Lib.hid kk
      by_cases hlt : k < X.length
      · have hlt' : (k : Int) < X.length := by omega
        by_cases h20 : k < 20
        · have h20i : (k : Int) < 20 := by omega
          obtain ⟨b, o, rfl, hbz, e0, e1, e2⟩ := (HR.out.lift kk).at k hlt
          generalize X[k] = x at *
          obtain ⟨x1, x2, x3⟩ := x
          simp only at e0 e1 e2
          have BX := Lib.hid (Bx.new (x1, x2, x3) wr)
          clear kk
          cases hkp : keptB 6 (x1, x2, x3)
          · by_cases h1 : x1 < 0
            · have F := Lib.hid (feed_to (show feedD bAny 6 0 3 [] (x1, x2, x3) = ([], [], [], 1) from by have h := HA.out (x1, x2, x3); rw [hkp] at h; exact h) (by simp))
              clear hkp HA SM hdd HR AW
              have hb1 : Below wr.heap.size wr (wr.alloc (.cells #[.int .i64 x1, .int .u64 x2, .int .i64 x3] 27)) := (Below.refl _ _).alloc (Nat.le_refl _) _
              have K1 := Lib.hid (KK.out.trans (hb1.mono KK.out.size))
              have JX1_ := Lib.hid (JX.out.lift hb1)
              clear hb1 KK JX
              obtain ⟨c0, c1, c2, c3, _⟩ := JX1_.out
              obtain ⟨⟨d0, d1, d2⟩, _, _⟩ := BX.out
              have T2 := Lib.hid (F.out none 0 (wr.alloc (.cells #[.int .i64 x1, .int .u64 x2, .int .i64 x3] 27)) (Nat.le_refl _) (Rd.nil _ _))
              go_wp2_with fail
              refine T2.out.mono ?_
              rintro e w2 ⟨va, vb, vc, rfl, hoa, hob, hoc, hb2⟩
              have Hoa2 := Lib.hid (hoa.mono K1.out.size)
              have Hob2 := Lib.hid (hob.mono K1.out.size)
              have Hoc2 := Lib.hid (hoc.mono K1.out.size)
              have K2 := Lib.hid (K1.out.trans (hb2.mono K1.out.size))
              have JX2_ := Lib.hid (JX1_.out.lift hb2)
              have BX2_ := Lib.hid (BX.out.lift hb2)
              clear T2 hb2 hoa hob hoc K1 JX1_ BX
              obtain ⟨p4, q4, rfl, hq4, hr4, _⟩ := Hob2.out.args
              clear hr4 c0 c1 c2 c3 d0 d1 d2
              clear Hoa2 Hob2 Hoc2
              obtain ⟨⟨d0, d1, d2⟩, _, _⟩ := BX2_.out
              go_wp2
              go_roundw
              case rel => exact ⟨k + 1, by go_num, by omega, by omega, Lib.hid JX2_.out, K2.out⟩
              case measure => simp [intOf]; omega
            · by_cases h2 : 5 < x1
              · have F := Lib.hid (feed_to (show feedD bAny 6 0 3 [] (x1, x2, x3) = ([], [], [], 1) from by have h := HA.out (x1, x2, x3); rw [hkp] at h; exact h) (by simp))
                clear hkp HA SM hdd HR AW
                have hb3 : Below wr.heap.size wr (wr.alloc (.cells #[.int .i64 x1, .int .u64 x2, .int .i64 x3] 27)) := (Below.refl _ _).alloc (Nat.le_refl _) _
                have K3 := Lib.hid (KK.out.trans (hb3.mono KK.out.size))
                have JX3_ := Lib.hid (JX.out.lift hb3)
                clear hb3 KK JX
                obtain ⟨c0, c1, c2, c3, _⟩ := JX3_.out
                obtain ⟨⟨d0, d1, d2⟩, _, _⟩ := BX.out
                have T4 := Lib.hid (F.out none 0 (wr.alloc (.cells #[.int .i64 x1, .int .u64 x2, .int .i64 x3] 27)) (Nat.le_refl _) (Rd.nil _ _))
                go_wp2_with fail
                refine T4.out.mono ?_
                rintro e w4 ⟨va, vb, vc, rfl, hoa, hob, hoc, hb4⟩
                have Hoa4 := Lib.hid (hoa.mono K3.out.size)
                have Hob4 := Lib.hid (hob.mono K3.out.size)
                have Hoc4 := Lib.hid (hoc.mono K3.out.size)
                have K4 := Lib.hid (K3.out.trans (hb4.mono K3.out.size))
                have JX4_ := Lib.hid (JX3_.out.lift hb4)
                have BX4_ := Lib.hid (BX.out.lift hb4)
                clear T4 hb4 hoa hob hoc K3 JX3_ BX
                obtain ⟨p4, q4, rfl, hq4, hr4, _⟩ := Hob4.out.args
                clear hr4 c0 c1 c2 c3 d0 d1 d2
                clear Hoa4 Hob4 Hoc4
                obtain ⟨⟨d0, d1, d2⟩, _, _⟩ := BX4_.out
                go_wp2
                go_roundw
                case rel => exact ⟨k + 1, by go_num, by omega, by omega, Lib.hid JX4_.out, K4.out⟩
                case measure => simp [intOf]; omega
              · by_cases h3 : x3 < 0
                · have F := Lib.hid (feed_to (show feedD bAny 6 0 3 [] (x1, x2, x3) = ([], [], [], 1) from by have h := HA.out (x1, x2, x3); rw [hkp] at h; exact h) (by simp))
                  clear hkp HA SM hdd HR AW
                  have hb5 : Below wr.heap.size wr (wr.alloc (.cells #[.int .i64 x1, .int .u64 x2, .int .i64 x3] 27)) := (Below.refl _ _).alloc (Nat.le_refl _) _
                  have K5 := Lib.hid (KK.out.trans (hb5.mono KK.out.size))
                  have JX5_ := Lib.hid (JX.out.lift hb5)
                  clear hb5 KK JX
                  obtain ⟨c0, c1, c2, c3, _⟩ := JX5_.out
                  obtain ⟨⟨d0, d1, d2⟩, _, _⟩ := BX.out
                  have T6 := Lib.hid (F.out none 0 (wr.alloc (.cells #[.int .i64 x1, .int .u64 x2, .int .i64 x3] 27)) (Nat.le_refl _) (Rd.nil _ _))
                  go_wp2_with fail
                  refine T6.out.mono ?_
                  rintro e w6 ⟨va, vb, vc, rfl, hoa, hob, hoc, hb6⟩
                  have Hoa6 := Lib.hid (hoa.mono K5.out.size)
                  have Hob6 := Lib.hid (hob.mono K5.out.size)
                  have Hoc6 := Lib.hid (hoc.mono K5.out.size)
                  have K6 := Lib.hid (K5.out.trans (hb6.mono K5.out.size))
                  have JX6_ := Lib.hid (JX5_.out.lift hb6)
                  have BX6_ := Lib.hid (BX.out.lift hb6)
                  clear T6 hb6 hoa hob hoc K5 JX5_ BX
                  obtain ⟨p4, q4, rfl, hq4, hr4, _⟩ := Hob6.out.args
                  clear hr4 c0 c1 c2 c3 d0 d1 d2
                  clear Hoa6 Hob6 Hoc6
                  obtain ⟨⟨d0, d1, d2⟩, _, _⟩ := BX6_.out
                  go_wp2
                  go_roundw
                  case rel => exact ⟨k + 1, by go_num, by omega, by omega, Lib.hid JX6_.out, K6.out⟩
                  case measure => simp [intOf]; omega
                · have h4 : 1099511627775 < x3 := by
                    apply Classical.byContradiction; intro h4
                    have : keptB 6 (x1, x2, x3) = true := by unfold keptB timeB; simp only [Bool.and_eq_true, decide_eq_true_eq]; omega
                    rw [this] at hkp; cases hkp
                  have F := Lib.hid (feed_to (show feedD bAny 6 0 3 [] (x1, x2, x3) = ([], [], [], 1) from by have h := HA.out (x1, x2, x3); rw [hkp] at h; exact h) (by simp))
                  clear hkp HA SM hdd HR AW
                  have hb7 : Below wr.heap.size wr (wr.alloc (.cells #[.int .i64 x1, .int .u64 x2, .int .i64 x3] 27)) := (Below.refl _ _).alloc (Nat.le_refl _) _
                  have K7 := Lib.hid (KK.out.trans (hb7.mono KK.out.size))
                  have JX7_ := Lib.hid (JX.out.lift hb7)
                  clear hb7 KK JX
                  obtain ⟨c0, c1, c2, c3, _⟩ := JX7_.out
                  obtain ⟨⟨d0, d1, d2⟩, _, _⟩ := BX.out
                  have T8 := Lib.hid (F.out none 0 (wr.alloc (.cells #[.int .i64 x1, .int .u64 x2, .int .i64 x3] 27)) (Nat.le_refl _) (Rd.nil _ _))
                  go_wp2_with fail
                  refine T8.out.mono ?_
                  rintro e w8 ⟨va, vb, vc, rfl, hoa, hob, hoc, hb8⟩
                  have Hoa8 := Lib.hid (hoa.mono K7.out.size)
                  have Hob8 := Lib.hid (hob.mono K7.out.size)
                  have Hoc8 := Lib.hid (hoc.mono K7.out.size)
                  have K8 := Lib.hid (K7.out.trans (hb8.mono K7.out.size))
                  have JX8_ := Lib.hid (JX7_.out.lift hb8)
                  have BX8_ := Lib.hid (BX.out.lift hb8)
                  clear T8 hb8 hoa hob hoc K7 JX7_ BX
                  obtain ⟨p4, q4, rfl, hq4, hr4, _⟩ := Hob8.out.args
                  clear hr4 c0 c1 c2 c3 d0 d1 d2
                  clear Hoa8 Hob8 Hoc8
                  obtain ⟨⟨d0, d1, d2⟩, _, _⟩ := BX8_.out
                  go_wp2
                  go_roundw
                  case rel => exact ⟨k + 1, by go_num, by omega, by omega, Lib.hid JX8_.out, K8.out⟩
                  case measure => simp [intOf]; omega
          · have hk2 := hkp
            unfold keptB timeB at hk2
            simp only [Bool.and_eq_true, decide_eq_true_eq] at hk2
            obtain ⟨g1, g2, g3, g4⟩ := hk2
            have g5 : ¬ x1 < 0 := by omega
            have g6 : ¬ 5 < x1 := by omega
            have g7 : ¬ x3 < 0 := by omega
            have g8 : ¬ 1099511627775 < x3 := by omega
            have F := Lib.hid (feed_to (show feedD bAny 6 0 3 [] (x1, x2, x3) = ([], [(x1, x2, x3)], [], 0) from by have h := HA.out (x1, x2, x3); rw [hkp] at h; exact h) (by simp))
            clear hkp HA HR AW g1 g2 g3 g4
            have hb9 : Below wr.heap.size wr (wr.alloc (.cells #[.int .i64 x1, .int .u64 x2, .int .i64 x3] 27)) := (Below.refl _ _).alloc (Nat.le_refl _) _
            have K9 := Lib.hid (KK.out.trans (hb9.mono KK.out.size))
            have JX9_ := Lib.hid (JX.out.lift hb9)
            clear hb9 KK JX
            obtain ⟨c0, c1, c2, c3, _⟩ := JX9_.out
            obtain ⟨⟨d0, d1, d2⟩, _, _⟩ := BX.out
            have T10 := Lib.hid (F.out none 0 (wr.alloc (.cells #[.int .i64 x1, .int .u64 x2, .int .i64 x3] 27)) (Nat.le_refl _) (Rd.nil _ _))
            go_wp2_with fail
            refine T10.out.mono ?_
            rintro e w10 ⟨va, vb, vc, rfl, hoa, hob, hoc, hb10⟩
            have Hoa10 := Lib.hid (hoa.mono K9.out.size)
            have Hob10 := Lib.hid (hob.mono K9.out.size)
            have Hoc10 := Lib.hid (hoc.mono K9.out.size)
            have K10 := Lib.hid (K9.out.trans (hb10.mono K9.out.size))
            have JX10_ := Lib.hid (JX9_.out.lift hb10)
            have BX10_ := Lib.hid (BX.out.lift hb10)
            clear T10 hb10 hoa hob hoc K9 JX9_ BX
            obtain ⟨p3, q3, rfl, _, hr3, _⟩ := Hoa10.out.args
            obtain ⟨p4, q4, rfl, hq4, hr4, _⟩ := Hob10.out.args
            obtain ⟨p5, q5, rfl, _, hr5, _⟩ := Hoc10.out.args
            have RF := Lib.hid hr4
            clear hr3 hr4 hr5 c0 c1 c2 c3 d0 d1 d2
            clear Hoa10 Hob10 Hoc10
            obtain ⟨⟨d0, d1, d2⟩, _, _⟩ := BX10_.out
            have R5 := Lib.hid (one_rd (x1, x2, x3) w10)
            have hb11 : Below w10.heap.size w10 (w10.alloc (.cells #[.int .i64 x1, .int .u64 x2, .int .i64 x3] 27)) := (Below.refl _ _).alloc (Nat.le_refl _) _
            have K11 := Lib.hid (K10.out.trans (hb11.mono K10.out.size))
            have JX11_ := Lib.hid (JX10_.out.lift hb11)
            have BX11_ := Lib.hid (BX10_.out.lift hb11)
            have RF11_ := Lib.hid (RF.out.lift hb11)
            clear hb11 K10 JX10_ BX10_ RF
            have SD := hdd [(x1, x2, x3)]
            have T12 := Lib.hid (SM.out [(x1, x2, x3)] (by simp) p4 _ q4 1 (w10.alloc (.cells #[.int .i64 x1, .int .u64 x2, .int .i64 x3] 27)) RF11_.out R5.out)
            go_wp2_with fail
            refine T12.out.mono ?_
            rintro e w12 ⟨rfl, hb12⟩
            have K12 := Lib.hid (K11.out.trans (hb12.mono K11.out.size))
            have JX12_ := Lib.hid (JX11_.out.lift hb12)
            have BX12_ := Lib.hid (BX11_.out.lift hb12)
            have RF12_ := Lib.hid (RF11_.out.lift hb12)
            have R512_ := Lib.hid (R5.out.lift hb12)
            clear T12 hb12 K11 JX11_ BX11_ RF11_ R5
            go_wp2
            go_roundw
            case rel => exact ⟨k + 1, by go_num, by omega, by omega, Lib.hid JX12_.out, K12.out⟩
            case measure => simp [intOf]; omega
        · have h20i : ¬ (k : Int) < 20 := by omega
          have T13 := Lib.hid (AW.out wr)
          go_wp2_with fail
          refine T13.out.mono ?_
          rintro e w13 ⟨rfl, hb13⟩
          have K13 := Lib.hid (KK.out.trans (hb13.mono KK.out.size))
          clear T13 hb13 KK
          go_wp2
          go_ret
          exact ⟨rfl, K13.out⟩
      · have hge : ¬ (k : Int) < X.length := by omega
        have T14 := Lib.hid (AW.out wr)
        go_wp2_with fail
        refine T14.out.mono ?_
        rintro e w14 ⟨rfl, hb14⟩
        have K14 := Lib.hid (KK.out.trans (hb14.mono KK.out.size))
        clear T14 hb14 KK
        go_wp2
        go_ret
        exact ⟨rfl, K14.out⟩
  · go_enter Try.func10, Try.ntmps10
    go_wp2_with fail
    go_loopw [6] (fun i wx => ∃ k : Nat, i = .int .i64 k ∧ k ≤ X.length ∧ k ≤ 20 ∧ Hid (Jx wx w.heap.size bCnt 6 1 3) ∧ Below w.heap.size w wx) (fun i _ => 20 - (intOf i).toNat)
    case atStart => exact ⟨0, rfl, Nat.zero_le _, Nat.zero_le _, Lib.hid ⟨by simp [go_sem], by simp [go_sem], by simp [go_sem], by simp [go_sem], by simp⟩, jBelow w bCnt 6 1 3⟩
    case round =>
      obtain ⟨k, rfl, hk, hk20, JX, kk⟩ := hrel
      have KK := Lib.hid kk
      by_cases hlt : k < X.length
      · have hlt' : (k : Int) < X.length := by omega
        by_cases h20 : k < 20
        · have h20i : (k : Int) < 20 := by omega
          obtain ⟨b, o, rfl, hbz, e0, e1, e2⟩ := (HR.out.lift kk).at k hlt
          generalize X[k] = x at *
          obtain ⟨x1, x2, x3⟩ := x
          simp only at e0 e1 e2
          have BX := Lib.hid (Bx.new (x1, x2, x3) wr)
          clear kk
          cases hkp : keptB 6 (x1, x2, x3)
          · by_cases h1 : x1 < 0
            · have F := Lib.hid (feed_to (show feedD bCnt 6 1 3 [] (x1, x2, x3) = ([], [], [], 1) from by have h := HA.out (x1, x2, x3); rw [hkp] at h; exact h) (by simp))
              clear hkp HA SM hdd HR AW
              have hb15 : Below wr.heap.size wr (wr.alloc (.cells #[.int .i64 x1, .int .u64 x2, .int .i64 x3] 27)) := (Below.refl _ _).alloc (Nat.le_refl _) _
              have K15 := Lib.hid (KK.out.trans (hb15.mono KK.out.size))
              have JX15_ := Lib.hid (JX.out.lift hb15)
              clear hb15 KK JX
              obtain ⟨c0, c1, c2, c3, _⟩ := JX15_.out
              obtain ⟨⟨d0, d1, d2⟩, _, _⟩ := BX.out
              have T16 := Lib.hid (F.out none 0 (wr.alloc (.cells #[.int .i64 x1, .int .u64 x2, .int .i64 x3] 27)) (Nat.le_refl _) (Rd.nil _ _))
              go_wp2_with fail
              refine T16.out.mono ?_
              rintro e w16 ⟨va, vb, vc, rfl, hoa, hob, hoc, hb16⟩
              have Hoa16 := Lib.hid (hoa.mono K15.out.size)
              have Hob16 := Lib.hid (hob.mono K15.out.size)
              have Hoc16 := Lib.hid (hoc.mono K15.out.size)
              have K16 := Lib.hid (K15.out.trans (hb16.mono K15.out.size))
              have JX16_ := Lib.hid (JX15_.out.lift hb16)
              have BX16_ := Lib.hid (BX.out.lift hb16)
              clear T16 hb16 hoa hob hoc K15 JX15_ BX
              obtain ⟨p4, q4, rfl, hq4, hr4, _⟩ := Hob16.out.args
              clear hr4 c0 c1 c2 c3 d0 d1 d2
              clear Hoa16 Hob16 Hoc16
              obtain ⟨⟨d0, d1, d2⟩, _, _⟩ := BX16_.out
              go_wp2
              go_roundw
              case rel => exact ⟨k + 1, by go_num, by omega, by omega, Lib.hid JX16_.out, K16.out⟩
              case measure => simp [intOf]; omega
            · by_cases h2 : 5 < x1
              · have F := Lib.hid (feed_to (show feedD bCnt 6 1 3 [] (x1, x2, x3) = ([], [], [], 1) from by have h := HA.out (x1, x2, x3); rw [hkp] at h; exact h) (by simp))
                clear hkp HA SM hdd HR AW
                have hb17 : Below wr.heap.size wr (wr.alloc (.cells #[.int .i64 x1, .int .u64 x2, .int .i64 x3] 27)) := (Below.refl _ _).alloc (Nat.le_refl _) _
                have K17 := Lib.hid (KK.out.trans (hb17.mono KK.out.size))
                have JX17_ := Lib.hid (JX.out.lift hb17)
                clear hb17 KK JX
                obtain ⟨c0, c1, c2, c3, _⟩ := JX17_.out
                obtain ⟨⟨d0, d1, d2⟩, _, _⟩ := BX.out
                have T18 := Lib.hid (F.out none 0 (wr.alloc (.cells #[.int .i64 x1, .int .u64 x2, .int .i64 x3] 27)) (Nat.le_refl _) (Rd.nil _ _))
                go_wp2_with fail
                refine T18.out.mono ?_
                rintro e w18 ⟨va, vb, vc, rfl, hoa, hob, hoc, hb18⟩
                have Hoa18 := Lib.hid (hoa.mono K17.out.size)
                have Hob18 := Lib.hid (hob.mono K17.out.size)
                have Hoc18 := Lib.hid (hoc.mono K17.out.size)
                have K18 := Lib.hid (K17.out.trans (hb18.mono K17.out.size))
                have JX18_ := Lib.hid (JX17_.out.lift hb18)
                have BX18_ := Lib.hid (BX.out.lift hb18)
                clear T18 hb18 hoa hob hoc K17 JX17_ BX
                obtain ⟨p4, q4, rfl, hq4, hr4, _⟩ := Hob18.out.args
                clear hr4 c0 c1 c2 c3 d0 d1 d2
                clear Hoa18 Hob18 Hoc18
                obtain ⟨⟨d0, d1, d2⟩, _, _⟩ := BX18_.out
                go_wp2
                go_roundw
                case rel => exact ⟨k + 1, by go_num, by omega, by omega, Lib.hid JX18_.out, K18.out⟩
                case measure => simp [intOf]; omega
              · by_cases h3 : x3 < 0
                · have F := Lib.hid (feed_to (show feedD bCnt 6 1 3 [] (x1, x2, x3) = ([], [], [], 1) from by have h := HA.out (x1, x2, x3); rw [hkp] at h; exact h) (by simp))
                  clear hkp HA SM hdd HR AW
                  have hb19 : Below wr.heap.size wr (wr.alloc (.cells #[.int .i64 x1, .int .u64 x2, .int .i64 x3] 27)) := (Below.refl _ _).alloc (Nat.le_refl _) _
                  have K19 := Lib.hid (KK.out.trans (hb19.mono KK.out.size))
                  have JX19_ := Lib.hid (JX.out.lift hb19)
                  clear hb19 KK JX
                  obtain ⟨c0, c1, c2, c3, _⟩ := JX19_.out
                  obtain ⟨⟨d0, d1, d2⟩, _, _⟩ := BX.out
                  have T20 := Lib.hid (F.out none 0 (wr.alloc (.cells #[.int .i64 x1, .int .u64 x2, .int .i64 x3] 27)) (Nat.le_refl _) (Rd.nil _ _))
                  go_wp2_with fail
                  refine T20.out.mono ?_
                  rintro e w20 ⟨va, vb, vc, rfl, hoa, hob, hoc, hb20⟩
                  have Hoa20 := Lib.hid (hoa.mono K19.out.size)
                  have Hob20 := Lib.hid (hob.mono K19.out.size)
                  have Hoc20 := Lib.hid (hoc.mono K19.out.size)
                  have K20 := Lib.hid (K19.out.trans (hb20.mono K19.out.size))
                  have JX20_ := Lib.hid (JX19_.out.lift hb20)
                  have BX20_ := Lib.hid (BX.out.lift hb20)
                  clear T20 hb20 hoa hob hoc K19 JX19_ BX
                  obtain ⟨p4, q4, rfl, hq4, hr4, _⟩ := Hob20.out.args
                  clear hr4 c0 c1 c2 c3 d0 d1 d2
                  clear Hoa20 Hob20 Hoc20
                  obtain ⟨⟨d0, d1, d2⟩, _, _⟩ := BX20_.out
                  go_wp2
                  go_roundw
                  case rel => exact ⟨k + 1, by go_num, by omega, by omega, Lib.hid JX20_.out, K20.out⟩
                  case measure => simp [intOf]; omega
                · have h4 : 1099511627775 < x3 := by
                    apply Classical.byContradiction; intro h4
                    have : keptB 6 (x1, x2, x3) = true := by unfold keptB timeB; simp only [Bool.and_eq_true, decide_eq_true_eq]; omega
                    rw [this] at hkp; cases hkp
                  have F := Lib.hid (feed_to (show feedD bCnt 6 1 3 [] (x1, x2, x3) = ([], [], [], 1) from by have h := HA.out (x1, x2, x3); rw [hkp] at h; exact h) (by simp))
                  clear hkp HA SM hdd HR AW
                  have hb21 : Below wr.heap.size wr (wr.alloc (.cells #[.int .i64 x1, .int .u64 x2, .int .i64 x3] 27)) := (Below.refl _ _).alloc (Nat.le_refl _) _
                  have K21 := Lib.hid (KK.out.trans (hb21.mono KK.out.size))
                  have JX21_ := Lib.hid (JX.out.lift hb21)
                  clear hb21 KK JX
                  obtain ⟨c0, c1, c2, c3, _⟩ := JX21_.out
                  obtain ⟨⟨d0, d1, d2⟩, _, _⟩ := BX.out
                  have T22 := Lib.hid (F.out none 0 (wr.alloc (.cells #[.int .i64 x1, .int .u64 x2, .int .i64 x3] 27)) (Nat.le_refl _) (Rd.nil _ _))
                  go_wp2_with fail
                  refine T22.out.mono ?_
                  rintro e w22 ⟨va, vb, vc, rfl, hoa, hob, hoc, hb22⟩
                  have Hoa22 := Lib.hid (hoa.mono K21.out.size)
                  have Hob22 := Lib.hid (hob.mono K21.out.size)
                  have Hoc22 := Lib.hid (hoc.mono K21.out.size)
                  have K22 := Lib.hid (K21.out.trans (hb22.mono K21.out.size))
                  have JX22_ := Lib.hid (JX21_.out.lift hb22)
                  have BX22_ := Lib.hid (BX.out.lift hb22)
                  clear T22 hb22 hoa hob hoc K21 JX21_ BX
                  obtain ⟨p4, q4, rfl, hq4, hr4, _⟩ := Hob22.out.args
                  clear hr4 c0 c1 c2 c3 d0 d1 d2
                  clear Hoa22 Hob22 Hoc22
                  obtain ⟨⟨d0, d1, d2⟩, _, _⟩ := BX22_.out
                  go_wp2
                  go_roundw
                  case rel => exact ⟨k + 1, by go_num, by omega, by omega, Lib.hid JX22_.out, K22.out⟩
                  case measure => simp [intOf]; omega
          · have hk2 := hkp
            unfold keptB timeB at hk2
            simp only [Bool.and_eq_true, decide_eq_true_eq] at hk2
            obtain ⟨g1, g2, g3, g4⟩ := hk2
            have g5 : ¬ x1 < 0 := by omega
            have g6 : ¬ 5 < x1 := by omega
            have g7 : ¬ x3 < 0 := by omega
            have g8 : ¬ 1099511627775 < x3 := by omega
            have F := Lib.hid (feed_to (show feedD bCnt 6 1 3 [] (x1, x2, x3) = ([], [(x1, x2, x3)], [], 0) from by have h := HA.out (x1, x2, x3); rw [hkp] at h; exact h) (by simp))
            clear hkp HA HR AW g1 g2 g3 g4
            have hb23 : Below wr.heap.size wr (wr.alloc (.cells #[.int .i64 x1, .int .u64 x2, .int .i64 x3] 27)) := (Below.refl _ _).alloc (Nat.le_refl _) _
            have K23 := Lib.hid (KK.out.trans (hb23.mono KK.out.size))
            have JX23_ := Lib.hid (JX.out.lift hb23)
            clear hb23 KK JX
            obtain ⟨c0, c1, c2, c3, _⟩ := JX23_.out
            obtain ⟨⟨d0, d1, d2⟩, _, _⟩ := BX.out
            have T24 := Lib.hid (F.out none 0 (wr.alloc (.cells #[.int .i64 x1, .int .u64 x2, .int .i64 x3] 27)) (Nat.le_refl _) (Rd.nil _ _))
            go_wp2_with fail
            refine T24.out.mono ?_
            rintro e w24 ⟨va, vb, vc, rfl, hoa, hob, hoc, hb24⟩
            have Hoa24 := Lib.hid (hoa.mono K23.out.size)
            have Hob24 := Lib.hid (hob.mono K23.out.size)
            have Hoc24 := Lib.hid (hoc.mono K23.out.size)
            have K24 := Lib.hid (K23.out.trans (hb24.mono K23.out.size))
            have JX24_ := Lib.hid (JX23_.out.lift hb24)
            have BX24_ := Lib.hid (BX.out.lift hb24)
            clear T24 hb24 hoa hob hoc K23 JX23_ BX
            obtain ⟨p3, q3, rfl, _, hr3, _⟩ := Hoa24.out.args
            obtain ⟨p4, q4, rfl, hq4, hr4, _⟩ := Hob24.out.args
            obtain ⟨p5, q5, rfl, _, hr5, _⟩ := Hoc24.out.args
            have RF := Lib.hid hr4
            clear hr3 hr4 hr5 c0 c1 c2 c3 d0 d1 d2
            clear Hoa24 Hob24 Hoc24
            obtain ⟨⟨d0, d1, d2⟩, _, _⟩ := BX24_.out
            have R5 := Lib.hid (one_rd (x1, x2, x3) w24)
            have hb25 : Below w24.heap.size w24 (w24.alloc (.cells #[.int .i64 x1, .int .u64 x2, .int .i64 x3] 27)) := (Below.refl _ _).alloc (Nat.le_refl _) _
            have K25 := Lib.hid (K24.out.trans (hb25.mono K24.out.size))
            have JX25_ := Lib.hid (JX24_.out.lift hb25)
            have BX25_ := Lib.hid (BX24_.out.lift hb25)
            have RF25_ := Lib.hid (RF.out.lift hb25)
            clear hb25 K24 JX24_ BX24_ RF
            have SD := hdd [(x1, x2, x3)]
            have T26 := Lib.hid (SM.out [(x1, x2, x3)] (by simp) p4 _ q4 1 (w24.alloc (.cells #[.int .i64 x1, .int .u64 x2, .int .i64 x3] 27)) RF25_.out R5.out)
            go_wp2_with fail
            refine T26.out.mono ?_
            rintro e w26 ⟨rfl, hb26⟩
            have K26 := Lib.hid (K25.out.trans (hb26.mono K25.out.size))
            have JX26_ := Lib.hid (JX25_.out.lift hb26)
            have BX26_ := Lib.hid (BX25_.out.lift hb26)
            have RF26_ := Lib.hid (RF25_.out.lift hb26)
            have R526_ := Lib.hid (R5.out.lift hb26)
            clear T26 hb26 K25 JX25_ BX25_ RF25_ R5
            go_wp2
            go_roundw
            case rel => exact ⟨k + 1, by go_num, by omega, by omega, Lib.hid JX26_.out, K26.out⟩
            case measure => simp [intOf]; omega
        · have h20i : ¬ (k : Int) < 20 := by omega
          have T27 := Lib.hid (AW.out wr)
          go_wp2_with fail
          refine T27.out.mono ?_
          rintro e w27 ⟨rfl, hb27⟩
          have K27 := Lib.hid (KK.out.trans (hb27.mono KK.out.size))
          clear T27 hb27 KK
          go_wp2
          go_ret
          exact ⟨rfl, K27.out⟩
      · have hge : ¬ (k : Int) < X.length := by omega
        have T28 := Lib.hid (AW.out wr)
        go_wp2_with fail
        refine T28.out.mono ?_
        rintro e w28 ⟨rfl, hb28⟩
        have K28 := Lib.hid (KK.out.trans (hb28.mono KK.out.size))
        clear T28 hb28 KK
        go_wp2
        go_ret
        exact ⟨rfl, K28.out⟩
end Go.Proofs.Ytllojkdacinhfaa.Jn
