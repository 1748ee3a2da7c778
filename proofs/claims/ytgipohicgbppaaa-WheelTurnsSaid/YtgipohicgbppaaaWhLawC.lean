/- Layer 11: the walk of WheelTurns. -/
import Derived.Test.YtgipohicgbppaaaWhR
import Derived.Test.YtgipohicgbppaaaWhMathB
namespace Go.Proofs.Ytgipohicgbppaaa
open Go.RowKit Go.Shelf
set_option maxHeartbeats 8000000 in
set_option maxRecDepth 100000 in
theorem wheelTurns_walk (X : List Tm) (pa : Option Addr) (cap : Nat) (x y : Tm) (w : World) (hcap : X.length ≤ cap) (hR : Rd w pa X) :
    Calls Try.prog 7 #[.slice pa X.length cap, tmV x, tmV y] w fun e w' => e = .returned (.bool true) ∧ Below w.heap.size w w' := by
  obtain ⟨a, ia⟩ := x
  obtain ⟨b, ib⟩ := y
  have T0 : Pair w.heap.size w ((w.alloc (.cells #[.int .i64 a, .int .u64 ia] 38)).alloc (.cells #[.int .i64 b, .int .u64 ib] 38)) (a, ia) (b, ib) := by
    refine ⟨?_, ?_, ?_, ?_, by simp, ((Below.refl _ _).alloc (Nat.le_refl _) _).alloc (by simp) _⟩
    all_goals simp [go_sem]
  have F := Lib.hid (few_any X pa cap _ hcap (hR.lift T0.below))
  have hY : (X.take 121).length ≤ 121 := by rw [List.length_take]; omega
  have q0 : w.heap.size ≤ ((w.alloc (.cells #[.int .i64 a, .int .u64 ia] 38)).alloc (.cells #[.int .i64 b, .int .u64 ib] 38)).heap.size := by simp; omega
  have P0 := Lib.hid T0
  generalize X.take 121 = Y at *
  have C := Lib.hid (fun pa cap w hR => check_any Y pa cap w (by omega) hR)
  have A := Lib.hid awake_any
  clear hR T0 hcap
  go_enter Try.func7, Try.ntmps7
  go_wp2_with fail
  generalize (w.alloc (.cells #[.int .i64 a, .int .u64 ia] 38)).alloc (.cells #[.int .i64 b, .int .u64 ib] 38) = W at *
  refine F.out.mono ?_
  rintro e w1 ⟨v, rfl, ho1, hb1⟩
  obtain ⟨pb, cb, rfl, hcb, hrb, hnb⟩ := own_args ho1
  have P1 := Lib.hid (P0.out.step hb1)
  have H1 := Lib.hid hrb
  have C1 := Lib.hid (C.out pb cb w1 hrb)
  clear F C hb1 ho1 hrb P0 q0
  by_cases hl : 110 < Y.length
  · have hli : (110 : Int) < Y.length := by omega
    clear C1
    go_wp2_with fail
    refine (A.out _).mono ?_
    rintro e w2 ⟨rfl, hb2⟩
    have P2 := Lib.hid (P1.out.step hb2)
    clear hb2
    go_wp2
    go_ret
    exact ⟨rfl, P2.out.below⟩
  · have hli : ¬ (110 : Int) < Y.length := by omega
    have hld : decide ((110 : Int) < Y.length) = false := by simpa using hli
    cases hm : mayT Y
    · rw [hm] at C1
      go_wp2_with fail
      refine C1.out.mono ?_
      rintro e w2 ⟨rfl, hb2⟩
      have P2 := Lib.hid (P1.out.step hb2)
      clear hb2 C1 hm
      go_wp2_with fail
      refine (A.out _).mono ?_
      rintro e w3 ⟨rfl, hb3⟩
      have P3 := Lib.hid (P2.out.step hb3)
      clear hb3
      go_wp2
      go_ret
      exact ⟨rfl, P3.out.below⟩
    · rw [hm] at C1
      have hY2 : Y.length ≤ 130 := by omega
      go_wp2_with fail
      refine C1.out.mono ?_
      rintro e w2 ⟨rfl, hb2⟩
      have P2 := Lib.hid (P1.out.step hb2)
      have H2 := Lib.hid (H1.out.lift hb2)
      clear hb2 C1 H1
      have z2 := P2.out.size
      have c0 := P2.out.c0
      have c1 := P2.out.c1
      have d0 := P2.out.d0
      have d1 := P2.out.d1
      simp only at c0 c1 d0 d1
      by_cases hi : ia = ib
      · subst hi
        go_wp2_with fail
        refine (A.out _).mono ?_
        rintro e w3 ⟨rfl, hb3⟩
        have P3 := Lib.hid (P2.out.step hb3)
        clear hb3
        go_wp2
        go_ret
        exact ⟨rfl, P3.out.below⟩
      · have hF := turns_fact (a := a) (b := b) hm (show Y.length ≤ 110 by omega) hi
        have hat := atP_has hm ia
        have g1 := setP_len Y ia a
        have g2 := setP_len (setP Y ia a).1 ib b
        have g3 := setP_len Y ib b
        have g4 := setP_len (setP Y ib b).1 ia a
        have SA := Lib.hid (fun pa cap w hc hR hn => set_any Y pa cap ia a w hY2 hc hR hn)
        have SB := Lib.hid (fun pa cap w hc hR hn => set_any Y pa cap ib b w hY2 hc hR hn)
        have SX := Lib.hid (fun pa cap w hc hR hn => set_any (setP Y ia a).1 pa cap ib b w (by omega) hc hR hn)
        have SY := Lib.hid (fun pa cap w hc hR hn => set_any (setP Y ib b).1 pa cap ia a w (by omega) hc hR hn)
        have AT := Lib.hid (fun pa cap w hR => at_any Y pa cap ia w hY2 hR)
        have ST := Lib.hid (fun pa cap w hc hR hn => stop_any (setP Y ia a).1 pa cap ia w (by omega) hc hR hn)
        generalize setP (setP Y ia a).1 ib b = r2 at *
        generalize setP (setP Y ib b).1 ia a = r4 at *
        generalize setP Y ia a = r1 at *
        generalize setP Y ib b = r3 at *
        generalize atP Y ia = rt at *
        obtain ⟨x1, e1⟩ := r1
        obtain ⟨x2, f1⟩ := r2
        obtain ⟨y1, e2⟩ := r3
        obtain ⟨y2, f2⟩ := r4
        obtain ⟨n0, th⟩ := rt
        simp only at hF hat g1 g2 g3 g4
        have HF := Lib.hid hF
        have HA := Lib.hid hat
        have G := Lib.hid (And.intro g1 (And.intro g2 (And.intro g3 g4)))
        clear hF hat g1 g2 g3 g4 hm z2
        go_wp2_with fail
        refine (SA.out pb cb w2 hcb H2.out hnb).mono ?_
        rintro e w3 ⟨v3, rfl, o3, hb3⟩
        obtain ⟨p3, k3, rfl, hc3, hr3, hn3⟩ := own_args o3
        have P3 := Lib.hid (P2.out.step hb3)
        have H3 := Lib.hid (H2.out.lift hb3)
        have XA3 := Lib.hid hr3
        clear hb3 o3 hr3 c0 c1 d0 d1 H2 P2
        have c0 := P3.out.c0
        have c1 := P3.out.c1
        have d0 := P3.out.d0
        have d1 := P3.out.d1
        simp only at c0 c1 d0 d1
        go_wp2_with fail
        refine (SX.out p3 k3 w3 hc3 XA3.out hn3).mono ?_
        rintro e w4 ⟨v4, rfl, o4, hb4⟩
        obtain ⟨p4, k4, rfl, hc4, hr4, hn4⟩ := own_args o4
        have P4 := Lib.hid (P3.out.step hb4)
        have H4 := Lib.hid (H3.out.lift hb4)
        have XB4 := Lib.hid hr4
        clear hb4 o4 hr4 c0 c1 d0 d1 H3 P3
        have c0 := P4.out.c0
        have c1 := P4.out.c1
        have d0 := P4.out.d0
        have d1 := P4.out.d1
        simp only at c0 c1 d0 d1
        go_wp2_with fail
        refine (SB.out pb cb w4 hcb H4.out hnb).mono ?_
        rintro e w5 ⟨v5, rfl, o5, hb5⟩
        obtain ⟨p5, k5, rfl, hc5, hr5, hn5⟩ := own_args o5
        have P5 := Lib.hid (P4.out.step hb5)
        have H5 := Lib.hid (H4.out.lift hb5)
        have XB5 := Lib.hid (XB4.out.lift hb5)
        have YA5 := Lib.hid hr5
        clear hb5 o5 hr5 c0 c1 d0 d1 H4 XB4 P4
        have c0 := P5.out.c0
        have c1 := P5.out.c1
        have d0 := P5.out.d0
        have d1 := P5.out.d1
        simp only at c0 c1 d0 d1
        go_wp2_with fail
        refine (SY.out p5 k5 w5 hc5 YA5.out hn5).mono ?_
        rintro e w6 ⟨v6, rfl, o6, hb6⟩
        obtain ⟨p6, k6, rfl, hc6, hr6, hn6⟩ := own_args o6
        have P6 := Lib.hid (P5.out.step hb6)
        have H6 := Lib.hid (H5.out.lift hb6)
        have XB6 := Lib.hid (XB5.out.lift hb6)
        have YB6 := Lib.hid hr6
        clear hb6 o6 hr6 c0 c1 d0 d1 H5 XB5 P5
        have c0 := P6.out.c0
        have c1 := P6.out.c1
        have d0 := P6.out.d0
        have d1 := P6.out.d1
        simp only at c0 c1 d0 d1
        rcases HF.out with ⟨rfl, hbad⟩ | ⟨rfl, rfl, hbad⟩ | ⟨rfl, rfl, rfl, rfl, hxy, hmx, hhx, hst⟩
        · clear HA G H6 XB6 YB6 ST AT SA
          by_cases ha : a < 0
          · clear hbad
            go_wp2_with fail
            refine (A.out _).mono ?_
            rintro e w7 ⟨rfl, hb7⟩
            have P7 := Lib.hid (P6.out.step hb7)
            clear hb7
            go_wp2
            go_ret
            exact ⟨rfl, P7.out.below⟩
          · have ha2 : (1099511627775 : Int) < a := by omega
            have had : decide (a < 0) = false := by simpa using ha
            clear hbad
            go_wp2_with fail
            refine (A.out _).mono ?_
            rintro e w7 ⟨rfl, hb7⟩
            have P7 := Lib.hid (P6.out.step hb7)
            clear hb7
            go_wp2
            go_ret
            exact ⟨rfl, P7.out.below⟩
        · clear HA G H6 XB6 YB6 ST AT SA
          by_cases ha : a < 0
          · clear hbad
            go_wp2_with fail
            refine (A.out _).mono ?_
            rintro e w7 ⟨rfl, hb7⟩
            have P7 := Lib.hid (P6.out.step hb7)
            clear hb7
            go_wp2
            go_ret
            exact ⟨rfl, P7.out.below⟩
          · have had : decide (a < 0) = false := by simpa using ha
            by_cases ha2 : (1099511627775 : Int) < a
            · clear hbad
              go_wp2_with fail
              refine (A.out _).mono ?_
              rintro e w7 ⟨rfl, hb7⟩
              have P7 := Lib.hid (P6.out.step hb7)
              clear hb7
              go_wp2
              go_ret
              exact ⟨rfl, P7.out.below⟩
            · have ha3 : decide ((1099511627775 : Int) < a) = false := by simpa using ha2
              by_cases hb : b < 0
              · clear hbad
                go_wp2_with fail
                refine (A.out _).mono ?_
                rintro e w7 ⟨rfl, hb7⟩
                have P7 := Lib.hid (P6.out.step hb7)
                clear hb7
                go_wp2
                go_ret
                exact ⟨rfl, P7.out.below⟩
              · have hb3 : decide (b < 0) = false := by simpa using hb
                have hb4 : (1099511627775 : Int) < b := by omega
                clear hbad
                go_wp2_with fail
                refine (A.out _).mono ?_
                rintro e w7 ⟨rfl, hb7⟩
                have P7 := Lib.hid (P6.out.step hb7)
                clear hb7
                go_wp2
                go_ret
                exact ⟨rfl, P7.out.below⟩
        · obtain rfl := hxy
          obtain rfl : th = hasB Y ia := HA.out
          have T6 := Lib.hid (AT.out pb cb w6 H6.out)
          have Hst := Lib.hid hst
          have Hmx := Lib.hid (And.intro hmx hhx)
          clear hst hmx hhx HA AT
          generalize hasB Y ia = th at *
          go_wp2_with fail
          refine T6.out.mono ?_
          rintro e w7 ⟨rfl, hb7⟩
          have P7 := Lib.hid (P6.out.step hb7)
          have H7 := Lib.hid (H6.out.lift hb7)
          have XB7 := Lib.hid (XB6.out.lift hb7)
          have YB7 := Lib.hid (YB6.out.lift hb7)
          clear hb7 c0 c1 d0 d1 H6 XB6 YB6 P6 T6
          have c0 := P7.out.c0
          have c1 := P7.out.c1
          have d0 := P7.out.d0
          have d1 := P7.out.d1
          simp only at c0 c1 d0 d1
          go_wp2_with fail
          refine (SA.out pb cb w7 hcb H7.out hnb).mono ?_
          rintro e w8 ⟨v8, rfl, o8, hb8⟩
          obtain ⟨p8, k8, rfl, hc8, hr8, hn8⟩ := own_args o8
          have P8 := Lib.hid (P7.out.step hb8)
          have H8 := Lib.hid (H7.out.lift hb8)
          have XB8 := Lib.hid (XB7.out.lift hb8)
          have YB8 := Lib.hid (YB7.out.lift hb8)
          have XA8 := Lib.hid hr8
          clear hb8 o8 hr8 c0 c1 d0 d1 H7 XB7 YB7 P7
          have c0 := P8.out.c0
          have c1 := P8.out.c1
          have d0 := P8.out.d0
          have d1 := P8.out.d1
          simp only at c0 c1 d0 d1
          have T8 := Lib.hid (ST.out p8 k8 w8 hc8 XA8.out hn8)
          rw [Hmx.out.1, Hmx.out.2] at T8
          simp only [if_true, Bool.and_self] at T8
          clear Hmx ST SA SB SX SY
          go_wp2_with fail
          refine T8.out.mono ?_
          rintro e w9 ⟨v9, rfl, o9, hb9⟩
          obtain ⟨p9, k9, rfl, hc9, hr9, hn9⟩ := own_args o9
          have P9 := Lib.hid (P8.out.step hb9)
          have H9 := Lib.hid (H8.out.lift hb9)
          have ZA9 := Lib.hid hr9
          have S9 := Lib.hid (same_any x2 x2 p4 p6 k4 k6 w9 (by have := G.out; omega) (XB8.out.lift hb9) (YB8.out.lift hb9))
          rw [show decide (x2 = x2) = true by simp] at S9
          clear hb9 o9 hr9 c0 c1 d0 d1 H8 XB8 YB8 P8 T8
          go_wp2_with fail
          refine S9.out.mono ?_
          rintro e w10 ⟨rfl, hb10⟩
          have P10 := Lib.hid (P9.out.step hb10)
          have H10 := Lib.hid (H9.out.lift hb10)
          have ZA10 := Lib.hid (ZA9.out.lift hb10)
          clear hb10 S9 H9 ZA9 P9
          cases th
          · have hz : stopL x1 ia = Y := Hst.out rfl
            have hlz : (stopL x1 ia).length = Y.length := by rw [hz]
            have S10 := Lib.hid (same_any (stopL x1 ia) Y p9 pb k9 cb w10 (by omega) ZA10.out H10.out)
            rw [show decide (stopL x1 ia = Y) = true by simp [hz]] at S10
            generalize stopL x1 ia = zz at *
            clear Hst hlz hz
            go_wp2_with fail
            refine S10.out.mono ?_
            rintro e w11 ⟨rfl, hb11⟩
            have P11 := Lib.hid (P10.out.step hb11)
            clear hb11 S10
            go_wp2_with fail
            refine (A.out _).mono ?_
            rintro e w12 ⟨rfl, hb12⟩
            have P12 := Lib.hid (P11.out.step hb12)
            clear hb12
            go_wp2
            go_ret
            exact ⟨rfl, P12.out.below⟩
          · clear Hst
            go_wp2_with fail
            refine (A.out _).mono ?_
            rintro e w12 ⟨rfl, hb12⟩
            have P12 := Lib.hid (P10.out.step hb12)
            clear hb12
            go_wp2
            go_ret
            exact ⟨rfl, P12.out.below⟩
end Go.Proofs.Ytgipohicgbppaaa
