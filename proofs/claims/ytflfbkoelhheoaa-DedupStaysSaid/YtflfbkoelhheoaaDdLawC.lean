/- Layer 13: the walk of DedupStays. -/
import Derived.Test.YtflfbkoelhheoaaDdJ
namespace Go.Proofs.Ytflfbkoelhheoaa.Dd
open Go.RowKit Go.Shelf Go.Proofs.Ytflfbkoelhheoaa Go.Proofs.Ytflfbkoelhheoaa.La
set_option linter.unusedVariables false
set_option linter.unusedSimpArgs false
set_option maxHeartbeats 8000000 in
set_option maxRecDepth 100000 in
theorem dedupStays_walk (X : List El) (pa : Option Addr) (cap : Nat) (x0 : El) (w : World) (hcap : X.length ≤ cap) (hm : X.length ≤ 9223372036854775807) (hR : Rd w pa X) (hF : ∀ x ∈ X, 0 ≤ x.2.1 ∧ x.2.1 ≤ 18446744073709551615) (hx0 : 0 ≤ x0.2.1) (hx1 : x0.2.1 ≤ 18446744073709551615) :
    Calls Try.prog 7 #[.slice pa X.length cap, eV x0] w fun e w' => e = .returned (.bool true) ∧ Below w.heap.size w w' := by
  have hO := few_ok X hF
  have hxo := ok_fw x0 hx0 hx1
  have hfl := fewD_len X
  have hb0 : Below w.heap.size w (w.alloc (.cells #[.string x0.1, .int .u64 x0.2.1, .int .i64 x0.2.2] 25)) := (Below.refl _ _).alloc (Nat.le_refl _) _
  have F := Lib.hid (fewD_any X pa cap _ hm (hR.lift hb0))
  have FW := Lib.hid (fun w => few_any x0.1 w)
  have hfe : fewE x0 = (fw x0.1, x0.2.1, x0.2.2) := rfl
  rw [hfe] at hxo
  have hY : (fewD X).length ≤ 100 := by omega
  generalize fewD X = Y at *
  generalize fw x0.1 = f at *
  obtain ⟨x1, x2, x3⟩ := x0
  simp only at *
  have T1 := Lib.hid (fun pa cap w hc hR hn => take_any Y pa cap (f, x2, x3) w hY hc hR hn hO hxo)
  have hl := takeD_len Y (f, x2, x3)
  have hk := fun h => take_ok (X := Y) (x := (f, x2, x3)) hxo h
  have hn0 := fun h => take_not (X := Y) (x := (f, x2, x3)) h
  have hOL := oks_take hO hxo
  have AW := Lib.hid awakeD_any
  have BX := Lib.hid (Bx.new (f, x2, x3) w)
  have B0 := Lib.hid (show Below w.heap.size w (w.alloc (.cells #[.string f, .int .u64 x2, .int .i64 x3] 25)) from (Below.refl _ _).alloc (Nat.le_refl _) _)
  generalize takeD Y (f, x2, x3) = t at *
  obtain ⟨L, t2⟩ := t
  simp only at *
  have hL : L.length ≤ 100 := by omega
  have NL := Lib.hid (fun p pa cap w hR => find_any L pa cap p w hL hR)
  have AL := Lib.hid (fun pa cap w hR => ask_any L pa cap f x2 w hL hR hOL hx0 hx1)
  have TL := Lib.hid (fun pa cap w hc hR hn => take_any L pa cap (f, x2, x3) w hL hc hR hn hOL hxo)
  have CL := Lib.hid (fun pa cap w hR => check_any L pa cap w hL hR)
  clear hR hF hx0 hx1 hb0 hfe hm
  go_enter Try.func7, Try.ntmps7
  go_wp2_with fail
  refine F.out.mono ?_
  rintro e w1 ⟨v, rfl, o1, hb1⟩
  have BX1 := (Bx.new (x1, x2, x3) w).lift hb1
  obtain ⟨y0, y1, y2⟩ := BX1.c
  obtain ⟨q0, q1, q2⟩ := BX1.f
  simp only at y0 y1 y2
  have hlt1 : w.heap.size < w1.heap.size := BX1.lt
  have BXs : Bx w.heap.size (w1.setCell ⟨w.heap.size, 0, none⟩ (.string f)) (f, x2, x3) := ⟨⟨by simp [go_sem, y0], by simp [go_sem, y1], by simp [go_sem, y2]⟩, ⟨by simp [go_sem, q0], by simp [go_sem, q1], by simp [go_sem, q2]⟩, by simpa using hlt1⟩
  have o1s : Own (w1.setCell ⟨w.heap.size, 0, none⟩ (.string f)) _ v Y := ⟨ownsRow_setCell_below o1.own (by simp) _⟩
  have KK : Below w.heap.size w (w1.setCell ⟨w.heap.size, 0, none⟩ (.string f)) := (((Below.refl _ _).alloc (Nat.le_refl _) _).trans (hb1.mono (by simp))).setCell (Nat.le_refl _) _
  have BX2 := Lib.hid BXs
  have K0 := Lib.hid KK
  obtain ⟨pb, cb, rfl, hcb, hrb, hnb⟩ := o1s.args
  have RY := Lib.hid hrb
  clear BX1 BXs o1s KK o1 hb1 hrb F BX B0 hlt1
  go_wp2_with fail
  refine (FW.out _).mono ?_
  rintro e w2 ⟨rfl, rfl⟩
  go_wp2_with fail
  generalize w1.setCell ⟨w.heap.size, 0, none⟩ (.string f) = W1 at *
  clear y0 y1 y2 q0 q1 q2
  obtain ⟨y0, y1, y2⟩ := BX2.out.c
  have hYi : (Y.length : Int) ≤ 51 := by omega
  by_cases h0 : t2 = 0
  · subst h0
    have OK := Lib.hid (hk rfl)
    clear hk hn0 hl hOL hO hxo
    rw [OK.out.ask] at AL
    rw [OK.out.again] at TL
    rw [OK.out.now] at CL
    have NF := Lib.hid (fun pa cap w hR => NL.out f pa cap w hR)
    rw [OK.out.find] at NF
    have T1 := Lib.hid (T1.out pb cb W1 hcb RY.out hnb)
    go_wp2_with fail
    refine T1.out.mono ?_
    rintro e w1 ⟨v6, rfl, ho6, hb1⟩
    have Ho61 := Lib.hid (ho6.mono K0.out.size)
    have K1 := Lib.hid (K0.out.trans (hb1.mono K0.out.size))
    have BX21_ := Lib.hid (BX2.out.lift hb1)
    have RY1_ := Lib.hid (RY.out.lift hb1)
    clear T1 hb1 ho6 K0 BX2 RY
    obtain ⟨p6, c6, rfl, hc6, hr6, hn6⟩ := Ho61.out.args
    have R6 := Lib.hid hr6
    clear hr6
    clear Ho61
    go_wp2_with fail
    have BY0 := Lib.hid BX21_.out
    have RY0 := Lib.hid RY1_.out
    have RL0 := Lib.hid R6.out
    have KP := Lib.hid K1.out
    generalize hWW : w1 = W2 at *
    clear hWW
    clear y0 y1 y2
    go_loopw [7] (fun i wx => ∃ k : Nat, i = .int .i64 k ∧ k ≤ Y.length ∧ Below W2.heap.size W2 wx) (fun i _ => Y.length - (intOf i).toNat)
    case atStart => exact ⟨0, rfl, Nat.zero_le _, Below.refl _ _⟩
    case round =>
      obtain ⟨k, rfl, hk, kk⟩ := hrel
      have BY1 := Lib.hid (BY0.out.lift kk)
      have RY1 := Lib.hid (RY0.out.lift kk)
      have RL1 := Lib.hid (RL0.out.lift kk)
      have Kk := Lib.hid kk
      clear kk
      by_cases hlt : k < Y.length
      · have hlt' : (k : Int) < Y.length := by omega
        obtain ⟨b, o, hpb, hbz, c0, c1, c2⟩ := RY1.out.at k hlt
        have N1 := Lib.hid (NL.out Y[k].1 p6 c6 wr RL1.out)
        have hoth := fun h => OK.out.other (List.getElem_mem hlt) h
        have hat := Lib.hid (fun w' (h : Rd w' pb Y) => h.at k hlt)
        simp only at hoth
        generalize Y[k] = z at *
        obtain ⟨z1, z2, z3⟩ := z
        simp only at c0 c1 c2 hoth
        subst hpb
        by_cases he : z1 = f
        · generalize findD L z1 = n at *
          obtain ⟨⟨n1, n2, n3⟩, n4⟩ := n
          have BY := BY1
          have RYk := RY1
          subst he
          clear hoth
          have T2 := Lib.hid (N1.out)
          go_wp2_with fail
          refine T2.out.mono ?_
          rintro e w2 ⟨rfl, hb2⟩
          have K2 := Lib.hid (Kk.out.trans (hb2.mono Kk.out.size))
          have BY2_ := Lib.hid (BY.out.lift hb2)
          have RYk2_ := Lib.hid (RYk.out.lift hb2)
          clear T2 hb2 Kk BY RYk
          have BN := Lib.hid (Bx.new (n1, n2, n3) w2)
          have hb3 : Below w2.heap.size w2 (w2.alloc (.cells #[.string n1, .int .u64 n2, .int .i64 n3] 25)) := (Below.refl _ _).alloc (Nat.le_refl _) _
          have K3 := Lib.hid (K2.out.trans (hb3.mono K2.out.size))
          have BY3_ := Lib.hid (BY2_.out.lift hb3)
          have RYk3_ := Lib.hid (RYk2_.out.lift hb3)
          clear hb3 K2 BY2_ RYk2_
          obtain ⟨y0, y1, y2⟩ := BY3_.out.c
          obtain ⟨n0, n5, n6⟩ := BN.out.c
          obtain ⟨b', o', e', _, d0, d1, d2⟩ := hat.out _ RYk3_.out
          obtain ⟨rfl, rfl⟩ : b = b' ∧ o = o' := by cases e'; exact ⟨rfl, rfl⟩
          try simp only at d0 d1 d2
          have KK := Lib.hid K3.out
          clear e' c0 c1 c2 hat
          go_wp2_with fail
          have k1 : (0 : Int) ≤ k := by omega
          have k2 : k < Y.length := hlt
          go_quiet (fail)
          have K9 := Lib.hid (below_drewN KK.out nq)
          go_wp2
          go_roundw
          case rel => exact ⟨k + 1, by go_num, by omega, K9.out⟩
          case measure => simp [intOf]; omega
        · rw [hoth he] at N1
          have h1t : ¬ z1.toList = f.toList := fun e => he ((str_eq _ _).1 e)
          have h1b : (z1.toList == f.toList) = false := by simpa using h1t
          have BY := BY1
          have RYk := RY1
          clear hoth
          have T4 := Lib.hid (N1.out)
          go_wp2_with fail
          refine T4.out.mono ?_
          rintro e w4 ⟨rfl, hb4⟩
          have K4 := Lib.hid (Kk.out.trans (hb4.mono Kk.out.size))
          have BY4_ := Lib.hid (BY.out.lift hb4)
          have RYk4_ := Lib.hid (RYk.out.lift hb4)
          clear T4 hb4 Kk BY RYk
          have BN := Lib.hid (Bx.new (z1, z2, z3) w4)
          have hb5 : Below w4.heap.size w4 (w4.alloc (.cells #[.string z1, .int .u64 z2, .int .i64 z3] 25)) := (Below.refl _ _).alloc (Nat.le_refl _) _
          have K5 := Lib.hid (K4.out.trans (hb5.mono K4.out.size))
          have BY5_ := Lib.hid (BY4_.out.lift hb5)
          have RYk5_ := Lib.hid (RYk4_.out.lift hb5)
          clear hb5 K4 BY4_ RYk4_
          obtain ⟨y0, y1, y2⟩ := BY5_.out.c
          obtain ⟨n0, n5, n6⟩ := BN.out.c
          obtain ⟨b', o', e', _, d0, d1, d2⟩ := hat.out _ RYk5_.out
          obtain ⟨rfl, rfl⟩ : b = b' ∧ o = o' := by cases e'; exact ⟨rfl, rfl⟩
          try simp only at d0 d1 d2
          have KK := Lib.hid K5.out
          clear e' c0 c1 c2 hat
          go_wp2_with fail
          have k1 : (0 : Int) ≤ k := by omega
          have k2 : k < Y.length := hlt
          go_quiet (fail)
          have K9 := Lib.hid (below_drewN KK.out nq)
          go_wp2
          go_roundw
          case rel => exact ⟨k + 1, by go_num, by omega, K9.out⟩
          case measure => simp [intOf]; omega
      · have hge : (Y.length : Int) ≤ k := by omega
        have K9 := Lib.hid (KP.out.trans (Kk.out.mono KP.out.size))
        have BY := BY1
        have RL := RL1
        obtain ⟨y0, y1, y2⟩ := BY.out.c
        have T6 := Lib.hid (AL.out p6 c6 wr RL.out)
        go_wp2_with fail
        refine T6.out.mono ?_
        rintro e w6 ⟨rfl, hb6⟩
        have K6 := Lib.hid (K9.out.trans (hb6.mono K9.out.size))
        have BY6_ := Lib.hid (BY.out.lift hb6)
        have RL6_ := Lib.hid (RL.out.lift hb6)
        clear T6 hb6 K9 BY RL
        obtain ⟨y0, y1, y2⟩ := BY6_.out.c
        have T7 := Lib.hid (TL.out p6 c6 w6 hc6 RL6_.out hn6)
        go_wp2_with fail
        refine T7.out.mono ?_
        rintro e w7 ⟨v7, rfl, ho7, hb7⟩
        have Ho77 := Lib.hid (ho7.mono K6.out.size)
        have K7 := Lib.hid (K6.out.trans (hb7.mono K6.out.size))
        have BY7_ := Lib.hid (BY6_.out.lift hb7)
        have RL7_ := Lib.hid (RL6_.out.lift hb7)
        clear T7 hb7 ho7 K6 BY6_ RL6_
        obtain ⟨p7, c7, rfl, _, _, _⟩ := Ho77.out.args
        clear Ho77
        obtain ⟨y0, y1, y2⟩ := BY7_.out.c
        have T8 := Lib.hid (NF.out p6 c6 w7 RL7_.out)
        go_wp2_with fail
        refine T8.out.mono ?_
        rintro e w8 ⟨rfl, hb8⟩
        have K8 := Lib.hid (K7.out.trans (hb8.mono K7.out.size))
        have BY8_ := Lib.hid (BY7_.out.lift hb8)
        have RL8_ := Lib.hid (RL7_.out.lift hb8)
        clear T8 hb8 K7 BY7_ RL7_
        have BN := Lib.hid (Bx.new (f, x2, x3) w8)
        have hb9 : Below w8.heap.size w8 (w8.alloc (.cells #[.string f, .int .u64 x2, .int .i64 x3] 25)) := (Below.refl _ _).alloc (Nat.le_refl _) _
        have K9 := Lib.hid (K8.out.trans (hb9.mono K8.out.size))
        have BY9_ := Lib.hid (BY8_.out.lift hb9)
        have RL9_ := Lib.hid (RL8_.out.lift hb9)
        clear hb9 K8 BY8_ RL8_
        have T10 := Lib.hid (CL.out p6 c6 (w8.alloc (.cells #[.string f, .int .u64 x2, .int .i64 x3] 25)) RL9_.out)
        go_wp2_with fail
        refine T10.out.mono ?_
        rintro e w10 ⟨rfl, hb10⟩
        have K10 := Lib.hid (K9.out.trans (hb10.mono K9.out.size))
        have BY10_ := Lib.hid (BY9_.out.lift hb10)
        have RL10_ := Lib.hid (RL9_.out.lift hb10)
        have BN10_ := Lib.hid (BN.out.lift hb10)
        clear T10 hb10 K9 BY9_ RL9_ BN
        obtain ⟨y0, y1, y2⟩ := BY10_.out.c
        obtain ⟨n0, n5, n6⟩ := BN10_.out.c
        have T11 := Lib.hid (AW.out w10)
        go_wp2_with fail
        refine T11.out.mono ?_
        rintro e w11 ⟨rfl, hb11⟩
        have K11 := Lib.hid (K10.out.trans (hb11.mono K10.out.size))
        have BY11_ := Lib.hid (BY10_.out.lift hb11)
        have RL11_ := Lib.hid (RL10_.out.lift hb11)
        have BN11_ := Lib.hid (BN10_.out.lift hb11)
        clear T11 hb11 K10 BY10_ RL10_ BN10_
        go_wp2
        go_ret
        exact ⟨rfl, K11.out⟩
  · have h0d : decide (t2 = 0) = false := by simpa using h0
    obtain rfl : L = [] := hn0 h0
    clear hk hn0 hl hOL hO hxo
    have T12 := Lib.hid (T1.out pb cb W1 hcb RY.out hnb)
    go_wp2_with fail
    refine T12.out.mono ?_
    rintro e w12 ⟨v6, rfl, ho6, hb12⟩
    have Ho612 := Lib.hid (ho6.mono K0.out.size)
    have K12 := Lib.hid (K0.out.trans (hb12.mono K0.out.size))
    have BX212_ := Lib.hid (BX2.out.lift hb12)
    have RY12_ := Lib.hid (RY.out.lift hb12)
    clear T12 hb12 ho6 K0 BX2 RY
    obtain ⟨p6, c6, rfl, hc6, hr6, hn6⟩ := Ho612.out.args
    clear Ho612
    have T13 := Lib.hid (AW.out w12)
    go_wp2_with fail
    refine T13.out.mono ?_
    rintro e w13 ⟨rfl, hb13⟩
    have K13 := Lib.hid (K12.out.trans (hb13.mono K12.out.size))
    have BX213_ := Lib.hid (BX212_.out.lift hb13)
    have RY13_ := Lib.hid (RY12_.out.lift hb13)
    clear T13 hb13 K12 BX212_ RY12_
    go_wp2
    go_ret
    exact ⟨rfl, K13.out⟩
end Go.Proofs.Ytflfbkoelhheoaa.Dd
