/- Layer 11: the walk of WheelSets. -/
import Derived.Test.YtgipohicgbppaaaWhR
import Derived.Test.YtgipohicgbppaaaWhY
import Derived.Deep.QuietTactic
import Derived.BigQuiet
namespace Go.Proofs.Ytgipohicgbppaaa
open Go.RowKit Go.Shelf
theorem below_drewN {B : Nat} {a w : World} (h : Below B a w) (n : Nat) : Below B a (w.drewN n) := ⟨h.os, h.tape, h.output, h.size, h.block⟩
theorem next_at {X : List Tm} (h : mayT X = true) (hl : 0 < X.length) : nextP X = (X[0], true) := by
  cases X with
  | nil => simp at hl
  | cons x r => unfold nextP; rw [h]; rfl
theorem next_none {X : List Tm} (hl : X.length = 0) : nextP X = ((0, 0), false) := by
  cases X with
  | nil => unfold nextP; split <;> rfl
  | cons x r => simp at hl
theorem next_not {X : List Tm} (h : mayT X = false) : nextP X = ((0, 0), false) := by unfold nextP; rw [h]; rfl
theorem atP_not {X : List Tm} (h : mayT X = false) (id : Int) : atP X id = (0, false) := by unfold atP; rw [h]; rfl
set_option linter.unusedSimpArgs false in
set_option linter.unusedVariables false in
set_option maxHeartbeats 8000000 in
set_option maxRecDepth 100000 in
theorem wheelSets_walk (X : List Tm) (pa : Option Addr) (cap : Nat) (id at_ : Int) (w : World) (hcap : X.length ≤ cap) (hR : Rd w pa X) (_h0 : 0 ≤ id) (_h1 : id ≤ 18446744073709551615) (_h2 : -9223372036854775808 ≤ at_) (_h3 : at_ ≤ 9223372036854775807) :
    Calls Try.prog 3 #[.slice pa X.length cap, .int .u64 id, .int .i64 at_] w fun e w' => e = .returned (.bool true) ∧ Below w.heap.size w w' := by
  have F := Lib.hid (few_any X pa cap w hcap hR)
  have hY : (X.take 121).length ≤ 121 := by rw [List.length_take]; omega
  generalize X.take 121 = Y at *
  have F2 := Lib.hid (fun pa cap w hc hR => few_any Y pa cap w hc hR)
  rw [List.take_of_length_le hY] at F2
  have hY2 : Y.length ≤ 130 := by omega
  have S := Lib.hid (fun pa cap w hc hR hn => set_any Y pa cap id at_ w hY2 hc hR hn)
  have RS := Lib.hid (fun pa cap w hR => rset_any Y pa cap id at_ w hY2 hR)
  have AT := Lib.hid (fun pa cap w hR => at_any Y pa cap id w hY2 hR)
  have RAT := Lib.hid (fun pa cap w hR => rat_any Y pa cap id w hY2 hR)
  have C := Lib.hid (fun pa cap w hR => check_any Y pa cap w hY2 hR)
  have M := Lib.hid (fun pa cap w hR => may_any Y pa cap w hY2 hR)
  have ST := Lib.hid (fun pa cap w hc hR hn => stop_any Y pa cap id w hY2 hc hR hn)
  have N := Lib.hid (fun pa cap w hR => next_any Y pa cap w hY2 hR)
  have A := Lib.hid awake_any
  have hsl := setP_len Y id at_
  have hat : ∀ r, atP Y id = r → (mayT Y = true → r.2 = hasB Y id) ∧ (mayT Y = false → r = (0, false)) := fun r hr => by
    subst hr; exact ⟨fun h => atP_has h id, fun h => atP_not h id⟩
  clear hR _h0 _h1 _h2 _h3
  generalize setP Y id at_ = p at *
  generalize atP Y id = r at *
  have Hat := Lib.hid (hat r rfl)
  obtain ⟨L, e0⟩ := p
  obtain ⟨n0, th⟩ := r
  simp only at hsl
  clear hat
  go_enter Try.func3, Try.ntmps3
  go_wp2_with fail
  refine F.out.mono ?_
  rintro e w1 ⟨v, rfl, ho1, hb1⟩
  obtain ⟨pb, cb, rfl, hcb, hrb, hnb⟩ := own_args ho1
  have K1 := Lib.hid hb1
  have H1 := Lib.hid hrb
  have F1 := Lib.hid (F2.out pb cb w1 hcb hrb)
  clear F F2 hb1 ho1 hrb hcap
  go_wp2_with fail
  refine F1.out.mono ?_
  rintro e w2 ⟨v2, rfl, ho2, hb2⟩
  obtain ⟨pc, cc, rfl, hcc, hrc, _⟩ := own_args ho2
  have K2 := Lib.hid (K1.out.trans (hb2.mono K1.out.size))
  have H2 := Lib.hid (H1.out.lift hb2)
  have W2 := Lib.hid hrc
  have S2 := Lib.hid (S.out pb cb w2 hcb H2.out hnb)
  clear F1 hb2 ho2 hrc H1 S
  go_wp2_with fail
  refine S2.out.mono ?_
  rintro e w3 ⟨v3, rfl, o3, hb3⟩
  obtain ⟨p3, k3, rfl, hc3, hr3, _⟩ := own_args o3
  have K3 := Lib.hid (K2.out.trans (hb3.mono K2.out.size))
  have H3 := Lib.hid (H2.out.lift hb3)
  have W3 := Lib.hid (W2.out.lift hb3)
  have X3 := Lib.hid hr3
  have RS3 := Lib.hid (RS.out pb cb w3 H3.out)
  clear S2 hb3 o3 hr3 H2 W2 RS
  go_wp2_with fail
  refine RS3.out.mono ?_
  rintro e w4 ⟨v4, rfl, o4, hb4⟩
  obtain ⟨p4, k4, rfl, hc4, hr4, _⟩ := own_args o4
  have K4 := Lib.hid (K3.out.trans (hb4.mono K3.out.size))
  have H4 := Lib.hid (H3.out.lift hb4)
  have W4 := Lib.hid (W3.out.lift hb4)
  have X4 := Lib.hid (X3.out.lift hb4)
  have Y4 := Lib.hid hr4
  have A4 := Lib.hid (AT.out pb cb w4 H4.out)
  clear RS3 hb4 o4 hr4 H3 W3 X3 AT
  go_wp2_with fail
  refine A4.out.mono ?_
  rintro e w5 ⟨rfl, hb5⟩
  have K5 := Lib.hid (K4.out.trans (hb5.mono K4.out.size))
  have H5 := Lib.hid (H4.out.lift hb5)
  have W5 := Lib.hid (W4.out.lift hb5)
  have X5 := Lib.hid (X4.out.lift hb5)
  have Y5 := Lib.hid (Y4.out.lift hb5)
  have A5 := Lib.hid (RAT.out pb cb w5 H5.out)
  clear A4 hb5 H4 W4 X4 Y4 RAT
  go_wp2_with fail
  refine A5.out.mono ?_
  rintro e w6 ⟨rfl, hb6⟩
  have K6 := Lib.hid (K5.out.trans (hb6.mono K5.out.size))
  have H6 := Lib.hid (H5.out.lift hb6)
  have W6 := Lib.hid (W5.out.lift hb6)
  have S6 := Lib.hid (same_any L L p3 p4 k3 k4 w6 (by omega) (X5.out.lift hb6) (Y5.out.lift hb6))
  rw [show decide (L = L) = true by simp] at S6
  clear A5 hb6 H5 W5 X5 Y5
  go_wp2_with fail
  refine S6.out.mono ?_
  rintro e w7 ⟨rfl, hb7⟩
  have K7 := Lib.hid (K6.out.trans (hb7.mono K6.out.size))
  have H7 := Lib.hid (H6.out.lift hb7)
  have W7 := Lib.hid (W6.out.lift hb7)
  have C7 := Lib.hid (C.out pb cb w7 H7.out)
  clear S6 hb7 H6 W6 C
  cases hm : mayT Y
  · obtain ⟨rfl, rfl⟩ : n0 = 0 ∧ th = false := by have := Hat.out.2 hm; simpa using this
    rw [hm] at C7 M ST
    rw [next_not hm] at N
    simp only [Bool.false_and, Bool.false_eq_true, if_false] at ST
    clear Hat hm
    go_wp2_with fail
    refine C7.out.mono ?_
    rintro e w8 ⟨rfl, hb8⟩
    have K8 := Lib.hid (K7.out.trans (hb8.mono K7.out.size))
    have H8 := Lib.hid (H7.out.lift hb8)
    have M8 := Lib.hid (M.out pb cb w8 H8.out)
    clear C7 hb8 H7 W7
    go_wp2_with fail
    refine M8.out.mono ?_
    rintro e w9 ⟨rfl, hb9⟩
    have K9 := Lib.hid (K8.out.trans (hb9.mono K8.out.size))
    have H9 := Lib.hid (H8.out.lift hb9)
    have T9 := Lib.hid (ST.out pb cb w9 hcb H9.out hnb)
    clear M8 hb9 H8 ST
    go_wp2_with fail
    refine T9.out.mono ?_
    rintro e w10 ⟨v10, rfl, o10, hb10⟩
    obtain ⟨p10, k10, rfl, hc10, _, _⟩ := own_args o10
    have K10 := Lib.hid (K9.out.trans (hb10.mono K9.out.size))
    have H10 := Lib.hid (H9.out.lift hb10)
    have N10 := Lib.hid (N.out pb cb w10 H10.out)
    clear T9 hb10 o10 H9 N
    go_wp2_with fail
    refine N10.out.mono ?_
    rintro e w11 ⟨rfl, hb11⟩
    have hba : Below w11.heap.size w11 (w11.alloc (.cells #[.int .i64 0, .int .u64 0] 38)) := (Below.refl _ _).alloc (Nat.le_refl _) _
    have K11 := Lib.hid (K10.out.trans (hb11.mono K10.out.size))
    have K12 := Lib.hid (K11.out.trans (hba.mono K11.out.size))
    have M12 := Lib.hid (M.out pb cb _ ((H10.out.lift hb11).lift hba))
    clear N10 hb11 hba M K11 H10
    go_wp2_with fail
    refine M12.out.mono ?_
    rintro e w13 ⟨rfl, hb13⟩
    have K13 := Lib.hid (K12.out.trans (hb13.mono K12.out.size))
    clear M12 hb13
    go_wp2_with fail
    refine (A.out _).mono ?_
    rintro e w14 ⟨rfl, hb14⟩
    have K14 := Lib.hid (K13.out.trans (hb14.mono K13.out.size))
    clear hb14
    go_wp2
    go_ret
    exact ⟨rfl, K14.out⟩
  · obtain rfl : th = hasB Y id := Hat.out.1 hm
    rw [hm] at C7 M ST
    simp only [Bool.true_and, if_true] at ST
    have Hm := Lib.hid hm
    have hsf := (stopL_filter Y id ((mayT_iff Y).1 hm).ids)
    have RST := Lib.hid (fun pa cap w hR => rstop_any Y pa cap id w hY2 hR)
    rw [← hsf] at RST
    have hsl2 := stopL_len Y id
    clear Hat hm hsf
    generalize hasB Y id = th at *
    generalize stopL Y id = Z at *
    go_wp2_with fail
    refine C7.out.mono ?_
    rintro e w8 ⟨rfl, hb8⟩
    have K8 := Lib.hid (K7.out.trans (hb8.mono K7.out.size))
    have H8 := Lib.hid (H7.out.lift hb8)
    have W8 := Lib.hid (W7.out.lift hb8)
    have M8 := Lib.hid (M.out pb cb w8 H8.out)
    clear C7 hb8 H7 W7
    go_wp2_with fail
    refine M8.out.mono ?_
    rintro e w9 ⟨rfl, hb9⟩
    have K9 := Lib.hid (K8.out.trans (hb9.mono K8.out.size))
    have H9 := Lib.hid (H8.out.lift hb9)
    have W9 := Lib.hid (W8.out.lift hb9)
    have T9 := Lib.hid (ST.out pb cb w9 hcb H9.out hnb)
    clear M8 hb9 H8 ST W8
    go_wp2_with fail
    refine T9.out.mono ?_
    rintro e w10 ⟨v10, rfl, o10, hb10⟩
    obtain ⟨p10, k10, rfl, hc10, hr10, _⟩ := own_args o10
    have K10 := Lib.hid (K9.out.trans (hb10.mono K9.out.size))
    have H10 := Lib.hid (H9.out.lift hb10)
    have W10 := Lib.hid (W9.out.lift hb10)
    have Z10 := Lib.hid hr10
    have N10 := Lib.hid (N.out pb cb w10 H10.out)
    clear T9 hb10 o10 H9 N hr10 W9
    go_wp2_with fail
    generalize hnx : nextP Y = nx at *
    obtain ⟨x, fi⟩ := nx
    obtain ⟨x1, x2⟩ := x
    refine N10.out.mono ?_
    rintro e w11 ⟨rfl, hb11⟩
    have hba : Below w11.heap.size w11 (w11.alloc (.cells #[.int .i64 x1, .int .u64 x2] 38)) := (Below.refl _ _).alloc (Nat.le_refl _) _
    have t0 : (w11.alloc (.cells #[.int .i64 x1, .int .u64 x2] 38)).cell? ⟨w11.heap.size, 0, none⟩ = some (.int .i64 x1) := by simp [go_sem]
    have t1 : (w11.alloc (.cells #[.int .i64 x1, .int .u64 x2] 38)).cell? ⟨w11.heap.size, 1, none⟩ = some (.int .u64 x2) := by simp [go_sem]
    have tz : w11.heap.size < (w11.alloc (.cells #[.int .i64 x1, .int .u64 x2] 38)).heap.size := by simp
    have K11 := Lib.hid (K10.out.trans (hb11.mono K10.out.size))
    have K12 := Lib.hid (K11.out.trans (hba.mono K11.out.size))
    have H12 := Lib.hid ((H10.out.lift hb11).lift hba)
    have W12 := Lib.hid ((W10.out.lift hb11).lift hba)
    have Z12 := Lib.hid ((Z10.out.lift hb11).lift hba)
    have M12 := Lib.hid (M.out pb cb _ H12.out)
    have TT := Lib.hid (fun (w' : World) (h : Below (w11.alloc (.cells #[.int .i64 x1, .int .u64 x2] 38)).heap.size (w11.alloc (.cells #[.int .i64 x1, .int .u64 x2] 38)) w') =>
      And.intro ((h.cell (p := ⟨w11.heap.size, 0, none⟩) tz).trans t0) ((h.cell (p := ⟨w11.heap.size, 1, none⟩) tz).trans t1))
    clear N10 hb11 hba M K11 H10 W10 Z10 t0 t1 tz
    go_wp2_with fail
    refine M12.out.mono ?_
    rintro e w13 ⟨rfl, hb13⟩
    have K13 := Lib.hid (K12.out.trans (hb13.mono K12.out.size))
    have H13 := Lib.hid (H12.out.lift hb13)
    have W13 := Lib.hid (W12.out.lift hb13)
    have Z13 := Lib.hid (Z12.out.lift hb13)
    obtain ⟨t0, t1⟩ := TT.out w13 hb13
    clear M12 hb13 TT H12 W12 Z12
    go_wp2_with fail
    by_cases h0 : Y.length = 0
    · have := next_none h0
      rw [hnx] at this
      obtain ⟨⟨rfl, rfl⟩, rfl⟩ : (x1 = 0 ∧ x2 = 0) ∧ fi = false := by simpa using this
      obtain rfl : Y = [] := List.eq_nil_of_length_eq_zero h0
      clear hnx this h0
      go_quiet (fail)
      have B13 := Lib.hid (below_drewN (Below.refl w13.heap.size w13) nq)
      have T14 := Lib.hid (RST.out pb cb (w13.drewN nq) (H13.out.lift B13.out))
      have K14 := Lib.hid ((below_drewN K13.out nq))
      have q14 : w13.heap.size = (w13.drewN nq).heap.size := rfl
      have H14 := Lib.hid (H13.out.lift B13.out)
      have W14 := Lib.hid (W13.out.lift B13.out)
      have Z14 := Lib.hid (Z13.out.lift B13.out)
      clear H13 W13 Z13 K13 B13 q14 RST
      generalize (w13.drewN nq) = w14 at *
      go_wp2_with fail
      refine T14.out.mono ?_
      rintro e w15 ⟨v15, rfl, o15, hb15⟩
      obtain ⟨p15, k15, rfl, hc15, hr15, _⟩ := own_args o15
      have K15 := Lib.hid (K14.out.trans (hb15.mono K14.out.size))
      have H15 := Lib.hid (H14.out.lift hb15)
      have W15 := Lib.hid (W14.out.lift hb15)
      have S15 := Lib.hid (same_any Z Z p10 p15 k10 k15 w15 (by omega) (Z14.out.lift hb15) hr15)
      rw [show decide (Z = Z) = true by simp] at S15
      clear T14 hb15 o15 hr15 H14 W14 Z14
      go_wp2_with fail
      refine S15.out.mono ?_
      rintro e w16 ⟨rfl, hb16⟩
      have K16 := Lib.hid (K15.out.trans (hb16.mono K15.out.size))
      have S16 := Lib.hid (same_any [] [] pb pc cb cc w16 (by decide) (H15.out.lift hb16) (W15.out.lift hb16))
      rw [show decide (([] : List Tm) = []) = true by simp] at S16
      clear S15 hb16 H15 W15
      go_wp2_with fail
      refine S16.out.mono ?_
      rintro e w17 ⟨rfl, hb17⟩
      have K17 := Lib.hid (K16.out.trans (hb17.mono K16.out.size))
      clear S16 hb17
      go_wp2_with fail
      refine (A.out _).mono ?_
      rintro e w18 ⟨rfl, hb18⟩
      have K18 := Lib.hid (K17.out.trans (hb18.mono K17.out.size))
      clear hb18
      go_wp2
      go_ret
      exact ⟨rfl, K18.out⟩
    · have h0p : 0 < Y.length := by omega
      have := next_at Hm.out h0p
      rw [hnx] at this
      obtain ⟨hx, rfl⟩ : (x1, x2) = Y[0] ∧ fi = true := by simpa using this
      obtain ⟨b, o, hpb, hbz, c0, c1⟩ := H13.out.at 0 h0p
      rw [← hx] at c0 c1
      have c0' : w13.cell? ⟨b, o, none⟩ = some (.int .i64 x1) := by simpa using c0
      have c1' : w13.cell? ⟨b, o + 1, none⟩ = some (.int .u64 x2) := by simpa using c1
      have h0i : ¬ (Y.length : Int) = 0 := by omega
      have h0l : (0 : Int) < Y.length := by omega
      have h0d : decide ((0 : Int) < Y.length) = true := by simpa using h0l
      subst hpb
      clear hnx this hx c0 c1
      go_quiet (fail)
      have B13 := Lib.hid (below_drewN (Below.refl w13.heap.size w13) nq)
      have T14 := Lib.hid (RST.out _ cb (w13.drewN nq) (H13.out.lift B13.out))
      have K14 := Lib.hid ((below_drewN K13.out nq))
      have q14 : w13.heap.size = (w13.drewN nq).heap.size := rfl
      have H14 := Lib.hid (H13.out.lift B13.out)
      have W14 := Lib.hid (W13.out.lift B13.out)
      have Z14 := Lib.hid (Z13.out.lift B13.out)
      clear H13 W13 Z13 K13 B13 q14 RST
      generalize (w13.drewN nq) = w14 at *
      go_wp2_with fail
      refine T14.out.mono ?_
      rintro e w15 ⟨v15, rfl, o15, hb15⟩
      obtain ⟨p15, k15, rfl, hc15, hr15, _⟩ := own_args o15
      have K15 := Lib.hid (K14.out.trans (hb15.mono K14.out.size))
      have H15 := Lib.hid (H14.out.lift hb15)
      have W15 := Lib.hid (W14.out.lift hb15)
      have S15 := Lib.hid (same_any Z Z p10 p15 k10 k15 w15 (by omega) (Z14.out.lift hb15) hr15)
      rw [show decide (Z = Z) = true by simp] at S15
      clear T14 hb15 o15 hr15 H14 W14 Z14
      go_wp2_with fail
      refine S15.out.mono ?_
      rintro e w16 ⟨rfl, hb16⟩
      have K16 := Lib.hid (K15.out.trans (hb16.mono K15.out.size))
      have S16 := Lib.hid (same_any Y Y _ pc cb cc w16 (by omega) (H15.out.lift hb16) (W15.out.lift hb16))
      rw [show decide (Y = Y) = true by simp] at S16
      clear S15 hb16 H15 W15
      go_wp2_with fail
      refine S16.out.mono ?_
      rintro e w17 ⟨rfl, hb17⟩
      have K17 := Lib.hid (K16.out.trans (hb17.mono K16.out.size))
      clear S16 hb17
      go_wp2_with fail
      refine (A.out _).mono ?_
      rintro e w18 ⟨rfl, hb18⟩
      have K18 := Lib.hid (K17.out.trans (hb18.mono K17.out.size))
      clear hb18
      go_wp2
      go_ret
      exact ⟨rfl, K18.out⟩
end Go.Proofs.Ytgipohicgbppaaa
