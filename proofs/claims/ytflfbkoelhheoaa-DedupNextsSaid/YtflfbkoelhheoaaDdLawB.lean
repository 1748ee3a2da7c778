/- Layer 13: the walk of DedupNexts. -/
import Derived.Test.YtflfbkoelhheoaaDdI
namespace Go.Proofs.Ytflfbkoelhheoaa.Dd
open Go.RowKit Go.Shelf Go.Proofs.Ytflfbkoelhheoaa Go.Proofs.Ytflfbkoelhheoaa.La
set_option linter.unusedVariables false
set_option linter.unusedSimpArgs false
theorem findD_z (X : List El) (p : ByteArray) (h : (findD X p).2 = false) : (findD X p).1 = zE := by
  unfold findD at *
  split at h
  · cases h
  · rename_i e; simp only [e]
theorem askD_eq (Y : List El) (f : ByteArray) (s : Int) (h : mayD Y = true) : askD Y f s = if fieldB f && !decide (s = 0) then askE (findD Y f).1 s else (0, 1) := by unfold askD; rw [h, Bool.true_and]
set_option maxHeartbeats 8000000 in
set_option maxRecDepth 100000 in
theorem dedupNexts_walk (X : List El) (pa : Option Addr) (cap : Nat) (p : ByteArray) (s : Int) (w : World) (hcap : X.length ≤ cap) (hm : X.length ≤ 9223372036854775807) (hR : Rd w pa X) (hF : ∀ x ∈ X, 0 ≤ x.2.1 ∧ x.2.1 ≤ 18446744073709551615) (hs0 : 0 ≤ s) (hs1 : s ≤ 18446744073709551615) :
    Calls Try.prog 6 #[.slice pa X.length cap, .string p, .int .u64 s] w fun e w' => e = .returned (.bool true) ∧ Below w.heap.size w w' := by
  have hO := few_ok X hF
  have hfl := fewD_len X
  have F := Lib.hid (fewD_any X pa cap w hm hR)
  have FW := Lib.hid (fun w => few_any p w)
  have hY : (fewD X).length ≤ 100 := by omega
  have h60 := fw_size p
  generalize fewD X = Y at *
  generalize fw p = f at *
  have A1 := Lib.hid (fun pa cap w hR => ask_any Y pa cap f s w hY hR hO hs0 hs1)
  have N1 := Lib.hid (fun pa cap w hR => find_any Y pa cap f w hY hR)
  have C := Lib.hid (fun pa cap w hR => check_any Y pa cap w hY hR)
  have RF := Lib.hid (fun w => rfield_any f w h60)
  have AW := Lib.hid awakeD_any
  have hz := findD_z Y f
  have ha := askD_eq Y f s
  have hq := findD_seq Y f hO
  have hw1 : ¬ s = 0 → IntKind.u64.wrap (s - 1) = s - 1 := fun h => IntWalk.u64_in _ (by omega)
  generalize askD Y f s = a at *
  generalize findD Y f = n at *
  generalize mayD Y = m at *
  generalize fieldB f = fb at *
  obtain ⟨a1, a2⟩ := a
  obtain ⟨⟨n1, n2, n3⟩, n4⟩ := n
  simp only at *
  unfold askE at ha
  simp only at ha
  have hwq : n2 ≤ s → IntKind.u64.wrap (s - n2) = s - n2 := fun h => IntWalk.u64_in _ (by omega)
  clear hR hF hO hs1 h60
  cases m
  · clear ha hz hq hw1 hwq
    go_enter Try.func6, Try.ntmps6
    have T1 := Lib.hid (F.out)
    go_wp2_with fail
    refine T1.out.mono ?_
    rintro e w1 ⟨v, rfl, ho, hb1⟩
    have Ho1 := Lib.hid (ho)
    have K1 := Lib.hid hb1
    clear T1 hb1 ho
    obtain ⟨pb, cb, rfl, hcb, hrb, _⟩ := Ho1.out.args
    have RY := Lib.hid hrb
    clear hrb
    clear Ho1
    have T2 := Lib.hid (FW.out w1)
    go_wp2_with fail
    refine T2.out.mono ?_
    rintro e w2 ⟨rfl, rfl⟩
    clear T2

    have T3 := Lib.hid (C.out pb cb w1 RY.out)
    go_wp2_with fail
    refine T3.out.mono ?_
    rintro e w3 ⟨rfl, hb3⟩
    have K3 := Lib.hid (K1.out.trans (hb3.mono K1.out.size))
    have RY3_ := Lib.hid (RY.out.lift hb3)
    clear T3 hb3 K1 RY
    have T4 := Lib.hid (AW.out w3)
    go_wp2_with fail
    refine T4.out.mono ?_
    rintro e w4 ⟨rfl, hb4⟩
    have K4 := Lib.hid (K3.out.trans (hb4.mono K3.out.size))
    have RY4_ := Lib.hid (RY3_.out.lift hb4)
    clear T4 hb4 K3 RY3_
    go_wp2
    go_ret
    exact ⟨rfl, K4.out⟩
  · have ha := ha rfl
    cases fb
    · obtain ⟨rfl, rfl⟩ : a1 = 0 ∧ a2 = 1 := by simpa using ha
      by_cases h0 : s = 0
      · subst h0
        clear ha hz hq hw1 hwq
        go_enter Try.func6, Try.ntmps6
        have T5 := Lib.hid (F.out)
        go_wp2_with fail
        refine T5.out.mono ?_
        rintro e w5 ⟨v, rfl, ho, hb5⟩
        have Ho5 := Lib.hid (ho)
        have K5 := Lib.hid hb5
        clear T5 hb5 ho
        obtain ⟨pb, cb, rfl, hcb, hrb, _⟩ := Ho5.out.args
        have RY := Lib.hid hrb
        clear hrb
        clear Ho5
        have T6 := Lib.hid (FW.out w5)
        go_wp2_with fail
        refine T6.out.mono ?_
        rintro e w6 ⟨rfl, rfl⟩
        clear T6

        have T7 := Lib.hid (C.out pb cb w5 RY.out)
        go_wp2_with fail
        refine T7.out.mono ?_
        rintro e w7 ⟨rfl, hb7⟩
        have K7 := Lib.hid (K5.out.trans (hb7.mono K5.out.size))
        have RY7_ := Lib.hid (RY.out.lift hb7)
        clear T7 hb7 K5 RY
        have T8 := Lib.hid (N1.out pb cb w7 RY7_.out)
        go_wp2_with fail
        refine T8.out.mono ?_
        rintro e w8 ⟨rfl, hb8⟩
        have K8 := Lib.hid (K7.out.trans (hb8.mono K7.out.size))
        have RY8_ := Lib.hid (RY7_.out.lift hb8)
        clear T8 hb8 K7 RY7_
        have BN := Lib.hid (Bx.new (n1, n2, n3) w8)
        have hb9 : Below w8.heap.size w8 (w8.alloc (.cells #[.string n1, .int .u64 n2, .int .i64 n3] 25)) := (Below.refl _ _).alloc (Nat.le_refl _) _
        have K9 := Lib.hid (K8.out.trans (hb9.mono K8.out.size))
        have RY9_ := Lib.hid (RY8_.out.lift hb9)
        clear hb9 K8 RY8_
        have T10 := Lib.hid (A1.out pb cb (w8.alloc (.cells #[.string n1, .int .u64 n2, .int .i64 n3] 25)) RY9_.out)
        go_wp2_with fail
        refine T10.out.mono ?_
        rintro e w10 ⟨rfl, hb10⟩
        have K10 := Lib.hid (K9.out.trans (hb10.mono K9.out.size))
        have RY10_ := Lib.hid (RY9_.out.lift hb10)
        have BN10_ := Lib.hid (BN.out.lift hb10)
        clear T10 hb10 K9 RY9_ BN
        obtain ⟨y0, y1, y2⟩ := BN10_.out.c
        have T11 := Lib.hid (AW.out w10)
        go_wp2_with fail
        refine T11.out.mono ?_
        rintro e w11 ⟨rfl, hb11⟩
        have K11 := Lib.hid (K10.out.trans (hb11.mono K10.out.size))
        have RY11_ := Lib.hid (RY10_.out.lift hb11)
        have BN11_ := Lib.hid (BN10_.out.lift hb11)
        clear T11 hb11 K10 RY10_ BN10_
        go_wp2
        go_ret
        exact ⟨rfl, K11.out⟩
      · have h0b : (s == 0) = false := by simpa using h0
        clear ha hz hq hw1 hwq
        go_enter Try.func6, Try.ntmps6
        have T12 := Lib.hid (F.out)
        go_wp2_with fail
        refine T12.out.mono ?_
        rintro e w12 ⟨v, rfl, ho, hb12⟩
        have Ho12 := Lib.hid (ho)
        have K12 := Lib.hid hb12
        clear T12 hb12 ho
        obtain ⟨pb, cb, rfl, hcb, hrb, _⟩ := Ho12.out.args
        have RY := Lib.hid hrb
        clear hrb
        clear Ho12
        have T13 := Lib.hid (FW.out w12)
        go_wp2_with fail
        refine T13.out.mono ?_
        rintro e w13 ⟨rfl, rfl⟩
        clear T13

        have T14 := Lib.hid (C.out pb cb w12 RY.out)
        go_wp2_with fail
        refine T14.out.mono ?_
        rintro e w14 ⟨rfl, hb14⟩
        have K14 := Lib.hid (K12.out.trans (hb14.mono K12.out.size))
        have RY14_ := Lib.hid (RY.out.lift hb14)
        clear T14 hb14 K12 RY
        have T15 := Lib.hid (N1.out pb cb w14 RY14_.out)
        go_wp2_with fail
        refine T15.out.mono ?_
        rintro e w15 ⟨rfl, hb15⟩
        have K15 := Lib.hid (K14.out.trans (hb15.mono K14.out.size))
        have RY15_ := Lib.hid (RY14_.out.lift hb15)
        clear T15 hb15 K14 RY14_
        have BN := Lib.hid (Bx.new (n1, n2, n3) w15)
        have hb16 : Below w15.heap.size w15 (w15.alloc (.cells #[.string n1, .int .u64 n2, .int .i64 n3] 25)) := (Below.refl _ _).alloc (Nat.le_refl _) _
        have K16 := Lib.hid (K15.out.trans (hb16.mono K15.out.size))
        have RY16_ := Lib.hid (RY15_.out.lift hb16)
        clear hb16 K15 RY15_
        have T17 := Lib.hid (A1.out pb cb (w15.alloc (.cells #[.string n1, .int .u64 n2, .int .i64 n3] 25)) RY16_.out)
        go_wp2_with fail
        refine T17.out.mono ?_
        rintro e w17 ⟨rfl, hb17⟩
        have K17 := Lib.hid (K16.out.trans (hb17.mono K16.out.size))
        have RY17_ := Lib.hid (RY16_.out.lift hb17)
        have BN17_ := Lib.hid (BN.out.lift hb17)
        clear T17 hb17 K16 RY16_ BN
        obtain ⟨y0, y1, y2⟩ := BN17_.out.c
        have T18 := Lib.hid (RF.out w17)
        go_wp2_with fail
        refine T18.out.mono ?_
        rintro e w18 ⟨rfl, hb18⟩
        have K18 := Lib.hid (K17.out.trans (hb18.mono K17.out.size))
        have RY18_ := Lib.hid (RY17_.out.lift hb18)
        have BN18_ := Lib.hid (BN17_.out.lift hb18)
        clear T18 hb18 K17 RY17_ BN17_
        have T19 := Lib.hid (AW.out w18)
        go_wp2_with fail
        refine T19.out.mono ?_
        rintro e w19 ⟨rfl, hb19⟩
        have K19 := Lib.hid (K18.out.trans (hb19.mono K18.out.size))
        have RY19_ := Lib.hid (RY18_.out.lift hb19)
        have BN19_ := Lib.hid (BN18_.out.lift hb19)
        clear T19 hb19 K18 RY18_ BN18_
        go_wp2
        go_ret
        exact ⟨rfl, K19.out⟩
    · by_cases h0 : s = 0
      · subst h0
        obtain ⟨rfl, rfl⟩ : a1 = 0 ∧ a2 = 1 := by simpa using ha
        clear ha hz hq hw1 hwq
        go_enter Try.func6, Try.ntmps6
        have T20 := Lib.hid (F.out)
        go_wp2_with fail
        refine T20.out.mono ?_
        rintro e w20 ⟨v, rfl, ho, hb20⟩
        have Ho20 := Lib.hid (ho)
        have K20 := Lib.hid hb20
        clear T20 hb20 ho
        obtain ⟨pb, cb, rfl, hcb, hrb, _⟩ := Ho20.out.args
        have RY := Lib.hid hrb
        clear hrb
        clear Ho20
        have T21 := Lib.hid (FW.out w20)
        go_wp2_with fail
        refine T21.out.mono ?_
        rintro e w21 ⟨rfl, rfl⟩
        clear T21

        have T22 := Lib.hid (C.out pb cb w20 RY.out)
        go_wp2_with fail
        refine T22.out.mono ?_
        rintro e w22 ⟨rfl, hb22⟩
        have K22 := Lib.hid (K20.out.trans (hb22.mono K20.out.size))
        have RY22_ := Lib.hid (RY.out.lift hb22)
        clear T22 hb22 K20 RY
        have T23 := Lib.hid (N1.out pb cb w22 RY22_.out)
        go_wp2_with fail
        refine T23.out.mono ?_
        rintro e w23 ⟨rfl, hb23⟩
        have K23 := Lib.hid (K22.out.trans (hb23.mono K22.out.size))
        have RY23_ := Lib.hid (RY22_.out.lift hb23)
        clear T23 hb23 K22 RY22_
        have BN := Lib.hid (Bx.new (n1, n2, n3) w23)
        have hb24 : Below w23.heap.size w23 (w23.alloc (.cells #[.string n1, .int .u64 n2, .int .i64 n3] 25)) := (Below.refl _ _).alloc (Nat.le_refl _) _
        have K24 := Lib.hid (K23.out.trans (hb24.mono K23.out.size))
        have RY24_ := Lib.hid (RY23_.out.lift hb24)
        clear hb24 K23 RY23_
        have T25 := Lib.hid (A1.out pb cb (w23.alloc (.cells #[.string n1, .int .u64 n2, .int .i64 n3] 25)) RY24_.out)
        go_wp2_with fail
        refine T25.out.mono ?_
        rintro e w25 ⟨rfl, hb25⟩
        have K25 := Lib.hid (K24.out.trans (hb25.mono K24.out.size))
        have RY25_ := Lib.hid (RY24_.out.lift hb25)
        have BN25_ := Lib.hid (BN.out.lift hb25)
        clear T25 hb25 K24 RY24_ BN
        obtain ⟨y0, y1, y2⟩ := BN25_.out.c
        have T26 := Lib.hid (AW.out w25)
        go_wp2_with fail
        refine T26.out.mono ?_
        rintro e w26 ⟨rfl, hb26⟩
        have K26 := Lib.hid (K25.out.trans (hb26.mono K25.out.size))
        have RY26_ := Lib.hid (RY25_.out.lift hb26)
        have BN26_ := Lib.hid (BN25_.out.lift hb26)
        clear T26 hb26 K25 RY25_ BN25_
        go_wp2
        go_ret
        exact ⟨rfl, K26.out⟩
      · have h0d : decide (s = 0) = false := by simpa using h0
        rw [h0d] at ha
        simp only [Bool.not_false, Bool.and_self, if_true] at ha
        have hw1 := hw1 h0
        by_cases h1 : s = n2
        · rw [if_pos h1] at ha
          obtain ⟨rfl, rfl⟩ : a1 = n3 ∧ a2 = 5 := by simpa using ha
          subst h1
          obtain rfl : n4 = true := by
            cases n4
            · have := hz rfl; simp at this; omega
            · rfl
          clear ha hz hq hw1 hwq
          go_enter Try.func6, Try.ntmps6
          have T27 := Lib.hid (F.out)
          go_wp2_with fail
          refine T27.out.mono ?_
          rintro e w27 ⟨v, rfl, ho, hb27⟩
          have Ho27 := Lib.hid (ho)
          have K27 := Lib.hid hb27
          clear T27 hb27 ho
          obtain ⟨pb, cb, rfl, hcb, hrb, _⟩ := Ho27.out.args
          have RY := Lib.hid hrb
          clear hrb
          clear Ho27
          have T28 := Lib.hid (FW.out w27)
          go_wp2_with fail
          refine T28.out.mono ?_
          rintro e w28 ⟨rfl, rfl⟩
          clear T28

          have T29 := Lib.hid (C.out pb cb w27 RY.out)
          go_wp2_with fail
          refine T29.out.mono ?_
          rintro e w29 ⟨rfl, hb29⟩
          have K29 := Lib.hid (K27.out.trans (hb29.mono K27.out.size))
          have RY29_ := Lib.hid (RY.out.lift hb29)
          clear T29 hb29 K27 RY
          have T30 := Lib.hid (N1.out pb cb w29 RY29_.out)
          go_wp2_with fail
          refine T30.out.mono ?_
          rintro e w30 ⟨rfl, hb30⟩
          have K30 := Lib.hid (K29.out.trans (hb30.mono K29.out.size))
          have RY30_ := Lib.hid (RY29_.out.lift hb30)
          clear T30 hb30 K29 RY29_
          have BN := Lib.hid (Bx.new (n1, s, a1) w30)
          have hb31 : Below w30.heap.size w30 (w30.alloc (.cells #[.string n1, .int .u64 s, .int .i64 a1] 25)) := (Below.refl _ _).alloc (Nat.le_refl _) _
          have K31 := Lib.hid (K30.out.trans (hb31.mono K30.out.size))
          have RY31_ := Lib.hid (RY30_.out.lift hb31)
          clear hb31 K30 RY30_
          have T32 := Lib.hid (A1.out pb cb (w30.alloc (.cells #[.string n1, .int .u64 s, .int .i64 a1] 25)) RY31_.out)
          go_wp2_with fail
          refine T32.out.mono ?_
          rintro e w32 ⟨rfl, hb32⟩
          have K32 := Lib.hid (K31.out.trans (hb32.mono K31.out.size))
          have RY32_ := Lib.hid (RY31_.out.lift hb32)
          have BN32_ := Lib.hid (BN.out.lift hb32)
          clear T32 hb32 K31 RY31_ BN
          obtain ⟨y0, y1, y2⟩ := BN32_.out.c
          have T33 := Lib.hid (AW.out w32)
          go_wp2_with fail
          refine T33.out.mono ?_
          rintro e w33 ⟨rfl, hb33⟩
          have K33 := Lib.hid (K32.out.trans (hb33.mono K32.out.size))
          have RY33_ := Lib.hid (RY32_.out.lift hb33)
          have BN33_ := Lib.hid (BN32_.out.lift hb33)
          clear T33 hb33 K32 RY32_ BN32_
          go_wp2
          go_ret
          exact ⟨rfl, K33.out⟩
        · rw [if_neg h1] at ha
          by_cases h2 : s < n2
          · rw [if_pos h2] at ha
            obtain ⟨rfl, rfl⟩ : a1 = 0 ∧ a2 = 8 := by simpa using ha
            obtain rfl : n4 = true := by
              cases n4
              · have := hz rfl; simp at this; omega
              · rfl
            have h2d : decide (s < n2) = true := by simpa using h2
            clear ha hz hq hw1 hwq
            go_enter Try.func6, Try.ntmps6
            have T34 := Lib.hid (F.out)
            go_wp2_with fail
            refine T34.out.mono ?_
            rintro e w34 ⟨v, rfl, ho, hb34⟩
            have Ho34 := Lib.hid (ho)
            have K34 := Lib.hid hb34
            clear T34 hb34 ho
            obtain ⟨pb, cb, rfl, hcb, hrb, _⟩ := Ho34.out.args
            have RY := Lib.hid hrb
            clear hrb
            clear Ho34
            have T35 := Lib.hid (FW.out w34)
            go_wp2_with fail
            refine T35.out.mono ?_
            rintro e w35 ⟨rfl, rfl⟩
            clear T35

            have T36 := Lib.hid (C.out pb cb w34 RY.out)
            go_wp2_with fail
            refine T36.out.mono ?_
            rintro e w36 ⟨rfl, hb36⟩
            have K36 := Lib.hid (K34.out.trans (hb36.mono K34.out.size))
            have RY36_ := Lib.hid (RY.out.lift hb36)
            clear T36 hb36 K34 RY
            have T37 := Lib.hid (N1.out pb cb w36 RY36_.out)
            go_wp2_with fail
            refine T37.out.mono ?_
            rintro e w37 ⟨rfl, hb37⟩
            have K37 := Lib.hid (K36.out.trans (hb37.mono K36.out.size))
            have RY37_ := Lib.hid (RY36_.out.lift hb37)
            clear T37 hb37 K36 RY36_
            have BN := Lib.hid (Bx.new (n1, n2, n3) w37)
            have hb38 : Below w37.heap.size w37 (w37.alloc (.cells #[.string n1, .int .u64 n2, .int .i64 n3] 25)) := (Below.refl _ _).alloc (Nat.le_refl _) _
            have K38 := Lib.hid (K37.out.trans (hb38.mono K37.out.size))
            have RY38_ := Lib.hid (RY37_.out.lift hb38)
            clear hb38 K37 RY37_
            have T39 := Lib.hid (A1.out pb cb (w37.alloc (.cells #[.string n1, .int .u64 n2, .int .i64 n3] 25)) RY38_.out)
            go_wp2_with fail
            refine T39.out.mono ?_
            rintro e w39 ⟨rfl, hb39⟩
            have K39 := Lib.hid (K38.out.trans (hb39.mono K38.out.size))
            have RY39_ := Lib.hid (RY38_.out.lift hb39)
            have BN39_ := Lib.hid (BN.out.lift hb39)
            clear T39 hb39 K38 RY38_ BN
            obtain ⟨y0, y1, y2⟩ := BN39_.out.c
            have T40 := Lib.hid (AW.out w39)
            go_wp2_with fail
            refine T40.out.mono ?_
            rintro e w40 ⟨rfl, hb40⟩
            have K40 := Lib.hid (K39.out.trans (hb40.mono K39.out.size))
            have RY40_ := Lib.hid (RY39_.out.lift hb40)
            have BN40_ := Lib.hid (BN39_.out.lift hb40)
            clear T40 hb40 K39 RY39_ BN39_
            go_wp2
            go_ret
            exact ⟨rfl, K40.out⟩
          · rw [if_neg h2] at ha
            have hwq := hwq (by omega)
            by_cases h3 : 1 < s - n2
            · rw [if_pos h3] at ha
              obtain ⟨rfl, rfl⟩ : a1 = 0 ∧ a2 = 9 := by simpa using ha
              have h4 : n2 < s := by omega
              have h4d : decide (n2 < s) = true := by simpa using h4
              obtain ⟨z, hz2⟩ : ∃ z, z = s - n2 := ⟨_, rfl⟩
              rw [← hz2] at h3
              have hwz : IntKind.u64.wrap (s - n2) = z := hwq.trans hz2.symm
              have h3d : decide (1 < z) = true := by simpa using h3
              clear ha hz hq hw1 hwq hz2
              go_enter Try.func6, Try.ntmps6
              have T41 := Lib.hid (F.out)
              go_wp2_with fail
              refine T41.out.mono ?_
              rintro e w41 ⟨v, rfl, ho, hb41⟩
              have Ho41 := Lib.hid (ho)
              have K41 := Lib.hid hb41
              clear T41 hb41 ho
              obtain ⟨pb, cb, rfl, hcb, hrb, _⟩ := Ho41.out.args
              have RY := Lib.hid hrb
              clear hrb
              clear Ho41
              have T42 := Lib.hid (FW.out w41)
              go_wp2_with fail
              refine T42.out.mono ?_
              rintro e w42 ⟨rfl, rfl⟩
              clear T42

              have T43 := Lib.hid (C.out pb cb w41 RY.out)
              go_wp2_with fail
              refine T43.out.mono ?_
              rintro e w43 ⟨rfl, hb43⟩
              have K43 := Lib.hid (K41.out.trans (hb43.mono K41.out.size))
              have RY43_ := Lib.hid (RY.out.lift hb43)
              clear T43 hb43 K41 RY
              have T44 := Lib.hid (N1.out pb cb w43 RY43_.out)
              go_wp2_with fail
              refine T44.out.mono ?_
              rintro e w44 ⟨rfl, hb44⟩
              have K44 := Lib.hid (K43.out.trans (hb44.mono K43.out.size))
              have RY44_ := Lib.hid (RY43_.out.lift hb44)
              clear T44 hb44 K43 RY43_
              have BN := Lib.hid (Bx.new (n1, n2, n3) w44)
              have hb45 : Below w44.heap.size w44 (w44.alloc (.cells #[.string n1, .int .u64 n2, .int .i64 n3] 25)) := (Below.refl _ _).alloc (Nat.le_refl _) _
              have K45 := Lib.hid (K44.out.trans (hb45.mono K44.out.size))
              have RY45_ := Lib.hid (RY44_.out.lift hb45)
              clear hb45 K44 RY44_
              have T46 := Lib.hid (A1.out pb cb (w44.alloc (.cells #[.string n1, .int .u64 n2, .int .i64 n3] 25)) RY45_.out)
              go_wp2_with fail
              refine T46.out.mono ?_
              rintro e w46 ⟨rfl, hb46⟩
              have K46 := Lib.hid (K45.out.trans (hb46.mono K45.out.size))
              have RY46_ := Lib.hid (RY45_.out.lift hb46)
              have BN46_ := Lib.hid (BN.out.lift hb46)
              clear T46 hb46 K45 RY45_ BN
              obtain ⟨y0, y1, y2⟩ := BN46_.out.c
              have T47 := Lib.hid (AW.out w46)
              go_wp2_with fail
              refine T47.out.mono ?_
              rintro e w47 ⟨rfl, hb47⟩
              have K47 := Lib.hid (K46.out.trans (hb47.mono K46.out.size))
              have RY47_ := Lib.hid (RY46_.out.lift hb47)
              have BN47_ := Lib.hid (BN46_.out.lift hb47)
              clear T47 hb47 K46 RY46_ BN46_
              go_wp2
              go_ret
              exact ⟨rfl, K47.out⟩
            · rw [if_neg h3] at ha
              obtain ⟨rfl, rfl⟩ : a1 = 0 ∧ a2 = 0 := by simpa using ha
              have h5 : s - 1 = n2 := by omega
              have hw2 : IntKind.u64.wrap (s - 1) = n2 := hw1.trans h5
              clear ha hz hq hw1 hwq h5
              go_enter Try.func6, Try.ntmps6
              have T48 := Lib.hid (F.out)
              go_wp2_with fail
              refine T48.out.mono ?_
              rintro e w48 ⟨v, rfl, ho, hb48⟩
              have Ho48 := Lib.hid (ho)
              have K48 := Lib.hid hb48
              clear T48 hb48 ho
              obtain ⟨pb, cb, rfl, hcb, hrb, _⟩ := Ho48.out.args
              have RY := Lib.hid hrb
              clear hrb
              clear Ho48
              have T49 := Lib.hid (FW.out w48)
              go_wp2_with fail
              refine T49.out.mono ?_
              rintro e w49 ⟨rfl, rfl⟩
              clear T49

              have T50 := Lib.hid (C.out pb cb w48 RY.out)
              go_wp2_with fail
              refine T50.out.mono ?_
              rintro e w50 ⟨rfl, hb50⟩
              have K50 := Lib.hid (K48.out.trans (hb50.mono K48.out.size))
              have RY50_ := Lib.hid (RY.out.lift hb50)
              clear T50 hb50 K48 RY
              have T51 := Lib.hid (N1.out pb cb w50 RY50_.out)
              go_wp2_with fail
              refine T51.out.mono ?_
              rintro e w51 ⟨rfl, hb51⟩
              have K51 := Lib.hid (K50.out.trans (hb51.mono K50.out.size))
              have RY51_ := Lib.hid (RY50_.out.lift hb51)
              clear T51 hb51 K50 RY50_
              have BN := Lib.hid (Bx.new (n1, n2, n3) w51)
              have hb52 : Below w51.heap.size w51 (w51.alloc (.cells #[.string n1, .int .u64 n2, .int .i64 n3] 25)) := (Below.refl _ _).alloc (Nat.le_refl _) _
              have K52 := Lib.hid (K51.out.trans (hb52.mono K51.out.size))
              have RY52_ := Lib.hid (RY51_.out.lift hb52)
              clear hb52 K51 RY51_
              have T53 := Lib.hid (A1.out pb cb (w51.alloc (.cells #[.string n1, .int .u64 n2, .int .i64 n3] 25)) RY52_.out)
              go_wp2_with fail
              refine T53.out.mono ?_
              rintro e w53 ⟨rfl, hb53⟩
              have K53 := Lib.hid (K52.out.trans (hb53.mono K52.out.size))
              have RY53_ := Lib.hid (RY52_.out.lift hb53)
              have BN53_ := Lib.hid (BN.out.lift hb53)
              clear T53 hb53 K52 RY52_ BN
              obtain ⟨y0, y1, y2⟩ := BN53_.out.c
              have T54 := Lib.hid (AW.out w53)
              go_wp2_with fail
              refine T54.out.mono ?_
              rintro e w54 ⟨rfl, hb54⟩
              have K54 := Lib.hid (K53.out.trans (hb54.mono K53.out.size))
              have RY54_ := Lib.hid (RY53_.out.lift hb54)
              have BN54_ := Lib.hid (BN53_.out.lift hb54)
              clear T54 hb54 K53 RY53_ BN53_
              go_wp2
              go_ret
              exact ⟨rfl, K54.out⟩
end Go.Proofs.Ytflfbkoelhheoaa.Dd
