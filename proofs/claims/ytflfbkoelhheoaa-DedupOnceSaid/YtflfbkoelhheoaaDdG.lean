/- Layer 13: the document's Ask and Take. -/
import Derived.Test.YtflfbkoelhheoaaDdE
import Derived.Test.YtflfbkoelhheoaaDdF
namespace Go.Proofs.Ytflfbkoelhheoaa.Dd
open Go.RowKit Go.Shelf Go.Proofs.Ytflfbkoelhheoaa Go.Proofs.Ytflfbkoelhheoaa.La
set_option linter.unusedVariables false
set_option linter.unusedSimpArgs false
theorem askE_ref (y : El) (s : Int) (h : y.2.1 ≤ s) (hn : ¬ s = y.2.1) : askE y s = if s = y.2.1 + 1 then (0, 0) else (0, 9) := by
  unfold askE
  rw [if_neg hn, if_neg (by omega)]
  by_cases h2 : 1 < s - y.2.1
  · rw [if_pos h2, if_neg (by omega)]
  · rw [if_neg h2, if_pos (by omega)]
set_option maxRecDepth 100000 in
set_option maxHeartbeats 4000000 in
theorem rask_any (X : List El) (pa : Option Addr) (cap : Nat) (p : ByteArray) (s : Int) (w : World) (hX : X.length ≤ 100) (hR : Rd w pa X) (hO : Oks X) (hp60 : p.size ≤ 60) (hs0 : 0 ≤ s) (hs1 : s ≤ 18446744073709551615) :
    Calls Try.prog 11 #[.slice pa X.length cap, .string p, .int .u64 s] w fun e w' => e = .returned (.tuple #[.int .i64 (askD X p s).1, .int .i64 (askD X p s).2]) ∧ Below w.heap.size w w' := by
  have C := Lib.hid (fun w hR => rmay_any X pa cap w hX hR hO)
  have F := Lib.hid (fun w => rfield_any p w hp60)
  have N := Lib.hid (fun w hR => rfind_any X pa cap p w hX hR)
  have H := Lib.hid hR
  have hq := findD_seq X p hO
  have hz : (findD X p).2 = false → (findD X p).1 = zE := fun h => by
    unfold findD at *
    split at h
    · cases h
    · rename_i e; simp only [e]
  obtain ⟨V, hV⟩ : ∃ V : Int × Int, V = askD X p s := ⟨_, rfl⟩
  rw [← hV]
  unfold askD at hV
  generalize mayD X = m at *
  generalize fieldB p = f at *
  generalize findD X p = y at *
  obtain ⟨⟨y1, y2, y3⟩, y4⟩ := y
  have hE := askE_ref (y1, y2, y3) s
  simp only at hq hz hV hE
  clear hR hO
  cases m
  · obtain rfl : V = (0, 1) := by simpa using hV
    clear hV hq hz hE hs1
    go_enter Try.func11, Try.ntmps11
    have T1 := Lib.hid (C.out w H.out)
    go_wp2_with fail
    refine T1.out.mono ?_
    rintro e w1 ⟨rfl, hb1⟩
    have K1 := Lib.hid hb1
    have H1_ := Lib.hid (H.out.lift hb1)
    clear T1 hb1 H
    go_wp2
    refine bodyPost_ret (v := .tuple #[_, _]) (by simp [results, Try.results11, go_sem]; exact ⟨rfl, rfl⟩) rfl ?_
    exact ⟨rfl, K1.out⟩
  · cases f
    · obtain rfl : V = (0, 1) := by simpa using hV
      clear hV hq hz hE hs1
      go_enter Try.func11, Try.ntmps11
      have T2 := Lib.hid (C.out w H.out)
      go_wp2_with fail
      refine T2.out.mono ?_
      rintro e w2 ⟨rfl, hb2⟩
      have K2 := Lib.hid hb2
      have H2_ := Lib.hid (H.out.lift hb2)
      clear T2 hb2 H
      have T3 := Lib.hid (F.out w2)
      go_wp2_with fail
      refine T3.out.mono ?_
      rintro e w3 ⟨rfl, hb3⟩
      have K3 := Lib.hid (K2.out.trans (hb3.mono K2.out.size))
      have H3_ := Lib.hid (H2_.out.lift hb3)
      clear T3 hb3 K2 H2_
      go_wp2
      refine bodyPost_ret (v := .tuple #[_, _]) (by simp [results, Try.results11, go_sem]; exact ⟨rfl, rfl⟩) rfl ?_
      exact ⟨rfl, K3.out⟩
    · by_cases h0 : s = 0
      · subst h0
        obtain rfl : V = (0, 1) := by simpa using hV
        clear hV hq hz hE hs1
        go_enter Try.func11, Try.ntmps11
        have T4 := Lib.hid (C.out w H.out)
        go_wp2_with fail
        refine T4.out.mono ?_
        rintro e w4 ⟨rfl, hb4⟩
        have K4 := Lib.hid hb4
        have H4_ := Lib.hid (H.out.lift hb4)
        clear T4 hb4 H
        have T5 := Lib.hid (F.out w4)
        go_wp2_with fail
        refine T5.out.mono ?_
        rintro e w5 ⟨rfl, hb5⟩
        have K5 := Lib.hid (K4.out.trans (hb5.mono K4.out.size))
        have H5_ := Lib.hid (H4_.out.lift hb5)
        clear T5 hb5 K4 H4_
        go_wp2
        refine bodyPost_ret (v := .tuple #[_, _]) (by simp [results, Try.results11, go_sem]; exact ⟨rfl, rfl⟩) rfl ?_
        exact ⟨rfl, K5.out⟩
      · have h0d : decide (s = 0) = false := by simpa using h0
        have hV2 : V = askE (y1, y2, y3) s := by rw [hV, h0d]; rfl
        clear hV
        cases y4
        · obtain ⟨rfl, rfl, rfl⟩ : y1 = ⟨#[]⟩ ∧ y2 = 0 ∧ y3 = 0 := by simpa using hz rfl
          rw [hE hs0 h0] at hV2
          clear hz hE hq hs1
          by_cases h1 : s = 1
          · subst h1
            obtain rfl : V = (0, 0) := hV2
            go_enter Try.func11, Try.ntmps11
            have T6 := Lib.hid (C.out w H.out)
            go_wp2_with fail
            refine T6.out.mono ?_
            rintro e w6 ⟨rfl, hb6⟩
            have K6 := Lib.hid hb6
            have H6_ := Lib.hid (H.out.lift hb6)
            clear T6 hb6 H
            have T7 := Lib.hid (F.out w6)
            go_wp2_with fail
            refine T7.out.mono ?_
            rintro e w7 ⟨rfl, hb7⟩
            have K7 := Lib.hid (K6.out.trans (hb7.mono K6.out.size))
            have H7_ := Lib.hid (H6_.out.lift hb7)
            clear T7 hb7 K6 H6_
            have T8 := Lib.hid (N.out w7 H7_.out)
            go_wp2_with fail
            refine T8.out.mono ?_
            rintro e w8 ⟨rfl, hb8⟩
            have K8 := Lib.hid (K7.out.trans (hb8.mono K7.out.size))
            have H8_ := Lib.hid (H7_.out.lift hb8)
            clear T8 hb8 K7 H7_
            go_wp2
            refine bodyPost_ret (v := .tuple #[_, _]) (by simp [results, Try.results11, go_sem]; exact ⟨rfl, rfl⟩) rfl ?_
            exact ⟨rfl, K8.out.alloc (K8.out.size) _⟩
          · rw [if_neg (by omega)] at hV2
            subst hV2
            go_enter Try.func11, Try.ntmps11
            have T9 := Lib.hid (C.out w H.out)
            go_wp2_with fail
            refine T9.out.mono ?_
            rintro e w9 ⟨rfl, hb9⟩
            have K9 := Lib.hid hb9
            have H9_ := Lib.hid (H.out.lift hb9)
            clear T9 hb9 H
            have T10 := Lib.hid (F.out w9)
            go_wp2_with fail
            refine T10.out.mono ?_
            rintro e w10 ⟨rfl, hb10⟩
            have K10 := Lib.hid (K9.out.trans (hb10.mono K9.out.size))
            have H10_ := Lib.hid (H9_.out.lift hb10)
            clear T10 hb10 K9 H9_
            have T11 := Lib.hid (N.out w10 H10_.out)
            go_wp2_with fail
            refine T11.out.mono ?_
            rintro e w11 ⟨rfl, hb11⟩
            have K11 := Lib.hid (K10.out.trans (hb11.mono K10.out.size))
            have H11_ := Lib.hid (H10_.out.lift hb11)
            clear T11 hb11 K10 H10_
            go_wp2
            refine bodyPost_ret (v := .tuple #[_, _]) (by simp [results, Try.results11, go_sem]; exact ⟨rfl, rfl⟩) rfl ?_
            exact ⟨rfl, K11.out.alloc (K11.out.size) _⟩
        · clear hz
          by_cases h1 : s = y2
          · subst h1
            obtain rfl : V = (y3, 5) := by rw [hV2]; unfold askE; simp
            clear hV2 hE hq hs1
            go_enter Try.func11, Try.ntmps11
            have T12 := Lib.hid (C.out w H.out)
            go_wp2_with fail
            refine T12.out.mono ?_
            rintro e w12 ⟨rfl, hb12⟩
            have K12 := Lib.hid hb12
            have H12_ := Lib.hid (H.out.lift hb12)
            clear T12 hb12 H
            have T13 := Lib.hid (F.out w12)
            go_wp2_with fail
            refine T13.out.mono ?_
            rintro e w13 ⟨rfl, hb13⟩
            have K13 := Lib.hid (K12.out.trans (hb13.mono K12.out.size))
            have H13_ := Lib.hid (H12_.out.lift hb13)
            clear T13 hb13 K12 H12_
            have T14 := Lib.hid (N.out w13 H13_.out)
            go_wp2_with fail
            refine T14.out.mono ?_
            rintro e w14 ⟨rfl, hb14⟩
            have K14 := Lib.hid (K13.out.trans (hb14.mono K13.out.size))
            have H14_ := Lib.hid (H13_.out.lift hb14)
            clear T14 hb14 K13 H13_
            go_wp2
            refine bodyPost_ret (v := .tuple #[_, _]) (by simp [results, Try.results11, go_sem]; exact ⟨rfl, rfl⟩) rfl ?_
            exact ⟨rfl, K14.out.alloc (K14.out.size) _⟩
          · by_cases h2 : s < y2
            · obtain rfl : V = (0, 8) := by rw [hV2]; unfold askE; simp only; rw [if_neg h1, if_pos h2]
              clear hV2 hE hq hs1
              go_enter Try.func11, Try.ntmps11
              have T15 := Lib.hid (C.out w H.out)
              go_wp2_with fail
              refine T15.out.mono ?_
              rintro e w15 ⟨rfl, hb15⟩
              have K15 := Lib.hid hb15
              have H15_ := Lib.hid (H.out.lift hb15)
              clear T15 hb15 H
              have T16 := Lib.hid (F.out w15)
              go_wp2_with fail
              refine T16.out.mono ?_
              rintro e w16 ⟨rfl, hb16⟩
              have K16 := Lib.hid (K15.out.trans (hb16.mono K15.out.size))
              have H16_ := Lib.hid (H15_.out.lift hb16)
              clear T16 hb16 K15 H15_
              have T17 := Lib.hid (N.out w16 H16_.out)
              go_wp2_with fail
              refine T17.out.mono ?_
              rintro e w17 ⟨rfl, hb17⟩
              have K17 := Lib.hid (K16.out.trans (hb17.mono K16.out.size))
              have H17_ := Lib.hid (H16_.out.lift hb17)
              clear T17 hb17 K16 H16_
              go_wp2
              refine bodyPost_ret (v := .tuple #[_, _]) (by simp [results, Try.results11, go_sem]; exact ⟨rfl, rfl⟩) rfl ?_
              exact ⟨rfl, K17.out.alloc (K17.out.size) _⟩
            · rw [hE (by omega) h1] at hV2
              obtain ⟨z, hz⟩ : ∃ z, z = y2 + 1 := ⟨_, rfl⟩
              have hwz : IntKind.u64.wrap (y2 + 1) = z := by rw [hz]; exact IntWalk.u64_in _ (by omega)
              rw [← hz] at hV2
              clear hE hq hs1 hz
              by_cases h3 : s = z
              · subst h3
                obtain rfl : V = (0, 0) := by simpa using hV2
                clear hV2
                go_enter Try.func11, Try.ntmps11
                have T18 := Lib.hid (C.out w H.out)
                go_wp2_with fail
                refine T18.out.mono ?_
                rintro e w18 ⟨rfl, hb18⟩
                have K18 := Lib.hid hb18
                have H18_ := Lib.hid (H.out.lift hb18)
                clear T18 hb18 H
                have T19 := Lib.hid (F.out w18)
                go_wp2_with fail
                refine T19.out.mono ?_
                rintro e w19 ⟨rfl, hb19⟩
                have K19 := Lib.hid (K18.out.trans (hb19.mono K18.out.size))
                have H19_ := Lib.hid (H18_.out.lift hb19)
                clear T19 hb19 K18 H18_
                have T20 := Lib.hid (N.out w19 H19_.out)
                go_wp2_with fail
                refine T20.out.mono ?_
                rintro e w20 ⟨rfl, hb20⟩
                have K20 := Lib.hid (K19.out.trans (hb20.mono K19.out.size))
                have H20_ := Lib.hid (H19_.out.lift hb20)
                clear T20 hb20 K19 H19_
                go_wp2
                refine bodyPost_ret (v := .tuple #[_, _]) (by simp [results, Try.results11, go_sem]; exact ⟨rfl, rfl⟩) rfl ?_
                exact ⟨rfl, K20.out.alloc (K20.out.size) _⟩
              · rw [if_neg h3] at hV2
                subst hV2
                go_enter Try.func11, Try.ntmps11
                have T21 := Lib.hid (C.out w H.out)
                go_wp2_with fail
                refine T21.out.mono ?_
                rintro e w21 ⟨rfl, hb21⟩
                have K21 := Lib.hid hb21
                have H21_ := Lib.hid (H.out.lift hb21)
                clear T21 hb21 H
                have T22 := Lib.hid (F.out w21)
                go_wp2_with fail
                refine T22.out.mono ?_
                rintro e w22 ⟨rfl, hb22⟩
                have K22 := Lib.hid (K21.out.trans (hb22.mono K21.out.size))
                have H22_ := Lib.hid (H21_.out.lift hb22)
                clear T22 hb22 K21 H21_
                have T23 := Lib.hid (N.out w22 H22_.out)
                go_wp2_with fail
                refine T23.out.mono ?_
                rintro e w23 ⟨rfl, hb23⟩
                have K23 := Lib.hid (K22.out.trans (hb23.mono K22.out.size))
                have H23_ := Lib.hid (H22_.out.lift hb23)
                clear T23 hb23 K22 H22_
                go_wp2
                refine bodyPost_ret (v := .tuple #[_, _]) (by simp [results, Try.results11, go_sem]; exact ⟨rfl, rfl⟩) rfl ?_
                exact ⟨rfl, K23.out.alloc (K23.out.size) _⟩
/-- What the document makes of a list, and one that is taken. -/
def rputD (X : List El) (x : El) : List El := X.filter (fun y => Op.bytesLess y.1.toList x.1.toList) ++ (x :: X.filter (fun y => !Op.bytesLess y.1.toList x.1.toList && !y.1.toList == x.1.toList))
theorem ordS_anti (a b : ByteArray) : ordS a b = - ordS b a := cmpL_anti _ _
theorem ordS_zero (a b : ByteArray) : ordS a b = 0 ↔ a = b := by
  unfold ordS
  rw [cmpL_zero]
  exact ⟨fun h => Go.WideShapes.bytes_inj h, fun h => by rw [h]⟩
theorem ordS_trans (a b c : ByteArray) (h : ordS a b < 0) (g : ordS b c < 0) : ordS a c < 0 := cmpL_strict _ _ _ h (by unfold ordS at g; omega)
theorem ordE_trans (x y z : El) (h : ordE x y < 0) (g : ordE y z < 0) : ordE x z < 0 := ordS_trans _ _ _ h g
theorem put_eq : ∀ (X : List El) (x : El), X.Pairwise (fun a b => ordE a b < 0) → putD X x = rputD X x
  | [], x, _ => rfl
  | y :: r, x, h => by
    have h' := List.pairwise_cons.1 h
    have ih := put_eq r x h'.2
    unfold putD goesD posD at ih
    unfold putD goesD posD rputD
    unfold rputD at ih
    rw [List.filter_cons, List.filter_cons, gtr_cmp, less_cmp]
    by_cases h1 : ordS y.1 x.1 < 0
    · have hne : ¬ y.1 = x.1 := fun e => by rw [(ordS_zero _ _).2 e] at h1; omega
      have hgt : ¬ ordS x.1 y.1 < 0 := by rw [ordS_anti]; omega
      have p1 : lsPl (fun z : El => decide (z.1 = x.1)) (y :: r) = lsPl (fun z : El => decide (z.1 = x.1)) r + 1 := by rw [lsPl, if_neg (by simpa using hne)]
      have p2 : lsPl (fun z : El => decide (ordS x.1 z.1 < 0)) (y :: r) = lsPl (fun z : El => decide (ordS x.1 z.1 < 0)) r + 1 := by rw [lsPl, if_neg (by simpa using hgt)]
      have c1 : decide (ordS y.1 x.1 < 0) = true := by simpa using h1
      have c2 : ¬ decide (ordS x.1 y.1 < 0) = true := by simpa using hgt
      rw [p1, p2, if_pos c1, if_neg c2, List.cons_append, ← ih]
      by_cases hp : lsPl (fun z : El => decide (z.1 = x.1)) r < r.length
      · rw [if_pos hp, if_pos (by simpa using hp)]; rfl
      · rw [if_neg hp, if_neg (by simpa using hp)]; rfl
    · have hall : ∀ z ∈ r, ordS y.1 z.1 < 0 := fun z hz => h'.1 z hz
      have hge : ordS x.1 y.1 ≤ 0 := by rw [ordS_anti]; omega
      have hlt : ∀ z ∈ r, ordS x.1 z.1 < 0 := fun z hz => by
        have := cmpL_strict' _ _ _ hge (hall z hz)
        exact this
      have f1 : r.filter (fun z => Op.bytesLess z.1.toList x.1.toList) = [] := List.filter_eq_nil_iff.2 fun z hz => by
        have := hlt z hz
        rw [less_cmp]; rw [ordS_anti] at this; simp; omega
      have f2 : r.filter (fun z => !Op.bytesLess z.1.toList x.1.toList && !z.1.toList == x.1.toList) = r := List.filter_eq_self.2 fun z hz => by
        rw [gtr_cmp]; simpa using hlt z hz
      have c1 : ¬ decide (ordS y.1 x.1 < 0) = true := by simpa using h1
      rw [if_neg c1, f1, f2, List.nil_append]
      by_cases he : y.1 = x.1
      · have p1 : lsPl (fun z : El => decide (z.1 = x.1)) (y :: r) = 0 := by rw [lsPl, if_pos (by simpa using he)]
        have : ¬ ordS x.1 y.1 < 0 := by rw [(ordS_zero _ _).2 he.symm]; omega
        have c2 : ¬ decide (ordS x.1 y.1 < 0) = true := by simpa using this
        have c3 : 0 < (y :: r).length := by simp
        rw [p1, if_pos c3, if_neg c2]; rfl
      · have hlt' : ordS x.1 y.1 < 0 := by
          have : ordS x.1 y.1 ≠ 0 := fun e => he ((ordS_zero _ _).1 e).symm
          omega
        have p1 : lsPl (fun z : El => decide (z.1 = x.1)) (y :: r) = (y :: r).length := by
          rw [lsPl_none, List.any_eq_false]
          intro z hz
          rcases List.mem_cons.1 hz with rfl | hz
          · simpa using he
          · have := hlt z hz
            simp; rintro e; rw [(ordS_zero _ _).2 e.symm] at this; omega
        have p2 : lsPl (fun z : El => decide (ordS x.1 z.1 < 0)) (y :: r) = 0 := by rw [lsPl, if_pos (by simpa using hlt')]
        have c2 : decide (ordS x.1 y.1 < 0) = true := by simpa using hlt'
        have c3 : ¬ (y :: r).length < (y :: r).length := by omega
        rw [p1, p2, if_neg c3, if_pos c2]; rfl
theorem mayD_pw {X : List El} (h : mayD X = true) : X.Pairwise (fun a b => ordE a b < 0) := by
  unfold mayD at h
  simp only [Bool.and_eq_true] at h
  exact (lsRises_pw ordE ordE_trans X).1 h.2.2
end Go.Proofs.Ytflfbkoelhheoaa.Dd
