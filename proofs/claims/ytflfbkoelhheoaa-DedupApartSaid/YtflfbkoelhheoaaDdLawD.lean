/- Layer 13: the walk of DedupApart. -/
import Derived.Test.YtflfbkoelhheoaaDdJ
import Derived.Deep.DeepCutAuto
namespace Go.Proofs.Ytflfbkoelhheoaa.Dd
open Go.RowKit Go.Shelf Go.Proofs.Ytflfbkoelhheoaa Go.Proofs.Ytflfbkoelhheoaa.La
set_option linter.unusedVariables false
set_option linter.unusedSimpArgs false
/-- Two boxes, and a list, behind what was done since. -/
structure Two (B : Nat) (w0 w : World) (pb : Option Addr) (Y : List El) (x y : El) : Prop where
  x : Bx B w x
  y : Bx (B + 1) w y
  rd : Rd w pb Y
  k : Below B w0 w
theorem Two.drew {B : Nat} {w0 w : World} {pb : Option Addr} {Y : List El} {x y : El} (h : Two B w0 w pb Y x y) : Two B w0 w.drew pb Y x y :=
  ⟨h.x.lift ((Below.refl _ _).drew), h.y.lift ((Below.refl _ _).drew), h.rd.lift ((Below.refl _ _).drew), h.k.drew⟩
theorem bx_set0 {B : Nat} {w : World} {x : El} (h : Bx B w x) (f : ByteArray) : Bx B (w.setCell ⟨B, 0, none⟩ (.string f)) (f, x.2) := by
  obtain ⟨⟨y0, y1, y2⟩, ⟨q0, q1, q2⟩, hl⟩ := h
  exact ⟨⟨by simp [go_sem, y0], by simp [go_sem, y1], by simp [go_sem, y2]⟩, ⟨by simp [go_sem, q0], by simp [go_sem, q1], by simp [go_sem, q2]⟩, by simpa using hl⟩
theorem bx_far {B C : Nat} {w : World} {x : El} (h : Bx B w x) (hne : B ≠ C) (u : Value) : Bx B (w.setCell ⟨C, 0, none⟩ u) x := by
  obtain ⟨⟨y0, y1, y2⟩, ⟨q0, q1, q2⟩, hl⟩ := h
  have hb := Below.heap_setCell w ⟨C, 0, none⟩ u B hne
  exact ⟨⟨(World.cell?_of_block hb).trans y0, (World.cell?_of_block hb).trans y1, (World.cell?_of_block hb).trans y2⟩, ⟨by simpa [go_sem, World.frozen?_setCell] using q0, by simpa [go_sem] using q1, by simpa [go_sem] using q2⟩, by simpa using hl⟩
theorem rd_far {w : World} {pb : Option Addr} {Y : List El} {C M : Nat} (h : Rd w pb Y) (hb : ∀ b o, pb = some ⟨b, o, none⟩ → M ≤ b) (hC : C < M) (u : Value) : Rd (w.setCell ⟨C, 0, none⟩ u) pb Y := ⟨fun hx => by
  obtain ⟨b, o, e, hlt, hc⟩ := h.out hx
  have hne : b ≠ C := by have := hb b o e; omega
  have hk := Below.heap_setCell w ⟨C, 0, none⟩ u b hne
  exact ⟨b, o, e, by simpa using hlt, fun i hi => ⟨(World.cell?_of_block hk).trans (hc i hi).1, (World.cell?_of_block hk).trans (hc i hi).2.1, (World.cell?_of_block hk).trans (hc i hi).2.2⟩⟩⟩
theorem Two.store {B : Nat} {w0 w : World} {pb : Option Addr} {Y : List El} {x y : El} (h : Two B w0 w pb Y x y) (hp : ∀ b o, pb = some ⟨b, o, none⟩ → B + 2 ≤ b) (f g : ByteArray) :
    Two B w0 ((w.setCell ⟨B, 0, none⟩ (.string f)).setCell ⟨B + 1, 0, none⟩ (.string g)) pb Y (f, x.2) (g, y.2) :=
  ⟨bx_far (bx_set0 h.x f) (by omega) _, bx_set0 (bx_far h.y (by omega) _) g, rd_far (rd_far h.rd hp (by omega) _) hp (by omega) _, (h.k.setCell (Nat.le_refl _) _).setCell (by show B ≤ B + 1; omega) _⟩
set_option maxHeartbeats 8000000 in
set_option maxRecDepth 100000 in
theorem dedupApart_walk (X : List El) (pa : Option Addr) (cap : Nat) (x0 z0 : El) (w : World) (hcap : X.length ≤ cap) (hm : X.length ≤ 9223372036854775807) (hR : Rd w pa X) (hF : ∀ x ∈ X, 0 ≤ x.2.1 ∧ x.2.1 ≤ 18446744073709551615) (hx0 : 0 ≤ x0.2.1) (hx1 : x0.2.1 ≤ 18446744073709551615) (hz0 : 0 ≤ z0.2.1) (hz1 : z0.2.1 ≤ 18446744073709551615) :
    Calls Try.prog 5 #[.slice pa X.length cap, eV x0, eV z0] w fun e w' => e = .returned (.bool true) ∧ Below w.heap.size w w' := by
  have hO := few_ok X hF
  have hxo := ok_fw x0 hx0 hx1
  have hzo := ok_fw z0 hz0 hz1
  have hfl := fewD_len X
  have hb0 : Below w.heap.size w ((w.alloc (.cells #[.string x0.1, .int .u64 x0.2.1, .int .i64 x0.2.2] 25)).alloc (.cells #[.string z0.1, .int .u64 z0.2.1, .int .i64 z0.2.2] 25)) := ((Below.refl _ _).alloc (Nat.le_refl _) _).alloc (by simp) _
  have F := Lib.hid (fewD_any X pa cap _ hm (hR.lift hb0))
  have FX := Lib.hid (fun w => few_any x0.1 w)
  have FZ := Lib.hid (fun w => few_any z0.1 w)
  have hfe : fewE x0 = (fw x0.1, x0.2.1, x0.2.2) := rfl
  have hge : fewE z0 = (fw z0.1, z0.2.1, z0.2.2) := rfl
  rw [hfe] at hxo
  rw [hge] at hzo
  have hY : (fewD X).length ≤ 51 := by omega
  generalize fewD X = Y at *
  generalize fw x0.1 = f at *
  generalize fw z0.1 = g at *
  obtain ⟨x1, x2, x3⟩ := x0
  obtain ⟨z1, z2, z3⟩ := z0
  simp only at *
  have T := Lib.hid (fun X pa cap u w (hX : X.length ≤ 100) hc hR hn hO hu => take_any X pa cap u w hX hc hR hn hO hu)
  have hl1 := takeD_len Y (f, x2, x3)
  have hl3 := takeD_len Y (g, z2, z3)
  have hl2 := takeD_len (takeD Y (f, x2, x3)).1 (g, z2, z3)
  have hl4 := takeD_len (takeD Y (g, z2, z3)).1 (f, x2, x3)
  have o1 := oks_take hO hxo
  have o3 := oks_take hO hzo
  have hk1 := fun h => take_ok (X := Y) (x := (f, x2, x3)) hxo h
  have hk2 := fun h => take_ok (X := (takeD Y (f, x2, x3)).1) (x := (g, z2, z3)) hzo h
  have hk3 := fun h => take_ok (X := Y) (x := (g, z2, z3)) hzo h
  have hk4 := fun h => take_ok (X := (takeD Y (g, z2, z3)).1) (x := (f, x2, x3)) hxo h
  have AW := Lib.hid awakeD_any
  have T1 := Lib.hid (fun pa cap w hc hR hn => T.out Y pa cap (f, x2, x3) w (by omega) hc hR hn hO hxo)
  have T3 := Lib.hid (fun pa cap w hc hR hn => T.out Y pa cap (g, z2, z3) w (by omega) hc hR hn hO hzo)
  have T2 := Lib.hid (fun pa cap w hc hR hn => T.out _ pa cap (g, z2, z3) w (by omega) hc hR hn o1 hzo)
  have T4 := Lib.hid (fun pa cap w hc hR hn => T.out _ pa cap (f, x2, x3) w (by omega) hc hR hn o3 hxo)
  generalize takeD Y (f, x2, x3) = t1 at *
  generalize takeD Y (g, z2, z3) = t3 at *
  obtain ⟨L1, e1⟩ := t1
  obtain ⟨L3, e3⟩ := t3
  simp only at *
  generalize takeD L1 (g, z2, z3) = t2 at *
  generalize takeD L3 (f, x2, x3) = t4 at *
  obtain ⟨L2, e2⟩ := t2
  obtain ⟨L4, e4⟩ := t4
  simp only at *
  have CL := Lib.hid (fun pa cap w hR => check_any L2 pa cap w (by omega) hR)
  have SM := Lib.hid (fun pa pb ca cb w hA hB => same_any L2 L2 pa pb ca cb w (by omega) hA hB)
  rw [show decide (L2 = L2) = true by simp] at SM
  have BXx := Lib.hid (Bx.new (x1, x2, x3) w)
  have BXz := Lib.hid (Bx.new (z1, z2, z3) (w.alloc (.cells #[.string x1, .int .u64 x2, .int .i64 x3] 25)))
  have hal : Below (w.alloc (.cells #[.string x1, .int .u64 x2, .int .i64 x3] 25)).heap.size (w.alloc (.cells #[.string x1, .int .u64 x2, .int .i64 x3] 25)) ((w.alloc (.cells #[.string x1, .int .u64 x2, .int .i64 x3] 25)).alloc (.cells #[.string z1, .int .u64 z2, .int .i64 z3] 25)) := (Below.refl _ _).alloc (Nat.le_refl _) _
  have HAL := Lib.hid hal
  have HB0 := Lib.hid hb0
  have hsz : ((w.alloc (.cells #[.string x1, .int .u64 x2, .int .i64 x3] 25)).alloc (.cells #[.string z1, .int .u64 z2, .int .i64 z3] 25)).heap.size = w.heap.size + 1 + 1 := by simp
  have Hsz := Lib.hid hsz
  clear hR hF hx0 hx1 hz0 hz1 hO hxo hzo hb0 hfe hge hm o1 o3 hal T hsz
  go_enter Try.func5, Try.ntmps5
  go_wp2_with fail
  refine F.out.mono ?_
  rintro e w1 ⟨v, rfl, o1, hb1⟩
  have hpb : ∀ b, v.ownBlock = some b → w.heap.size + 2 ≤ b := fun b h => by have := lsOwn_base o1.own b h; rw [Hsz.out] at this; omega
  obtain ⟨pb, cb, rfl, hcb, hrb, hnb⟩ := o1.args
  have T0 : Two w.heap.size w w1 pb Y (x1, x2, x3) (z1, z2, z3) := by
    refine ⟨((BXx.out.lift HAL.out).lift hb1), ?_, hrb, HB0.out.trans (hb1.mono (by rw [Hsz.out]; omega))⟩
    have := BXz.out.lift hb1
    simpa using this
  have hp : ∀ b o, pb = some ⟨b, o, none⟩ → w.heap.size + 2 ≤ b := fun b o e => hpb b (by rw [e]; rfl)
  have HP := Lib.hid hp
  have TT := Lib.hid T0
  clear hb1 o1 hrb F BXx BXz HAL HB0 hpb hp T0
  go_upto_region 2 with fail
  go_cut [] (fun wx => Two w.heap.size w wx pb Y (f, x2, x3) (g, z2, z3))
  case first =>
    go_wp2_with fail
    obtain ⟨c0, c1, c2⟩ := TT.out.x.c
    obtain ⟨q0, q1, q2⟩ := TT.out.x.f
    obtain ⟨d0, d1, d2⟩ := TT.out.y.c
    obtain ⟨r0, r1, r2⟩ := TT.out.y.f
    simp only at c0 c1 c2 d0 d1 d2
    go_region_with (go_at_call 9; (with_reducible first | refine (FX.out _).mono ?_ | refine (FZ.out _).mono ?_); rintro e w1 ⟨rfl, rfl⟩)
    all_goals go_wp2_with fail
    all_goals go_meet
    all_goals exact (TT.out.store HP.out f g).drew
  case rest =>
    have BA := Lib.hid hcut.x
    have BB := Lib.hid hcut.y
    have RY := Lib.hid hcut.rd
    have K0 := Lib.hid hcut.k
    clear hcut TT HP FX FZ
    by_cases he : f = g
    · subst he
      clear hk1 hk2 hk3 hk4 hl1 hl2 hl3 hl4
      obtain ⟨y0, y1, y2⟩ := BA.out.c
      obtain ⟨u0, u1, u2⟩ := BB.out.c
      simp only at y0 u0
      have T1 := Lib.hid (AW.out wc)
      go_wp2_with fail
      refine T1.out.mono ?_
      rintro e w1 ⟨rfl, hb1⟩
      have K1 := Lib.hid (K0.out.trans (hb1.mono K0.out.size))
      have BA1_ := Lib.hid (BA.out.lift hb1)
      have BB1_ := Lib.hid (BB.out.lift hb1)
      have RY1_ := Lib.hid (RY.out.lift hb1)
      clear T1 hb1 K0 BA BB RY
      go_wp2
      go_ret
      exact ⟨rfl, K1.out⟩
    · have h1t : ¬ f.toList = g.toList := fun e => he ((str_eq _ _).1 e)
      have h1b : (f.toList == g.toList) = false := by simpa using h1t
      by_cases h1 : e1 = 0
      · by_cases h2 : e2 = 0
        · by_cases h3 : e3 = 0
          · by_cases h4 : e4 = 0
            · subst h1 h2 h3 h4
              have k1 := hk1 rfl
              have k2 := hk2 rfl
              have k3 := hk3 rfl
              have k4 := hk4 rfl
              obtain rfl : L2 = L4 := take_turns he k1 k2 k3 k4
              have hnow := k2.now
              rw [hnow] at CL
              clear hk1 hk2 hk3 hk4 k1 k2 k3 k4 hnow hl1 hl2 hl3 hl4
              obtain ⟨y0, y1, y2⟩ := BA.out.c
              obtain ⟨u0, u1, u2⟩ := BB.out.c
              have T2 := Lib.hid (T1.out pb cb wc hcb RY.out hnb)
              go_wp2_with fail
              refine T2.out.mono ?_
              rintro e w2 ⟨v6, rfl, ho6, hb2⟩
              have Ho62 := Lib.hid (ho6.mono K0.out.size)
              have K2 := Lib.hid (K0.out.trans (hb2.mono K0.out.size))
              have BA2_ := Lib.hid (BA.out.lift hb2)
              have BB2_ := Lib.hid (BB.out.lift hb2)
              have RY2_ := Lib.hid (RY.out.lift hb2)
              clear T2 hb2 ho6 K0 BA BB RY
              obtain ⟨p6, c6, rfl, hc6, hr6, hn6⟩ := Ho62.out.args
              have R6 := Lib.hid hr6
              clear hr6
              clear Ho62
              obtain ⟨u0, u1, u2⟩ := BB2_.out.c
              have T3 := Lib.hid (T2.out p6 c6 w2 hc6 R6.out hn6)
              go_wp2_with fail
              refine T3.out.mono ?_
              rintro e w3 ⟨v7, rfl, ho7, hb3⟩
              have Ho73 := Lib.hid (ho7.mono K2.out.size)
              have K3 := Lib.hid (K2.out.trans (hb3.mono K2.out.size))
              have BA3_ := Lib.hid (BA2_.out.lift hb3)
              have BB3_ := Lib.hid (BB2_.out.lift hb3)
              have RY3_ := Lib.hid (RY2_.out.lift hb3)
              have R63_ := Lib.hid (R6.out.lift hb3)
              clear T3 hb3 ho7 K2 BA2_ BB2_ RY2_ R6
              obtain ⟨p7, c7, rfl, hc7, hr7, hn7⟩ := Ho73.out.args
              have R7 := Lib.hid hr7
              clear hr7
              clear Ho73
              obtain ⟨u0, u1, u2⟩ := BB3_.out.c
              have T4 := Lib.hid (T3.out pb cb w3 hcb RY3_.out hnb)
              go_wp2_with fail
              refine T4.out.mono ?_
              rintro e w4 ⟨v8, rfl, ho8, hb4⟩
              have Ho84 := Lib.hid (ho8.mono K3.out.size)
              have K4 := Lib.hid (K3.out.trans (hb4.mono K3.out.size))
              have BA4_ := Lib.hid (BA3_.out.lift hb4)
              have BB4_ := Lib.hid (BB3_.out.lift hb4)
              have RY4_ := Lib.hid (RY3_.out.lift hb4)
              have R64_ := Lib.hid (R63_.out.lift hb4)
              have R74_ := Lib.hid (R7.out.lift hb4)
              clear T4 hb4 ho8 K3 BA3_ BB3_ RY3_ R63_ R7
              obtain ⟨p8, c8, rfl, hc8, hr8, hn8⟩ := Ho84.out.args
              have R8 := Lib.hid hr8
              clear hr8
              clear Ho84
              obtain ⟨y0, y1, y2⟩ := BA4_.out.c
              have T5 := Lib.hid (T4.out p8 c8 w4 hc8 R8.out hn8)
              go_wp2_with fail
              refine T5.out.mono ?_
              rintro e w5 ⟨v9, rfl, ho9, hb5⟩
              have Ho95 := Lib.hid (ho9.mono K4.out.size)
              have K5 := Lib.hid (K4.out.trans (hb5.mono K4.out.size))
              have BA5_ := Lib.hid (BA4_.out.lift hb5)
              have BB5_ := Lib.hid (BB4_.out.lift hb5)
              have RY5_ := Lib.hid (RY4_.out.lift hb5)
              have R65_ := Lib.hid (R64_.out.lift hb5)
              have R75_ := Lib.hid (R74_.out.lift hb5)
              have R85_ := Lib.hid (R8.out.lift hb5)
              clear T5 hb5 ho9 K4 BA4_ BB4_ RY4_ R64_ R74_ R8
              obtain ⟨p9, c9, rfl, hc9, hr9, hn9⟩ := Ho95.out.args
              have R9 := Lib.hid hr9
              clear hr9
              clear Ho95
              have T6 := Lib.hid (SM.out p7 p9 c7 c9 w5 R75_.out R9.out)
              go_wp2_with fail
              refine T6.out.mono ?_
              rintro e w6 ⟨rfl, hb6⟩
              have K6 := Lib.hid (K5.out.trans (hb6.mono K5.out.size))
              have BA6_ := Lib.hid (BA5_.out.lift hb6)
              have BB6_ := Lib.hid (BB5_.out.lift hb6)
              have RY6_ := Lib.hid (RY5_.out.lift hb6)
              have R66_ := Lib.hid (R65_.out.lift hb6)
              have R76_ := Lib.hid (R75_.out.lift hb6)
              have R86_ := Lib.hid (R85_.out.lift hb6)
              have R96_ := Lib.hid (R9.out.lift hb6)
              clear T6 hb6 K5 BA5_ BB5_ RY5_ R65_ R75_ R85_ R9
              have T7 := Lib.hid (CL.out p7 c7 w6 R76_.out)
              go_wp2_with fail
              refine T7.out.mono ?_
              rintro e w7 ⟨rfl, hb7⟩
              have K7 := Lib.hid (K6.out.trans (hb7.mono K6.out.size))
              have BA7_ := Lib.hid (BA6_.out.lift hb7)
              have BB7_ := Lib.hid (BB6_.out.lift hb7)
              have RY7_ := Lib.hid (RY6_.out.lift hb7)
              have R67_ := Lib.hid (R66_.out.lift hb7)
              have R77_ := Lib.hid (R76_.out.lift hb7)
              have R87_ := Lib.hid (R86_.out.lift hb7)
              have R97_ := Lib.hid (R96_.out.lift hb7)
              clear T7 hb7 K6 BA6_ BB6_ RY6_ R66_ R76_ R86_ R96_
              have T8 := Lib.hid (AW.out w7)
              go_wp2_with fail
              refine T8.out.mono ?_
              rintro e w8 ⟨rfl, hb8⟩
              have K8 := Lib.hid (K7.out.trans (hb8.mono K7.out.size))
              have BA8_ := Lib.hid (BA7_.out.lift hb8)
              have BB8_ := Lib.hid (BB7_.out.lift hb8)
              have RY8_ := Lib.hid (RY7_.out.lift hb8)
              have R68_ := Lib.hid (R67_.out.lift hb8)
              have R78_ := Lib.hid (R77_.out.lift hb8)
              have R88_ := Lib.hid (R87_.out.lift hb8)
              have R98_ := Lib.hid (R97_.out.lift hb8)
              clear T8 hb8 K7 BA7_ BB7_ RY7_ R67_ R77_ R87_ R97_
              go_wp2
              go_ret
              exact ⟨rfl, K8.out⟩
            · have hd : decide (e4 = 0) = false := by simpa using h4
              obtain rfl := h1
              obtain rfl := h2
              obtain rfl := h3
              clear hk1 hk2 hk3 hk4 hl1 hl2 hl3 hl4 CL SM
              obtain ⟨y0, y1, y2⟩ := BA.out.c
              obtain ⟨u0, u1, u2⟩ := BB.out.c
              have T9 := Lib.hid (T1.out pb cb wc hcb RY.out hnb)
              go_wp2_with fail
              refine T9.out.mono ?_
              rintro e w9 ⟨v6, rfl, ho6, hb9⟩
              have Ho69 := Lib.hid (ho6.mono K0.out.size)
              have K9 := Lib.hid (K0.out.trans (hb9.mono K0.out.size))
              have BA9_ := Lib.hid (BA.out.lift hb9)
              have BB9_ := Lib.hid (BB.out.lift hb9)
              have RY9_ := Lib.hid (RY.out.lift hb9)
              clear T9 hb9 ho6 K0 BA BB RY
              obtain ⟨p6, c6, rfl, hc6, hr6, hn6⟩ := Ho69.out.args
              have R6 := Lib.hid hr6
              clear hr6
              clear Ho69
              obtain ⟨u0, u1, u2⟩ := BB9_.out.c
              have T10 := Lib.hid (T2.out p6 c6 w9 hc6 R6.out hn6)
              go_wp2_with fail
              refine T10.out.mono ?_
              rintro e w10 ⟨v7, rfl, ho7, hb10⟩
              have Ho710 := Lib.hid (ho7.mono K9.out.size)
              have K10 := Lib.hid (K9.out.trans (hb10.mono K9.out.size))
              have BA10_ := Lib.hid (BA9_.out.lift hb10)
              have BB10_ := Lib.hid (BB9_.out.lift hb10)
              have RY10_ := Lib.hid (RY9_.out.lift hb10)
              have R610_ := Lib.hid (R6.out.lift hb10)
              clear T10 hb10 ho7 K9 BA9_ BB9_ RY9_ R6
              obtain ⟨p7, c7, rfl, hc7, hr7, hn7⟩ := Ho710.out.args
              have R7 := Lib.hid hr7
              clear hr7
              clear Ho710
              obtain ⟨u0, u1, u2⟩ := BB10_.out.c
              have T11 := Lib.hid (T3.out pb cb w10 hcb RY10_.out hnb)
              go_wp2_with fail
              refine T11.out.mono ?_
              rintro e w11 ⟨v8, rfl, ho8, hb11⟩
              have Ho811 := Lib.hid (ho8.mono K10.out.size)
              have K11 := Lib.hid (K10.out.trans (hb11.mono K10.out.size))
              have BA11_ := Lib.hid (BA10_.out.lift hb11)
              have BB11_ := Lib.hid (BB10_.out.lift hb11)
              have RY11_ := Lib.hid (RY10_.out.lift hb11)
              have R611_ := Lib.hid (R610_.out.lift hb11)
              have R711_ := Lib.hid (R7.out.lift hb11)
              clear T11 hb11 ho8 K10 BA10_ BB10_ RY10_ R610_ R7
              obtain ⟨p8, c8, rfl, hc8, hr8, hn8⟩ := Ho811.out.args
              have R8 := Lib.hid hr8
              clear hr8
              clear Ho811
              obtain ⟨y0, y1, y2⟩ := BA11_.out.c
              have T12 := Lib.hid (T4.out p8 c8 w11 hc8 R8.out hn8)
              go_wp2_with fail
              refine T12.out.mono ?_
              rintro e w12 ⟨v9, rfl, ho9, hb12⟩
              have Ho912 := Lib.hid (ho9.mono K11.out.size)
              have K12 := Lib.hid (K11.out.trans (hb12.mono K11.out.size))
              have BA12_ := Lib.hid (BA11_.out.lift hb12)
              have BB12_ := Lib.hid (BB11_.out.lift hb12)
              have RY12_ := Lib.hid (RY11_.out.lift hb12)
              have R612_ := Lib.hid (R611_.out.lift hb12)
              have R712_ := Lib.hid (R711_.out.lift hb12)
              have R812_ := Lib.hid (R8.out.lift hb12)
              clear T12 hb12 ho9 K11 BA11_ BB11_ RY11_ R611_ R711_ R8
              obtain ⟨p9, c9, rfl, hc9, hr9, hn9⟩ := Ho912.out.args
              have R9 := Lib.hid hr9
              clear hr9
              clear Ho912
              have T13 := Lib.hid (AW.out w12)
              go_wp2_with fail
              refine T13.out.mono ?_
              rintro e w13 ⟨rfl, hb13⟩
              have K13 := Lib.hid (K12.out.trans (hb13.mono K12.out.size))
              have BA13_ := Lib.hid (BA12_.out.lift hb13)
              have BB13_ := Lib.hid (BB12_.out.lift hb13)
              have RY13_ := Lib.hid (RY12_.out.lift hb13)
              have R613_ := Lib.hid (R612_.out.lift hb13)
              have R713_ := Lib.hid (R712_.out.lift hb13)
              have R813_ := Lib.hid (R812_.out.lift hb13)
              have R913_ := Lib.hid (R9.out.lift hb13)
              clear T13 hb13 K12 BA12_ BB12_ RY12_ R612_ R712_ R812_ R9
              go_wp2
              go_ret
              exact ⟨rfl, K13.out⟩
          · have hd : decide (e3 = 0) = false := by simpa using h3
            obtain rfl := h1
            obtain rfl := h2
            clear hk1 hk2 hk3 hk4 hl1 hl2 hl3 hl4 CL SM
            obtain ⟨y0, y1, y2⟩ := BA.out.c
            obtain ⟨u0, u1, u2⟩ := BB.out.c
            have T14 := Lib.hid (T1.out pb cb wc hcb RY.out hnb)
            go_wp2_with fail
            refine T14.out.mono ?_
            rintro e w14 ⟨v6, rfl, ho6, hb14⟩
            have Ho614 := Lib.hid (ho6.mono K0.out.size)
            have K14 := Lib.hid (K0.out.trans (hb14.mono K0.out.size))
            have BA14_ := Lib.hid (BA.out.lift hb14)
            have BB14_ := Lib.hid (BB.out.lift hb14)
            have RY14_ := Lib.hid (RY.out.lift hb14)
            clear T14 hb14 ho6 K0 BA BB RY
            obtain ⟨p6, c6, rfl, hc6, hr6, hn6⟩ := Ho614.out.args
            have R6 := Lib.hid hr6
            clear hr6
            clear Ho614
            obtain ⟨u0, u1, u2⟩ := BB14_.out.c
            have T15 := Lib.hid (T2.out p6 c6 w14 hc6 R6.out hn6)
            go_wp2_with fail
            refine T15.out.mono ?_
            rintro e w15 ⟨v7, rfl, ho7, hb15⟩
            have Ho715 := Lib.hid (ho7.mono K14.out.size)
            have K15 := Lib.hid (K14.out.trans (hb15.mono K14.out.size))
            have BA15_ := Lib.hid (BA14_.out.lift hb15)
            have BB15_ := Lib.hid (BB14_.out.lift hb15)
            have RY15_ := Lib.hid (RY14_.out.lift hb15)
            have R615_ := Lib.hid (R6.out.lift hb15)
            clear T15 hb15 ho7 K14 BA14_ BB14_ RY14_ R6
            obtain ⟨p7, c7, rfl, hc7, hr7, hn7⟩ := Ho715.out.args
            have R7 := Lib.hid hr7
            clear hr7
            clear Ho715
            obtain ⟨u0, u1, u2⟩ := BB15_.out.c
            have T16 := Lib.hid (T3.out pb cb w15 hcb RY15_.out hnb)
            go_wp2_with fail
            refine T16.out.mono ?_
            rintro e w16 ⟨v8, rfl, ho8, hb16⟩
            have Ho816 := Lib.hid (ho8.mono K15.out.size)
            have K16 := Lib.hid (K15.out.trans (hb16.mono K15.out.size))
            have BA16_ := Lib.hid (BA15_.out.lift hb16)
            have BB16_ := Lib.hid (BB15_.out.lift hb16)
            have RY16_ := Lib.hid (RY15_.out.lift hb16)
            have R616_ := Lib.hid (R615_.out.lift hb16)
            have R716_ := Lib.hid (R7.out.lift hb16)
            clear T16 hb16 ho8 K15 BA15_ BB15_ RY15_ R615_ R7
            obtain ⟨p8, c8, rfl, hc8, hr8, hn8⟩ := Ho816.out.args
            have R8 := Lib.hid hr8
            clear hr8
            clear Ho816
            obtain ⟨y0, y1, y2⟩ := BA16_.out.c
            have T17 := Lib.hid (T4.out p8 c8 w16 hc8 R8.out hn8)
            go_wp2_with fail
            refine T17.out.mono ?_
            rintro e w17 ⟨v9, rfl, ho9, hb17⟩
            have Ho917 := Lib.hid (ho9.mono K16.out.size)
            have K17 := Lib.hid (K16.out.trans (hb17.mono K16.out.size))
            have BA17_ := Lib.hid (BA16_.out.lift hb17)
            have BB17_ := Lib.hid (BB16_.out.lift hb17)
            have RY17_ := Lib.hid (RY16_.out.lift hb17)
            have R617_ := Lib.hid (R616_.out.lift hb17)
            have R717_ := Lib.hid (R716_.out.lift hb17)
            have R817_ := Lib.hid (R8.out.lift hb17)
            clear T17 hb17 ho9 K16 BA16_ BB16_ RY16_ R616_ R716_ R8
            obtain ⟨p9, c9, rfl, hc9, hr9, hn9⟩ := Ho917.out.args
            have R9 := Lib.hid hr9
            clear hr9
            clear Ho917
            have T18 := Lib.hid (AW.out w17)
            go_wp2_with fail
            refine T18.out.mono ?_
            rintro e w18 ⟨rfl, hb18⟩
            have K18 := Lib.hid (K17.out.trans (hb18.mono K17.out.size))
            have BA18_ := Lib.hid (BA17_.out.lift hb18)
            have BB18_ := Lib.hid (BB17_.out.lift hb18)
            have RY18_ := Lib.hid (RY17_.out.lift hb18)
            have R618_ := Lib.hid (R617_.out.lift hb18)
            have R718_ := Lib.hid (R717_.out.lift hb18)
            have R818_ := Lib.hid (R817_.out.lift hb18)
            have R918_ := Lib.hid (R9.out.lift hb18)
            clear T18 hb18 K17 BA17_ BB17_ RY17_ R617_ R717_ R817_ R9
            go_wp2
            go_ret
            exact ⟨rfl, K18.out⟩
        · have hd : decide (e2 = 0) = false := by simpa using h2
          obtain rfl := h1
          clear hk1 hk2 hk3 hk4 hl1 hl2 hl3 hl4 CL SM
          obtain ⟨y0, y1, y2⟩ := BA.out.c
          obtain ⟨u0, u1, u2⟩ := BB.out.c
          have T19 := Lib.hid (T1.out pb cb wc hcb RY.out hnb)
          go_wp2_with fail
          refine T19.out.mono ?_
          rintro e w19 ⟨v6, rfl, ho6, hb19⟩
          have Ho619 := Lib.hid (ho6.mono K0.out.size)
          have K19 := Lib.hid (K0.out.trans (hb19.mono K0.out.size))
          have BA19_ := Lib.hid (BA.out.lift hb19)
          have BB19_ := Lib.hid (BB.out.lift hb19)
          have RY19_ := Lib.hid (RY.out.lift hb19)
          clear T19 hb19 ho6 K0 BA BB RY
          obtain ⟨p6, c6, rfl, hc6, hr6, hn6⟩ := Ho619.out.args
          have R6 := Lib.hid hr6
          clear hr6
          clear Ho619
          obtain ⟨u0, u1, u2⟩ := BB19_.out.c
          have T20 := Lib.hid (T2.out p6 c6 w19 hc6 R6.out hn6)
          go_wp2_with fail
          refine T20.out.mono ?_
          rintro e w20 ⟨v7, rfl, ho7, hb20⟩
          have Ho720 := Lib.hid (ho7.mono K19.out.size)
          have K20 := Lib.hid (K19.out.trans (hb20.mono K19.out.size))
          have BA20_ := Lib.hid (BA19_.out.lift hb20)
          have BB20_ := Lib.hid (BB19_.out.lift hb20)
          have RY20_ := Lib.hid (RY19_.out.lift hb20)
          have R620_ := Lib.hid (R6.out.lift hb20)
          clear T20 hb20 ho7 K19 BA19_ BB19_ RY19_ R6
          obtain ⟨p7, c7, rfl, hc7, hr7, hn7⟩ := Ho720.out.args
          have R7 := Lib.hid hr7
          clear hr7
          clear Ho720
          obtain ⟨u0, u1, u2⟩ := BB20_.out.c
          have T21 := Lib.hid (T3.out pb cb w20 hcb RY20_.out hnb)
          go_wp2_with fail
          refine T21.out.mono ?_
          rintro e w21 ⟨v8, rfl, ho8, hb21⟩
          have Ho821 := Lib.hid (ho8.mono K20.out.size)
          have K21 := Lib.hid (K20.out.trans (hb21.mono K20.out.size))
          have BA21_ := Lib.hid (BA20_.out.lift hb21)
          have BB21_ := Lib.hid (BB20_.out.lift hb21)
          have RY21_ := Lib.hid (RY20_.out.lift hb21)
          have R621_ := Lib.hid (R620_.out.lift hb21)
          have R721_ := Lib.hid (R7.out.lift hb21)
          clear T21 hb21 ho8 K20 BA20_ BB20_ RY20_ R620_ R7
          obtain ⟨p8, c8, rfl, hc8, hr8, hn8⟩ := Ho821.out.args
          have R8 := Lib.hid hr8
          clear hr8
          clear Ho821
          obtain ⟨y0, y1, y2⟩ := BA21_.out.c
          have T22 := Lib.hid (T4.out p8 c8 w21 hc8 R8.out hn8)
          go_wp2_with fail
          refine T22.out.mono ?_
          rintro e w22 ⟨v9, rfl, ho9, hb22⟩
          have Ho922 := Lib.hid (ho9.mono K21.out.size)
          have K22 := Lib.hid (K21.out.trans (hb22.mono K21.out.size))
          have BA22_ := Lib.hid (BA21_.out.lift hb22)
          have BB22_ := Lib.hid (BB21_.out.lift hb22)
          have RY22_ := Lib.hid (RY21_.out.lift hb22)
          have R622_ := Lib.hid (R621_.out.lift hb22)
          have R722_ := Lib.hid (R721_.out.lift hb22)
          have R822_ := Lib.hid (R8.out.lift hb22)
          clear T22 hb22 ho9 K21 BA21_ BB21_ RY21_ R621_ R721_ R8
          obtain ⟨p9, c9, rfl, hc9, hr9, hn9⟩ := Ho922.out.args
          have R9 := Lib.hid hr9
          clear hr9
          clear Ho922
          have T23 := Lib.hid (AW.out w22)
          go_wp2_with fail
          refine T23.out.mono ?_
          rintro e w23 ⟨rfl, hb23⟩
          have K23 := Lib.hid (K22.out.trans (hb23.mono K22.out.size))
          have BA23_ := Lib.hid (BA22_.out.lift hb23)
          have BB23_ := Lib.hid (BB22_.out.lift hb23)
          have RY23_ := Lib.hid (RY22_.out.lift hb23)
          have R623_ := Lib.hid (R622_.out.lift hb23)
          have R723_ := Lib.hid (R722_.out.lift hb23)
          have R823_ := Lib.hid (R822_.out.lift hb23)
          have R923_ := Lib.hid (R9.out.lift hb23)
          clear T23 hb23 K22 BA22_ BB22_ RY22_ R622_ R722_ R822_ R9
          go_wp2
          go_ret
          exact ⟨rfl, K23.out⟩
      · have hd : decide (e1 = 0) = false := by simpa using h1
        clear hk1 hk2 hk3 hk4 hl1 hl2 hl3 hl4 CL SM
        obtain ⟨y0, y1, y2⟩ := BA.out.c
        obtain ⟨u0, u1, u2⟩ := BB.out.c
        have T24 := Lib.hid (T1.out pb cb wc hcb RY.out hnb)
        go_wp2_with fail
        refine T24.out.mono ?_
        rintro e w24 ⟨v6, rfl, ho6, hb24⟩
        have Ho624 := Lib.hid (ho6.mono K0.out.size)
        have K24 := Lib.hid (K0.out.trans (hb24.mono K0.out.size))
        have BA24_ := Lib.hid (BA.out.lift hb24)
        have BB24_ := Lib.hid (BB.out.lift hb24)
        have RY24_ := Lib.hid (RY.out.lift hb24)
        clear T24 hb24 ho6 K0 BA BB RY
        obtain ⟨p6, c6, rfl, hc6, hr6, hn6⟩ := Ho624.out.args
        have R6 := Lib.hid hr6
        clear hr6
        clear Ho624
        obtain ⟨u0, u1, u2⟩ := BB24_.out.c
        have T25 := Lib.hid (T2.out p6 c6 w24 hc6 R6.out hn6)
        go_wp2_with fail
        refine T25.out.mono ?_
        rintro e w25 ⟨v7, rfl, ho7, hb25⟩
        have Ho725 := Lib.hid (ho7.mono K24.out.size)
        have K25 := Lib.hid (K24.out.trans (hb25.mono K24.out.size))
        have BA25_ := Lib.hid (BA24_.out.lift hb25)
        have BB25_ := Lib.hid (BB24_.out.lift hb25)
        have RY25_ := Lib.hid (RY24_.out.lift hb25)
        have R625_ := Lib.hid (R6.out.lift hb25)
        clear T25 hb25 ho7 K24 BA24_ BB24_ RY24_ R6
        obtain ⟨p7, c7, rfl, hc7, hr7, hn7⟩ := Ho725.out.args
        have R7 := Lib.hid hr7
        clear hr7
        clear Ho725
        obtain ⟨u0, u1, u2⟩ := BB25_.out.c
        have T26 := Lib.hid (T3.out pb cb w25 hcb RY25_.out hnb)
        go_wp2_with fail
        refine T26.out.mono ?_
        rintro e w26 ⟨v8, rfl, ho8, hb26⟩
        have Ho826 := Lib.hid (ho8.mono K25.out.size)
        have K26 := Lib.hid (K25.out.trans (hb26.mono K25.out.size))
        have BA26_ := Lib.hid (BA25_.out.lift hb26)
        have BB26_ := Lib.hid (BB25_.out.lift hb26)
        have RY26_ := Lib.hid (RY25_.out.lift hb26)
        have R626_ := Lib.hid (R625_.out.lift hb26)
        have R726_ := Lib.hid (R7.out.lift hb26)
        clear T26 hb26 ho8 K25 BA25_ BB25_ RY25_ R625_ R7
        obtain ⟨p8, c8, rfl, hc8, hr8, hn8⟩ := Ho826.out.args
        have R8 := Lib.hid hr8
        clear hr8
        clear Ho826
        obtain ⟨y0, y1, y2⟩ := BA26_.out.c
        have T27 := Lib.hid (T4.out p8 c8 w26 hc8 R8.out hn8)
        go_wp2_with fail
        refine T27.out.mono ?_
        rintro e w27 ⟨v9, rfl, ho9, hb27⟩
        have Ho927 := Lib.hid (ho9.mono K26.out.size)
        have K27 := Lib.hid (K26.out.trans (hb27.mono K26.out.size))
        have BA27_ := Lib.hid (BA26_.out.lift hb27)
        have BB27_ := Lib.hid (BB26_.out.lift hb27)
        have RY27_ := Lib.hid (RY26_.out.lift hb27)
        have R627_ := Lib.hid (R626_.out.lift hb27)
        have R727_ := Lib.hid (R726_.out.lift hb27)
        have R827_ := Lib.hid (R8.out.lift hb27)
        clear T27 hb27 ho9 K26 BA26_ BB26_ RY26_ R626_ R726_ R8
        obtain ⟨p9, c9, rfl, hc9, hr9, hn9⟩ := Ho927.out.args
        have R9 := Lib.hid hr9
        clear hr9
        clear Ho927
        have T28 := Lib.hid (AW.out w27)
        go_wp2_with fail
        refine T28.out.mono ?_
        rintro e w28 ⟨rfl, hb28⟩
        have K28 := Lib.hid (K27.out.trans (hb28.mono K27.out.size))
        have BA28_ := Lib.hid (BA27_.out.lift hb28)
        have BB28_ := Lib.hid (BB27_.out.lift hb28)
        have RY28_ := Lib.hid (RY27_.out.lift hb28)
        have R628_ := Lib.hid (R627_.out.lift hb28)
        have R728_ := Lib.hid (R727_.out.lift hb28)
        have R828_ := Lib.hid (R827_.out.lift hb28)
        have R928_ := Lib.hid (R9.out.lift hb28)
        clear T28 hb28 K27 BA27_ BB27_ RY27_ R627_ R727_ R827_ R9
        go_wp2
        go_ret
        exact ⟨rfl, K28.out⟩
end Go.Proofs.Ytflfbkoelhheoaa.Dd
