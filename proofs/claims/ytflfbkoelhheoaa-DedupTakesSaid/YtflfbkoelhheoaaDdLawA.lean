/- Layer 13: the walk of DedupTakes. -/
import Derived.Test.YtflfbkoelhheoaaDdI
namespace Go.Proofs.Ytflfbkoelhheoaa.Dd
open Go.RowKit Go.Shelf Go.Proofs.Ytflfbkoelhheoaa Go.Proofs.Ytflfbkoelhheoaa.La
set_option linter.unusedVariables false
set_option linter.unusedSimpArgs false
set_option maxHeartbeats 8000000 in
set_option maxRecDepth 100000 in
theorem dedupTakes_walk (X : List El) (pa : Option Addr) (cap : Nat) (x0 : El) (w : World) (hcap : X.length ≤ cap) (hm : X.length ≤ 9223372036854775807) (hR : Rd w pa X) (hF : ∀ x ∈ X, 0 ≤ x.2.1 ∧ x.2.1 ≤ 18446744073709551615) (hx0 : 0 ≤ x0.2.1) (hx1 : x0.2.1 ≤ 18446744073709551615) :
    Calls Try.prog 3 #[.slice pa X.length cap, eV x0] w fun e w' => e = .returned (.bool true) ∧ Below w.heap.size w w' := by
  have hO := few_ok X hF
  have hxo := ok_fw x0 hx0 hx1
  have hfl := fewD_len X
  have hb0 : Below w.heap.size w (w.alloc (.cells #[.string x0.1, .int .u64 x0.2.1, .int .i64 x0.2.2] 25)) := (Below.refl _ _).alloc (Nat.le_refl _) _
  have F := Lib.hid (fewD_any X pa cap _ hm (hR.lift hb0))
  have FW := Lib.hid (fun w => few_any x0.1 w)
  have hfe : fewE x0 = (fw x0.1, x0.2.1, x0.2.2) := rfl
  rw [hfe] at hxo
  have hY : (fewD X).length ≤ 100 := by omega
  have F2 := Lib.hid (fun pa cap w hR => fewD_any (fewD X) pa cap w (by omega) hR)
  rw [fewD_id _ hfl hO] at F2
  generalize fewD X = Y at *
  generalize fw x0.1 = f at *
  obtain ⟨x1, x2, x3⟩ := x0
  simp only at *
  have A1 := Lib.hid (fun pa cap w hR => ask_any Y pa cap f x2 w hY hR hO hx0 hx1)
  have A2 := Lib.hid (fun pa cap w hR => rask_any Y pa cap f x2 w hY hR hO hxo.sz hx0 hx1)
  have T1 := Lib.hid (fun pa cap w hc hR hn => take_any Y pa cap (f, x2, x3) w hY hc hR hn hO hxo)
  have T2 := Lib.hid (fun pa cap w hR => rtake_any Y pa cap (f, x2, x3) w hY hR hO hxo)
  have N1 := Lib.hid (fun pa cap w hR => find_any Y pa cap f w hY hR)
  have N2 := Lib.hid (fun pa cap w hR => rfind_any Y pa cap f w hY hR)
  have C := Lib.hid (fun pa cap w hR => check_any Y pa cap w hY hR)
  have M := Lib.hid (fun pa cap w hR => rmay_any Y pa cap w hY hR hO)
  have hl := takeD_len Y (f, x2, x3)
  have SM := Lib.hid (fun Z hZ pa pb ca cb w hA hB => same_any Z Z pa pb ca cb w hZ hA hB)
  have hdd : ∀ Z : List El, decide (Z = Z) = true := fun Z => by simp
  have AW := Lib.hid awakeD_any
  have BX := Lib.hid (Bx.new (f, x2, x3) w)
  have B0 := Lib.hid (show Below w.heap.size w (w.alloc (.cells #[.string f, .int .u64 x2, .int .i64 x3] 25)) from (Below.refl _ _).alloc (Nat.le_refl _) _)
  generalize askD Y f x2 = a at *
  generalize takeD Y (f, x2, x3) = t at *
  generalize findD Y f = n at *
  generalize mayD Y = m at *
  obtain ⟨a1, a2⟩ := a
  obtain ⟨L, t2⟩ := t
  obtain ⟨⟨n1, n2, n3⟩, n4⟩ := n
  simp only at *
  clear hR hF hx0 hx1 hO hxo hb0 hfe hm
  go_enter Try.func3, Try.ntmps3
  go_wp2_with fail
  refine F.out.mono ?_
  rintro e w1 ⟨v, rfl, o1, hb1⟩
  have BX1 := (Bx.new (x1, x2, x3) w).lift hb1
  obtain ⟨y0, y1, y2⟩ := BX1.c
  obtain ⟨q0, q1, q2⟩ := BX1.f
  simp only at y0 y1 y2
  have hlt1 : w.heap.size < w1.heap.size := BX1.lt
  have BXs : Bx w.heap.size (w1.setCell ⟨w.heap.size, 0, none⟩ (.string f)) (f, x2, x3) := ⟨⟨by simp [go_sem, y0], by simp [go_sem, y1], by simp [go_sem, y2]⟩, ⟨by simp [go_sem, q0], by simp [go_sem, q1], by simp [go_sem, q2]⟩, by simpa using hlt1⟩
  have o1s : Own (w1.setCell ⟨w.heap.size, 0, none⟩ (.string f)) _ v Y := ⟨ownsRow_setCell_below o1.own (by simp) _⟩
  have KK : Below w.heap.size w (w1.setCell ⟨w.heap.size, 0, none⟩ (.string f)) := (((Below.refl _ _).alloc (Nat.le_refl _) _).trans (hb1.mono (by simp))).setCell (Nat.le_refl _) _
  have BX2 := Lib.hid BXs
  have K0 := Lib.hid KK
  obtain ⟨pb, cb, rfl, hcb, hrb, hnb⟩ := o1s.args
  have RY := Lib.hid hrb
  clear BX1 BXs o1s KK o1 hb1 hrb F BX B0 hlt1
  go_wp2_with fail
  refine (FW.out _).mono ?_
  rintro e w2 ⟨rfl, rfl⟩
  go_wp2_with fail
  generalize w1.setCell ⟨w.heap.size, 0, none⟩ (.string f) = W1 at *
  clear y0 y1 y2 q0 q1 q2
  have T1 := Lib.hid (F2.out pb cb W1 RY.out)
  go_wp2_with fail
  refine T1.out.mono ?_
  rintro e w1 ⟨v5, rfl, ho5, hb1⟩
  have Ho51 := Lib.hid (ho5.mono K0.out.size)
  have K1 := Lib.hid (K0.out.trans (hb1.mono K0.out.size))
  have BX21_ := Lib.hid (BX2.out.lift hb1)
  have RY1_ := Lib.hid (RY.out.lift hb1)
  clear T1 hb1 ho5 K0 BX2 RY
  obtain ⟨p5, c5, rfl, _, hr5, _⟩ := Ho51.out.args
  have R5 := Lib.hid hr5
  clear hr5
  clear Ho51
  obtain ⟨y0, y1, y2⟩ := BX21_.out.c
  have T2 := Lib.hid (A1.out pb cb w1 RY1_.out)
  go_wp2_with fail
  refine T2.out.mono ?_
  rintro e w2 ⟨rfl, hb2⟩
  have K2 := Lib.hid (K1.out.trans (hb2.mono K1.out.size))
  have BX22_ := Lib.hid (BX21_.out.lift hb2)
  have RY2_ := Lib.hid (RY1_.out.lift hb2)
  have R52_ := Lib.hid (R5.out.lift hb2)
  clear T2 hb2 K1 BX21_ RY1_ R5
  obtain ⟨y0, y1, y2⟩ := BX22_.out.c
  have T3 := Lib.hid (A2.out pb cb w2 RY2_.out)
  go_wp2_with fail
  refine T3.out.mono ?_
  rintro e w3 ⟨rfl, hb3⟩
  have K3 := Lib.hid (K2.out.trans (hb3.mono K2.out.size))
  have BX23_ := Lib.hid (BX22_.out.lift hb3)
  have RY3_ := Lib.hid (RY2_.out.lift hb3)
  have R53_ := Lib.hid (R52_.out.lift hb3)
  clear T3 hb3 K2 BX22_ RY2_ R52_
  obtain ⟨y0, y1, y2⟩ := BX23_.out.c
  have T4 := Lib.hid (T1.out pb cb w3 hcb RY3_.out hnb)
  go_wp2_with fail
  refine T4.out.mono ?_
  rintro e w4 ⟨v6, rfl, ho6, hb4⟩
  have Ho64 := Lib.hid (ho6.mono K3.out.size)
  have K4 := Lib.hid (K3.out.trans (hb4.mono K3.out.size))
  have BX24_ := Lib.hid (BX23_.out.lift hb4)
  have RY4_ := Lib.hid (RY3_.out.lift hb4)
  have R54_ := Lib.hid (R53_.out.lift hb4)
  clear T4 hb4 ho6 K3 BX23_ RY3_ R53_
  obtain ⟨p6, c6, rfl, _, hr6, _⟩ := Ho64.out.args
  have R6 := Lib.hid hr6
  clear hr6
  clear Ho64
  obtain ⟨y0, y1, y2⟩ := BX24_.out.c
  have T5 := Lib.hid (T2.out pb cb w4 RY4_.out)
  go_wp2_with fail
  refine T5.out.mono ?_
  rintro e w5 ⟨v7, rfl, ho7, hb5⟩
  have Ho75 := Lib.hid (ho7.mono K4.out.size)
  have K5 := Lib.hid (K4.out.trans (hb5.mono K4.out.size))
  have BX25_ := Lib.hid (BX24_.out.lift hb5)
  have RY5_ := Lib.hid (RY4_.out.lift hb5)
  have R55_ := Lib.hid (R54_.out.lift hb5)
  have R65_ := Lib.hid (R6.out.lift hb5)
  clear T5 hb5 ho7 K4 BX24_ RY4_ R54_ R6
  obtain ⟨p7, c7, rfl, _, hr7, _⟩ := Ho75.out.args
  have R7 := Lib.hid hr7
  clear hr7
  clear Ho75
  obtain ⟨y0, y1, y2⟩ := BX25_.out.c
  have T6 := Lib.hid (N1.out pb cb w5 RY5_.out)
  go_wp2_with fail
  refine T6.out.mono ?_
  rintro e w6 ⟨rfl, hb6⟩
  have K6 := Lib.hid (K5.out.trans (hb6.mono K5.out.size))
  have BX26_ := Lib.hid (BX25_.out.lift hb6)
  have RY6_ := Lib.hid (RY5_.out.lift hb6)
  have R56_ := Lib.hid (R55_.out.lift hb6)
  have R66_ := Lib.hid (R65_.out.lift hb6)
  have R76_ := Lib.hid (R7.out.lift hb6)
  clear T6 hb6 K5 BX25_ RY5_ R55_ R65_ R7
  have BN := Lib.hid (Bx.new (n1, n2, n3) w6)
  have hb7 : Below w6.heap.size w6 (w6.alloc (.cells #[.string n1, .int .u64 n2, .int .i64 n3] 25)) := (Below.refl _ _).alloc (Nat.le_refl _) _
  have K7 := Lib.hid (K6.out.trans (hb7.mono K6.out.size))
  have BX27_ := Lib.hid (BX26_.out.lift hb7)
  have RY7_ := Lib.hid (RY6_.out.lift hb7)
  have R57_ := Lib.hid (R56_.out.lift hb7)
  have R67_ := Lib.hid (R66_.out.lift hb7)
  have R77_ := Lib.hid (R76_.out.lift hb7)
  clear hb7 K6 BX26_ RY6_ R56_ R66_ R76_
  obtain ⟨y0, y1, y2⟩ := BX27_.out.c
  have T8 := Lib.hid (N2.out pb cb (w6.alloc (.cells #[.string n1, .int .u64 n2, .int .i64 n3] 25)) RY7_.out)
  go_wp2_with fail
  refine T8.out.mono ?_
  rintro e w8 ⟨rfl, hb8⟩
  have K8 := Lib.hid (K7.out.trans (hb8.mono K7.out.size))
  have BX28_ := Lib.hid (BX27_.out.lift hb8)
  have RY8_ := Lib.hid (RY7_.out.lift hb8)
  have R58_ := Lib.hid (R57_.out.lift hb8)
  have R68_ := Lib.hid (R67_.out.lift hb8)
  have R78_ := Lib.hid (R77_.out.lift hb8)
  have BN8_ := Lib.hid (BN.out.lift hb8)
  clear T8 hb8 K7 BX27_ RY7_ R57_ R67_ R77_ BN
  have BM := Lib.hid (Bx.new (n1, n2, n3) w8)
  have hb9 : Below w8.heap.size w8 (w8.alloc (.cells #[.string n1, .int .u64 n2, .int .i64 n3] 25)) := (Below.refl _ _).alloc (Nat.le_refl _) _
  have K9 := Lib.hid (K8.out.trans (hb9.mono K8.out.size))
  have BX29_ := Lib.hid (BX28_.out.lift hb9)
  have RY9_ := Lib.hid (RY8_.out.lift hb9)
  have R59_ := Lib.hid (R58_.out.lift hb9)
  have R69_ := Lib.hid (R68_.out.lift hb9)
  have R79_ := Lib.hid (R78_.out.lift hb9)
  have BN9_ := Lib.hid (BN8_.out.lift hb9)
  clear hb9 K8 BX28_ RY8_ R58_ R68_ R78_ BN8_
  have s1 := Lib.hid (SM.out L (by omega) p6 p7 c6 c7 (w8.alloc (.cells #[.string n1, .int .u64 n2, .int .i64 n3] 25)) R69_.out R79_.out)
  rw [hdd L] at s1
  go_wp2_with fail
  refine s1.out.mono ?_
  rintro e w30 ⟨rfl, hb30⟩
  have hb10 := hb30
  have K10 := Lib.hid (K9.out.trans (hb10.mono K9.out.size))
  have BX210_ := Lib.hid (BX29_.out.lift hb10)
  have RY10_ := Lib.hid (RY9_.out.lift hb10)
  have R510_ := Lib.hid (R59_.out.lift hb10)
  have R610_ := Lib.hid (R69_.out.lift hb10)
  have R710_ := Lib.hid (R79_.out.lift hb10)
  have BN10_ := Lib.hid (BN9_.out.lift hb10)
  have BM10_ := Lib.hid (BM.out.lift hb10)
  clear hb10 K9 BX29_ RY9_ R59_ R69_ R79_ BN9_ BM
  obtain ⟨z0, z1, z2⟩ := BN10_.out.c
  obtain ⟨u0, u1, u2⟩ := BM10_.out.c
  clear s1
  cases m
  all_goals
    have T11 := Lib.hid (C.out pb cb w30 RY10_.out)
    go_wp2_with fail
    refine T11.out.mono ?_
    rintro e w11 ⟨rfl, hb11⟩
    have K11 := Lib.hid (K10.out.trans (hb11.mono K10.out.size))
    have BX211_ := Lib.hid (BX210_.out.lift hb11)
    have RY11_ := Lib.hid (RY10_.out.lift hb11)
    have R511_ := Lib.hid (R510_.out.lift hb11)
    have R611_ := Lib.hid (R610_.out.lift hb11)
    have R711_ := Lib.hid (R710_.out.lift hb11)
    have BN11_ := Lib.hid (BN10_.out.lift hb11)
    have BM11_ := Lib.hid (BM10_.out.lift hb11)
    clear T11 hb11 K10 BX210_ RY10_ R510_ R610_ R710_ BN10_ BM10_
    have T12 := Lib.hid (M.out pb cb w11 RY11_.out)
    go_wp2_with fail
    refine T12.out.mono ?_
    rintro e w12 ⟨rfl, hb12⟩
    have K12 := Lib.hid (K11.out.trans (hb12.mono K11.out.size))
    have BX212_ := Lib.hid (BX211_.out.lift hb12)
    have RY12_ := Lib.hid (RY11_.out.lift hb12)
    have R512_ := Lib.hid (R511_.out.lift hb12)
    have R612_ := Lib.hid (R611_.out.lift hb12)
    have R712_ := Lib.hid (R711_.out.lift hb12)
    have BN12_ := Lib.hid (BN11_.out.lift hb12)
    have BM12_ := Lib.hid (BM11_.out.lift hb12)
    clear T12 hb12 K11 BX211_ RY11_ R511_ R611_ R711_ BN11_ BM11_
    have s2 := Lib.hid (SM.out Y (by omega) pb p5 cb c5 w12 RY12_.out R512_.out)
    rw [hdd Y] at s2
    go_wp2_with fail
    refine s2.out.mono ?_
    rintro e w40 ⟨rfl, hb40⟩
    have K40 := Lib.hid (K12.out.trans (hb40.mono K12.out.size))
    clear s2 hb40
    go_wp2_with fail
    refine (AW.out _).mono ?_
    rintro e w41 ⟨rfl, hb41⟩
    have K41 := Lib.hid (K40.out.trans (hb41.mono K40.out.size))
    clear hb41
    go_wp2
    go_ret
    exact ⟨rfl, K41.out⟩
end Go.Proofs.Ytflfbkoelhheoaa.Dd
