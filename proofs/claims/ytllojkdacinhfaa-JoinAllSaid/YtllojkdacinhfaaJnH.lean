/- Layer 9: the chapter's examples; what is looked at. -/
import Derived.Test.YtllojkdacinhfaaJnG
namespace Go.Proofs.Ytllojkdacinhfaa.Jn
open Go.RowKit Go.Shelf Go.Proofs.Ytllojkdacinhfaa Go.Proofs.Ytllojkdacinhfaa.Ke
set_option linter.unusedVariables false
set_option linter.unusedSimpArgs false
theorem feed_to {X : List El} {k : ByteArray} {p n v : Int} {x1 x2 x3 : Int} {t : List El × List El × List El × Int} (h : feedD k p n v X (x1, x2, x3) = t) (hX : X.length ≤ 6000) :
    ∀ (pa : Option Addr) (cap : Nat) (w : World), X.length ≤ cap → Rd w pa X → Calls Try.prog 13 #[jV (k, p, n, v), .slice pa X.length cap, eV (x1, x2, x3)] w (FeedPost t w) := fun pa cap w hc hR => by
  rw [← h]
  exact feed_any X pa cap k p n v x1 x2 x3 w hX hc hR
theorem two_rd (x y : El) (w : World) : Rd (w.alloc (.cells #[.int .i64 x.1, .int .u64 x.2.1, .int .i64 x.2.2, .int .i64 y.1, .int .u64 y.2.1, .int .i64 y.2.2] 27)) (some ⟨w.heap.size, 0, none⟩) [x, y] := ⟨fun _ => ⟨w.heap.size, 0, rfl, by simp, fun i hi => by
  have h2 : i = 0 ∨ i = 1 := by simp at hi; omega
  rcases h2 with rfl | rfl <;> simp [go_sem]⟩⟩
set_option maxHeartbeats 4000000 in
set_option maxRecDepth 100000 in
theorem awakeJ_any (w : World) : Calls Try.prog 20 #[] w fun e w' => e = .returned (.bool true) ∧ Below w.heap.size w w' := by
  have JX := Lib.hid (Jx.new w bAll 2 0 9)
  have K0 := Lib.hid (jBelow w bAll 2 0 9)
  have F1 := Lib.hid (feed_to aw1 (by decide))
  have F2 := Lib.hid (feed_to aw2 (by decide))
  have F3 := Lib.hid (feed_to aw3 (by decide))
  have F4 := Lib.hid (feed_to aw4 (by decide))
  have SM := Lib.hid (fun Z hZ pa pb ca cb w hA hB => same_any Z Z pa pb ca cb w hZ hA hB)
  have hdd : ∀ Z : List El, decide (Z = Z) = true := fun Z => by simp
  go_enter Try.func20, Try.ntmps20
  obtain ⟨c0, c1, c2, c3, _⟩ := JX.out
  have T1 := Lib.hid (F1.out none 0 (jBox w bAll 2 0 9) (Nat.le_refl _) (Rd.nil _ _))
  go_wp2_with fail
  refine T1.out.mono ?_
  rintro e w1 ⟨va, vb, vc, rfl, hoa, hob, hoc, hb1⟩
  have Hoa1 := Lib.hid (hoa.mono K0.out.size)
  have Hob1 := Lib.hid (hob.mono K0.out.size)
  have Hoc1 := Lib.hid (hoc.mono K0.out.size)
  have K1 := Lib.hid (K0.out.trans (hb1.mono K0.out.size))
  have JX1_ := Lib.hid (JX.out.lift hb1)
  clear T1 hb1 hoa hob hoc K0 JX
  obtain ⟨p1, q1, rfl, hq1, hr1, _⟩ := Hoa1.out.args
  have RA := Lib.hid hr1
  clear hr1 c0 c1 c2 c3
  clear Hoa1 Hob1 Hoc1
  obtain ⟨c0, c1, c2, c3, _⟩ := JX1_.out
  have T2 := Lib.hid (F2.out p1 q1 w1 hq1 RA.out)
  go_wp2_with fail
  refine T2.out.mono ?_
  rintro e w2 ⟨va2, vb2, vc2, rfl, hoa, hob, hoc, hb2⟩
  have Hoa2 := Lib.hid (hoa.mono K1.out.size)
  have Hob2 := Lib.hid (hob.mono K1.out.size)
  have Hoc2 := Lib.hid (hoc.mono K1.out.size)
  have K2 := Lib.hid (K1.out.trans (hb2.mono K1.out.size))
  have JX2_ := Lib.hid (JX1_.out.lift hb2)
  have RA2_ := Lib.hid (RA.out.lift hb2)
  clear T2 hb2 hoa hob hoc K1 JX1_ RA
  obtain ⟨p2, q2, rfl, hq2, hr2, _⟩ := Hoa2.out.args
  have RB := Lib.hid hr2
  clear hr2 c0 c1 c2 c3
  clear Hoa2 Hob2 Hoc2 RA2_
  obtain ⟨c0, c1, c2, c3, _⟩ := JX2_.out
  have T3 := Lib.hid (F3.out p2 q2 w2 hq2 RB.out)
  go_wp2_with fail
  refine T3.out.mono ?_
  rintro e w3 ⟨va3, vb3, vc3, rfl, hoa, hob, hoc, hb3⟩
  have Hoa3 := Lib.hid (hoa.mono K2.out.size)
  have Hob3 := Lib.hid (hob.mono K2.out.size)
  have Hoc3 := Lib.hid (hoc.mono K2.out.size)
  have K3 := Lib.hid (K2.out.trans (hb3.mono K2.out.size))
  have JX3_ := Lib.hid (JX2_.out.lift hb3)
  have RB3_ := Lib.hid (RB.out.lift hb3)
  clear T3 hb3 hoa hob hoc K2 JX2_ RB
  obtain ⟨p3, q3, rfl, hq3, hr3, _⟩ := Hoa3.out.args
  obtain ⟨p4, q4, rfl, hq4, hr4, _⟩ := Hob3.out.args
  have RC := Lib.hid hr3
  have RD := Lib.hid hr4
  clear hr3 hr4 c0 c1 c2 c3
  clear Hoa3 Hob3 Hoc3 RB3_
  have T4 := Lib.hid (F4.out none 0 w3 (Nat.le_refl _) (Rd.nil _ _))
  go_wp2_with fail
  refine T4.out.mono ?_
  rintro e w4 ⟨va4, vb4, vc4, rfl, hoa, hob, hoc, hb4⟩
  have Hoa4 := Lib.hid (hoa.mono K3.out.size)
  have Hob4 := Lib.hid (hob.mono K3.out.size)
  have Hoc4 := Lib.hid (hoc.mono K3.out.size)
  have K4 := Lib.hid (K3.out.trans (hb4.mono K3.out.size))
  have JX4_ := Lib.hid (JX3_.out.lift hb4)
  have RC4_ := Lib.hid (RC.out.lift hb4)
  have RD4_ := Lib.hid (RD.out.lift hb4)
  clear T4 hb4 hoa hob hoc K3 JX3_ RC RD
  obtain ⟨p5, q5, rfl, hq5, hr5, _⟩ := Hob4.out.args
  clear hr5
  clear Hoa4 Hob4 Hoc4 JX4_
  have R5 := Lib.hid (one_rd (0, 2, 0) w4)
  have hb5 : Below w4.heap.size w4 (w4.alloc (.cells #[.int .i64 0, .int .u64 2, .int .i64 0] 27)) := (Below.refl _ _).alloc (Nat.le_refl _) _
  have K5 := Lib.hid (K4.out.trans (hb5.mono K4.out.size))
  have RC5_ := Lib.hid (RC4_.out.lift hb5)
  have RD5_ := Lib.hid (RD4_.out.lift hb5)
  clear hb5 K4 RC4_ RD4_
  have SD := hdd [(0, 2, 0)]
  have T6 := Lib.hid (SM.out [(0, 2, 0)] (by decide) p3 _ q3 1 (w4.alloc (.cells #[.int .i64 0, .int .u64 2, .int .i64 0] 27)) RC5_.out R5.out)
  go_wp2_with fail
  refine T6.out.mono ?_
  rintro e w6 ⟨rfl, hb6⟩
  have K6 := Lib.hid (K5.out.trans (hb6.mono K5.out.size))
  have RC6_ := Lib.hid (RC5_.out.lift hb6)
  have RD6_ := Lib.hid (RD5_.out.lift hb6)
  have R56_ := Lib.hid (R5.out.lift hb6)
  clear T6 hb6 K5 RC5_ RD5_ R5
  clear RC6_ R56_
  have R6 := Lib.hid (two_rd (0, 1, 0) (1, 3, 0) w6)
  have hb7 : Below w6.heap.size w6 (w6.alloc (.cells #[.int .i64 0, .int .u64 1, .int .i64 0, .int .i64 1, .int .u64 3, .int .i64 0] 27)) := (Below.refl _ _).alloc (Nat.le_refl _) _
  have K7 := Lib.hid (K6.out.trans (hb7.mono K6.out.size))
  have RD7_ := Lib.hid (RD6_.out.lift hb7)
  clear hb7 K6 RD6_
  have SE := hdd [(0, 1, 0), (1, 3, 0)]
  have T8 := Lib.hid (SM.out [(0, 1, 0), (1, 3, 0)] (by decide) p4 _ q4 2 (w6.alloc (.cells #[.int .i64 0, .int .u64 1, .int .i64 0, .int .i64 1, .int .u64 3, .int .i64 0] 27)) RD7_.out R6.out)
  go_wp2_with fail
  refine T8.out.mono ?_
  rintro e w8 ⟨rfl, hb8⟩
  have K8 := Lib.hid (K7.out.trans (hb8.mono K7.out.size))
  have RD8_ := Lib.hid (RD7_.out.lift hb8)
  have R68_ := Lib.hid (R6.out.lift hb8)
  clear T8 hb8 K7 RD7_ R6
  clear RD8_ R68_
  go_wp2
  go_ret
  exact ⟨rfl, K8.out⟩
end Go.Proofs.Ytllojkdacinhfaa.Jn
