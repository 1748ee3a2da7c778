/- Layer 9: the walk of JoinBound. -/
import Derived.Test.YtllojkdacinhfaaJnH
import Derived.Test.YtllojkdacinhfaaJnI
namespace Go.Proofs.Ytllojkdacinhfaa.Jn
open Go.RowKit Go.Shelf Go.Proofs.Ytllojkdacinhfaa Go.Proofs.Ytllojkdacinhfaa.Ke
set_option linter.unusedVariables false
set_option linter.unusedSimpArgs false
set_option maxHeartbeats 4000000 in
set_option maxRecDepth 100000 in
theorem joinBound_walk (W T : Int) (w : World) (h0 : 0 ≤ W) (h1 : W ≤ 65535) (t0 : 0 ≤ T) (t1 : T ≤ 4294967295) :
    Calls Try.prog 9 #[.int .u16 W, .int .u32 T] w fun e w' => e = .returned (.bool true) ∧ Below w.heap.size w w' := by
  have JX := Lib.hid (Jx.new w bAll 2 0 W)
  have K0 := Lib.hid (jBelow w bAll 2 0 W)
  have F1 := Lib.hid (feed_to (bound1 h0 h1 t0 t1) (by simp))
  have F2 := Lib.hid (feed_to (bound2 h0 h1 t0 t1) (by simp))
  have F3 := Lib.hid (feed_to (bound3 h0 h1 t0 t1) (by simp))
  have AW := Lib.hid awakeJ_any
  have a1 : wrap64 W = W := by unfold wrap64; omega
  have a2 : IntKind.i64.wrap W = W := IntWalk.i64_in _ (by omega)
  have a3 : wrap64 T = T := by unfold wrap64; omega
  have a4 : IntKind.i64.wrap T = T := IntWalk.i64_in _ (by omega)
  have a5 : wrap64 (T + W) = T + W := by unfold wrap64; omega
  have a6 : IntKind.i64.wrap (T + W) = T + W := IntWalk.i64_in _ (by omega)
  have a7 : wrap64 (T + W + 1) = T + W + 1 := by unfold wrap64; omega
  have a8 : IntKind.i64.wrap (T + W + 1) = T + W + 1 := IntWalk.i64_in _ (by omega)
  clear h0 h1 t0 t1
  go_enter Try.func9, Try.ntmps9
  obtain ⟨c0, c1, c2, c3, _⟩ := JX.out
  have T1 := Lib.hid (F1.out none 0 (jBox w bAll 2 0 W) (Nat.le_refl _) (Rd.nil _ _))
  go_wp2_with fail
  refine T1.out.mono ?_
  rintro e w1 ⟨va, vb, vc, rfl, hoa, hob, hoc, hb1⟩
  have Hoa1 := Lib.hid (hoa.mono K0.out.size)
  have Hob1 := Lib.hid (hob.mono K0.out.size)
  have Hoc1 := Lib.hid (hoc.mono K0.out.size)
  have K1 := Lib.hid (K0.out.trans (hb1.mono K0.out.size))
  have JX1_ := Lib.hid (JX.out.lift hb1)
  clear T1 hb1 hoa hob hoc K0 JX
  obtain ⟨p1, q1, rfl, hq1, hr1, _⟩ := Hoa1.out.args
  have RA := Lib.hid hr1
  clear hr1 c0 c1 c2 c3
  clear Hoa1 Hob1 Hoc1
  obtain ⟨c0, c1, c2, c3, _⟩ := JX1_.out
  have T2 := Lib.hid (F2.out p1 q1 w1 hq1 RA.out)
  go_wp2_with fail
  refine T2.out.mono ?_
  rintro e w2 ⟨va2, vb2, vc2, rfl, hoa, hob, hoc, hb2⟩
  have Hoa2 := Lib.hid (hoa.mono K1.out.size)
  have Hob2 := Lib.hid (hob.mono K1.out.size)
  have Hoc2 := Lib.hid (hoc.mono K1.out.size)
  have K2 := Lib.hid (K1.out.trans (hb2.mono K1.out.size))
  have JX2_ := Lib.hid (JX1_.out.lift hb2)
  have RA2_ := Lib.hid (RA.out.lift hb2)
  clear T2 hb2 hoa hob hoc K1 JX1_ RA
  obtain ⟨p2, q2, rfl, hq2, hr2, _⟩ := Hob2.out.args
  clear hr2 c0 c1 c2 c3
  clear Hoa2 Hob2 Hoc2
  obtain ⟨c0, c1, c2, c3, _⟩ := JX2_.out
  have T3 := Lib.hid (F3.out p1 q1 w2 hq1 RA2_.out)
  go_wp2_with fail
  refine T3.out.mono ?_
  rintro e w3 ⟨va3, vb3, vc3, rfl, hoa, hob, hoc, hb3⟩
  have Hoa3 := Lib.hid (hoa.mono K2.out.size)
  have Hob3 := Lib.hid (hob.mono K2.out.size)
  have Hoc3 := Lib.hid (hoc.mono K2.out.size)
  have K3 := Lib.hid (K2.out.trans (hb3.mono K2.out.size))
  have JX3_ := Lib.hid (JX2_.out.lift hb3)
  have RA3_ := Lib.hid (RA2_.out.lift hb3)
  clear T3 hb3 hoa hob hoc K2 JX2_ RA2_
  obtain ⟨p3, q3, rfl, hq3, hr3, _⟩ := Hob3.out.args
  obtain ⟨p4, q4, rfl, hq4, hr4, _⟩ := Hoc3.out.args
  clear hr3 hr4 c0 c1 c2 c3
  clear Hoa3 Hob3 Hoc3 JX3_ RA3_
  have T4 := Lib.hid (AW.out w3)
  go_wp2_with fail
  refine T4.out.mono ?_
  rintro e w4 ⟨rfl, hb4⟩
  have K4 := Lib.hid (K3.out.trans (hb4.mono K3.out.size))
  clear T4 hb4 K3
  go_wp2
  go_ret
  exact ⟨rfl, K4.out⟩
end Go.Proofs.Ytllojkdacinhfaa.Jn
