/- Layer 9: how the laws begin: a short kind, few that wait. -/
import Derived.Test.YtllojkdacinhfaaJnJ
namespace Go.Proofs.Ytllojkdacinhfaa.Jn
open Go.RowKit Go.Shelf Go.Proofs.Ytllojkdacinhfaa Go.Proofs.Ytllojkdacinhfaa.Ke
set_option linter.unusedVariables false
set_option linter.unusedSimpArgs false
/-- A pattern in a box that may be written. -/
structure Jf (w : World) (b : Nat) (k : ByteArray) (p n v : Int) : Prop where
  j : Jx w b k p n v
  f : w.frozen? ⟨b, 0, none⟩ = false ∧ w.frozen? ⟨b, 1, none⟩ = false ∧ w.frozen? ⟨b, 2, none⟩ = false ∧ w.frozen? ⟨b, 3, none⟩ = false
theorem Jf.lift {w w' : World} {b : Nat} {k : ByteArray} {p n v : Int} (h : Jf w b k p n v) (hb : Below w.heap.size w w') : Jf w' b k p n v :=
  ⟨h.j.lift hb, (hb.frozen (p := ⟨b, 0, none⟩) h.j.lt).trans h.f.1, (hb.frozen (p := ⟨b, 1, none⟩) h.j.lt).trans h.f.2.1, (hb.frozen (p := ⟨b, 2, none⟩) h.j.lt).trans h.f.2.2.1, (hb.frozen (p := ⟨b, 3, none⟩) h.j.lt).trans h.f.2.2.2⟩
theorem Jf.new (w : World) (k : ByteArray) (p n v : Int) : Jf (jBox w k p n v) w.heap.size k p n v :=
  ⟨Jx.new w k p n v, by simp [go_sem], by simp [go_sem], by simp [go_sem], by simp [go_sem]⟩
def jSet (w : World) (b : Nat) (k : ByteArray) (p n v : Int) : World := (((w.setCell ⟨b, 0, none⟩ (.string k)).setCell ⟨b, 1, none⟩ (.int .i64 p)).setCell ⟨b, 2, none⟩ (.int .i64 n)).setCell ⟨b, 3, none⟩ (.int .i64 v)
theorem Jf.set0 {w : World} {b : Nat} {k : ByteArray} {p n v : Int} (h : Jf w b k p n v) (k' : ByteArray) : Jf (w.setCell ⟨b, 0, none⟩ (.string k')) b k' p n v := by
  obtain ⟨⟨y0, y1, y2, y3, hl⟩, q0, q1, q2, q3⟩ := h
  exact ⟨⟨by simp [go_sem, y0], by simp [go_sem, y1], by simp [go_sem, y2], by simp [go_sem, y3], by simpa using hl⟩, by simp [go_sem, q0], by simp [go_sem, q1], by simp [go_sem, q2], by simp [go_sem, q3]⟩
theorem Jf.set1 {w : World} {b : Nat} {k : ByteArray} {p n v : Int} (h : Jf w b k p n v) (p' : Int) : Jf (w.setCell ⟨b, 1, none⟩ (.int .i64 p')) b k p' n v := by
  obtain ⟨⟨y0, y1, y2, y3, hl⟩, q0, q1, q2, q3⟩ := h
  exact ⟨⟨by simp [go_sem, y0], by simp [go_sem, y1], by simp [go_sem, y2], by simp [go_sem, y3], by simpa using hl⟩, by simp [go_sem, q0], by simp [go_sem, q1], by simp [go_sem, q2], by simp [go_sem, q3]⟩
theorem Jf.set2 {w : World} {b : Nat} {k : ByteArray} {p n v : Int} (h : Jf w b k p n v) (n' : Int) : Jf (w.setCell ⟨b, 2, none⟩ (.int .i64 n')) b k p n' v := by
  obtain ⟨⟨y0, y1, y2, y3, hl⟩, q0, q1, q2, q3⟩ := h
  exact ⟨⟨by simp [go_sem, y0], by simp [go_sem, y1], by simp [go_sem, y2], by simp [go_sem, y3], by simpa using hl⟩, by simp [go_sem, q0], by simp [go_sem, q1], by simp [go_sem, q2], by simp [go_sem, q3]⟩
theorem Jf.set3 {w : World} {b : Nat} {k : ByteArray} {p n v : Int} (h : Jf w b k p n v) (v' : Int) : Jf (w.setCell ⟨b, 3, none⟩ (.int .i64 v')) b k p n v' := by
  obtain ⟨⟨y0, y1, y2, y3, hl⟩, q0, q1, q2, q3⟩ := h
  exact ⟨⟨by simp [go_sem, y0], by simp [go_sem, y1], by simp [go_sem, y2], by simp [go_sem, y3], by simpa using hl⟩, by simp [go_sem, q0], by simp [go_sem, q1], by simp [go_sem, q2], by simp [go_sem, q3]⟩
theorem jSet_jx {w : World} {b : Nat} {k k' : ByteArray} {p n v : Int} (h : Jf w b k p n v) : Jx (jSet w b k' p n v) b k' p n v := ((((h.set0 k').set1 p).set2 n).set3 v).j
theorem jSet_block {w : World} {b : Nat} {k' : ByteArray} {p n v : Int} {c : Nat} (h : c ≠ b) : (jSet w b k' p n v).heap[c]? = w.heap[c]? := by
  unfold jSet
  rw [Below.heap_setCell _ _ _ c h, Below.heap_setCell _ _ _ c h, Below.heap_setCell _ _ _ c h, Below.heap_setCell _ _ _ c h]
theorem jSet_size {w : World} {b : Nat} {k' : ByteArray} {p n v : Int} : (jSet w b k' p n v).heap.size = w.heap.size := by unfold jSet; simp
theorem jSet_below {w0 w : World} {B b : Nat} {k' : ByteArray} {p n v : Int} (h : Below B w0 w) (hB : B ≤ b) : Below B w0 (jSet w b k' p n v) := by
  unfold jSet
  exact (((h.setCell hB _).setCell hB _).setCell hB _).setCell hB _
theorem bx_of_block {w w' : World} {c : Nat} {x : El} (hk : w'.heap[c]? = w.heap[c]?) (hl : c < w'.heap.size) (h : Bx c w x) : Bx c w' x := by
  obtain ⟨⟨y0, y1, y2⟩, ⟨q0, q1, q2⟩, _⟩ := h
  have e0 : ∀ i, w'.cell? ⟨c, i, none⟩ = w.cell? ⟨c, i, none⟩ := fun i => World.cell?_of_block hk
  have e1 : ∀ i, w'.frozen? ⟨c, i, none⟩ = w.frozen? ⟨c, i, none⟩ := fun i => by unfold World.frozen?; rw [hk]
  exact ⟨⟨(e0 0).trans y0, (e0 1).trans y1, (e0 2).trans y2⟩, ⟨(e1 0).trans q0, (e1 1).trans q1, (e1 2).trans q2⟩, hl⟩
theorem jSet_bx {w : World} {b c : Nat} {k' : ByteArray} {p n v : Int} {x : El} (h : Bx c w x) (hne : c ≠ b) : Bx c (jSet w b k' p n v) x :=
  bx_of_block (jSet_block hne) (by rw [jSet_size]; exact h.lt) h
theorem jSet_own {w : World} {base b : Nat} {k' : ByteArray} {p n v : Int} {u : Value} {L : List El} (h : Own w base u L) (hb : b < base) : Own (jSet w b k' p n v) base u L :=
  ⟨h.own.1, by
    rcases h.own.2 with h0 | ⟨g, cap, cur, hv, hg, hh, hx⟩
    · exact .inl h0
    · refine .inr ⟨g, cap, cur, hv, hg, ?_, hx⟩
      rw [jSet_block (by omega)]
      exact hh⟩
theorem tk_len : ∀ (X : List El) (i : Nat) (P : List Int), (tk X i P).1.length ≤ X.length ∧ (tk X i P).2.length ≤ X.length
  | [], _, _ => ⟨Nat.le_refl _, Nat.le_refl _⟩
  | x :: r, i, [] => by
    have h := tk_len r (i + 1) []
    simp only [tk, List.length_cons]
    omega
  | x :: r, i, q :: qs => by
    have h := tk_len r (i + 1) qs
    have h2 := tk_len r (i + 1) (q :: qs)
    rw [tk]
    split <;> simp only [List.length_cons] <;> omega
theorem feed_len (k : ByteArray) (p n v : Int) (X : List El) (x : El) : (feedD k p n v X x).1.length ≤ X.length + 1 ∧ (feedD k p n v X x).2.1.length ≤ X.length + 1 ∧ (feedD k p n v X x).2.2.1.length ≤ X.length := by
  unfold feedD feedT
  split
  · split
    · simp
    · split
      · simp
      · have hl : (X.drop (lsPl (stillB v x.2.2) X) ++ [x]).length ≤ X.length + 1 := by rw [List.length_append, List.length_drop]; simp
        have h := fun P => tk_len (X.drop (lsPl (stillB v x.2.2) X) ++ [x]) 0 P
        split
        · simp
        · exact ⟨Nat.le_trans (h _).1 hl, Nat.le_trans (h _).2 hl, by show (X.take _).length ≤ _; rw [List.length_take]; omega⟩
  · simp
theorem exp_len (k : ByteArray) (p n v : Int) (X : List El) (t : Int) : (expD k p n v X t).1.length ≤ X.length ∧ (expD k p n v X t).2.1.length ≤ X.length := by
  unfold expD
  split
  · exact ⟨by show (X.drop _).length ≤ _; rw [List.length_drop]; omega, by show (X.take _).length ≤ _; rw [List.length_take]; omega⟩
  · simp
set_option maxHeartbeats 4000000 in
set_option maxRecDepth 100000 in
theorem joinLate_walk (X : List El) (pa : Option Addr) (cap : Nat) (k : ByteArray) (p n v : Int) (x1 x2 x3 : Int) (w : World) (hcap : X.length ≤ cap) (hR : Rd w pa X) (hn : pa = none → cap = 0) :
    Calls Try.prog 7 #[jV (k, p, n, v), .slice pa X.length cap, eV (x1, x2, x3)] w fun e w' => e = .returned (.bool true) ∧ Below w.heap.size w w' := by
  obtain ⟨W0, hW0⟩ : ∃ W0, W0 = (jBox w k p n v).alloc (.cells #[.int .i64 x1, .int .u64 x2, .int .i64 x3] 27) := ⟨_, rfl⟩
  have hsz : W0.heap.size = w.heap.size + 2 := by rw [hW0]; simp
  have hb0 : Below w.heap.size w W0 := by rw [hW0]; exact (jBelow w k p n v).alloc (by simp) _
  have JF := Lib.hid (show Jf W0 w.heap.size k p n v from by rw [hW0]; exact (Jf.new w k p n v).lift ((Below.refl _ _).alloc (Nat.le_refl _) _))
  have BX := Lib.hid (show Bx (w.heap.size + 1) W0 (x1, x2, x3) from by
    have hx := Bx.new (x1, x2, x3) (jBox w k p n v)
    rw [show (jBox w k p n v).heap.size = w.heap.size + 1 by simp] at hx
    rw [hW0]; exact hx)
  have RX := Lib.hid (hR.lift hb0)
  have K0 := Lib.hid hb0
  have KI := Lib.hid (fun w => kind_any k p n v w)
  have FE := Lib.hid (fun w hr => fewK_any X pa cap w hcap hr hn)
  have hY := fewK_len X
  generalize fewK X = Y at *
  generalize kd k = kk at *
  obtain ⟨⟨c0, c1, c2, c3, _⟩, f0, f1, f2, f3⟩ := JF.out
  clear hR hb0
  go_enter Try.func7, Try.ntmps7
  go_wp2_with (rw [← hW0])
  clear hW0
  clear c0 c1 c2 c3 f0 f1 f2 f3
  have T1 := Lib.hid (KI.out W0)
  go_wp2_with fail
  refine T1.out.mono ?_
  rintro e w1 ⟨rfl, hb1⟩
  have K1 := Lib.hid (K0.out.trans (hb1.mono K0.out.size))
  have JF1_ := Lib.hid (JF.out.lift hb1)
  have BX1_ := Lib.hid (BX.out.lift hb1)
  have RX1_ := Lib.hid (RX.out.lift hb1)
  clear T1 hb1 K0 JF BX RX
  have hl1 := (JF1_.out).j.lt
  have T2 := Lib.hid (FE.out w1 RX1_.out)
  go_wp2_with fail
  refine T2.out.mono ?_
  rintro e w2 ⟨u, rfl, oq, hb2⟩
  have K2 := Lib.hid (K1.out.trans (hb2.mono K1.out.size))
  have JF2_ := Lib.hid (JF1_.out.lift hb2)
  have BX2_ := Lib.hid (BX1_.out.lift hb2)
  have RX2_ := Lib.hid (RX1_.out.lift hb2)
  clear T2 hb2 K1 JF1_ BX1_ RX1_
  have JX2 := jSet_jx (k' := kk) JF2_.out
  have BX2 := jSet_bx (b := w.heap.size) (k' := kk) (p := p) (n := n) (v := v) BX2_.out (by omega)
  have KK2 := jSet_below (k' := kk) (p := p) (n := n) (v := v) K2.out (Nat.le_refl _)
  have ho2 := jSet_own (k' := kk) (p := p) (n := n) (v := v) oq hl1
  obtain ⟨⟨c0, c1, c2, c3, _⟩, f0, f1, f2, f3⟩ := JF2_.out
  obtain ⟨⟨y0, y1, y2⟩, _, _⟩ := BX2_.out
  obtain ⟨pb, cb, rfl, hcb, hrb, hnb⟩ := ho2.args
  have RY := Lib.hid hrb
  have JX := Lib.hid JX2
  have BX := Lib.hid BX2
  have KW := Lib.hid KK2
  have hws := JX2.lt
  clear JX2 BX2 KK2 ho2 hrb hl1 oq
  go_wp2_with fail
  show Calls _ _ _ (jSet w2 w.heap.size kk p n v) _
  clear JF2_ BX2_ RX2_
  generalize jSet w2 w.heap.size kk p n v = W1 at *
  clear c0 c1 c2 c3 f0 f1 f2 f3 y0 y1 y2 FE KI
  have EX := Lib.hid (fun W hr => expire_any Y pb cb kk p n v x3 W (by omega) hcb hr)
  have FD := Lib.hid (fun W hr => feed_any Y pb cb kk p n v x1 x2 x3 W (by omega) hcb hr)
  have LS := Lib.hid (@late_same kk p n v Y (x1, x2, x3))
  have CK := Lib.hid (fun Z pz cz W hz hc hr => check_any Z pz cz kk p n v W hz hc hr)
  have FL := feed_len kk p n v Y (x1, x2, x3)
  have EL := exp_len kk p n v Y x3
  have SM := Lib.hid (fun Z hZ pa pb ca cb w hA hB => same_any Z Z pa pb ca cb w hZ hA hB)
  have hdd : ∀ Z : List El, decide (Z = Z) = true := fun Z => by simp
  have AW := Lib.hid awakeJ_any
  simp only at LS
  generalize expD kk p n v Y x3 = tE at *
  generalize feedD kk p n v Y (x1, x2, x3) = tF at *
  obtain ⟨tA, tB, te⟩ := tE
  obtain ⟨fA, fB, fC, fe⟩ := tF
  simp only at LS FL EL
  obtain ⟨hfA, hfB, hfC⟩ := FL
  obtain ⟨htA, htB⟩ := EL
  obtain ⟨c0, c1, c2, c3, _⟩ := JX.out
  obtain ⟨⟨y0, y1, y2⟩, _, _⟩ := BX.out
  have T3 := Lib.hid (EX.out W1 RY.out)
  go_wp2_with fail
  refine T3.out.mono ?_
  rintro e w3 ⟨u5, v5, rfl, tw, hb3⟩
  have K3 := Lib.hid (KW.out.trans (hb3.mono KW.out.size))
  have JX3_ := Lib.hid (JX.out.lift hb3)
  have BX3_ := Lib.hid (BX.out.lift hb3)
  have RY3_ := Lib.hid (RY.out.lift hb3)
  clear T3 hb3 KW JX BX RY
  obtain ⟨p1, q1, rfl, hq1, hr1, _⟩ := tw.a.args
  obtain ⟨p2, q2, rfl, _, hr2, _⟩ := tw.b.args
  have RL := Lib.hid hr1
  have RO := Lib.hid hr2
  clear tw hr1 hr2 c0 c1 c2 c3 y0 y1 y2 EX
  obtain ⟨c0, c1, c2, c3, _⟩ := JX3_.out
  obtain ⟨⟨y0, y1, y2⟩, _, _⟩ := BX3_.out
  have T4 := Lib.hid (FD.out w3 RY3_.out)
  go_wp2_with fail
  refine T4.out.mono ?_
  rintro e w4 ⟨va, vb, vc, rfl, hoa, hob, hoc, hb4⟩
  have Hoa4 := Lib.hid (hoa.mono K3.out.size)
  have Hob4 := Lib.hid (hob.mono K3.out.size)
  have Hoc4 := Lib.hid (hoc.mono K3.out.size)
  have K4 := Lib.hid (K3.out.trans (hb4.mono K3.out.size))
  have JX4_ := Lib.hid (JX3_.out.lift hb4)
  have BX4_ := Lib.hid (BX3_.out.lift hb4)
  have RY4_ := Lib.hid (RY3_.out.lift hb4)
  have RL4_ := Lib.hid (RL.out.lift hb4)
  have RO4_ := Lib.hid (RO.out.lift hb4)
  clear T4 hb4 hoa hob hoc K3 JX3_ BX3_ RY3_ RL RO
  obtain ⟨p3, q3, rfl, _, hr3, _⟩ := Hoa4.out.args
  obtain ⟨p4, q4, rfl, _, hr4, _⟩ := Hob4.out.args
  obtain ⟨p5, q5, rfl, _, hr5, _⟩ := Hoc4.out.args
  have RA := Lib.hid hr3
  have RB := Lib.hid hr4
  have RC := Lib.hid hr5
  clear hr3 hr4 hr5 c0 c1 c2 c3 y0 y1 y2 FD
  clear Hoa4 Hob4 Hoc4 RY4_
  by_cases h1 : te = 0
  · subst h1
    by_cases h2 : fe = 0
    · subst h2
      have LS2 := LS.out rfl
      obtain ⟨c0, c1, c2, c3, _⟩ := JX4_.out
      cases hck : checkB kk p n v tA
      · have CK2 := CK.out tA p1 q1
        rw [hck] at CK2
        have CK3 := Lib.hid CK2
        clear CK2 LS2 LS CK
        have T5 := Lib.hid (CK3.out w4 (by omega) hq1 RL4_.out)
        go_wp2_with fail
        refine T5.out.mono ?_
        rintro e w5 ⟨rfl, hb5⟩
        have K5 := Lib.hid (K4.out.trans (hb5.mono K4.out.size))
        have JX5_ := Lib.hid (JX4_.out.lift hb5)
        have BX5_ := Lib.hid (BX4_.out.lift hb5)
        have RL5_ := Lib.hid (RL4_.out.lift hb5)
        have RO5_ := Lib.hid (RO4_.out.lift hb5)
        have RA5_ := Lib.hid (RA.out.lift hb5)
        have RB5_ := Lib.hid (RB.out.lift hb5)
        have RC5_ := Lib.hid (RC.out.lift hb5)
        clear T5 hb5 K4 JX4_ BX4_ RL4_ RO4_ RA RB RC
        have T6 := Lib.hid (AW.out w5)
        go_wp2_with fail
        refine T6.out.mono ?_
        rintro e w6 ⟨rfl, hb6⟩
        have K6 := Lib.hid (K5.out.trans (hb6.mono K5.out.size))
        have JX6_ := Lib.hid (JX5_.out.lift hb6)
        have BX6_ := Lib.hid (BX5_.out.lift hb6)
        have RL6_ := Lib.hid (RL5_.out.lift hb6)
        have RO6_ := Lib.hid (RO5_.out.lift hb6)
        have RA6_ := Lib.hid (RA5_.out.lift hb6)
        have RB6_ := Lib.hid (RB5_.out.lift hb6)
        have RC6_ := Lib.hid (RC5_.out.lift hb6)
        clear T6 hb6 K5 JX5_ BX5_ RL5_ RO5_ RA5_ RB5_ RC5_
        go_wp2
        go_ret
        exact ⟨rfl, K6.out⟩
      · have CK2 := CK.out tA p1 q1
        rw [hck] at CK2
        have CK3 := Lib.hid CK2
        obtain ⟨hf2, rfl⟩ := LS2 hck
        have FD2 := Lib.hid (feed_to hf2 (by omega))
        clear CK2 LS LS2 hf2 CK hck
        have T7 := Lib.hid (CK3.out w4 (by omega) hq1 RL4_.out)
        go_wp2_with fail
        refine T7.out.mono ?_
        rintro e w7 ⟨rfl, hb7⟩
        have K7 := Lib.hid (K4.out.trans (hb7.mono K4.out.size))
        have JX7_ := Lib.hid (JX4_.out.lift hb7)
        have BX7_ := Lib.hid (BX4_.out.lift hb7)
        have RL7_ := Lib.hid (RL4_.out.lift hb7)
        have RO7_ := Lib.hid (RO4_.out.lift hb7)
        have RA7_ := Lib.hid (RA.out.lift hb7)
        have RB7_ := Lib.hid (RB.out.lift hb7)
        have RC7_ := Lib.hid (RC.out.lift hb7)
        clear T7 hb7 K4 JX4_ BX4_ RL4_ RO4_ RA RB RC
        clear c0 c1 c2 c3
        obtain ⟨c0, c1, c2, c3, _⟩ := JX7_.out
        obtain ⟨⟨y0, y1, y2⟩, _, _⟩ := BX7_.out
        have T8 := Lib.hid (FD2.out p1 q1 w7 hq1 RL7_.out)
        go_wp2_with fail
        refine T8.out.mono ?_
        rintro e w8 ⟨va2, vb2, vc2, rfl, hoa, hob, hoc, hb8⟩
        have Hoa8 := Lib.hid (hoa.mono K7.out.size)
        have Hob8 := Lib.hid (hob.mono K7.out.size)
        have Hoc8 := Lib.hid (hoc.mono K7.out.size)
        have K8 := Lib.hid (K7.out.trans (hb8.mono K7.out.size))
        have JX8_ := Lib.hid (JX7_.out.lift hb8)
        have BX8_ := Lib.hid (BX7_.out.lift hb8)
        have RL8_ := Lib.hid (RL7_.out.lift hb8)
        have RO8_ := Lib.hid (RO7_.out.lift hb8)
        have RA8_ := Lib.hid (RA7_.out.lift hb8)
        have RB8_ := Lib.hid (RB7_.out.lift hb8)
        have RC8_ := Lib.hid (RC7_.out.lift hb8)
        clear T8 hb8 hoa hob hoc K7 JX7_ BX7_ RL7_ RO7_ RA7_ RB7_ RC7_
        obtain ⟨p6, q6, rfl, _, hr6, _⟩ := Hoa8.out.args
        obtain ⟨p7, q7, rfl, _, hr7, _⟩ := Hob8.out.args
        obtain ⟨p8, q8, rfl, _, hr8, _⟩ := Hoc8.out.args
        have RP := Lib.hid hr6
        have RQ := Lib.hid hr7
        clear hr6 hr7 hr8 c0 c1 c2 c3 y0 y1 y2
        clear Hoa8 Hob8 Hoc8 JX8_ BX8_ RL8_
        have s1 := hdd fA
        have T9 := Lib.hid (SM.out fA (by omega) p3 p6 q3 q6 w8 RA8_.out RP.out)
        go_wp2_with fail
        refine T9.out.mono ?_
        rintro e w9 ⟨rfl, hb9⟩
        have K9 := Lib.hid (K8.out.trans (hb9.mono K8.out.size))
        have RO9_ := Lib.hid (RO8_.out.lift hb9)
        have RA9_ := Lib.hid (RA8_.out.lift hb9)
        have RB9_ := Lib.hid (RB8_.out.lift hb9)
        have RC9_ := Lib.hid (RC8_.out.lift hb9)
        have RP9_ := Lib.hid (RP.out.lift hb9)
        have RQ9_ := Lib.hid (RQ.out.lift hb9)
        clear T9 hb9 K8 RO8_ RA8_ RB8_ RC8_ RP RQ
        have s2 := hdd fB
        have T10 := Lib.hid (SM.out fB (by omega) p4 p7 q4 q7 w9 RB9_.out RQ9_.out)
        go_wp2_with fail
        refine T10.out.mono ?_
        rintro e w10 ⟨rfl, hb10⟩
        have K10 := Lib.hid (K9.out.trans (hb10.mono K9.out.size))
        have RO10_ := Lib.hid (RO9_.out.lift hb10)
        have RA10_ := Lib.hid (RA9_.out.lift hb10)
        have RB10_ := Lib.hid (RB9_.out.lift hb10)
        have RC10_ := Lib.hid (RC9_.out.lift hb10)
        have RP10_ := Lib.hid (RP9_.out.lift hb10)
        have RQ10_ := Lib.hid (RQ9_.out.lift hb10)
        clear T10 hb10 K9 RO9_ RA9_ RB9_ RC9_ RP9_ RQ9_
        have s3 := hdd fC
        have T11 := Lib.hid (SM.out fC (by omega) p5 p2 q5 q2 w10 RC10_.out RO10_.out)
        go_wp2_with fail
        refine T11.out.mono ?_
        rintro e w11 ⟨rfl, hb11⟩
        have K11 := Lib.hid (K10.out.trans (hb11.mono K10.out.size))
        have RO11_ := Lib.hid (RO10_.out.lift hb11)
        have RA11_ := Lib.hid (RA10_.out.lift hb11)
        have RB11_ := Lib.hid (RB10_.out.lift hb11)
        have RC11_ := Lib.hid (RC10_.out.lift hb11)
        have RP11_ := Lib.hid (RP10_.out.lift hb11)
        have RQ11_ := Lib.hid (RQ10_.out.lift hb11)
        clear T11 hb11 K10 RO10_ RA10_ RB10_ RC10_ RP10_ RQ10_
        have T12 := Lib.hid (AW.out w11)
        go_wp2_with fail
        refine T12.out.mono ?_
        rintro e w12 ⟨rfl, hb12⟩
        have K12 := Lib.hid (K11.out.trans (hb12.mono K11.out.size))
        have RO12_ := Lib.hid (RO11_.out.lift hb12)
        have RA12_ := Lib.hid (RA11_.out.lift hb12)
        have RB12_ := Lib.hid (RB11_.out.lift hb12)
        have RC12_ := Lib.hid (RC11_.out.lift hb12)
        have RP12_ := Lib.hid (RP11_.out.lift hb12)
        have RQ12_ := Lib.hid (RQ11_.out.lift hb12)
        clear T12 hb12 K11 RO11_ RA11_ RB11_ RC11_ RP11_ RQ11_
        go_wp2
        go_ret
        exact ⟨rfl, K12.out⟩
    · have h2b : (fe == 0) = false := by simpa using h2
      have T13 := Lib.hid (AW.out w4)
      go_wp2_with fail
      refine T13.out.mono ?_
      rintro e w13 ⟨rfl, hb13⟩
      have K13 := Lib.hid (K4.out.trans (hb13.mono K4.out.size))
      have JX13_ := Lib.hid (JX4_.out.lift hb13)
      have BX13_ := Lib.hid (BX4_.out.lift hb13)
      have RL13_ := Lib.hid (RL4_.out.lift hb13)
      have RO13_ := Lib.hid (RO4_.out.lift hb13)
      have RA13_ := Lib.hid (RA.out.lift hb13)
      have RB13_ := Lib.hid (RB.out.lift hb13)
      have RC13_ := Lib.hid (RC.out.lift hb13)
      clear T13 hb13 K4 JX4_ BX4_ RL4_ RO4_ RA RB RC
      go_wp2
      go_ret
      exact ⟨rfl, K13.out⟩
  · have h1b : (te == 0) = false := by simpa using h1
    have T14 := Lib.hid (AW.out w4)
    go_wp2_with fail
    refine T14.out.mono ?_
    rintro e w14 ⟨rfl, hb14⟩
    have K14 := Lib.hid (K4.out.trans (hb14.mono K4.out.size))
    have JX14_ := Lib.hid (JX4_.out.lift hb14)
    have BX14_ := Lib.hid (BX4_.out.lift hb14)
    have RL14_ := Lib.hid (RL4_.out.lift hb14)
    have RO14_ := Lib.hid (RO4_.out.lift hb14)
    have RA14_ := Lib.hid (RA.out.lift hb14)
    have RB14_ := Lib.hid (RB.out.lift hb14)
    have RC14_ := Lib.hid (RC.out.lift hb14)
    clear T14 hb14 K4 JX4_ BX4_ RL4_ RO4_ RA RB RC
    go_wp2
    go_ret
    exact ⟨rfl, K14.out⟩
end Go.Proofs.Ytllojkdacinhfaa.Jn
