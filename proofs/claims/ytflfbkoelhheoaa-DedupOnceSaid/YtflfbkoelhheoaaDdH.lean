/- Layer 13: the document's Take. -/
import Derived.Test.YtflfbkoelhheoaaDdG
namespace Go.Proofs.Ytflfbkoelhheoaa.Dd
open Go.RowKit Go.Shelf Go.Proofs.Ytflfbkoelhheoaa Go.Proofs.Ytflfbkoelhheoaa.La
set_option linter.unusedVariables false
set_option linter.unusedSimpArgs false
theorem filter_step {α : Type} (p : α → Bool) (X : List α) (k : Nat) (h : k < X.length) : (X.take (k + 1)).filter p = (X.take k).filter p ++ (if p X[k] then [X[k]] else []) := by
  rw [List.take_succ_eq_append_getElem h, List.filter_append]
  congr 1
  rw [List.filter_cons]; rfl
theorem filter_le {α : Type} (p : α → Bool) (X : List α) (k : Nat) : ((X.take k).filter p).length ≤ X.length := by
  have h1 := List.length_filter_le p (X.take k)
  rw [List.length_take] at h1
  omega
set_option maxRecDepth 100000 in
set_option maxHeartbeats 8000000 in
theorem rtake_any (X : List El) (pa : Option Addr) (cap : Nat) (x : El) (w : World) (hX : X.length ≤ 100) (hR : Rd w pa X) (hO : Oks X) (hx : Ok x) :
    Calls Try.prog 13 #[.slice pa X.length cap, eV x] w (TakePost (takeD X x) w) := by
  have hr : takeD X x = if (askD X x.1 x.2.1).2 = 0 then (if x.2.2 < 0 then ([], 1) else if (findD X x.1).2 = false ∧ 50 ≤ X.length then ([], 6) else (rputD X x, 0)) else ([], (askD X x.1 x.2.1).2) := by
    unfold takeD
    by_cases ha : (askD X x.1 x.2.1).2 = 0
    · rw [if_pos ha, if_pos ha]
      have hm : mayD X = true := by
        cases h : mayD X
        · unfold askD at ha; rw [h] at ha; simp at ha
        · rfl
      have hl : X.length ≤ 50 := by unfold mayD at hm; simp only [Bool.and_eq_true, decide_eq_true_eq] at hm; exact hm.1
      rw [put_eq X x (mayD_pw hm)]
      by_cases h3 : x.2.2 < 0
      · rw [if_pos h3, if_pos h3]
      · rw [if_neg h3, if_neg h3]
        rcases idxD_pos X x.1 with ⟨_, h2⟩ | ⟨_, h2⟩
        · have c1 : ¬ posD X x.1 < X.length := by omega
          rw [findD_none X x.1 h2, if_neg c1]
          by_cases h50 : X.length = 50
          · have c2 : (zE, false).2 = false ∧ 50 ≤ X.length := ⟨rfl, by omega⟩
            rw [if_pos h50, if_pos c2]
          · have c2 : ¬ ((zE, false).2 = false ∧ 50 ≤ X.length) := by rintro ⟨_, h⟩; omega
            rw [if_neg h50, if_neg c2]
        · have c2 : ¬ ((X[posD X x.1], true).2 = false ∧ 50 ≤ X.length) := by rintro ⟨h, _⟩; cases h
          rw [findD_some X x.1 h2, if_pos h2, if_neg c2]
    · rw [if_neg ha, if_neg ha]
  have A := Lib.hid (fun w hR => rask_any X pa cap x.1 x.2.1 w hX hR hO hx.sz hx.s0 hx.s1)
  have N := Lib.hid (fun w hR => rfind_any X pa cap x.1 w hX hR)
  have H := Lib.hid hR
  have BX := Lib.hid (Bx.new x w)
  obtain ⟨r, hrr⟩ : ∃ r, r = takeD X x := ⟨_, rfl⟩
  rw [← hrr]
  rw [hr] at hrr
  unfold rputD at hrr
  clear hr hR hO hx
  generalize askD X x.1 x.2.1 = a at *
  generalize findD X x.1 = y at *
  have hXi : (X.length : Int) ≤ 100 := by omega
  obtain ⟨x1, x2, x3⟩ := x
  obtain ⟨a1, a2⟩ := a
  obtain ⟨⟨y1, y2, y3⟩, y4⟩ := y
  simp only at *
  have hb0 : Below w.heap.size w (w.alloc (.cells #[.string x1, .int .u64 x2, .int .i64 x3] 25)) := (Below.refl _ _).alloc (Nat.le_refl _) _
  have H0 := Lib.hid (H.out.lift hb0)
  have B0 := Lib.hid hb0
  clear hb0 H
  by_cases h0 : a2 = 0
  · subst h0
    rw [if_pos rfl] at hrr
    by_cases h3 : x3 < 0
    · rw [if_pos h3] at hrr
      subst hrr
      go_enter Try.func13, Try.ntmps13
      go_wp2_with fail
      generalize w.alloc (.cells #[.string x1, .int .u64 x2, .int .i64 x3] 25) = W0 at *
      have T1 := Lib.hid (A.out W0 H0.out)
      go_wp2_with fail
      refine T1.out.mono ?_
      rintro e w1 ⟨rfl, hb1⟩
      have K1 := Lib.hid hb1
      have H01_ := Lib.hid (H0.out.lift hb1)
      have BX1_ := Lib.hid (BX.out.lift hb1)
      clear T1 hb1 H0 BX
      obtain ⟨q0, q1, q2⟩ := BX1_.out.c
      have T2 := Lib.hid (N.out w1 H01_.out)
      go_wp2_with fail
      refine T2.out.mono ?_
      rintro e w2 ⟨rfl, hb2⟩
      have K2 := Lib.hid (K1.out.trans (hb2.mono K1.out.size))
      have H02_ := Lib.hid (H01_.out.lift hb2)
      have BX2_ := Lib.hid (BX1_.out.lift hb2)
      clear T2 hb2 K1 H01_ BX1_
      have hb3 : Below w2.heap.size w2 (w2.alloc (.cells #[.string y1, .int .u64 y2, .int .i64 y3] 25)) := (Below.refl _ _).alloc (Nat.le_refl _) _
      have K3 := Lib.hid (K2.out.trans (hb3.mono K2.out.size))
      have H03_ := Lib.hid (H02_.out.lift hb3)
      have BX3_ := Lib.hid (BX2_.out.lift hb3)
      clear hb3 K2 H02_ BX2_
      obtain ⟨q0, q1, q2⟩ := BX3_.out.c
      go_wp2
      refine bodyPost_ret (v := .tuple #[_, _]) (by simp [results, Try.results13, go_sem]; exact ⟨rfl, rfl⟩) rfl ?_
      exact ⟨_, rfl, Own.nil _ _, B0.out.trans (K3.out.mono B0.out.size)⟩
    · rw [if_neg h3] at hrr
      have h3d : decide (x3 < 0) = false := by simpa using h3
      by_cases hc : y4 = false ∧ 50 ≤ X.length
      · rw [if_pos hc] at hrr
        subst hrr
        obtain ⟨rfl, h50⟩ := hc
        have h50i : (50 : Int) ≤ X.length := by omega
        go_enter Try.func13, Try.ntmps13
        go_wp2_with fail
        generalize w.alloc (.cells #[.string x1, .int .u64 x2, .int .i64 x3] 25) = W0 at *
        have T4 := Lib.hid (A.out W0 H0.out)
        go_wp2_with fail
        refine T4.out.mono ?_
        rintro e w4 ⟨rfl, hb4⟩
        have K4 := Lib.hid hb4
        have H04_ := Lib.hid (H0.out.lift hb4)
        have BX4_ := Lib.hid (BX.out.lift hb4)
        clear T4 hb4 H0 BX
        obtain ⟨q0, q1, q2⟩ := BX4_.out.c
        have T5 := Lib.hid (N.out w4 H04_.out)
        go_wp2_with fail
        refine T5.out.mono ?_
        rintro e w5 ⟨rfl, hb5⟩
        have K5 := Lib.hid (K4.out.trans (hb5.mono K4.out.size))
        have H05_ := Lib.hid (H04_.out.lift hb5)
        have BX5_ := Lib.hid (BX4_.out.lift hb5)
        clear T5 hb5 K4 H04_ BX4_
        have hb6 : Below w5.heap.size w5 (w5.alloc (.cells #[.string y1, .int .u64 y2, .int .i64 y3] 25)) := (Below.refl _ _).alloc (Nat.le_refl _) _
        have K6 := Lib.hid (K5.out.trans (hb6.mono K5.out.size))
        have H06_ := Lib.hid (H05_.out.lift hb6)
        have BX6_ := Lib.hid (BX5_.out.lift hb6)
        clear hb6 K5 H05_ BX5_
        obtain ⟨q0, q1, q2⟩ := BX6_.out.c
        go_wp2
        refine bodyPost_ret (v := .tuple #[_, _]) (by simp [results, Try.results13, go_sem]; exact ⟨rfl, rfl⟩) rfl ?_
        exact ⟨_, rfl, Own.nil _ _, B0.out.trans (K6.out.mono B0.out.size)⟩
      · rw [if_neg hc] at hrr
        subst hrr
        have hg : (if y4 then true else !decide ((50 : Int) ≤ X.length)) = true := by
          cases y4
          · have : ¬ 50 ≤ X.length := fun h => hc ⟨rfl, h⟩
            simp; omega
          · rfl
        have HG := Lib.hid hg
        clear hc hg
        have fin : ∀ (P : El → Bool) (k : Nat) (h : k < X.length), (X.take (k + 1)).filter P = (X.take k).filter P ++ (if P X[k] then [X[k]] else []) := fun P k h => filter_step P X k h
        have FS := Lib.hid fin
        have FL := Lib.hid (fun (P : El → Bool) (k : Nat) => filter_le P X k)
        clear fin
        obtain ⟨p1, hp1⟩ : ∃ p : El → Bool, p = fun y => Op.bytesLess y.1.toList x1.toList := ⟨_, rfl⟩
        obtain ⟨p2, hp2⟩ : ∃ p : El → Bool, p = fun y => !Op.bytesLess y.1.toList x1.toList && !y.1.toList == x1.toList := ⟨_, rfl⟩
        rw [← hp1, ← hp2]
        have P1 := Lib.hid (fun y : El => congrFun hp1 y)
        have P2 := Lib.hid (fun y : El => congrFun hp2 y)
        clear hp1 hp2
        have hskip : ∀ W', Below W'.heap.size W' W' := fun W' => Below.refl _ _
        clear hskip
        go_enter Try.func13, Try.ntmps13
        go_wp2_with fail
        generalize w.alloc (.cells #[.string x1, .int .u64 x2, .int .i64 x3] 25) = W0 at *
        have HR0 := Lib.hid H0.out
        have BX0 := Lib.hid BX.out
        have T7 := Lib.hid (A.out W0 H0.out)
        go_wp2_with fail
        refine T7.out.mono ?_
        rintro e w7 ⟨rfl, hb7⟩
        have K7 := Lib.hid hb7
        have H07_ := Lib.hid (H0.out.lift hb7)
        have BX7_ := Lib.hid (BX.out.lift hb7)
        clear T7 hb7 H0 BX
        obtain ⟨q0, q1, q2⟩ := BX7_.out.c
        have T8 := Lib.hid (N.out w7 H07_.out)
        go_wp2_with fail
        refine T8.out.mono ?_
        rintro e w8 ⟨rfl, hb8⟩
        have K8 := Lib.hid (K7.out.trans (hb8.mono K7.out.size))
        have H08_ := Lib.hid (H07_.out.lift hb8)
        have BX8_ := Lib.hid (BX7_.out.lift hb8)
        clear T8 hb8 K7 H07_ BX7_
        have hb9 : Below w8.heap.size w8 (w8.alloc (.cells #[.string y1, .int .u64 y2, .int .i64 y3] 25)) := (Below.refl _ _).alloc (Nat.le_refl _) _
        have K9 := Lib.hid (K8.out.trans (hb9.mono K8.out.size))
        have H09_ := Lib.hid (H08_.out.lift hb9)
        have BX9_ := Lib.hid (BX8_.out.lift hb9)
        clear hb9 K8 H08_ BX8_
        obtain ⟨q0, q1, q2⟩ := BX9_.out.c
        have KQ := Lib.hid K9.out
        have KW := Lib.hid (B0.out.trans (K9.out.mono B0.out.size))
        have HW := Lib.hid H09_.out
        have BW := Lib.hid BX9_.out
        cases y4
        · have h50 : ¬ (50 : Int) ≤ X.length := by have := HG.out; simp at this; omega
          have h50d : decide ((50 : Int) ≤ X.length) = false := by simpa using h50
          go_wp2_with fail
          go_loopw [10, 11] (fun v i wx => ∃ k : Nat, i = .int .i64 k ∧ k ≤ X.length ∧ Own wx W0.heap.size v ((X.take k).filter p1) ∧ Below W0.heap.size W0 wx) (fun _ i _ => X.length - (intOf i).toNat)
          case atStart => exact ⟨0, rfl, Nat.zero_le _, Own.nil _ _, KQ.out⟩
          case round =>
            obtain ⟨k, rfl, hk, ho, kk⟩ := hrel
            by_cases hlt : k < X.length
            · have hlt' : (k : Int) < X.length := by omega
              obtain ⟨b, o, rfl, hbz, c0, c1, c2⟩ := (HR0.out.lift kk).at k hlt
              obtain ⟨q0, q1, q2⟩ := (BX0.out.lift kk).c
              simp only at q0 q1 q2
              have hst := FS.out p1 k hlt
              have hpz := P1.out X[k]
              have hl := FL.out p1 k
              generalize X[k] = z at *
              obtain ⟨z1, z2, z3⟩ := z
              simp only at c0 c1 c2 hpz
              rw [hpz] at hst
              have Hst := Lib.hid hst
              generalize (X.take k).filter p1 = A at *
              have O := Lib.hid ho
              have Kk := Lib.hid kk
              have k1 : (0 : Int) ≤ k := by omega
              have k2 : k < X.length := hlt
              clear hst hpz ho kk
              cases hb : Op.bytesLess z1.toList x1.toList
              · have Hb := Lib.hid hb
                go_wp2_with fail
                go_quiet (fail)
                have K2 := Lib.hid (below_drewN Kk.out nq)
                have O2 := Lib.hid (O.out.lift (below_drewN (Below.refl _ _) nq))
                go_wp2
                go_roundw
                case rel => exact ⟨k + 1, by go_num, by omega, by rw [Hst.out, Hb.out]; simpa using O2.out, K2.out⟩
                case measure => simp [intOf]; omega
              · have Hb := Lib.hid hb
                go_wp2_with fail
                go_quiet (fail)
                have K2 := Lib.hid (below_drewN Kk.out nq)
                have hba : Below (wr.drewN nq).heap.size (wr.drewN nq) ((wr.drewN nq).alloc (.cells #[.string z1, .int .u64 z2, .int .i64 z3] 25)) := (Below.refl _ _).alloc (Nat.le_refl _) _
                have K3 := Lib.hid (K2.out.trans (hba.mono K2.out.size))
                have O3 := Lib.hid ((O.out.lift (below_drewN (Below.refl _ _) nq)).lift hba)
                have R1 := Lib.hid (one_rd (z1, z2, z3) (wr.drewN nq))
                have hl2 : (A).length + [(z1, z2, z3)].length ≤ 8000 := by simp; omega
                clear hba K2 O Kk
                go_wp2_with (first | (at_builtin; refine wpList_app rfl (.tmp 56) (.tmp 61) rfl W0.heap.size _ (A) [(z1, z2, z3)] rfl O3.out (some ⟨wr.heap.size, 0, none⟩) 1 rfl R1.out (fun h => by cases h) hl2 K3.out.size ?_))
                intro v2 w2 o2 hb2
                have O4 := Lib.hid o2
                have K4 := Lib.hid (K3.out.trans hb2)
                clear o2 hb2 O3 R1 K3
                go_wp2
                go_roundw
                case rel => exact ⟨k + 1, by go_num, by omega, by rw [Hst.out, Hb.out]; simpa using O4.out, K4.out⟩
                case measure => simp [intOf]; omega
            · have hge : (X.length : Int) ≤ k := by omega
              rw [List.take_of_length_le (by omega)] at ho
              have KK := Lib.hid kk
              have OO := Lib.hid ho
              obtain ⟨q0, q1, q2⟩ := (BX0.out.lift kk).c
              simp only at q0 q1 q2
              have hba : Below wr.heap.size wr (wr.alloc (.cells #[.string x1, .int .u64 x2, .int .i64 x3] 25)) := (Below.refl _ _).alloc (Nat.le_refl _) _
              have K3 := Lib.hid (KK.out.trans (hba.mono KK.out.size))
              have O3 := Lib.hid (OO.out.lift hba)
              have R1 := Lib.hid (one_rd (x1, x2, x3) wr)
              have hl1 := FL.out p1 X.length
              rw [List.take_length] at hl1
              generalize hF : X.filter p1 = F at *
              have hl2 : F.length + [(x1, x2, x3)].length ≤ 8000 := by simp; omega
              have HF := Lib.hid hF
              clear hba OO KK ho kk hF
              go_wp2_with (first | (at_builtin; refine wpList_app rfl (.tmp 63) (.tmp 65) rfl W0.heap.size _ F [(x1, x2, x3)] rfl O3.out (some ⟨wr.heap.size, 0, none⟩) 1 rfl R1.out (fun h => by cases h) hl2 K3.out.size ?_))
              intro v2 w2 o2 hb2
              have O4 := Lib.hid o2
              have K4 := Lib.hid (K3.out.trans hb2)
              clear o2 hb2 O3 R1 K3
              go_wp2_with fail
              go_loopw [10, 12] (fun v i wx => ∃ k : Nat, i = .int .i64 k ∧ k ≤ X.length ∧ Own wx W0.heap.size v (F ++ [(x1, x2, x3)] ++ (X.take k).filter p2) ∧ Below W0.heap.size W0 wx) (fun _ i _ => X.length - (intOf i).toNat)
              case atStart => exact ⟨0, rfl, Nat.zero_le _, by simpa using O4.out, K4.out⟩
              case round =>
                obtain ⟨k, rfl, hk, ho, kk⟩ := hrel
                by_cases hlt : k < X.length
                · have hlt' : (k : Int) < X.length := by omega
                  obtain ⟨b, o, rfl, hbz, c0, c1, c2⟩ := (HR0.out.lift kk).at k hlt
                  obtain ⟨q0, q1, q2⟩ := (BX0.out.lift kk).c
                  simp only at q0 q1 q2
                  have hst := FS.out p2 k hlt
                  have hpz := P2.out X[k]
                  have hl := FL.out p2 k
                  generalize X[k] = z at *
                  obtain ⟨z1, z2, z3⟩ := z
                  simp only at c0 c1 c2 hpz
                  rw [hpz] at hst
                  have Hst := Lib.hid hst
                  generalize (X.take k).filter p2 = A at *
                  have O := Lib.hid ho
                  have Kk := Lib.hid kk
                  have k1 : (0 : Int) ≤ k := by omega
                  have k2 : k < X.length := hlt
                  clear hst hpz ho kk
                  cases hb : (!Op.bytesLess z1.toList x1.toList && !z1.toList == x1.toList)
                  · have Hb := Lib.hid hb
                    go_wp2_with fail
                    go_quiet (fail)
                    have K2 := Lib.hid (below_drewN Kk.out nq)
                    have O2 := Lib.hid (O.out.lift (below_drewN (Below.refl _ _) nq))
                    go_wp2
                    go_roundw
                    case rel => exact ⟨k + 1, by go_num, by omega, by rw [Hst.out, Hb.out]; simpa using O2.out, K2.out⟩
                    case measure => simp [intOf]; omega
                  · have Hb := Lib.hid hb
                    obtain ⟨g1, g2⟩ : Op.bytesLess z1.toList x1.toList = false ∧ (z1.toList == x1.toList) = false := by simpa using hb
                    go_wp2_with fail
                    go_quiet (fail)
                    have K2 := Lib.hid (below_drewN Kk.out nq)
                    have hba : Below (wr.drewN nq).heap.size (wr.drewN nq) ((wr.drewN nq).alloc (.cells #[.string z1, .int .u64 z2, .int .i64 z3] 25)) := (Below.refl _ _).alloc (Nat.le_refl _) _
                    have K3 := Lib.hid (K2.out.trans (hba.mono K2.out.size))
                    have O3 := Lib.hid ((O.out.lift (below_drewN (Below.refl _ _) nq)).lift hba)
                    have R1 := Lib.hid (one_rd (z1, z2, z3) (wr.drewN nq))
                    have hl2 : (F ++ [(x1, x2, x3)] ++ A).length + [(z1, z2, z3)].length ≤ 8000 := by simp; omega
                    clear hba K2 O Kk
                    go_wp2_with (first | (at_builtin; refine wpList_app rfl (.tmp 81) (.tmp 86) rfl W0.heap.size _ (F ++ [(x1, x2, x3)] ++ A) [(z1, z2, z3)] rfl O3.out (some ⟨wr.heap.size, 0, none⟩) 1 rfl R1.out (fun h => by cases h) hl2 K3.out.size ?_))
                    intro v2 w2 o2 hb2
                    have O4 := Lib.hid o2
                    have K4 := Lib.hid (K3.out.trans hb2)
                    clear o2 hb2 O3 R1 K3
                    go_wp2
                    go_roundw
                    case rel => exact ⟨k + 1, by go_num, by omega, by rw [Hst.out, Hb.out]; simpa using O4.out, K4.out⟩
                    case measure => simp [intOf]; omega
                · have hge : (X.length : Int) ≤ k := by omega
                  rw [List.take_of_length_le (by omega)] at ho
                  go_wp2
                  refine bodyPost_ret (v := .tuple #[_, _]) (by simp [results, Try.results13, go_sem]; exact ⟨rfl, rfl⟩) rfl ?_
                  exact ⟨_, rfl, by rw [show F ++ (x1, x2, x3) :: X.filter p2 = F ++ [(x1, x2, x3)] ++ X.filter p2 by simp]; exact ho.mono B0.out.size, B0.out.trans (kk.mono B0.out.size)⟩
        · go_wp2_with fail
          go_loopw [10, 11] (fun v i wx => ∃ k : Nat, i = .int .i64 k ∧ k ≤ X.length ∧ Own wx W0.heap.size v ((X.take k).filter p1) ∧ Below W0.heap.size W0 wx) (fun _ i _ => X.length - (intOf i).toNat)
          case atStart => exact ⟨0, rfl, Nat.zero_le _, Own.nil _ _, KQ.out⟩
          case round =>
            obtain ⟨k, rfl, hk, ho, kk⟩ := hrel
            by_cases hlt : k < X.length
            · have hlt' : (k : Int) < X.length := by omega
              obtain ⟨b, o, rfl, hbz, c0, c1, c2⟩ := (HR0.out.lift kk).at k hlt
              obtain ⟨q0, q1, q2⟩ := (BX0.out.lift kk).c
              simp only at q0 q1 q2
              have hst := FS.out p1 k hlt
              have hpz := P1.out X[k]
              have hl := FL.out p1 k
              generalize X[k] = z at *
              obtain ⟨z1, z2, z3⟩ := z
              simp only at c0 c1 c2 hpz
              rw [hpz] at hst
              have Hst := Lib.hid hst
              generalize (X.take k).filter p1 = A at *
              have O := Lib.hid ho
              have Kk := Lib.hid kk
              have k1 : (0 : Int) ≤ k := by omega
              have k2 : k < X.length := hlt
              clear hst hpz ho kk
              cases hb : Op.bytesLess z1.toList x1.toList
              · have Hb := Lib.hid hb
                go_wp2_with fail
                go_quiet (fail)
                have K2 := Lib.hid (below_drewN Kk.out nq)
                have O2 := Lib.hid (O.out.lift (below_drewN (Below.refl _ _) nq))
                go_wp2
                go_roundw
                case rel => exact ⟨k + 1, by go_num, by omega, by rw [Hst.out, Hb.out]; simpa using O2.out, K2.out⟩
                case measure => simp [intOf]; omega
              · have Hb := Lib.hid hb
                go_wp2_with fail
                go_quiet (fail)
                have K2 := Lib.hid (below_drewN Kk.out nq)
                have hba : Below (wr.drewN nq).heap.size (wr.drewN nq) ((wr.drewN nq).alloc (.cells #[.string z1, .int .u64 z2, .int .i64 z3] 25)) := (Below.refl _ _).alloc (Nat.le_refl _) _
                have K3 := Lib.hid (K2.out.trans (hba.mono K2.out.size))
                have O3 := Lib.hid ((O.out.lift (below_drewN (Below.refl _ _) nq)).lift hba)
                have R1 := Lib.hid (one_rd (z1, z2, z3) (wr.drewN nq))
                have hl2 : (A).length + [(z1, z2, z3)].length ≤ 8000 := by simp; omega
                clear hba K2 O Kk
                go_wp2_with (first | (at_builtin; refine wpList_app rfl (.tmp 56) (.tmp 61) rfl W0.heap.size _ (A) [(z1, z2, z3)] rfl O3.out (some ⟨wr.heap.size, 0, none⟩) 1 rfl R1.out (fun h => by cases h) hl2 K3.out.size ?_))
                intro v2 w2 o2 hb2
                have O4 := Lib.hid o2
                have K4 := Lib.hid (K3.out.trans hb2)
                clear o2 hb2 O3 R1 K3
                go_wp2
                go_roundw
                case rel => exact ⟨k + 1, by go_num, by omega, by rw [Hst.out, Hb.out]; simpa using O4.out, K4.out⟩
                case measure => simp [intOf]; omega
            · have hge : (X.length : Int) ≤ k := by omega
              rw [List.take_of_length_le (by omega)] at ho
              have KK := Lib.hid kk
              have OO := Lib.hid ho
              obtain ⟨q0, q1, q2⟩ := (BX0.out.lift kk).c
              simp only at q0 q1 q2
              have hba : Below wr.heap.size wr (wr.alloc (.cells #[.string x1, .int .u64 x2, .int .i64 x3] 25)) := (Below.refl _ _).alloc (Nat.le_refl _) _
              have K3 := Lib.hid (KK.out.trans (hba.mono KK.out.size))
              have O3 := Lib.hid (OO.out.lift hba)
              have R1 := Lib.hid (one_rd (x1, x2, x3) wr)
              have hl1 := FL.out p1 X.length
              rw [List.take_length] at hl1
              generalize hF : X.filter p1 = F at *
              have hl2 : F.length + [(x1, x2, x3)].length ≤ 8000 := by simp; omega
              have HF := Lib.hid hF
              clear hba OO KK ho kk hF
              go_wp2_with (first | (at_builtin; refine wpList_app rfl (.tmp 63) (.tmp 65) rfl W0.heap.size _ F [(x1, x2, x3)] rfl O3.out (some ⟨wr.heap.size, 0, none⟩) 1 rfl R1.out (fun h => by cases h) hl2 K3.out.size ?_))
              intro v2 w2 o2 hb2
              have O4 := Lib.hid o2
              have K4 := Lib.hid (K3.out.trans hb2)
              clear o2 hb2 O3 R1 K3
              go_wp2_with fail
              go_loopw [10, 12] (fun v i wx => ∃ k : Nat, i = .int .i64 k ∧ k ≤ X.length ∧ Own wx W0.heap.size v (F ++ [(x1, x2, x3)] ++ (X.take k).filter p2) ∧ Below W0.heap.size W0 wx) (fun _ i _ => X.length - (intOf i).toNat)
              case atStart => exact ⟨0, rfl, Nat.zero_le _, by simpa using O4.out, K4.out⟩
              case round =>
                obtain ⟨k, rfl, hk, ho, kk⟩ := hrel
                by_cases hlt : k < X.length
                · have hlt' : (k : Int) < X.length := by omega
                  obtain ⟨b, o, rfl, hbz, c0, c1, c2⟩ := (HR0.out.lift kk).at k hlt
                  obtain ⟨q0, q1, q2⟩ := (BX0.out.lift kk).c
                  simp only at q0 q1 q2
                  have hst := FS.out p2 k hlt
                  have hpz := P2.out X[k]
                  have hl := FL.out p2 k
                  generalize X[k] = z at *
                  obtain ⟨z1, z2, z3⟩ := z
                  simp only at c0 c1 c2 hpz
                  rw [hpz] at hst
                  have Hst := Lib.hid hst
                  generalize (X.take k).filter p2 = A at *
                  have O := Lib.hid ho
                  have Kk := Lib.hid kk
                  have k1 : (0 : Int) ≤ k := by omega
                  have k2 : k < X.length := hlt
                  clear hst hpz ho kk
                  cases hb : (!Op.bytesLess z1.toList x1.toList && !z1.toList == x1.toList)
                  · have Hb := Lib.hid hb
                    go_wp2_with fail
                    go_quiet (fail)
                    have K2 := Lib.hid (below_drewN Kk.out nq)
                    have O2 := Lib.hid (O.out.lift (below_drewN (Below.refl _ _) nq))
                    go_wp2
                    go_roundw
                    case rel => exact ⟨k + 1, by go_num, by omega, by rw [Hst.out, Hb.out]; simpa using O2.out, K2.out⟩
                    case measure => simp [intOf]; omega
                  · have Hb := Lib.hid hb
                    obtain ⟨g1, g2⟩ : Op.bytesLess z1.toList x1.toList = false ∧ (z1.toList == x1.toList) = false := by simpa using hb
                    go_wp2_with fail
                    go_quiet (fail)
                    have K2 := Lib.hid (below_drewN Kk.out nq)
                    have hba : Below (wr.drewN nq).heap.size (wr.drewN nq) ((wr.drewN nq).alloc (.cells #[.string z1, .int .u64 z2, .int .i64 z3] 25)) := (Below.refl _ _).alloc (Nat.le_refl _) _
                    have K3 := Lib.hid (K2.out.trans (hba.mono K2.out.size))
                    have O3 := Lib.hid ((O.out.lift (below_drewN (Below.refl _ _) nq)).lift hba)
                    have R1 := Lib.hid (one_rd (z1, z2, z3) (wr.drewN nq))
                    have hl2 : (F ++ [(x1, x2, x3)] ++ A).length + [(z1, z2, z3)].length ≤ 8000 := by simp; omega
                    clear hba K2 O Kk
                    go_wp2_with (first | (at_builtin; refine wpList_app rfl (.tmp 81) (.tmp 86) rfl W0.heap.size _ (F ++ [(x1, x2, x3)] ++ A) [(z1, z2, z3)] rfl O3.out (some ⟨wr.heap.size, 0, none⟩) 1 rfl R1.out (fun h => by cases h) hl2 K3.out.size ?_))
                    intro v2 w2 o2 hb2
                    have O4 := Lib.hid o2
                    have K4 := Lib.hid (K3.out.trans hb2)
                    clear o2 hb2 O3 R1 K3
                    go_wp2
                    go_roundw
                    case rel => exact ⟨k + 1, by go_num, by omega, by rw [Hst.out, Hb.out]; simpa using O4.out, K4.out⟩
                    case measure => simp [intOf]; omega
                · have hge : (X.length : Int) ≤ k := by omega
                  rw [List.take_of_length_le (by omega)] at ho
                  go_wp2
                  refine bodyPost_ret (v := .tuple #[_, _]) (by simp [results, Try.results13, go_sem]; exact ⟨rfl, rfl⟩) rfl ?_
                  exact ⟨_, rfl, by rw [show F ++ (x1, x2, x3) :: X.filter p2 = F ++ [(x1, x2, x3)] ++ X.filter p2 by simp]; exact ho.mono B0.out.size, B0.out.trans (kk.mono B0.out.size)⟩
  · rw [if_neg h0] at hrr
    subst hrr
    have h0d : decide (a2 = 0) = false := by simpa using h0
    go_enter Try.func13, Try.ntmps13
    go_wp2_with fail
    generalize w.alloc (.cells #[.string x1, .int .u64 x2, .int .i64 x3] 25) = W0 at *
    have T10 := Lib.hid (A.out W0 H0.out)
    go_wp2_with fail
    refine T10.out.mono ?_
    rintro e w10 ⟨rfl, hb10⟩
    have K10 := Lib.hid hb10
    have H010_ := Lib.hid (H0.out.lift hb10)
    have BX10_ := Lib.hid (BX.out.lift hb10)
    clear T10 hb10 H0 BX
    go_wp2
    refine bodyPost_ret (v := .tuple #[_, _]) (by simp [results, Try.results13, go_sem]; exact ⟨rfl, rfl⟩) rfl ?_
    exact ⟨_, rfl, Own.nil _ _, B0.out.trans (K10.out.mono B0.out.size)⟩
end Go.Proofs.Ytflfbkoelhheoaa.Dd
