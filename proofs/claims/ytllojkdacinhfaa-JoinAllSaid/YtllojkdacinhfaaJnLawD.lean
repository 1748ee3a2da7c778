/- Layer 9: the walk of JoinAll. -/
import Derived.Test.YtllojkdacinhfaaJnL
import Derived.Test.YtllojkdacinhfaaJnK
namespace Go.Proofs.Ytllojkdacinhfaa.Jn
open Go.RowKit Go.Shelf Go.Proofs.Ytllojkdacinhfaa Go.Proofs.Ytllojkdacinhfaa.Ke
set_option linter.unusedVariables false
set_option linter.unusedSimpArgs false
set_option maxHeartbeats 8000000 in
set_option maxRecDepth 100000 in
theorem joinAll_walk (a b : Int) (tw : Bool) (w : World) (h0 : 0 ≤ a) (h1 : a ≤ 255) (t0 : 0 ≤ b) (t1 : b ≤ 255) :
    Calls Try.prog 8 #[.int .u8 a, .int .u8 b, .bool tw] w fun e w' => e = .returned (.bool true) ∧ Below w.heap.size w w' := by
  obtain ⟨n, hn⟩ : ∃ n : Nat, (n : Int) = 1 + a % 6 := ⟨(1 + a % 6).toNat, by omega⟩
  have hn1 : 1 ≤ n := by omega
  have hn6 : n ≤ 6 := by omega
  obtain ⟨t, ht⟩ : ∃ t : Nat, (t : Int) = b % n := ⟨(b % n).toNat, by have := Int.emod_nonneg b (show (n : Int) ≠ 0 by omega); omega⟩
  have htn : t < n := by have := Int.emod_lt_of_pos b (show (0 : Int) < n by omega); omega
  have hpr : ∀ i : Nat, ((i : Int) + b) % n = prt n t i := fun i => by
    unfold prt
    rw [Int.natCast_emod, Int.natCast_add, ht, Int.add_emod_emod]
  have hok := all_ok ⟨n, by omega⟩ ⟨t, by omega⟩ tw
  have hok2 : endOk n t tw = true ∧ ∀ i : Fin 6, n ≤ i.1 ∨ stOk n t tw i.1 = true := by
    rcases hok with h | h | h
    · exact absurd h (by show ¬ n = 0; omega)
    · exact absurd h (by show ¬ n ≤ t; omega)
    · exact h
  have EO := Lib.hid hok2.1
  have SO := Lib.hid (fun (i : Nat) (hi : i < n) => show stOk n t tw i = true from by
    rcases hok2.2 ⟨i, by omega⟩ with h | h
    · exact absurd h (by show ¬ n ≤ i; omega)
    · exact h)
  have HPR := Lib.hid hpr
  clear hok hok2 hpr
  have AW := Lib.hid awakeJ_any
  have a0 : a % 6 = (n : Int) - 1 := by omega
  have a1 : wrap64 (1 + ((n : Int) - 1)) = n := by unfold wrap64; omega
  have a2 : IntKind.i64.wrap (1 + ((n : Int) - 1)) = n := by rw [show (1 : Int) + (n - 1) = n by omega]; exact IntWalk.i64_in _ (by omega)
  have a3 : wrap64 b = b := by unfold wrap64; omega
  have a4 : IntKind.i64.wrap b = b := IntWalk.i64_in _ (by omega)
  have a5 : wrap64 ((n : Int) - 1) = (n : Int) - 1 := by unfold wrap64; omega
  have a6 : IntKind.i64.wrap ((n : Int) - 1) = (n : Int) - 1 := IntWalk.i64_in _ (by omega)
  have a7 : (1 : Int) + (n - 1) = n := by omega
  clear hn
  go_enter Try.func8, Try.ntmps8
  go_wp2_with fail
  go_loopw [9, 10, 11] (fun vl vid i wx => ∃ k : Nat, i = .int .i64 k ∧ k ≤ n ∧ vid = .int .u64 (((stA n t tw k).2 : Nat) : Int) ∧ Hid (Own wx w.heap.size vl (stA n t tw k).1) ∧ Hid (Jx wx w.heap.size bAll n 0 100) ∧ Below w.heap.size w wx) (fun _ _ i _ => n - (intOf i).toNat)
  case atStart => exact ⟨0, rfl, Nat.zero_le _, rfl, Lib.hid (Own.nil _ _), Lib.hid (Jx.new w bAll n 0 100), jBelow w bAll n 0 100⟩
  case round =>
    obtain ⟨k, rfl, hk, rfl, ho, JX, kk⟩ := hrel
    clear a0 a1 a2 a7
    have KK := Lib.hid kk
    obtain ⟨pl, cl, rfl, hcl, hrl, _⟩ := ho.out.args
    have RL := Lib.hid hrl
    clear hrl ho kk
    by_cases hlt : k < n
    · have hlt' : (k : Int) < n := by omega
      have hso := SO.out k hlt
      have hnx : stA n t tw (k + 1) = if tw && decide (k + 1 < n) then ((feedC n (feedC n (stA n t tw k).1 (prt n t k, ((stA n t tw k).2 + 1 : Nat), k)).1 (prt n t k, ((stA n t tw k).2 + 2 : Nat), k)).1, (stA n t tw k).2 + 2)
        else ((feedC n (stA n t tw k).1 (prt n t k, ((stA n t tw k).2 + 1 : Nat), k)).1, (stA n t tw k).2 + 1) := rfl
      unfold stOk at hso
      have hm := HPR.out k
      have hp0 : 0 ≤ prt n t k := by unfold prt; omega
      generalize prt n t k = P at *
      generalize stA n t tw k = S at *
      obtain ⟨L, id⟩ := S
      simp only [Bool.and_eq_true, decide_eq_true_eq, beq_iff_eq] at hso
      simp only at hnx
      have z1 : ((id + 1 : Nat) : Int) = (id : Int) + 1 := by omega
      have z2 : ((id + 2 : Nat) : Int) = (id : Int) + 1 + 1 := by omega
      rw [z1, z2] at hso hnx
      obtain ⟨⟨⟨⟨hL, hid⟩, hF⟩, hF2⟩, hG⟩ := hso
      have f1 := feedC_eq n L (P, (id : Int) + 1, k)
      have f2 := feedC_eq n (feedC n L (P, (id : Int) + 1, k)).1 (P, (id : Int) + 1 + 1, k)
      have fl := (feed_len bAll n 0 100 L (P, (id : Int) + 1, k)).1
      rw [f1] at fl
      generalize feedC n L (P, (id : Int) + 1, k) = F at *
      obtain ⟨FA, FB, FC, fe⟩ := F
      simp only at hF hF2 hG hnx f2 fl
      subst hF
      generalize feedC n FA (P, (id : Int) + 1 + 1, k) = G at *
      obtain ⟨GA, GB, GC, ge⟩ := G
      simp only at hG hnx
      have F1 := Lib.hid (feed_to f1 (by omega))
      have F2 := Lib.hid (feed_to f2 (by omega))
      have HNX := Lib.hid hnx
      have u1 : IntKind.u64.wrap ((id : Int) + 1) = (id : Int) + 1 := IntWalk.u64_in _ (by omega)
      have u2 : IntKind.u64.wrap ((id : Int) + 1 + 1) = (id : Int) + 1 + 1 := IntWalk.u64_in _ (by omega)
      have u3 : wrap64 ((k : Int) + b) = (k : Int) + b := by unfold wrap64; omega
      have u4 : IntKind.i64.wrap ((k : Int) + b) = (k : Int) + b := IntWalk.i64_in _ (by omega)
      have m1 : Int.tmod ((k : Int) + b) n = P := by rw [Int.tmod_eq_emod_of_nonneg (by omega)]; exact hm
      have m2 : ¬ (n : Int) = 0 := by omega
      clear f1 f2 fl hnx z1 z2 EO SO HPR hL hid
      by_cases hk1 : k + 1 < n
      · rw [if_pos hk1] at hF2
        obtain rfl : FB = [] := by simpa using hF2
        clear hF2
        have d1 : decide (k + 1 < n) = true := by simpa using hk1
        have g1 : (k : Int) < (n : Int) - 1 := by omega
        have g2 : ¬ ((n : Int) = 0) := m2
        have g3 : ((k : Int) == (n : Int) - 1) = false := by simp; omega
        have g4 : ((0 : Int) == (n : Int)) = false := by simp; omega
        cases tw
        · have HN2 := Lib.hid (show stA n t false (k + 1) = (FA, id + 1) from by rw [HNX.out]; rfl)
          clear hG HNX F2 u2 d1 hk1
          obtain ⟨c0, c1, c2, c3, _⟩ := JX.out
          have T1 := Lib.hid (F1.out pl cl wr hcl RL.out)
          go_wp2_with fail
          refine T1.out.mono ?_
          rintro e w1 ⟨va, vb, vc, rfl, hoa, hob, hoc, hb1⟩
          have Hoa1 := Lib.hid (hoa.mono KK.out.size)
          have Hob1 := Lib.hid (hob.mono KK.out.size)
          have Hoc1 := Lib.hid (hoc.mono KK.out.size)
          have K1 := Lib.hid (KK.out.trans (hb1.mono KK.out.size))
          have JX1_ := Lib.hid (JX.out.lift hb1)
          have RL1_ := Lib.hid (RL.out.lift hb1)
          clear T1 hb1 hoa hob hoc KK JX RL
          clear c0 c1 c2 c3
          obtain ⟨p4, q4, rfl, _, hr4, _⟩ := Hob1.out.args
          clear hr4
          clear Hob1 Hoc1 RL1_
          go_wp2
          go_roundw
          case rel => exact ⟨k + 1, by go_num, by omega, by rw [HN2.out]; simp, by rw [HN2.out]; exact Lib.hid Hoa1.out, Lib.hid JX1_.out, K1.out⟩
          case measure => simp [intOf]; omega
        · have HN2 := Lib.hid (show stA n t true (k + 1) = (GA, id + 2) from by rw [HNX.out, d1]; rfl)
          rw [d1] at hG
          obtain ⟨rfl, rfl⟩ : ge = 0 ∧ GB = [] := by simpa using hG
          clear hG HNX d1 hk1
          obtain ⟨c0, c1, c2, c3, _⟩ := JX.out
          have T2 := Lib.hid (F1.out pl cl wr hcl RL.out)
          go_wp2_with fail
          refine T2.out.mono ?_
          rintro e w2 ⟨va, vb, vc, rfl, hoa, hob, hoc, hb2⟩
          have Hoa2 := Lib.hid (hoa.mono KK.out.size)
          have Hob2 := Lib.hid (hob.mono KK.out.size)
          have Hoc2 := Lib.hid (hoc.mono KK.out.size)
          have K2 := Lib.hid (KK.out.trans (hb2.mono KK.out.size))
          have JX2_ := Lib.hid (JX.out.lift hb2)
          have RL2_ := Lib.hid (RL.out.lift hb2)
          clear T2 hb2 hoa hob hoc KK JX RL
          clear c0 c1 c2 c3
          obtain ⟨p3, q3, rfl, hq3, hr3, _⟩ := Hoa2.out.args
          obtain ⟨p4, q4, rfl, _, hr4, _⟩ := Hob2.out.args
          have RA := Lib.hid hr3
          clear hr3 hr4
          clear Hoa2 Hob2 Hoc2 RL2_
          obtain ⟨c0, c1, c2, c3, _⟩ := JX2_.out
          have T3 := Lib.hid (F2.out p3 q3 w2 hq3 RA.out)
          go_wp2_with fail
          refine T3.out.mono ?_
          rintro e w3 ⟨va2, vb2, vc2, rfl, hoa, hob, hoc, hb3⟩
          have Hoa3 := Lib.hid (hoa.mono K2.out.size)
          have Hob3 := Lib.hid (hob.mono K2.out.size)
          have Hoc3 := Lib.hid (hoc.mono K2.out.size)
          have K3 := Lib.hid (K2.out.trans (hb3.mono K2.out.size))
          have JX3_ := Lib.hid (JX2_.out.lift hb3)
          have RA3_ := Lib.hid (RA.out.lift hb3)
          clear T3 hb3 hoa hob hoc K2 JX2_ RA
          clear c0 c1 c2 c3
          obtain ⟨p5, q5, rfl, _, hr5, _⟩ := Hob3.out.args
          clear hr5
          clear Hob3 Hoc3 RA3_
          go_wp2
          go_roundw
          case rel => exact ⟨k + 1, by go_num, by omega, by rw [HN2.out]; simp; try omega, by rw [HN2.out]; exact Lib.hid Hoa3.out, Lib.hid JX3_.out, K3.out⟩
          case measure => simp [intOf]; omega
      · rw [if_neg hk1] at hF2
        have hFl : FB.length = n := by simpa using hF2
        have d1 : decide (k + 1 < n) = false := by simpa using hk1
        have g1 : ¬ (k : Int) < (n : Int) - 1 := by omega
        have g3 : ((k : Int) == (n : Int) - 1) = true := by simp; omega
        have g4 : ((FB.length : Int) == (n : Int)) = true := by simp; omega
        have g5 : ((FB.length : Int) == 0) = false := beq_eq_false_iff_ne.2 (by omega)
        have g6 : ¬ FB = [] := by rintro rfl; simp at hFl; omega
        have HN2 := Lib.hid (show stA n t tw (k + 1) = (FA, id + 1) from by rw [HNX.out, d1, Bool.and_false]; rfl)
        clear hG HNX F2 u2 d1 hk1 hF2 hFl
        cases tw
        · skip
          obtain ⟨c0, c1, c2, c3, _⟩ := JX.out
          have T4 := Lib.hid (F1.out pl cl wr hcl RL.out)
          go_wp2_with fail
          refine T4.out.mono ?_
          rintro e w4 ⟨va, vb, vc, rfl, hoa, hob, hoc, hb4⟩
          have Hoa4 := Lib.hid (hoa.mono KK.out.size)
          have Hob4 := Lib.hid (hob.mono KK.out.size)
          have Hoc4 := Lib.hid (hoc.mono KK.out.size)
          have K4 := Lib.hid (KK.out.trans (hb4.mono KK.out.size))
          have JX4_ := Lib.hid (JX.out.lift hb4)
          have RL4_ := Lib.hid (RL.out.lift hb4)
          clear T4 hb4 hoa hob hoc KK JX RL
          clear c0 c1 c2 c3
          obtain ⟨p4, q4, rfl, _, hr4, _⟩ := Hob4.out.args
          clear hr4
          clear Hob4 Hoc4 RL4_
          go_wp2
          go_roundw
          case rel => exact ⟨k + 1, by go_num, by omega, by rw [HN2.out]; simp, by rw [HN2.out]; exact Lib.hid Hoa4.out, Lib.hid JX4_.out, K4.out⟩
          case measure => simp [intOf]; omega
        · skip
          obtain ⟨c0, c1, c2, c3, _⟩ := JX.out
          have T5 := Lib.hid (F1.out pl cl wr hcl RL.out)
          go_wp2_with fail
          refine T5.out.mono ?_
          rintro e w5 ⟨va, vb, vc, rfl, hoa, hob, hoc, hb5⟩
          have Hoa5 := Lib.hid (hoa.mono KK.out.size)
          have Hob5 := Lib.hid (hob.mono KK.out.size)
          have Hoc5 := Lib.hid (hoc.mono KK.out.size)
          have K5 := Lib.hid (KK.out.trans (hb5.mono KK.out.size))
          have JX5_ := Lib.hid (JX.out.lift hb5)
          have RL5_ := Lib.hid (RL.out.lift hb5)
          clear T5 hb5 hoa hob hoc KK JX RL
          clear c0 c1 c2 c3
          obtain ⟨p4, q4, rfl, _, hr4, _⟩ := Hob5.out.args
          clear hr4
          clear Hob5 Hoc5 RL5_
          go_wp2
          go_roundw
          case rel => exact ⟨k + 1, by go_num, by omega, by rw [HN2.out]; simp, by rw [HN2.out]; exact Lib.hid Hoa5.out, Lib.hid JX5_.out, K5.out⟩
          case measure => simp [intOf]; omega
    · have hge : ¬ (k : Int) < n := by omega
      obtain rfl : k = n := by omega
      have he := EO.out
      unfold endOk at he
      generalize stA k t tw k = S at *
      obtain ⟨L, id⟩ := S
      simp only [beq_iff_eq] at he
      simp only at RL hcl
      cases tw
      · simp only [Bool.false_eq_true, if_false] at he
        have he2 : (L.length : Int) = 0 := by omega
        clear EO SO HPR
        have T6 := Lib.hid (AW.out wr)
        go_wp2_with fail
        refine T6.out.mono ?_
        rintro e w6 ⟨rfl, hb6⟩
        have K6 := Lib.hid (KK.out.trans (hb6.mono KK.out.size))
        clear T6 hb6 KK
        go_wp2
        go_ret
        exact ⟨rfl, K6.out⟩
      · simp only [if_true] at he
        have he2 : (L.length : Int) = (k : Int) - 1 := by omega
        have he3 : ((L.length : Int) == (k : Int) - 1) = true := by simpa using he2
        clear EO SO HPR
        have T7 := Lib.hid (AW.out wr)
        go_wp2_with fail
        refine T7.out.mono ?_
        rintro e w7 ⟨rfl, hb7⟩
        have K7 := Lib.hid (KK.out.trans (hb7.mono KK.out.size))
        clear T7 hb7 KK
        go_wp2
        go_ret
        exact ⟨rfl, K7.out⟩
end Go.Proofs.Ytllojkdacinhfaa.Jn
