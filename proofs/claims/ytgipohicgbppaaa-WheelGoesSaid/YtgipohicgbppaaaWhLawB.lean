/- Layer 11: the walk of WheelGoes. -/
import Derived.Test.YtgipohicgbppaaaWhApp
namespace Go.Proofs.Ytgipohicgbppaaa
open Go.RowKit Go.Shelf
theorem later_split {a b : Int} (hab : a ≤ b) : ∀ X : List Tm, laterL X b = laterL X a + laterL (X.drop (laterL X a)) b
  | [] => rfl
  | x :: r => by
    have ih := later_split hab r
    unfold laterL at *
    by_cases h : a < x.1
    · have : plL (fun x => decide (a < x.1)) (x :: r) = 0 := by unfold plL; rw [if_pos (by simpa using h)]
      rw [this]; simp
    · have h2 : ¬ b < x.1 := by omega
      have e1 : plL (fun x => decide (a < x.1)) (x :: r) = plL (fun x => decide (a < x.1)) r + 1 := by conv => lhs; unfold plL; rw [if_neg (by simpa using h)]
      have e2 : plL (fun x => decide (b < x.1)) (x :: r) = plL (fun x => decide (b < x.1)) r + 1 := by conv => lhs; unfold plL; rw [if_neg (by simpa using h2)]
      rw [e1, e2, List.drop_succ_cons, ih]
      omega
theorem ring_split {X : List Tm} (h : mayT X = true) {a b : Int} (hab : a ≤ b) : (ringP (ringP X a).1 b).1 = (ringP X b).1 ∧ (ringP X a).2 ++ (ringP (ringP X a).1 b).2 = (ringP X b).2 := by
  have hd : mayT (X.drop (laterL X a)) = true := (mayT_iff _).2 (((mayT_iff _).1 h).sub (List.drop_sublist _ _))
  have e1 : ∀ c, ringP X c = (X.drop (laterL X c), (X.take (laterL X c)).map (·.2)) := fun c => by unfold ringP; rw [h]; rfl
  have e2 : ∀ c, ringP (X.drop (laterL X a)) c = ((X.drop (laterL X a)).drop (laterL (X.drop (laterL X a)) c), ((X.drop (laterL X a)).take (laterL (X.drop (laterL X a)) c)).map (·.2)) := fun c => by unfold ringP; rw [hd]; rfl
  rw [e1 a, e1 b]
  simp only
  rw [e2 b]
  simp only
  have hs := later_split hab X
  rw [hs, List.drop_drop, ← List.map_append, List.take_add]
  exact ⟨rfl, rfl⟩
theorem ringP_len (X : List Tm) (now : Int) : (ringP X now).1.length ≤ X.length ∧ (ringP X now).2.length ≤ X.length := by
  unfold ringP
  split
  · constructor
    · simp
    · simp; omega
  · simp
set_option maxHeartbeats 4000000 in
set_option maxRecDepth 100000 in
theorem wheelGoes_walk (X : List Tm) (pa : Option Addr) (cap : Nat) (a b : Int) (w : World) (hcap : X.length ≤ cap) (hR : Rd w pa X) (_ha0 : -9223372036854775808 ≤ a) (_ha1 : a ≤ 9223372036854775807) (_hb0 : -9223372036854775808 ≤ b) (_hb1 : b ≤ 9223372036854775807) :
    Calls Try.prog 5 #[.slice pa X.length cap, .int .i64 a, .int .i64 b] w fun e w' => e = .returned (.bool true) ∧ Below w.heap.size w w' := by
  have F := Lib.hid (few_any X pa cap w hcap hR)
  have hY : (X.take 121).length ≤ 121 := by rw [List.length_take]; omega
  generalize X.take 121 = Y at *
  have C := Lib.hid (fun pa cap w hR => check_any Y pa cap w (by omega) hR)
  have A := Lib.hid awake_any
  clear hR _ha0 _ha1 _hb0 _hb1
  go_enter Try.func5, Try.ntmps5
  go_wp2_with fail
  refine F.out.mono ?_
  rintro e w1 ⟨v, rfl, ho1, hb1⟩
  obtain ⟨pb, cb, rfl, hcb, hrb, hnb⟩ := own_args ho1
  have K1 := Lib.hid hb1
  have H1 := Lib.hid hrb
  have C1 := Lib.hid (C.out pb cb w1 hrb)
  clear F C hb1 ho1 hrb hcap
  by_cases hab : b < a
  · clear C1
    go_wp2_with fail
    refine (A.out _).mono ?_
    rintro e w2 ⟨rfl, hb2⟩
    have K2 := Lib.hid (K1.out.trans (hb2.mono K1.out.size))
    clear hb2
    go_wp2
    go_ret
    exact ⟨rfl, K2.out⟩
  · cases hm : mayT Y
    · rw [hm] at C1
      go_wp2_with fail
      refine C1.out.mono ?_
      rintro e w2 ⟨rfl, hb2⟩
      have K2 := Lib.hid (K1.out.trans (hb2.mono K1.out.size))
      clear hb2 C1 hm
      go_wp2_with fail
      refine (A.out _).mono ?_
      rintro e w3 ⟨rfl, hb3⟩
      have K3 := Lib.hid (K2.out.trans (hb3.mono K2.out.size))
      clear hb3
      go_wp2
      go_ret
      exact ⟨rfl, K3.out⟩
    · rw [hm] at C1
      have hsp := ring_split hm (show a ≤ b by omega)
      have l1 := ringP_len Y a
      have l2 := ringP_len Y b
      have l3 := ringP_len (ringP Y a).1 b
      have RA := Lib.hid (fun pa cap w hc hR hn => ring_any Y pa cap a w (by omega) hc hR hn)
      have RB := Lib.hid (fun pa cap w hc hR hn => ring_any Y pa cap b w (by omega) hc hR hn)
      have RX := Lib.hid (fun pa cap w hc hR hn => ring_any (ringP Y a).1 pa cap b w (by omega) hc hR hn)
      generalize ringP (ringP Y a).1 b = c2 at *
      generalize ringP Y a = c1 at *
      generalize ringP Y b = c3 at *
      obtain ⟨x, r⟩ := c1
      obtain ⟨y, s⟩ := c2
      obtain ⟨z, t⟩ := c3
      simp only at hsp l1 l2 l3
      obtain ⟨rfl, rfl⟩ := hsp
      have L1 := Lib.hid (And.intro l1 (And.intro l2 l3))
      clear l1 l2 l3 hm
      go_wp2_with fail
      refine C1.out.mono ?_
      rintro e w2 ⟨rfl, hb2⟩
      have K2 := Lib.hid (K1.out.trans (hb2.mono K1.out.size))
      have H2 := Lib.hid (H1.out.lift hb2)
      have T2 := Lib.hid (RA.out pb cb w2 hcb H2.out hnb)
      clear hb2 C1 RA H1
      go_wp2_with fail
      refine T2.out.mono ?_
      rintro e w3 ⟨v3, u3, rfl, o3, ou3, hb3⟩
      obtain ⟨p3, c3, rfl, hc3, hr3, hn3⟩ := own_args o3
      obtain ⟨q3, d3, rfl, hd3, hru3, hnu3⟩ := ownU_args ou3
      have K3 := Lib.hid (K2.out.trans (hb3.mono K2.out.size))
      have H3 := Lib.hid (H2.out.lift hb3)
      have U3 := Lib.hid hru3
      have T3 := Lib.hid (RX.out p3 c3 w3 hc3 hr3 hn3)
      clear hb3 o3 ou3 hr3 hru3 T2 RX H2
      go_wp2_with fail
      refine T3.out.mono ?_
      rintro e w4 ⟨v4, u4, rfl, o4, ou4, hb4⟩
      obtain ⟨p4, c4, rfl, hc4, hr4, hn4⟩ := own_args o4
      obtain ⟨q4, d4, rfl, hd4, hru4, hnu4⟩ := ownU_args ou4
      have K4 := Lib.hid (K3.out.trans (hb4.mono K3.out.size))
      have U4 := Lib.hid (U3.out.lift hb4)
      have V4 := Lib.hid hru4
      have Y4 := Lib.hid hr4
      have T4 := Lib.hid (RB.out pb cb w4 hcb (H3.out.lift hb4) hnb)
      clear hb4 o4 ou4 hr4 hru4 T3 RB H3 U3
      go_wp2_with fail
      refine T4.out.mono ?_
      rintro e w5 ⟨v5, u5, rfl, o5, ou5, hb5⟩
      obtain ⟨p5, c5, rfl, hc5, hr5, hn5⟩ := own_args o5
      obtain ⟨q5, d5, rfl, hd5, hru5, hnu5⟩ := ownU_args ou5
      have K5 := Lib.hid (K4.out.trans (hb5.mono K4.out.size))
      have U5 := Lib.hid (U4.out.lift hb5)
      have V5 := Lib.hid (V4.out.lift hb5)
      have W5 := Lib.hid hru5
      have T5 := Lib.hid (same_any y y p4 p5 c4 c5 w5 (by have := L1.out; omega) (Y4.out.lift hb5) hr5)
      rw [show decide (y = y) = true by simp] at T5
      clear hb5 o5 ou5 hr5 hru5 T4 U4 V4 Y4
      go_wp2_with fail
      refine T5.out.mono ?_
      rintro e w6 ⟨rfl, hb6⟩
      have K6 := Lib.hid (K5.out.trans (hb6.mono K5.out.size))
      have U6 := Lib.hid (U5.out.lift hb6)
      have V6 := Lib.hid (V5.out.lift hb6)
      have W6 := Lib.hid (W5.out.lift hb6)
      clear hb6 T5 U5 V5 W5
      have hba : Below w6.heap.size w6 (w6.alloc (.cells #[] 23)) := (Below.refl _ _).alloc (Nat.le_refl _) _
      have ho0 : OwnU (w6.alloc (.cells #[] 23)) w6.heap.size (.slice (some ⟨w6.heap.size, 0, none⟩) 0 0) [] := by
        refine ⟨rfl, .inr ⟨w6.heap.size, 0, #[], rfl, Nat.le_refl _, ?_, Nat.le_refl _, Nat.zero_le _, rfl, rfl⟩⟩
        show (w6.heap.push _)[w6.heap.size]? = _
        exact Array.getElem?_push_size
      have O0 := Lib.hid ho0
      have U7 := Lib.hid (U6.out.lift hba)
      have hbz : w6.heap.size ≤ (w6.alloc (.cells #[] 23)).heap.size := hba.size
      have B7 := Lib.hid hba
      have hlr : r.length ≤ 121 ∧ s.length ≤ 121 := by have := L1.out; omega
      clear hba ho0 U6
      go_wp2_with (first | (at_builtin; refine wpList_appU rfl (.tmp 46) (.tmp 47) rfl w6.heap.size _ [] r rfl O0.out q3 d3 rfl U7.out hnu3 (by simp; omega) hbz ?_))
      intro v8 w8 o8 hb8
      have B8 := Lib.hid (B7.out.trans hb8)
      have O8 := Lib.hid (show OwnU w8 w6.heap.size v8 r by simpa using o8)
      have V8 := Lib.hid (V6.out.lift B8.out)
      have hbz8 : w6.heap.size ≤ w8.heap.size := B8.out.size
      clear o8 hb8 U7 O0 B7 V6 hbz
      go_wp2_with (first | (at_builtin; refine wpList_appU rfl (.tmp 48) (.tmp 49) rfl w6.heap.size _ r s rfl O8.out q4 d4 rfl V8.out hnu4 (by omega) hbz8 ?_))
      intro v9 w9 o9 hb9
      have B9 := Lib.hid (B8.out.trans hb9)
      obtain ⟨p9, c9, rfl, hc9, hr9, hn9⟩ := ownU_args o9
      have K9 := Lib.hid (K6.out.trans (B9.out.mono K6.out.size))
      have I9 := Lib.hid (idsSame_any (r ++ s) (r ++ s) p9 q5 c9 d5 w9 (by simp; omega) hr9 (W6.out.lift B9.out))
      rw [show decide (r ++ s = r ++ s) = true by simp] at I9
      rw [List.length_append] at I9
      clear o9 hb9 hr9 O8 V8 W6 B8
      go_wp2_with fail
      refine I9.out.mono ?_
      rintro e w10 ⟨rfl, hb10⟩
      have K10 := Lib.hid (K9.out.trans (hb10.mono K9.out.size))
      clear hb10 I9 B9
      go_wp2_with fail
      refine (A.out _).mono ?_
      rintro e w11 ⟨rfl, hb11⟩
      have K11 := Lib.hid (K10.out.trans (hb11.mono K10.out.size))
      clear hb11
      go_wp2
      go_ret
      exact ⟨rfl, K11.out⟩
end Go.Proofs.Ytgipohicgbppaaa
