/- Layer 11: the walk of WheelRings. -/
import Derived.Test.YtgipohicgbppaaaWhU
import Derived.Test.YtgipohicgbppaaaWhV
namespace Go.Proofs.Ytgipohicgbppaaa
open Go.RowKit Go.Shelf
theorem later_filter (now : Int) : ∀ X : List Tm, Ups X → X.drop (laterL X now) = X.filter (fun x => decide (now < x.1)) ∧ X.take (laterL X now) = X.filter (fun x => decide (x.1 ≤ now))
  | [], _ => by simp [laterL, plL]
  | x :: r, h => by
    have h' := List.pairwise_cons.1 h
    by_cases hx : now < x.1
    · have e : laterL (x :: r) now = 0 := by unfold laterL plL; rw [if_pos (by simpa using hx)]
      have hall : ∀ y ∈ r, now < y.1 := fun y hy => by have := h'.1 y hy; unfold ltT at this; omega
      rw [e]
      constructor
      · rw [List.drop_zero, Eq.comm, List.filter_eq_self]
        intro y hy
        rcases List.mem_cons.1 hy with rfl | hy
        · simpa using hx
        · simpa using hall y hy
      · rw [List.take_zero, Eq.comm, List.filter_eq_nil_iff]
        intro y hy
        rcases List.mem_cons.1 hy with rfl | hy
        · simp; omega
        · have := hall y hy; simp; omega
    · have e : laterL (x :: r) now = laterL r now + 1 := by unfold laterL; conv => lhs; unfold plL; rw [if_neg (by simpa using hx)]
      obtain ⟨i1, i2⟩ := later_filter now r h'.2
      rw [e, List.drop_succ_cons, List.take_succ_cons, i1, i2, List.filter_cons_of_neg (by simpa using hx), List.filter_cons_of_pos (by simp; omega)]
      exact ⟨rfl, rfl⟩
theorem ring_ref {X : List Tm} (h : mayT X = true) (now : Int) : ringP X now = (X.filter (fun x => decide (now < x.1)), (X.filter (fun x => decide (x.1 ≤ now))).map (·.2)) := by
  obtain ⟨h1, h2⟩ := later_filter now X ((mayT_iff X).1 h).ups
  unfold ringP
  rw [h, if_pos rfl, h1, h2]
theorem ring_not {X : List Tm} (h : mayT X = false) (now : Int) : ringP X now = ([], []) := by unfold ringP; rw [h]; rfl
theorem ringP_len' (X : List Tm) (now : Int) : (ringP X now).1.length ≤ X.length ∧ (ringP X now).2.length ≤ X.length := by
  unfold ringP
  split
  · constructor
    · simp
    · simp; omega
  · simp
set_option maxHeartbeats 4000000 in
set_option maxRecDepth 100000 in
theorem wheelRings_walk (X : List Tm) (pa : Option Addr) (cap : Nat) (now : Int) (w : World) (hcap : X.length ≤ cap) (hR : Rd w pa X) (_h0 : -9223372036854775808 ≤ now) (_h1 : now ≤ 9223372036854775807) :
    Calls Try.prog 4 #[.slice pa X.length cap, .int .i64 now] w fun e w' => e = .returned (.bool true) ∧ Below w.heap.size w w' := by
  have F := Lib.hid (few_any X pa cap w hcap hR)
  have hY : (X.take 121).length ≤ 121 := by rw [List.length_take]; omega
  generalize X.take 121 = Y at *
  have M := Lib.hid (fun pa cap w hR => may_any Y pa cap w (by omega) hR)
  have R := Lib.hid (fun pa cap w hc hR hn => ring_any Y pa cap now w (by omega) hc hR hn)
  have RR := Lib.hid (fun pa cap w hR => rring_any Y pa cap now w (by omega) hR)
  have A := Lib.hid awake_any
  clear hR _h0 _h1
  go_enter Try.func4, Try.ntmps4
  go_wp2_with fail
  refine F.out.mono ?_
  rintro e w1 ⟨v, rfl, ho1, hb1⟩
  obtain ⟨pb, cb, rfl, hcb, hrb, hnb⟩ := own_args ho1
  have K1 := Lib.hid hb1
  have H1 := Lib.hid hrb
  have R1 := Lib.hid (R.out pb cb w1 hcb hrb hnb)
  clear F R hb1 ho1 hrb hcap
  cases hm : mayT Y
  · rw [ring_not hm] at R1
    rw [hm] at M
    clear RR hm
    go_wp2_with fail
    refine R1.out.mono ?_
    rintro e w2 ⟨v2, u2, rfl, o2, ou2, hb2⟩
    obtain ⟨p2, k2, rfl, hc2, hr2, _⟩ := own_args o2
    obtain ⟨q2, d2, rfl, hd2, hru2, _⟩ := ownU_args ou2
    have K2 := Lib.hid (K1.out.trans (hb2.mono K1.out.size))
    have M2 := Lib.hid (M.out pb cb w2 (H1.out.lift hb2))
    clear hb2 o2 ou2 hr2 hru2 R1 M H1
    go_wp2_with fail
    refine M2.out.mono ?_
    rintro e w3 ⟨rfl, hb3⟩
    have K3 := Lib.hid (K2.out.trans (hb3.mono K2.out.size))
    clear hb3 M2
    go_wp2_with fail
    refine (A.out _).mono ?_
    rintro e w4 ⟨rfl, hb4⟩
    have K4 := Lib.hid (K3.out.trans (hb4.mono K3.out.size))
    clear hb4
    go_wp2
    go_ret
    exact ⟨rfl, K4.out⟩
  · have hrr := ring_ref hm now
    rw [← hrr] at RR
    rw [hm] at M
    have hl := ringP_len' Y now
    clear hm hrr
    generalize ringP Y now = p at *
    obtain ⟨x, r⟩ := p
    simp only at hl
    have L := Lib.hid hl
    clear hl
    go_wp2_with fail
    refine R1.out.mono ?_
    rintro e w2 ⟨v2, u2, rfl, o2, ou2, hb2⟩
    obtain ⟨p2, k2, rfl, hc2, hr2, _⟩ := own_args o2
    obtain ⟨q2, d2, rfl, hd2, hru2, _⟩ := ownU_args ou2
    have K2 := Lib.hid (K1.out.trans (hb2.mono K1.out.size))
    have H2 := Lib.hid (H1.out.lift hb2)
    have X2 := Lib.hid hr2
    have U2 := Lib.hid hru2
    have M2 := Lib.hid (M.out pb cb w2 H2.out)
    clear hb2 o2 ou2 hr2 hru2 R1 M H1
    go_wp2_with fail
    refine M2.out.mono ?_
    rintro e w3 ⟨rfl, hb3⟩
    have K3 := Lib.hid (K2.out.trans (hb3.mono K2.out.size))
    have X3 := Lib.hid (X2.out.lift hb3)
    have U3 := Lib.hid (U2.out.lift hb3)
    have RR3 := Lib.hid (RR.out pb cb w3 (H2.out.lift hb3))
    clear hb3 M2 H2 X2 U2 RR
    go_wp2_with fail
    refine RR3.out.mono ?_
    rintro e w4 ⟨v4, u4, rfl, o4, ou4, hb4⟩
    obtain ⟨p4, k4, rfl, hc4, hr4, _⟩ := own_args o4
    obtain ⟨q4, d4, rfl, hd4, hru4, _⟩ := ownU_args ou4
    have K4 := Lib.hid (K3.out.trans (hb4.mono K3.out.size))
    have U4 := Lib.hid (U3.out.lift hb4)
    have V4 := Lib.hid hru4
    have S4 := Lib.hid (same_any x x p2 p4 k2 k4 w4 (by have := L.out; omega) (X3.out.lift hb4) hr4)
    rw [show decide (x = x) = true by simp] at S4
    clear hb4 o4 ou4 hr4 hru4 RR3 X3 U3
    go_wp2_with fail
    refine S4.out.mono ?_
    rintro e w5 ⟨rfl, hb5⟩
    have K5 := Lib.hid (K4.out.trans (hb5.mono K4.out.size))
    have S5 := Lib.hid (idsSame_any r r q2 q4 d2 d4 w5 (by have := L.out; omega) (U4.out.lift hb5) (V4.out.lift hb5))
    rw [show decide (r = r) = true by simp] at S5
    clear hb5 S4 U4 V4
    go_wp2_with fail
    refine S5.out.mono ?_
    rintro e w6 ⟨rfl, hb6⟩
    have K6 := Lib.hid (K5.out.trans (hb6.mono K5.out.size))
    clear hb6 S5
    go_wp2_with fail
    refine (A.out _).mono ?_
    rintro e w7 ⟨rfl, hb7⟩
    have K7 := Lib.hid (K6.out.trans (hb7.mono K6.out.size))
    clear hb7
    go_wp2
    go_ret
    exact ⟨rfl, K7.out⟩
end Go.Proofs.Ytgipohicgbppaaa
