/- Layer 11: the walk of WheelAll. -/
import Derived.Test.YtgipohicgbppaaaWhR
namespace Go.Proofs.Ytgipohicgbppaaa
open Go.RowKit Go.Shelf
theorem plL_all (p : Tm → Bool) : ∀ X : List Tm, (∀ x ∈ X, p x = false) → plL p X = X.length
  | [], _ => rfl
  | x :: r, h => by
    unfold plL
    rw [h x (by simp), plL_all p r (fun y hy => h y (by simp [hy]))]
    simp
theorem mayT_time {X : List Tm} (h : mayT X = true) : ∀ x ∈ X, 0 ≤ x.1 ∧ x.1 ≤ 1099511627775 := by
  intro x hx
  unfold mayT at h
  simp at h
  have := h.1.2 x.1 x.2 hx
  unfold timeB at this
  simpa using this
theorem ring_max {X : List Tm} (h : mayT X = true) : ringP X 1099511627775 = ([], X.map (·.2)) := by
  have hl : laterL X 1099511627775 = X.length := plL_all _ _ fun x hx => by
    have := (mayT_time h x hx).2
    simp; omega
  unfold ringP
  rw [hl, h]
  simp
theorem ring_first {x : Tm} {r : List Tm} (h : mayT (x :: r) = true) : ringP (x :: r) (x.1 - 1) = (x :: r, []) := by
  have hl : laterL (x :: r) (x.1 - 1) = 0 := by
    unfold laterL plL
    rw [if_pos (by simp; omega)]
  unfold ringP
  rw [hl, h]
  simp
theorem RdU.map {w : World} {pa : Option Addr} {X : List Tm} (h : RdU w pa (X.map (·.2))) (i : Nat) (hi : i < X.length) : ∃ b o, pa = some ⟨b, o, none⟩ ∧ b < w.heap.size ∧ w.cell? ⟨b, o + i, none⟩ = some (.int .u64 X[i].2) := by
  obtain ⟨b, o, e, hb, hc⟩ := h.at i (by simpa using hi)
  exact ⟨b, o, e, hb, by simpa using hc⟩
theorem next_case {X : List Tm} (h : mayT X = true) : (X.length = 0 ∧ nextP X = ((0, 0), false)) ∨ (X.length ≠ 0 ∧ ∃ x : Tm, nextP X = (x, true) ∧ ringP X (x.1 - 1) = (X, []) ∧ 0 ≤ x.1 ∧ x.1 ≤ 1099511627775) := by
  cases X with
  | nil => exact .inl ⟨rfl, by unfold nextP; split <;> rfl⟩
  | cons x r => exact .inr ⟨by simp, x, by unfold nextP; rw [h]; rfl, ring_first h, mayT_time h x (by simp)⟩
set_option linter.unusedSimpArgs false in
set_option maxHeartbeats 2000000 in
set_option maxRecDepth 100000 in
theorem wheelAll_walk (X : List Tm) (pa : Option Addr) (cap : Nat) (w : World) (hcap : X.length ≤ cap) (hR : Rd w pa X) :
    Calls Try.prog 8 #[.slice pa X.length cap] w fun e w' => e = .returned (.bool true) ∧ Below w.heap.size w w' := by
  have F := Lib.hid (few_any X pa cap w hcap hR)
  have hY : (X.take 121).length ≤ 130 := by rw [List.length_take]; omega
  generalize X.take 121 = Y at *
  have C := Lib.hid (fun pa cap w hR => check_any Y pa cap w hY hR)
  have N := Lib.hid (fun pa cap w hR => next_any Y pa cap w hY hR)
  have R := Lib.hid (fun now pa cap w hc hR hn => ring_any Y pa cap now w hY hc hR hn)
  have A := Lib.hid awake_any
  clear hR
  go_enter Try.func8, Try.ntmps8
  go_wp2_with fail
  refine F.out.mono ?_
  rintro e w1 ⟨v, rfl, ho1, hb1⟩
  obtain ⟨pb, cb, rfl, hcb, hrb, hnb⟩ := own_args ho1
  have K1 := Lib.hid hb1
  have H1 := Lib.hid hrb
  have C1 := Lib.hid (C.out pb cb w1 hrb)
  clear F C hb1 ho1 hrb hcap
  go_wp2_with fail
  cases hm : mayT Y
  · rw [hm] at C1
    refine C1.out.mono ?_
    rintro e w2 ⟨rfl, hb2⟩
    have K2 := Lib.hid (K1.out.trans (hb2.mono K1.out.size))
    have hn : nextP Y = ((0, 0), false) := by unfold nextP; rw [hm]; rfl
    have N2 := Lib.hid (N.out pb cb w2 (H1.out.lift hb2))
    rw [hn] at N2
    clear hb2 hn hm N R C1
    go_wp2_with fail
    refine N2.out.mono ?_
    rintro e w3 ⟨rfl, hb3⟩
    have K3 := Lib.hid (K2.out.trans (hb3.mono K2.out.size))
    clear hb3 N2
    go_wp2_with fail
    refine (A.out _).mono ?_
    rintro e w4 ⟨rfl, hb4⟩
    go_wp2
    go_ret
    have q1 : w.heap.size ≤ w3.heap.size := K3.out.size
    exact ⟨rfl, (K3.out.alloc q1 _).trans (hb4.mono (by simp; omega))⟩
  · rw [hm] at C1
    refine C1.out.mono ?_
    rintro e w2 ⟨rfl, hb2⟩
    have K2 := Lib.hid (K1.out.trans (hb2.mono K1.out.size))
    have H2 := Lib.hid (H1.out.lift hb2)
    have R2 := Lib.hid (R.out 1099511627775 pb cb w2 hcb H2.out hnb)
    rw [ring_max hm] at R2
    have HM := Lib.hid hm
    clear hb2 hm C1 H1
    go_wp2_with fail
    refine R2.out.mono ?_
    rintro e w3 ⟨v3, u3, rfl, o3, ou3, hb3⟩
    obtain ⟨p3, c3, rfl, hc3, hr3, _⟩ := own_args o3
    obtain ⟨q3, d3, rfl, hd3, hru3⟩ := ou3.rd
    have K3 := Lib.hid (K2.out.trans (hb3.mono K2.out.size))
    have H3 := Lib.hid (H2.out.lift hb3)
    have U3 := Lib.hid hru3
    have hlm : (Y.map (·.2)).length = Y.length := List.length_map _
    simp only at hd3
    rw [hlm] at hd3
    have hl0 : (([] : List Tm).length) = 0 := rfl
    have hYi : (Y.length : Int) ≤ 130 := by omega
    clear hb3 o3 ou3 hr3 hru3 R2 H2
    simp only [hlm, hl0]
    go_wp2_with fail
    go_loopw [7] (fun i wx => ∃ k : Nat, i = .int .i64 k ∧ k ≤ Y.length ∧ Below w3.heap.size w3 wx) (fun i _ => Y.length - (intOf i).toNat)
    case atStart => exact ⟨0, rfl, Nat.zero_le _, Below.refl _ _⟩
    case round =>
      obtain ⟨k, rfl, hk, kk⟩ := hrel
      by_cases hlt : k < Y.length
      · obtain ⟨b, o, rfl, hbz, c0, c1⟩ := (H3.out.lift kk).at k hlt
        obtain ⟨b2, o2, rfl, hbz2, d0⟩ := (U3.out.lift kk).map k hlt
        generalize Y[k] = x at *
        obtain ⟨x1, x2⟩ := x
        simp only at c0 c1 d0
        have kd := Lib.hid kk.drew
        have hk0 : (k : Int) < Y.length := by omega
        clear H3 U3 N R A c0
        go_wp2_with fail
        have k1 : (0 : Int) ≤ k := by omega
        have k2 : k < Y.length := hlt
        go_region
        go_wp2
        go_roundw
        case rel => exact ⟨k + 1, by go_num, by omega, kd.out⟩
        case measure => simp [intOf]; omega
      · have hge : (Y.length : Int) ≤ k := by omega
        have K4 := Lib.hid (K3.out.trans (kk.mono K3.out.size))
        have H4 := Lib.hid (H3.out.lift kk)
        have N4 := Lib.hid (N.out pb cb wr H4.out)
        clear kk H3 U3 N
        go_wp2_with fail
        rcases next_case HM.out with ⟨hz, hn⟩ | ⟨hz, x, hn, hr, hx0, hx1⟩
        · rw [hn] at N4
          clear hn
          refine N4.out.mono ?_
          rintro e w5 ⟨rfl, hb5⟩
          have K5 := Lib.hid (K4.out.trans (hb5.mono K4.out.size))
          have hzi : (Y.length : Int) = 0 := by omega
          clear hb5 N4 HM
          go_wp2_with fail
          refine (A.out _).mono ?_
          rintro e w6 ⟨rfl, hb6⟩
          go_wp2
          go_ret
          have q1 : w.heap.size ≤ w5.heap.size := K5.out.size
          exact ⟨rfl, (K5.out.alloc q1 _).trans (hb6.mono (by simp; omega))⟩
        · rw [hn] at N4
          clear hn
          refine N4.out.mono ?_
          rintro e w5 ⟨rfl, hb5⟩
          have K5 := Lib.hid (K4.out.trans (hb5.mono K4.out.size))
          have q1 : w.heap.size ≤ w5.heap.size := K5.out.size
          obtain ⟨x1, x2⟩ := x
          simp only at hr hx0 hx1
          have hba : Below w5.heap.size w5 (w5.alloc (.cells #[.int .i64 x1, .int .u64 x2] 38)) := (Below.refl _ _).alloc (Nat.le_refl _) _
          have H5 := Lib.hid ((H4.out.lift hb5).lift hba)
          have R5 := Lib.hid (R.out (x1 - 1) pb cb _ hcb H5.out hnb)
          rw [hr] at R5
          have ww : wrap64 (x1 - 1) = x1 - 1 := by unfold wrap64; omega
          have K6 := Lib.hid (K5.out.alloc q1 (.cells #[.int .i64 x1, .int .u64 x2] 38))
          clear hb5 N4 HM H4 R hr hba
          go_wp2_with fail
          refine R5.out.mono ?_
          rintro e w7 ⟨v7, u7, rfl, o7, ou7, hb7⟩
          obtain ⟨p7, c7, rfl, hc7, hr7, _⟩ := own_args o7
          obtain ⟨q7, d7, rfl, hd7, hru7⟩ := ou7.rd
          have K7 := Lib.hid (K6.out.trans (hb7.mono K6.out.size))
          have q7' : w.heap.size ≤ w7.heap.size := K7.out.size
          have S7 := Lib.hid (same_any Y Y p7 pb c7 cb w7 (by omega) hr7 (H5.out.lift hb7))
          rw [show decide (Y = Y) = true by simp] at S7
          clear hb7 o7 ou7 hr7 hru7 R5 H5 K5 K6 hd7
          simp only [hl0]
          go_wp2_with fail
          refine S7.out.mono ?_
          rintro e w8 ⟨rfl, hb8⟩
          have K8 := Lib.hid (K7.out.trans (hb8.mono K7.out.size))
          clear hb8 S7
          go_wp2_with fail
          refine (A.out _).mono ?_
          rintro e w9 ⟨rfl, hb9⟩
          have K9 := Lib.hid (K8.out.trans (hb9.mono K8.out.size))
          clear hb9
          go_wp2
          go_ret
          exact ⟨rfl, K9.out⟩
end Go.Proofs.Ytgipohicgbppaaa
