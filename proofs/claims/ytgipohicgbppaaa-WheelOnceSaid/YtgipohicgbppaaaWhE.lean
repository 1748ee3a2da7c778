/- Layer 11: timers that rise; where a timer goes. -/
import Derived.Test.YtgipohicgbppaaaWhD
namespace Go.Proofs.Ytgipohicgbppaaa
open Go.RowKit Go.Shelf
def risesL : List Tm → Bool
  | x :: y :: r => decide (ordT x y < 0) && risesL (y :: r)
  | _ => true
def PredO (fn : Nat) (lb : Array Value) (w0 : World) : Prop := (∀ args w, (callFunc fn args).run Try.prog w = .ok (.enter fn args) w) ∧
  ∀ (x y : Tm) (w : World), Below w0.heap.size w0 w → Calls Try.prog fn (#[tmV x, tmV y] ++ lb) w fun e w' => e = .returned (.int .i64 (ordT x y)) ∧ Below w.heap.size w w'
set_option maxRecDepth 100000 in
set_option maxHeartbeats 1000000 in
theorem lrises_any (X : List Tm) (pa : Option Addr) (cap fn : Nat) (lb : Array Value) (w : World) (hX : X.length ≤ 130) (hR : Rd w pa X) (hp : PredO fn lb w) :
    Calls Try.prog 42 #[.slice pa X.length cap, .func (.func fn) #[] lb] w fun e w' => e = .returned (.bool (risesL X)) ∧ Below w.heap.size w w' := by
  obtain ⟨V, hV⟩ : ∃ V, V = risesL X := ⟨_, rfl⟩
  rw [← hV]
  have HV := Lib.hid hV
  have HR := Lib.hid hR
  have eg := hp.1
  have C := Lib.hid hp.2
  have hXi : (X.length : Int) ≤ 130 := by omega
  clear hV hR hp
  go_enter Try.func42, Try.ntmps42
  go_wp2_with fail
  go_loopw [5] (fun i wx => ∃ k : Nat, i = .int .i64 ((k : Int) + 1) ∧ (k + 1 ≤ X.length ∨ k = 0) ∧ risesL (X.drop k) = V ∧ Below w.heap.size w wx) (fun i _ => X.length - (intOf i).toNat)
  case atStart => exact ⟨0, rfl, .inr rfl, HV.out.symm, Below.refl _ _⟩
  case round =>
    obtain ⟨k, rfl, hk, hd, kk⟩ := hrel
    by_cases hlt : k + 1 < X.length
    · have hlt' : (k : Int) + 1 < X.length := by omega
      obtain ⟨b, o, e, hbz, c0, c1⟩ := (HR.out.lift kk).at k (by omega)
      obtain ⟨b2, o2, e2, _, c2, c3⟩ := (HR.out.lift kk).at (k + 1) hlt
      subst e
      obtain ⟨rfl, rfl⟩ : b = b2 ∧ o = o2 := by cases e2; exact ⟨rfl, rfl⟩
      clear e2
      rw [List.drop_eq_getElem_cons (by omega : k < X.length), List.drop_eq_getElem_cons hlt] at hd
      have hd2 : (decide (ordT X[k] X[k + 1] < 0) && risesL (X.drop (k + 1))) = V := by
        rw [List.drop_eq_getElem_cons hlt]; exact hd
      clear hd
      generalize X[k] = x at *
      generalize X[k + 1] = y at *
      obtain ⟨x1, x2⟩ := x
      obtain ⟨y1, y2⟩ := y
      simp only at c0 c1 c2 c3
      have C2 := Lib.hid (fun W hW => C.out (x1, x2) (y1, y2) W hW)
      have kd := kk.drew
      have hbz' : b < wr.drew.heap.size := hbz
      generalize ordT (x1, x2) (y1, y2) = r at *
      have Hd := Lib.hid hd2
      clear hd2 C HV
      go_wp2_with fail
      have k0 : (0 : Int) ≤ k := by omega
      have k1 : (k : Int) < X.length := by omega
      have k2 : k < X.length := by omega
      have k3 : k + 1 < X.length := by omega
      have k4 : (k : Int) ≤ 130 := by omega
      have k5 : (k : Int) + 1 < X.length := by omega
      have k6 : (0 : Int) ≤ (k : Int) + 1 := by omega
      have w3 : wrap64 (k : Int) = k := by unfold wrap64; omega
      have w4 : IntKind.i64.wrap (k : Int) = k := IntWalk.i64_in _ (by omega)
      have k7 : ((k : Int) + 1).toNat = k + 1 := by omega
      have w1 : wrap64 ((k : Int) + 1 - 1) = k := by unfold wrap64; omega
      have w2 : IntKind.i64.wrap ((k : Int) + 1 - 1) = k := by rw [show (k : Int) + 1 - 1 = k by omega]; exact IntWalk.i64_in _ (by omega)
      go_region_held3 (fun w' => w'.cell? ⟨b, o + k * 2, none⟩ = some (.int .i64 x1) ∧ w'.cell? ⟨b, o + k * 2 + 1, none⟩ = some (.int .u64 x2) ∧ w'.cell? ⟨b, o + (k + 1) * 2, none⟩ = some (.int .i64 y1) ∧ w'.cell? ⟨b, o + (k + 1) * 2 + 1, none⟩ = some (.int .u64 y2)) (first | (exact ⟨c0, c1, c2, c3⟩) | (exact ⟨(hb1.cell (p := ⟨b, o + k * 2, none⟩) hbz').trans c0, (hb1.cell (p := ⟨b, o + k * 2 + 1, none⟩) hbz').trans c1, (hb1.cell (p := ⟨b, o + (k + 1) * 2, none⟩) hbz').trans c2, (hb1.cell (p := ⟨b, o + (k + 1) * 2 + 1, none⟩) hbz').trans c3⟩)) (first | (go_at_fn fn; refine (C2.out _ kd).mono ?_; rintro e w1 ⟨rfl, hb1⟩))
      have kw := kd.trans (hb1.mono kd.size)
      clear hb1 kd hbz' C2
      by_cases hr : 0 ≤ r
      · have hv : V = false := by
          have := Hd.out
          rw [show decide (r < 0) = false by simp; omega, Bool.false_and] at this
          exact this.symm
        subst hv
        clear Hd
        go_wp2
        go_ret
        exact ⟨rfl, kw⟩
      · have hv : risesL (X.drop (k + 1)) = V := by
          have := Hd.out
          rwa [show decide (r < 0) = true by simp; omega, Bool.true_and] at this
        have Hv := Lib.hid hv
        clear hv Hd
        go_wp2
        go_roundw
        case rel => exact ⟨k + 1, by go_num, .inl (by omega), Hv.out, kw⟩
        case measure => simp [intOf]; omega
    · have hge : (X.length : Int) ≤ (k : Int) + 1 := by omega
      have hv : V = true := by
        rw [← hd]
        cases e : X.drop k with
        | nil => rfl
        | cons x r =>
          have h1 := congrArg List.length e
          rw [List.length_drop] at h1
          have h2 : r = [] := List.eq_nil_of_length_eq_zero (by simp at h1; omega)
          rw [h2]; rfl
      subst hv
      clear hd HV
      go_wp2
      go_ret
      exact ⟨rfl, kk⟩
theorem inOrder_any (X : List Tm) (pa : Option Addr) (cap : Nat) (w : World) (hX : X.length ≤ 130) (hR : Rd w pa X) :
    Calls Try.prog 30 #[.slice pa X.length cap, ordV] w fun e w' => e = .returned (.bool (risesL X)) ∧ Below w.heap.size w w' := by
  have hR2 : Rd (w.alloc (.cells #[ordV] 57)) pa X := hR.lift ((Below.refl _ _).alloc (Nat.le_refl _) _)
  have hp : PredO 43 #[.pointer (some ⟨w.heap.size, 0, none⟩)] (w.alloc (.cells #[ordV] 57)) :=
    ⟨enters_of Try.func43 (by kernel_rfl) rfl, fun x y w' hb => inOrder1_any w.heap.size x y w' (boxed_cell _ _ _ hb) (by have := hb.size; simp at this; omega)⟩
  have C := Lib.hid (lrises_any X pa cap _ _ _ hX hR2 hp)
  clear hR hR2 hp
  go_enter Try.func30, Try.ntmps30
  go_wp2_with fail
  refine C.out.mono ?_
  rintro e w2 ⟨rfl, hb2⟩
  go_wp2
  go_ret
  exact ⟨rfl, ((Below.refl _ _).alloc (Nat.le_refl _) _).trans (hb2.mono (by simp))⟩
theorem isTime_any (a : Int) (w : World) : Calls Try.prog 24 #[.int .i64 a] w fun e w' => e = .returned (.bool (decide (0 ≤ a) && decide (a ≤ 1099511627775))) ∧ w = w' := by
  by_cases h1 : 0 ≤ a
  · by_cases h2 : a ≤ 1099511627775
    · go_enter Try.func24, Try.ntmps24
      go_wp2
      go_ret
      exact ⟨by simp [h1, h2], rfl⟩
    · go_enter Try.func24, Try.ntmps24
      go_wp2
      go_ret
      exact ⟨by simp [h2], rfl⟩
  · go_enter Try.func24, Try.ntmps24
    go_wp2
    go_ret
    exact ⟨by simp; omega, rfl⟩
/-- Where a timer goes among others. -/
def goesL (X : List Tm) (t : Tm) : Nat := plL (fun x => decide (0 < ordT x t)) X
theorem place_any (X : List Tm) (pa : Option Addr) (cap : Nat) (t : Tm) (w : World) (hX : X.length ≤ 130) (hR : Rd w pa X) :
    Calls Try.prog 26 #[.slice pa X.length cap, tmV t, ordV] w fun e w' => e = .returned (.int .i64 (goesL X t)) ∧ Below w.heap.size w w' := by
  obtain ⟨t1, t2⟩ := t
  have hb0 : Below w.heap.size w ((w.alloc (.cells #[.int .i64 t1, .int .u64 t2] 38)).alloc (.cells #[ordV] 57)) := ((Below.refl _ _).alloc (Nat.le_refl _) _).alloc (by simp) _
  have hR2 := hR.lift hb0
  have hp : PredT 36 #[.pointer (some ⟨w.heap.size + 1, 0, none⟩), .pointer (some ⟨w.heap.size, 0, none⟩)] (fun x => decide (0 < ordT x (t1, t2))) ((w.alloc (.cells #[.int .i64 t1, .int .u64 t2] 38)).alloc (.cells #[ordV] 57)) :=
    ⟨enters_of Try.func36 (by kernel_rfl) rfl, fun x w' hb => place1_any (t1, t2) (w.heap.size + 1) w.heap.size x w'
      ((hb.cell (p := ⟨w.heap.size + 1, 0, none⟩) (by simp)).trans (by simp [go_sem])) ((hb.cell (p := ⟨w.heap.size, 0, none⟩) (by simp; omega)).trans (by simp [go_sem])) ((hb.cell (p := ⟨w.heap.size, 1, none⟩) (by simp; omega)).trans (by simp [go_sem]))
      (by have := hb.size; simp at this; omega) (by have := hb.size; simp at this; omega)⟩
  have C := Lib.hid (lplace_any X pa cap _ _ _ _ hX hR2 hp)
  clear hR hR2 hp
  have hV : plL (fun x => decide (0 < ordT x (t1, t2))) X = goesL X (t1, t2) := rfl
  rw [hV] at C
  clear hV
  generalize goesL X (t1, t2) = q at *
  go_enter Try.func26, Try.ntmps26
  go_wp2_with fail
  refine C.out.mono ?_
  rintro e w2 ⟨rfl, hb2⟩
  go_wp2
  go_ret
  exact ⟨rfl, hb0.trans (hb2.mono (by simp; omega))⟩
end Go.Proofs.Ytgipohicgbppaaa
