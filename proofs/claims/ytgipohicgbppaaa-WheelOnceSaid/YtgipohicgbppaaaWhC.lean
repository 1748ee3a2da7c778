/- Layer 11: lists of timers in a world; the first one of which something holds. -/
import Derived.Test.YtgipohicgbppaaaWhB
namespace Go.Proofs.Ytgipohicgbppaaa
open Go.RowKit Go.Shelf
/-- A list of timers, wherever it lies. -/
structure Rd (w : World) (pa : Option Addr) (X : List Tm) : Prop where
  out : X ≠ [] → ∃ b o, pa = some ⟨b, o, none⟩ ∧ b < w.heap.size ∧ ∀ i (h : i < X.length), w.cell? ⟨b, o + i * 2, none⟩ = some (.int .i64 X[i].1) ∧ w.cell? ⟨b, o + i * 2 + 1, none⟩ = some (.int .u64 X[i].2)
theorem Rd.at {w : World} {pa : Option Addr} {X : List Tm} (h : Rd w pa X) (i : Nat) (hi : i < X.length) : ∃ b o, pa = some ⟨b, o, none⟩ ∧ b < w.heap.size ∧ w.cell? ⟨b, o + i * 2, none⟩ = some (.int .i64 X[i].1) ∧ w.cell? ⟨b, o + i * 2 + 1, none⟩ = some (.int .u64 X[i].2) := by
  obtain ⟨b, o, e, hb, hc⟩ := h.out (by intro e; rw [e] at hi; exact absurd hi (by simp))
  exact ⟨b, o, e, hb, (hc i hi).1, (hc i hi).2⟩
theorem Rd.lift {w w' : World} {pa : Option Addr} {X : List Tm} (h : Rd w pa X) (hb : Below w.heap.size w w') : Rd w' pa X := ⟨fun hx => by
  obtain ⟨b, o, e, hlt, hc⟩ := h.out hx
  exact ⟨b, o, e, Nat.lt_of_lt_of_le hlt hb.size, fun i hi => ⟨(hb.cell (p := ⟨b, o + i * 2, none⟩) hlt).trans (hc i hi).1, (hb.cell (p := ⟨b, o + i * 2 + 1, none⟩) hlt).trans (hc i hi).2⟩⟩⟩
theorem Rd.nil (w : World) (pa : Option Addr) : Rd w pa [] := ⟨fun h => absurd rfl h⟩
/-- What a function of the program says of each timer. -/
def PredT (fn : Nat) (lb : Array Value) (p : Tm → Bool) (w0 : World) : Prop := (∀ args w, (callFunc fn args).run Try.prog w = .ok (.enter fn args) w) ∧
  ∀ (x : Tm) (w : World), Below w0.heap.size w0 w → Calls Try.prog fn (#[tmV x] ++ lb) w fun e w' => e = .returned (.bool (p x)) ∧ Below w.heap.size w w'
/-- The place of the first one of which something holds; -1, if there is none. -/
def idxL (p : Tm → Bool) : List Tm → Nat → Int
  | [], _ => -1
  | x :: r, k => if p x then (k : Int) else idxL p r (k + 1)
set_option maxHeartbeats 1000000 in
theorem idxFunc_any (X : List Tm) (pa : Option Addr) (cap fn : Nat) (lb : Array Value) (p : Tm → Bool) (w : World) (hX : X.length ≤ 130) (hR : Rd w pa X) (hp : PredT fn lb p w) :
    Calls Try.prog 40 #[.slice pa X.length cap, .func (.func fn) #[] lb] w fun e w' => e = .returned (.int .i64 (idxL p X 0)) ∧ Below w.heap.size w w' := by
  obtain ⟨V, hV⟩ : ∃ V, V = idxL p X 0 := ⟨_, rfl⟩
  rw [← hV]
  have HV := Lib.hid hV
  have HR := Lib.hid hR
  have eg := hp.1
  have C := Lib.hid hp.2
  have hXi : (X.length : Int) ≤ 130 := by omega
  clear hV hR hp
  go_enter Try.func40, Try.ntmps40
  go_wp2_with fail
  go_loopw [8] (fun i wx => ∃ k : Nat, i = .int .i64 k ∧ k ≤ X.length ∧ idxL p (X.drop k) k = V ∧ Below w.heap.size w wx) (fun i _ => X.length - (intOf i).toNat)
  case atStart => exact ⟨0, rfl, Nat.zero_le _, HV.out.symm, Below.refl _ _⟩
  case round =>
    obtain ⟨k, rfl, hk, hd, kk⟩ := hrel
    by_cases hlt : k < X.length
    · have hlt' : (k : Int) < X.length := by omega
      obtain ⟨b, o, rfl, hbz, c0, c1⟩ := (HR.out.lift kk).at k hlt
      rw [List.drop_eq_getElem_cons hlt] at hd
      generalize X[k] = x at *
      have C2 := Lib.hid (C.out x wr kk)
      obtain ⟨x1, x2⟩ := x
      simp only at c0 c1
      unfold idxL at hd
      cases hpx : p (x1, x2)
      · rw [hpx] at C2 hd
        have Hd := Lib.hid (show idxL p (X.drop (k + 1)) (k + 1) = V from hd)
        clear hd hpx C
        go_wp2_with fail
        refine C2.out.mono ?_
        rintro e w2 ⟨rfl, hb2⟩
        have k2 := kk.trans (hb2.mono kk.size)
        clear hb2
        go_wp2
        go_roundw
        case rel => exact ⟨k + 1, by go_num, by omega, Hd.out, k2⟩
        case measure => simp [intOf]; omega
      · rw [hpx] at C2 hd
        have Hd := Lib.hid (show (k : Int) = V from hd)
        clear hd hpx C
        go_wp2_with fail
        refine C2.out.mono ?_
        rintro e w2 ⟨rfl, hb2⟩
        have k2 := kk.trans (hb2.mono kk.size)
        clear hb2
        go_wp2
        go_ret
        exact ⟨ret_int' Hd.out, k2⟩
    · have hge : (X.length : Int) ≤ k := by omega
      rw [List.drop_eq_nil_of_le (by omega)] at hd
      have Hd := Lib.hid (show (-1 : Int) = V from hd)
      clear hd C
      go_wp2
      go_ret
      exact ⟨ret_int' Hd.out, kk⟩
/-- One box. -/
theorem boxed_cell (w : World) (v : Value) (t : TypeId) {w' : World} (hb : Below (w.alloc (.cells #[v] t)).heap.size (w.alloc (.cells #[v] t)) w') : w'.cell? ⟨w.heap.size, 0, none⟩ = some v :=
  (hb.cell (p := ⟨w.heap.size, 0, none⟩) (by simp)).trans (by simp [go_sem])
theorem find1_any (id : Int) (B : Nat) (x : Tm) (w : World) (hc : w.cell? ⟨B, 0, none⟩ = some (.int .u64 id)) (hB : B < w.heap.size) :
    Calls Try.prog 41 #[tmV x, .pointer (some ⟨B, 0, none⟩)] w fun e w' => e = .returned (.bool (x.2 == id)) ∧ Below w.heap.size w w' := by
  obtain ⟨x1, x2⟩ := x
  have hne : B ≠ w.heap.size := by omega
  have hc2 : (w.alloc (.cells #[.int .i64 x1, .int .u64 x2] 38)).cell? ⟨B, 0, none⟩ = some (.int .u64 id) := by
    rw [World.cell?_alloc_old _ _ _ hne]; exact hc
  by_cases h : x2 = id
  · subst h
    go_enter Try.func41, Try.ntmps41
    go_wp2
    go_ret
    exact ⟨by simp, (Below.refl _ _).alloc (Nat.le_refl _) _⟩
  · have h2 : (x2 == id) = false := by simpa using h
    rw [h2]
    go_enter Try.func41, Try.ntmps41
    go_wp2
    go_ret
    exact ⟨by simp, (Below.refl _ _).alloc (Nat.le_refl _) _⟩
theorem ring1_any (now : Int) (B : Nat) (x : Tm) (w : World) (hc : w.cell? ⟨B, 0, none⟩ = some (.int .i64 now)) (hB : B < w.heap.size) :
    Calls Try.prog 34 #[tmV x, .pointer (some ⟨B, 0, none⟩)] w fun e w' => e = .returned (.bool (decide (now < x.1))) ∧ Below w.heap.size w w' := by
  obtain ⟨x1, x2⟩ := x
  have hne : B ≠ w.heap.size := by omega
  have hc2 : (w.alloc (.cells #[.int .i64 x1, .int .u64 x2] 38)).cell? ⟨B, 0, none⟩ = some (.int .i64 now) := by
    rw [World.cell?_alloc_old _ _ _ hne]; exact hc
  go_enter Try.func34, Try.ntmps34
  go_wp2
  go_ret
  exact ⟨by simp, (Below.refl _ _).alloc (Nat.le_refl _) _⟩
end Go.Proofs.Ytgipohicgbppaaa
