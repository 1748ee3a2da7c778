/- Layer 11: the contracts of At, Next. -/
import Derived.Test.YtgipohicgbppaaaWhM
namespace Go.Proofs.Ytgipohicgbppaaa
open Go.RowKit Go.Shelf
def atR (X : List Tm) (id : Int) : Int × Bool := match X[posL X id]? with
  | some x => (x.1, true)
  | none => (0, false)
def atP (X : List Tm) (id : Int) : Int × Bool := if mayT X then atR X id else (0, false)
theorem hasB_iff (X : List Tm) (id : Int) : hasB X id = true ↔ posL X id < X.length := by unfold hasB; simp
set_option maxHeartbeats 1000000 in
theorem at_any (X : List Tm) (pa : Option Addr) (cap : Nat) (id : Int) (w : World) (hX : X.length ≤ 130) (hR : Rd w pa X) :
    Calls Try.prog 12 #[.slice pa X.length cap, .int .u64 id] w fun e w' => e = .returned (.tuple #[.int .i64 (atP X id).1, .bool (atP X id).2]) ∧ Below w.heap.size w w' := by
  have C := Lib.hid (fun w hR => check_any X pa cap w hX hR)
  have F := Lib.hid (find_any X pa cap id w hX hR)
  have HR := Lib.hid hR
  have hi := idx_pl (fun x => x.2 == id) X 0
  clear hR
  rcases hi with ⟨h1, h2⟩ | ⟨h1, h2⟩
  · rw [h1] at F
    have hh : atP X id = (0, false) := by
      unfold atP atR posL; rw [h2]; simp
    rw [hh]
    clear h1 h2 hh
    go_enter Try.func12, Try.ntmps12
    go_wp2_with fail
    refine F.out.mono ?_
    rintro e w1 ⟨rfl, hb1⟩
    go_wp2
    refine bodyPost_ret (v := .tuple #[_, _]) (by simp [results, Try.results12, go_sem]; exact ⟨rfl, rfl⟩) rfl ?_
    exact ⟨rfl, hb1⟩
  · have hq : posL X id = plL (fun x => x.2 == id) X := rfl
    rw [h1, Nat.zero_add, ← hq] at F
    rw [← hq] at h2
    have hat : atR X id = (X[posL X id].1, true) := by unfold atR; rw [List.getElem?_eq_getElem h2]
    have hqi : ¬ (posL X id : Int) < 0 := by omega
    have hqn : decide ((posL X id : Int) < 0) = false := by simp
    have hV : ∀ r, atP X id = r → r = if mayT X then atR X id else (0, false) := fun r hr => by rw [← hr]; rfl
    rw [hat] at hV
    generalize atP X id = r at *
    have HV := Lib.hid (hV r rfl)
    have hRk := fun (w' : World) (hb : Below w.heap.size w w') => (HR.out.lift hb).at (posL X id) h2
    have HK := Lib.hid hRk
    clear hV hRk hat h1 hq
    generalize posL X id = q at *
    generalize X[q] = x at *
    obtain ⟨x1, x2⟩ := x
    have hqX : (q : Int) < X.length := by omega
    cases hm : mayT X
    · rw [hm] at C HV
      obtain ⟨r1, r2⟩ := r
      obtain ⟨rfl, rfl⟩ : r1 = 0 ∧ r2 = false := by have := HV.out; simp at this; exact this
      clear hm HV HK
      go_enter Try.func12, Try.ntmps12
      go_wp2_with fail
      refine F.out.mono ?_
      rintro e w1 ⟨rfl, hb1⟩
      have C1 := Lib.hid (C.out w1 (HR.out.lift hb1))
      have B1 := Lib.hid hb1
      clear hb1
      go_wp2_with fail
      refine C1.out.mono ?_
      rintro e w2 ⟨rfl, hb2⟩
      have B2 := Lib.hid (B1.out.trans (hb2.mono B1.out.size))
      clear hb2
      go_wp2
      refine bodyPost_ret (v := .tuple #[_, _]) (by simp [results, Try.results12, go_sem]; exact ⟨rfl, rfl⟩) rfl ?_
      exact ⟨rfl, B2.out⟩
    · rw [hm] at C HV
      obtain ⟨r1, r2⟩ := r
      obtain ⟨rfl, rfl⟩ : r1 = x1 ∧ r2 = true := by have := HV.out; simp at this; exact this
      clear hm HV
      go_enter Try.func12, Try.ntmps12
      go_wp2_with fail
      refine F.out.mono ?_
      rintro e w1 ⟨rfl, hb1⟩
      have C1 := Lib.hid (C.out w1 (HR.out.lift hb1))
      have B1 := Lib.hid hb1
      clear hb1
      go_wp2_with fail
      refine C1.out.mono ?_
      rintro e w2 ⟨rfl, hb2⟩
      have B2 := Lib.hid (B1.out.trans (hb2.mono B1.out.size))
      obtain ⟨b, o, rfl, hbz, c0, c1⟩ := HK.out w2 B2.out
      clear hb2 HK
      go_wp2
      refine bodyPost_ret (v := .tuple #[_, _]) (by simp [results, Try.results12, go_sem]; exact ⟨rfl, rfl⟩) rfl ?_
      exact ⟨rfl, B2.out⟩
/-- What Next says. -/
def nextP (X : List Tm) : Tm × Bool := if mayT X then (match X with | x :: _ => (x, true) | [] => ((0, 0), false)) else ((0, 0), false)
set_option maxHeartbeats 1000000 in
theorem next_any (X : List Tm) (pa : Option Addr) (cap : Nat) (w : World) (hX : X.length ≤ 130) (hR : Rd w pa X) :
    Calls Try.prog 18 #[.slice pa X.length cap] w fun e w' => e = .returned (.tuple #[tmV (nextP X).1, .bool (nextP X).2]) ∧ Below w.heap.size w w' := by
  have C := Lib.hid (fun w hR => check_any X pa cap w hX hR)
  have HR := Lib.hid hR
  have hb0 : Below w.heap.size w (w.alloc (.cells #[.int .i64 0, .int .u64 0] 38)) := (Below.refl _ _).alloc (Nat.le_refl _) _
  have z0 : ∀ w', Below (w.alloc (.cells #[.int .i64 0, .int .u64 0] 38)).heap.size (w.alloc (.cells #[.int .i64 0, .int .u64 0] 38)) w' → w'.cell? ⟨w.heap.size, 0, none⟩ = some (.int .i64 0) := fun w' h => (h.cell (p := ⟨w.heap.size, 0, none⟩) (by simp)).trans (by simp [go_sem])
  have z1 : ∀ w', Below (w.alloc (.cells #[.int .i64 0, .int .u64 0] 38)).heap.size (w.alloc (.cells #[.int .i64 0, .int .u64 0] 38)) w' → w'.cell? ⟨w.heap.size, 1, none⟩ = some (.int .u64 0) := fun w' h => (h.cell (p := ⟨w.heap.size, 1, none⟩) (by simp)).trans (by simp [go_sem])
  have zf : ∀ w', Below (w.alloc (.cells #[.int .i64 0, .int .u64 0] 38)).heap.size (w.alloc (.cells #[.int .i64 0, .int .u64 0] 38)) w' → w'.frozen? ⟨w.heap.size, 0, none⟩ = false ∧ w'.frozen? ⟨w.heap.size, 1, none⟩ = false := fun w' h => by
    constructor
    · exact (h.frozen (p := ⟨w.heap.size, 0, none⟩) (by simp)).trans (by simp [go_sem])
    · exact (h.frozen (p := ⟨w.heap.size, 1, none⟩) (by simp)).trans (by simp [go_sem])
  have ZF := Lib.hid zf
  have Z0 := Lib.hid z0
  have Z1 := Lib.hid z1
  have HB := Lib.hid hb0
  have hsz : (w.alloc (.cells #[.int .i64 0, .int .u64 0] 38)).heap.size = w.heap.size + 1 := by simp
  have Hsz := Lib.hid hsz
  clear z0 z1 zf hR hb0 hsz
  cases X with
  | nil =>
    have hn : nextP [] = ((0, 0), false) := by unfold nextP; split <;> rfl
    rw [hn]
    have hl : ([] : List Tm).length = 0 := rfl
    rw [hl]
    clear hn C
    go_enter Try.func18, Try.ntmps18
    go_wp2
    exact bodyPost_ret (v := .tuple #[.agg #[.int .i64 0, .int .u64 0], .bool false]) (by simp [results, Try.results18, go_sem]) rfl ⟨rfl, HB.out⟩
  | cons x r =>
    obtain ⟨b, o, rfl, hbz, c0, c1⟩ := (HR.out).at 0 (by simp)
    have hk : ∀ (w' : World), Below w.heap.size w w' → w'.cell? ⟨b, o, none⟩ = some (.int .i64 x.1) ∧ w'.cell? ⟨b, o + 1, none⟩ = some (.int .u64 x.2) := fun w' hb => by
      refine ⟨(hb.cell (p := ⟨b, o, none⟩) hbz).trans ?_, (hb.cell (p := ⟨b, o + 1, none⟩) hbz).trans ?_⟩
      · simpa using c0
      · simpa using c1
    have HK := Lib.hid hk
    have hl0 : ¬ (((x :: r).length : Nat) : Int) = 0 := by rw [List.length_cons]; omega
    have hl1 : decide ((((x :: r).length : Nat) : Int) = 0) = false := by simpa using hl0
    have hl2 : (0 : Int) < ((x :: r).length : Nat) := by rw [List.length_cons]; omega
    have hl3 : 0 < (x :: r).length := by simp
    have hv : ∀ p, nextP (x :: r) = p → p = if mayT (x :: r) then (x, true) else ((0, 0), false) := fun p hp => by rw [← hp]; rfl
    have C1 := Lib.hid (fun w' hb => C.out w' (HR.out.lift hb))
    have hne : b ≠ w.heap.size := by omega
    clear hk c0 c1 C HR
    generalize nextP (x :: r) = p at *
    generalize (x :: r).length = n at *
    cases hm : mayT (x :: r)
    · have := hv p rfl
      rw [hm] at this C1
      obtain rfl : p = ((0, 0), false) := this
      clear hv hm HK
      go_enter Try.func18, Try.ntmps18
      go_wp2_with fail
      refine (C1.out _ HB.out).mono ?_
      rintro e w2 ⟨rfl, hb2⟩
      have B2 := Lib.hid (HB.out.trans (hb2.mono (by rw [Hsz.out]; omega)))
      have y0 := Z0.out w2 hb2
      have y1 := Z1.out w2 hb2
      obtain ⟨q0, q1⟩ := ZF.out w2 hb2
      clear hb2
      go_wp2
      exact bodyPost_ret (v := .tuple #[.agg #[.int .i64 0, .int .u64 0], .bool false]) (by simp [results, Try.results18, go_sem, y0, y1]) rfl ⟨rfl, (B2.out.setCell (Nat.le_refl _) _).setCell (Nat.le_refl _) _⟩
    · have := hv p rfl
      rw [hm] at this C1
      obtain rfl : p = (x, true) := this
      obtain ⟨x1, x2⟩ := x
      clear hv hm
      go_enter Try.func18, Try.ntmps18
      go_wp2_with fail
      refine (C1.out _ HB.out).mono ?_
      rintro e w2 ⟨rfl, hb2⟩
      have B2 := Lib.hid (HB.out.trans (hb2.mono (by rw [Hsz.out]; omega)))
      have y0 := Z0.out w2 hb2
      have y1 := Z1.out w2 hb2
      obtain ⟨q0, q1⟩ := ZF.out w2 hb2
      obtain ⟨k0, k1⟩ := HK.out w2 B2.out
      try simp only at k0 k1
      clear hb2 HK
      go_wp2
      exact bodyPost_ret (v := .tuple #[.agg #[.int .i64 x1, .int .u64 x2], .bool true]) (by simp [results, Try.results18, go_sem, y0, y1]) rfl ⟨rfl, (B2.out.setCell (Nat.le_refl _) _).setCell (Nat.le_refl _) _⟩
end Go.Proofs.Ytgipohicgbppaaa
