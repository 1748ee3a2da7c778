/- Layer 9: what may wait; the program's Check. -/
import Derived.Test.YtllojkdacinhfaaJnC
import Derived.Test.YtllojkdacinhfaaLsReg
namespace Go.Proofs.Ytllojkdacinhfaa.Jn
open Go.RowKit Go.Shelf Go.Proofs.Ytllojkdacinhfaa Go.Proofs.Ytllojkdacinhfaa.Ke
set_option linter.unusedVariables false
set_option linter.unusedSimpArgs false
/-- A pattern in a box. -/
structure Jx (w : World) (b : Nat) (k : ByteArray) (p n v : Int) : Prop where
  c0 : w.cell? ⟨b, 0, none⟩ = some (.string k)
  c1 : w.cell? ⟨b, 1, none⟩ = some (.int .i64 p)
  c2 : w.cell? ⟨b, 2, none⟩ = some (.int .i64 n)
  c3 : w.cell? ⟨b, 3, none⟩ = some (.int .i64 v)
  lt : b < w.heap.size
theorem Jx.lift {w w' : World} {b : Nat} {k : ByteArray} {p n v : Int} (h : Jx w b k p n v) (hb : Below w.heap.size w w') : Jx w' b k p n v :=
  ⟨(hb.cell (p := ⟨b, 0, none⟩) h.lt).trans h.c0, (hb.cell (p := ⟨b, 1, none⟩) h.lt).trans h.c1, (hb.cell (p := ⟨b, 2, none⟩) h.lt).trans h.c2, (hb.cell (p := ⟨b, 3, none⟩) h.lt).trans h.c3, Nat.lt_of_lt_of_le h.lt hb.size⟩
theorem Jx.new (w : World) (k : ByteArray) (p n v : Int) : Jx (jBox w k p n v) w.heap.size k p n v :=
  ⟨by simp [go_sem], by simp [go_sem], by simp [go_sem], by simp [go_sem], by simp⟩
theorem wait1_any (x : El) (b : Nat) (k : ByteArray) (p n v : Int) (w : World) (h : Jx w b k p n v) :
    Calls Try.prog 42 #[eV x, .pointer (some ⟨b, 0, none⟩)] w fun e w' => e = .returned (.bool (!keptB p x)) ∧ Below w.heap.size w w' := by
  obtain ⟨x1, x2, x3⟩ := x
  have hb : Below w.heap.size w (w.alloc (.cells #[.int .i64 x1, .int .u64 x2, .int .i64 x3] 27)) := (Below.refl _ _).alloc (Nat.le_refl _) _
  obtain ⟨c0, c1, c2, c3, _⟩ := h.lift hb
  have C := Lib.hid (kept_any k p n v x1 x2 x3 (w.alloc (.cells #[.int .i64 x1, .int .u64 x2, .int .i64 x3] 27)))
  have HB := Lib.hid hb
  clear hb h
  go_enter Try.func42, Try.ntmps42
  go_wp2_with fail
  refine C.out.mono ?_
  rintro e w1 ⟨rfl, hb1⟩
  have K1 := Lib.hid (HB.out.trans (hb1.mono (by simp)))
  clear hb1
  go_wp2
  go_ret
  exact ⟨rfl, K1.out⟩
def okAt (X : List El) (i : Nat) : Bool :=
  !((decide (0 < i) && decide ((X.getD i (0, 0, 0)).2.2 < (X.getD (i - 1) (0, 0, 0)).2.2)) || hasB (X.take i) (X.getD i (0, 0, 0)).2.1)
def waitB (k : ByteArray) (p n : Int) (X : List El) : Bool :=
  decide (X.length < 30) && (X.all (keptB p) && ((List.range X.length).all (okAt X) && (meetL k p n X).isEmpty))
theorem getD_at (X : List El) (i : Nat) (h : i < X.length) : X.getD i (0, 0, 0) = X[i] := by rw [List.getD_eq_getElem?_getD, List.getElem?_eq_getElem h]; rfl
theorem okAt_zero (X : List El) (h : 0 < X.length) : okAt X 0 = !hasB (X.take 0) X[0].2.1 := by unfold okAt; rw [getD_at X 0 h]; simp
theorem okAt_succ (X : List El) (m : Nat) (h : m + 1 < X.length) : okAt X (m + 1) = !(decide (X[m + 1].2.2 < X[m].2.2) || hasB (X.take (m + 1)) X[m + 1].2.1) := by
  unfold okAt
  rw [getD_at X (m + 1) h, show m + 1 - 1 = m by omega, getD_at X m (by omega)]
  simp
def okUp (X : List El) (k : Nat) : Prop := ∀ i < k, okAt X i = true
theorem okUp_succ {X : List El} {k : Nat} (h : okUp X k) (h2 : okAt X k = true) : okUp X (k + 1) := fun i hi => by
  by_cases e : i = k
  · rw [e]; exact h2
  · exact h i (by omega)
theorem okUp_all {X : List El} (h : okUp X X.length) : (List.range X.length).all (okAt X) = true := by
  rw [List.all_eq_true]
  intro i hi
  exact h i (List.mem_range.1 hi)
theorem okUp_not {X : List El} {i : Nat} (hi : i < X.length) (h : okAt X i = false) : (List.range X.length).all (okAt X) = false := by
  cases e : (List.range X.length).all (okAt X)
  · rfl
  · rw [List.all_eq_true] at e
    rw [e i (List.mem_range.2 hi)] at h
    cases h
theorem any_not_all {α : Type} (q : α → Bool) (X : List α) : X.any (fun x => !q x) = !X.all q := by
  induction X with
  | nil => rfl
  | cons x X ih => rw [List.any_cons, List.all_cons, ih]; cases q x <;> simp
set_option maxHeartbeats 4000000 in
set_option maxRecDepth 100000 in
theorem wait_any (X : List El) (pa : Option Addr) (cap : Nat) (k : ByteArray) (p n v : Int) (w : World) (hm : mayB (k, p, n, v) = true) (hX : X.length ≤ 7000) (hcap : X.length ≤ cap) (hR : Rd w pa X) :
    Calls Try.prog 30 #[jV (k, p, n, v), .slice pa X.length cap] w fun e w' => e = .returned (.bool (waitB k p n X)) ∧ Below w.heap.size w w' := by
  obtain ⟨V, hV⟩ : ∃ V, V = waitB k p n X := ⟨_, rfl⟩
  rw [← hV]
  unfold waitB at hV
  have HB := Lib.hid (jBelow w k p n v)
  by_cases h30 : X.length < 30
  · have h30i : ¬ 30 ≤ (X.length : Int) := by omega
    have hP : Pred 42 #[.pointer (some ⟨w.heap.size, 0, none⟩)] (fun x => !keptB p x) X (jBox w k p n v) :=
      ⟨fun args W => by simp [go_sem], fun x _ W hW => wait1_any x w.heap.size k p n v W ((Jx.new w k p n v).lift hW)⟩
    have C := contains_any X pa cap 42 #[.pointer (some ⟨w.heap.size, 0, none⟩)] (fun x => !keptB p x) _ hX (hR.lift HB.out) hP
    rw [any_not_all] at C
    have HC := Lib.hid C
    have HM := Lib.hid (fun W hr => meeting_any X pa cap k p n v W hm hX hr)
    have HR := Lib.hid hR
    have J0 := Lib.hid (fun w' (h : Below (w.heap.size + 1) (jBox w k p n v) w') => (Jx.new w k p n v).lift (w' := w') (by simpa using h))
    clear C hP hR
    cases hq : X.all (keptB p)
    · obtain rfl : V = false := by rw [hV, hq]; simp
      rw [hq] at HC
      clear hV HM hq
      go_enter Try.func30, Try.ntmps30
      go_wp2_with fail
      refine HC.out.mono ?_
      rintro e w1 ⟨rfl, hb1⟩
      have K1 := Lib.hid (HB.out.trans (hb1.mono (by simp)))
      clear hb1 HC J0
      go_wp2
      go_ret
      exact ⟨rfl, K1.out⟩
    · rw [hq] at HC
      have HV := Lib.hid (show V = ((List.range X.length).all (okAt X) && (meetL k p n X).isEmpty) by rw [hV, hq]; simp [h30])
      clear hV hq
      go_enter Try.func30, Try.ntmps30
      go_wp2_with fail
      refine HC.out.mono ?_
      rintro e w1 ⟨rfl, hb1⟩
      have K1 := Lib.hid (HB.out.trans (hb1.mono (by simp)))
      have B1 := Lib.hid (hb1.mono (show w.heap.size + 1 ≤ _ by simp))
      clear hb1 HC
      go_wp2_with fail
      go_loopw [17] (fun i wx => ∃ q : Nat, i = .int .i64 q ∧ q ≤ X.length ∧ Hid (okUp X q) ∧ Below (w.heap.size + 1) (jBox w k p n v) wx) (fun i _ => X.length - (intOf i).toNat)
      case atStart => exact ⟨0, rfl, Nat.zero_le _, Lib.hid (fun i hi => absurd hi (Nat.not_lt_zero _)), B1.out⟩
      case round =>
        obtain ⟨q, rfl, hq, hok, kk⟩ := hrel
        clear K1 B1
        have kw := HB.out.trans (kk.mono (by omega))
        by_cases hlt : q < X.length
        · have hlt' : (q : Int) < X.length := by omega
          obtain ⟨b, o, rfl, hbz, c0, c1, c2⟩ := (HR.out.lift kw).at q hlt
          have hal : Below wr.heap.size wr (wr.alloc (.cells #[.int .i64 X[q].1, .int .u64 X[q].2.1, .int .i64 X[q].2.2] 27)).drew := ((Below.refl _ _).alloc (Nat.le_refl _) _).drew
          have hlen : (X.take q).length = q := by rw [List.length_take]; omega
          have C := hasId_any (X.take q) (some ⟨b, o, none⟩) cap X[q].2.1 (wr.alloc (.cells #[.int .i64 X[q].1, .int .u64 X[q].2.1, .int .i64 X[q].2.2] 27)).drew (by omega) (((HR.out.lift kw).lift hal).take q)
          rw [hlen] at C
          have hz0 := okAt_zero X
          have hz1 := okAt_succ X
          have KA := Lib.hid (kk.trans (hal.mono (by have := kk.size; simp at this; omega)))
          have KW := Lib.hid (kw.trans (hal.mono kw.size))
          have hsz : (wr.alloc (.cells #[.int .i64 X[q].1, .int .u64 X[q].2.1, .int .i64 X[q].2.2] 27)).drew.heap.size = wr.heap.size + 1 := by simp
          rw [hsz] at C
          cases q with
          | zero =>
            have hz := hz0 hlt
            clear hz0 hz1
            generalize X[0] = x at *
            obtain ⟨x1, x2, x3⟩ := x
            simp only at c0 c1 c2 C hz KA KW
            simp only [Nat.zero_mul, Nat.add_zero] at c0 c1 c2
            generalize hasB (X.take 0) x2 = hb0 at *
            have HC := Lib.hid C
            have HZ := Lib.hid hz
            clear C hz hlen hal
            have hks : w.heap.size + 1 ≤ wr.heap.size := by have := kk.size; simp at this; omega
            have d1 : (wr.alloc (.cells #[.int .i64 x1, .int .u64 x2, .int .i64 x3] 27)).cell? ⟨wr.heap.size, 1, none⟩ = some (.int .u64 x2) := by simp [go_sem]
            have d2 : (wr.alloc (.cells #[.int .i64 x1, .int .u64 x2, .int .i64 x3] 27)).cell? ⟨wr.heap.size, 2, none⟩ = some (.int .i64 x3) := by simp [go_sem]
            have hcz : 0 ≤ cap := Nat.zero_le _
            clear HM hcap
            cases hb0
            · have Hok := Lib.hid (show okUp X 1 from okUp_succ hok.out (by rw [HZ.out]; rfl))
              clear hok HZ
              go_wp2_with fail
              refine wp_region_held_drew (S := fun w' => w'.cell? ⟨wr.heap.size, 1, none⟩ = some (.int .u64 x2) ∧ w'.cell? ⟨wr.heap.size, 2, none⟩ = some (.int .i64 x3)) (by kernel_rfl) ⟨d1, d2⟩ (fun hHeld => ?_)
              refine rgTake (i := 0) (v := ?_) rfl rfl (by kernel_rfl) (by kernel_rfl) (by kernel_rfl) (fun _ _ _ h => h) (Or.inl ⟨by kernel_rfl, ?_⟩) hHeld ?_
              rotate_left
              · intro w hSw
                obtain ⟨hSw0, hSw1⟩ := hSw
                go_simp
                try with_reducible rfl
              simp only [List.set_cons_zero, List.set_cons_succ]
              refine rgTake (i := 1) (v := ?_) rfl rfl (by kernel_rfl) (by kernel_rfl) (by kernel_rfl) (fun _ _ _ h => h) (Or.inl ⟨by kernel_rfl, ?_⟩) hHeld ?_
              rotate_left
              · intro w hSw
                obtain ⟨hSw0, hSw1⟩ := hSw
                go_simp
                try with_reducible rfl
              simp only [List.set_cons_zero, List.set_cons_succ]
              refine rgTake (i := 2) (v := ?_) rfl rfl (by kernel_rfl) (by kernel_rfl) (by kernel_rfl) (fun _ _ _ h => h) (Or.inl ⟨by kernel_rfl, ?_⟩) hHeld ?_
              rotate_left
              · intro w hSw
                obtain ⟨hSw0, hSw1⟩ := hSw
                go_simp
                try with_reducible rfl
              simp only [List.set_cons_zero, List.set_cons_succ]
              refine rgTake (i := 3) (v := undef) rfl rfl (by kernel_rfl) (by kernel_rfl) (by kernel_rfl) (fun _ _ _ h => h) (Or.inr ⟨by kernel_rfl, rfl⟩) hHeld ?_
              simp only [List.set_cons_zero, List.set_cons_succ]
              refine rgTake (i := 4) (v := undef) rfl rfl (by kernel_rfl) (by kernel_rfl) (by kernel_rfl) (fun _ _ _ h => h) (Or.inr ⟨by kernel_rfl, rfl⟩) hHeld ?_
              simp only [List.set_cons_zero, List.set_cons_succ]
              refine rgTake (i := 5) (v := undef) rfl rfl (by kernel_rfl) (by kernel_rfl) (by kernel_rfl) (fun _ _ _ h => h) (Or.inr ⟨by kernel_rfl, rfl⟩) hHeld ?_
              simp only [List.set_cons_zero, List.set_cons_succ]
              refine rgTake (i := 6) (v := undef) rfl rfl (by kernel_rfl) (by kernel_rfl) (by kernel_rfl) (fun _ _ _ h => h) (Or.inr ⟨by kernel_rfl, rfl⟩) hHeld ?_
              simp only [List.set_cons_zero, List.set_cons_succ]
              refine rgTake (i := 7) (v := undef) rfl rfl (by kernel_rfl) (by kernel_rfl) (by kernel_rfl) (fun _ _ _ h => h) (Or.inr ⟨by kernel_rfl, rfl⟩) hHeld ?_
              simp only [List.set_cons_zero, List.set_cons_succ]
              refine rgTake (i := 8) (v := undef) rfl rfl (by kernel_rfl) (by kernel_rfl) (by kernel_rfl) (fun _ _ _ h => h) (Or.inr ⟨by kernel_rfl, rfl⟩) hHeld ?_
              simp only [List.set_cons_zero, List.set_cons_succ]
              refine rgTake (i := 9) (v := undef) rfl rfl (by kernel_rfl) (by kernel_rfl) (by kernel_rfl) (fun _ _ _ h => h) (Or.inr ⟨by kernel_rfl, rfl⟩) hHeld ?_
              simp only [List.set_cons_zero, List.set_cons_succ]
              refine rgTake (i := 10) (v := undef) rfl rfl (by kernel_rfl) (by kernel_rfl) (by kernel_rfl) (fun _ _ _ h => h) (Or.inr ⟨by kernel_rfl, rfl⟩) hHeld ?_
              simp only [List.set_cons_zero, List.set_cons_succ]
              refine rgTake (i := 11) (v := undef) rfl rfl (by kernel_rfl) (by kernel_rfl) (by kernel_rfl) (fun _ _ _ h => h) (Or.inr ⟨by kernel_rfl, rfl⟩) hHeld ?_
              simp only [List.set_cons_zero, List.set_cons_succ]
              refine rgTake (i := 12) (v := ?_) rfl rfl (by kernel_rfl) (by kernel_rfl) (by kernel_rfl) (fun _ _ _ h => h) (Or.inl ⟨by kernel_rfl, ?_⟩) hHeld ?_
              rotate_left
              · intro w hSw
                obtain ⟨hSw0, hSw1⟩ := hSw
                go_simp
                try with_reducible rfl
              simp only [List.set_cons_zero, List.set_cons_succ]
              refine rgTake (i := 13) (v := ?_) rfl rfl (by kernel_rfl) (by kernel_rfl) (by kernel_rfl) (fun _ _ _ h => h) (Or.inl ⟨by kernel_rfl, ?_⟩) hHeld ?_
              rotate_left
              · intro w hSw
                obtain ⟨hSw0, hSw1⟩ := hSw
                go_simp
                try with_reducible rfl
              simp only [List.set_cons_zero, List.set_cons_succ]
              refine rgTake (i := 14) (v := ?_) rfl rfl (by kernel_rfl) (by kernel_rfl) (by kernel_rfl) (fun _ _ _ h => h) (Or.inl ⟨by kernel_rfl, ?_⟩) hHeld ?_
              rotate_left
              · intro w hSw
                obtain ⟨hSw0, hSw1⟩ := hSw
                go_simp
                try with_reducible rfl
              simp only [List.set_cons_zero, List.set_cons_succ]
              refine rgTake (i := 15) (v := ?_) rfl rfl (by kernel_rfl) (by kernel_rfl) (by kernel_rfl) (fun _ _ _ h => h) (Or.inl ⟨by kernel_rfl, ?_⟩) hHeld ?_
              rotate_left
              · intro w hSw
                obtain ⟨hSw0, hSw1⟩ := hSw
                go_simp
                try with_reducible rfl
              simp only [List.set_cons_zero, List.set_cons_succ]
              refine rgTake (i := 16) (v := ?_) rfl rfl (by kernel_rfl) (by kernel_rfl) (by kernel_rfl) (fun _ _ _ h => h) (Or.inl ⟨by kernel_rfl, ?_⟩) hHeld ?_
              rotate_left
              · intro w hSw
                obtain ⟨hSw0, hSw1⟩ := hSw
                go_simp
                try with_reducible rfl
              simp only [List.set_cons_zero, List.set_cons_succ]
              refine rgTake (i := 17) (v := ?_) rfl rfl (by kernel_rfl) (by kernel_rfl) (by kernel_rfl) (fun _ _ _ h => h) (Or.inl ⟨by kernel_rfl, ?_⟩) hHeld ?_
              rotate_left
              · intro w hSw
                obtain ⟨hSw0, hSw1⟩ := hSw
                go_simp
                try with_reducible rfl
              simp only [List.set_cons_zero, List.set_cons_succ]
              refine rgTake (i := 18) (v := ?_) rfl rfl (by kernel_rfl) (by kernel_rfl) (by kernel_rfl) (fun _ _ _ h => h) (Or.inl ⟨by kernel_rfl, ?_⟩) hHeld ?_
              rotate_left
              · intro w hSw
                obtain ⟨hSw0, hSw1⟩ := hSw
                go_simp
                try with_reducible rfl
              simp only [List.set_cons_zero, List.set_cons_succ]
              refine wpAnyH_ready (rs := [19]) (by kernel_rfl) (by simp) ?_
              refine AllReadyH.cons rfl (fun KK hK => ?_) AllReadyH.nil
              go_simp
              refine (HC.out).mono ?_
              rintro e w1 ⟨rfl, hb1⟩
              show KK _ w1
              refine hK.out _ _ ⟨(hb1.cell (p := ⟨wr.heap.size, 1, none⟩) (by simp)).trans d1, (hb1.cell (p := ⟨wr.heap.size, 2, none⟩) (by simp)).trans d2⟩ (fun hHeld => ?_)
              clear hK KK
              try simp only [Act.put, List.setIfInBounds_toArray, List.set_cons_zero, List.set_cons_succ]
              refine rgTake (i := 20) (v := ?_) rfl rfl (by kernel_rfl) (by kernel_rfl) (by kernel_rfl) (fun _ _ _ h => h) (Or.inl ⟨by kernel_rfl, ?_⟩) hHeld ?_
              rotate_left
              · intro w hSw
                obtain ⟨hSw0, hSw1⟩ := hSw
                go_simp
                try with_reducible rfl
              simp only [List.set_cons_zero, List.set_cons_succ]
              refine wpAnyH_done (by kernel_rfl) ?_ _
              have kx := KA.out.trans (hb1.mono (by omega))
              clear hb1
              go_wp2
              go_roundw
              case rel => exact ⟨1, by go_num, by omega, Hok, kx⟩
              case measure => simp [intOf]; omega
            · obtain rfl : V = false := by rw [HV.out, okUp_not hlt HZ.out]; rfl
              clear hok HZ HV
              go_wp2_with fail
              refine wp_region_held_drew (S := fun w' => w'.cell? ⟨wr.heap.size, 1, none⟩ = some (.int .u64 x2) ∧ w'.cell? ⟨wr.heap.size, 2, none⟩ = some (.int .i64 x3)) (by kernel_rfl) ⟨d1, d2⟩ (fun hHeld => ?_)
              refine rgTake (i := 0) (v := ?_) rfl rfl (by kernel_rfl) (by kernel_rfl) (by kernel_rfl) (fun _ _ _ h => h) (Or.inl ⟨by kernel_rfl, ?_⟩) hHeld ?_
              rotate_left
              · intro w hSw
                obtain ⟨hSw0, hSw1⟩ := hSw
                go_simp
                try with_reducible rfl
              simp only [List.set_cons_zero, List.set_cons_succ]
              refine rgTake (i := 1) (v := ?_) rfl rfl (by kernel_rfl) (by kernel_rfl) (by kernel_rfl) (fun _ _ _ h => h) (Or.inl ⟨by kernel_rfl, ?_⟩) hHeld ?_
              rotate_left
              · intro w hSw
                obtain ⟨hSw0, hSw1⟩ := hSw
                go_simp
                try with_reducible rfl
              simp only [List.set_cons_zero, List.set_cons_succ]
              refine rgTake (i := 2) (v := ?_) rfl rfl (by kernel_rfl) (by kernel_rfl) (by kernel_rfl) (fun _ _ _ h => h) (Or.inl ⟨by kernel_rfl, ?_⟩) hHeld ?_
              rotate_left
              · intro w hSw
                obtain ⟨hSw0, hSw1⟩ := hSw
                go_simp
                try with_reducible rfl
              simp only [List.set_cons_zero, List.set_cons_succ]
              refine rgTake (i := 3) (v := undef) rfl rfl (by kernel_rfl) (by kernel_rfl) (by kernel_rfl) (fun _ _ _ h => h) (Or.inr ⟨by kernel_rfl, rfl⟩) hHeld ?_
              simp only [List.set_cons_zero, List.set_cons_succ]
              refine rgTake (i := 4) (v := undef) rfl rfl (by kernel_rfl) (by kernel_rfl) (by kernel_rfl) (fun _ _ _ h => h) (Or.inr ⟨by kernel_rfl, rfl⟩) hHeld ?_
              simp only [List.set_cons_zero, List.set_cons_succ]
              refine rgTake (i := 5) (v := undef) rfl rfl (by kernel_rfl) (by kernel_rfl) (by kernel_rfl) (fun _ _ _ h => h) (Or.inr ⟨by kernel_rfl, rfl⟩) hHeld ?_
              simp only [List.set_cons_zero, List.set_cons_succ]
              refine rgTake (i := 6) (v := undef) rfl rfl (by kernel_rfl) (by kernel_rfl) (by kernel_rfl) (fun _ _ _ h => h) (Or.inr ⟨by kernel_rfl, rfl⟩) hHeld ?_
              simp only [List.set_cons_zero, List.set_cons_succ]
              refine rgTake (i := 7) (v := undef) rfl rfl (by kernel_rfl) (by kernel_rfl) (by kernel_rfl) (fun _ _ _ h => h) (Or.inr ⟨by kernel_rfl, rfl⟩) hHeld ?_
              simp only [List.set_cons_zero, List.set_cons_succ]
              refine rgTake (i := 8) (v := undef) rfl rfl (by kernel_rfl) (by kernel_rfl) (by kernel_rfl) (fun _ _ _ h => h) (Or.inr ⟨by kernel_rfl, rfl⟩) hHeld ?_
              simp only [List.set_cons_zero, List.set_cons_succ]
              refine rgTake (i := 9) (v := undef) rfl rfl (by kernel_rfl) (by kernel_rfl) (by kernel_rfl) (fun _ _ _ h => h) (Or.inr ⟨by kernel_rfl, rfl⟩) hHeld ?_
              simp only [List.set_cons_zero, List.set_cons_succ]
              refine rgTake (i := 10) (v := undef) rfl rfl (by kernel_rfl) (by kernel_rfl) (by kernel_rfl) (fun _ _ _ h => h) (Or.inr ⟨by kernel_rfl, rfl⟩) hHeld ?_
              simp only [List.set_cons_zero, List.set_cons_succ]
              refine rgTake (i := 11) (v := undef) rfl rfl (by kernel_rfl) (by kernel_rfl) (by kernel_rfl) (fun _ _ _ h => h) (Or.inr ⟨by kernel_rfl, rfl⟩) hHeld ?_
              simp only [List.set_cons_zero, List.set_cons_succ]
              refine rgTake (i := 12) (v := ?_) rfl rfl (by kernel_rfl) (by kernel_rfl) (by kernel_rfl) (fun _ _ _ h => h) (Or.inl ⟨by kernel_rfl, ?_⟩) hHeld ?_
              rotate_left
              · intro w hSw
                obtain ⟨hSw0, hSw1⟩ := hSw
                go_simp
                try with_reducible rfl
              simp only [List.set_cons_zero, List.set_cons_succ]
              refine rgTake (i := 13) (v := ?_) rfl rfl (by kernel_rfl) (by kernel_rfl) (by kernel_rfl) (fun _ _ _ h => h) (Or.inl ⟨by kernel_rfl, ?_⟩) hHeld ?_
              rotate_left
              · intro w hSw
                obtain ⟨hSw0, hSw1⟩ := hSw
                go_simp
                try with_reducible rfl
              simp only [List.set_cons_zero, List.set_cons_succ]
              refine rgTake (i := 14) (v := ?_) rfl rfl (by kernel_rfl) (by kernel_rfl) (by kernel_rfl) (fun _ _ _ h => h) (Or.inl ⟨by kernel_rfl, ?_⟩) hHeld ?_
              rotate_left
              · intro w hSw
                obtain ⟨hSw0, hSw1⟩ := hSw
                go_simp
                try with_reducible rfl
              simp only [List.set_cons_zero, List.set_cons_succ]
              refine rgTake (i := 15) (v := ?_) rfl rfl (by kernel_rfl) (by kernel_rfl) (by kernel_rfl) (fun _ _ _ h => h) (Or.inl ⟨by kernel_rfl, ?_⟩) hHeld ?_
              rotate_left
              · intro w hSw
                obtain ⟨hSw0, hSw1⟩ := hSw
                go_simp
                try with_reducible rfl
              simp only [List.set_cons_zero, List.set_cons_succ]
              refine rgTake (i := 16) (v := ?_) rfl rfl (by kernel_rfl) (by kernel_rfl) (by kernel_rfl) (fun _ _ _ h => h) (Or.inl ⟨by kernel_rfl, ?_⟩) hHeld ?_
              rotate_left
              · intro w hSw
                obtain ⟨hSw0, hSw1⟩ := hSw
                go_simp
                try with_reducible rfl
              simp only [List.set_cons_zero, List.set_cons_succ]
              refine rgTake (i := 17) (v := ?_) rfl rfl (by kernel_rfl) (by kernel_rfl) (by kernel_rfl) (fun _ _ _ h => h) (Or.inl ⟨by kernel_rfl, ?_⟩) hHeld ?_
              rotate_left
              · intro w hSw
                obtain ⟨hSw0, hSw1⟩ := hSw
                go_simp
                try with_reducible rfl
              simp only [List.set_cons_zero, List.set_cons_succ]
              refine rgTake (i := 18) (v := ?_) rfl rfl (by kernel_rfl) (by kernel_rfl) (by kernel_rfl) (fun _ _ _ h => h) (Or.inl ⟨by kernel_rfl, ?_⟩) hHeld ?_
              rotate_left
              · intro w hSw
                obtain ⟨hSw0, hSw1⟩ := hSw
                go_simp
                try with_reducible rfl
              simp only [List.set_cons_zero, List.set_cons_succ]
              refine wpAnyH_ready (rs := [19]) (by kernel_rfl) (by simp) ?_
              refine AllReadyH.cons rfl (fun KK hK => ?_) AllReadyH.nil
              go_simp
              refine (HC.out).mono ?_
              rintro e w2 ⟨rfl, hb1⟩
              show KK _ w2
              refine hK.out _ _ ⟨(hb1.cell (p := ⟨wr.heap.size, 1, none⟩) (by simp)).trans d1, (hb1.cell (p := ⟨wr.heap.size, 2, none⟩) (by simp)).trans d2⟩ (fun hHeld => ?_)
              clear hK KK
              try simp only [Act.put, List.setIfInBounds_toArray, List.set_cons_zero, List.set_cons_succ]
              refine rgTake (i := 20) (v := ?_) rfl rfl (by kernel_rfl) (by kernel_rfl) (by kernel_rfl) (fun _ _ _ h => h) (Or.inl ⟨by kernel_rfl, ?_⟩) hHeld ?_
              rotate_left
              · intro w hSw
                obtain ⟨hSw0, hSw1⟩ := hSw
                go_simp
                try with_reducible rfl
              simp only [List.set_cons_zero, List.set_cons_succ]
              refine wpAnyH_done (by kernel_rfl) ?_ _
              have kx := KW.out.trans (hb1.mono (by omega))
              clear hb1
              go_wp2
              go_ret
              exact ⟨rfl, kx⟩
          | succ m =>
            have hz := hz1 m hlt
            clear hz0 hz1
            have hkm : m < X.length := by omega
            obtain ⟨b', o', e', hbz2, q0, q1, q2⟩ := (HR.out.lift kw).at m hkm
            obtain ⟨rfl, rfl⟩ : b = b' ∧ o = o' := by cases e'; exact ⟨rfl, rfl⟩
            clear e' hbz2 q0 q1
            generalize X[m + 1] = x at *
            generalize X[m].2.2 = y3 at *
            obtain ⟨x1, x2, x3⟩ := x
            simp only at c0 c1 c2 C hz KA KW hal
            generalize hasB (X.take (m + 1)) x2 = hb0 at *
            have HC := Lib.hid C
            have HZ := Lib.hid hz
            have hks : w.heap.size + 1 ≤ wr.heap.size := by have := kk.size; simp at this; omega
            have d1 : (wr.alloc (.cells #[.int .i64 x1, .int .u64 x2, .int .i64 x3] 27)).cell? ⟨wr.heap.size, 1, none⟩ = some (.int .u64 x2) := by simp [go_sem]
            have d2 : (wr.alloc (.cells #[.int .i64 x1, .int .u64 x2, .int .i64 x3] 27)).cell? ⟨wr.heap.size, 2, none⟩ = some (.int .i64 x3) := by simp [go_sem]
            have d3 : (wr.alloc (.cells #[.int .i64 x1, .int .u64 x2, .int .i64 x3] 27)).cell? ⟨b, o + m * 3 + 2, none⟩ = some (.int .i64 y3) := (hal.cell (p := ⟨b, o + m * 3 + 2, none⟩) hbz).trans q2
            clear C hz hlen hal q2
            have k0' : (0 : Int) ≤ m := by omega
            have k1' : (m : Int) < X.length := by omega
            have k5 : (m : Int) + 1 < X.length := by omega
            have k6 : (0 : Int) ≤ (m : Int) + 1 := by omega
            have k8 : (0 : Int) < (m : Int) + 1 := by omega
            have k9 : decide ((0 : Int) < (m : Int) + 1) = true := by simp
            have kcp : (m : Int) + 1 ≤ cap := by omega
            have w3 : wrap64 (m : Int) = m := by unfold wrap64; omega
            have w4 : IntKind.i64.wrap (m : Int) = m := IntWalk.i64_in _ (by omega)
            have k7 : ((m : Int) + 1).toNat = m + 1 := by omega
            have w1 : wrap64 ((m : Int) + 1 - 1) = m := by unfold wrap64; omega
            have w2 : IntKind.i64.wrap ((m : Int) + 1 - 1) = m := by rw [show (m : Int) + 1 - 1 = m by omega]; exact IntWalk.i64_in _ (by omega)
            clear HM
            by_cases hlx : x3 < y3
            · have hld : decide (x3 < y3) = true := by simpa using hlx
              obtain rfl : V = false := by rw [HV.out, okUp_not hlt (by rw [HZ.out, hld]; rfl)]; rfl
              clear hok HZ HV HC
              go_wp2_with fail
              refine wp_region_held_drew (S := fun w' => w'.cell? ⟨wr.heap.size, 1, none⟩ = some (.int .u64 x2) ∧ w'.cell? ⟨wr.heap.size, 2, none⟩ = some (.int .i64 x3) ∧ w'.cell? ⟨b, o + m * 3 + 2, none⟩ = some (.int .i64 y3)) (by kernel_rfl) ⟨d1, d2, d3⟩ (fun hHeld => ?_)
              refine rgTake (i := 0) (v := ?_) rfl rfl (by kernel_rfl) (by kernel_rfl) (by kernel_rfl) (fun _ _ _ h => h) (Or.inl ⟨by kernel_rfl, ?_⟩) hHeld ?_
              rotate_left
              · intro w hSw
                obtain ⟨hSw0, hSw1, hSw2⟩ := hSw
                go_simp
                try with_reducible rfl
              simp only [List.set_cons_zero, List.set_cons_succ]
              refine rgTake (i := 1) (v := ?_) rfl rfl (by kernel_rfl) (by kernel_rfl) (by kernel_rfl) (fun _ _ _ h => h) (Or.inl ⟨by kernel_rfl, ?_⟩) hHeld ?_
              rotate_left
              · intro w hSw
                obtain ⟨hSw0, hSw1, hSw2⟩ := hSw
                go_simp
                try with_reducible rfl
              simp only [List.set_cons_zero, List.set_cons_succ]
              refine rgTake (i := 2) (v := ?_) rfl rfl (by kernel_rfl) (by kernel_rfl) (by kernel_rfl) (fun _ _ _ h => h) (Or.inl ⟨by kernel_rfl, ?_⟩) hHeld ?_
              rotate_left
              · intro w hSw
                obtain ⟨hSw0, hSw1, hSw2⟩ := hSw
                go_simp
                try with_reducible rfl
              simp only [List.set_cons_zero, List.set_cons_succ]
              refine rgTake (i := 3) (v := ?_) rfl rfl (by kernel_rfl) (by kernel_rfl) (by kernel_rfl) (fun _ _ _ h => h) (Or.inl ⟨by kernel_rfl, ?_⟩) hHeld ?_
              rotate_left
              · intro w hSw
                obtain ⟨hSw0, hSw1, hSw2⟩ := hSw
                go_simp
                try with_reducible rfl
              simp only [List.set_cons_zero, List.set_cons_succ]
              refine rgTake (i := 4) (v := ?_) rfl rfl (by kernel_rfl) (by kernel_rfl) (by kernel_rfl) (fun _ _ _ h => h) (Or.inl ⟨by kernel_rfl, ?_⟩) hHeld ?_
              rotate_left
              · intro w hSw
                obtain ⟨hSw0, hSw1, hSw2⟩ := hSw
                go_simp
                try with_reducible rfl
              simp only [List.set_cons_zero, List.set_cons_succ]
              refine rgTake (i := 5) (v := ?_) rfl rfl (by kernel_rfl) (by kernel_rfl) (by kernel_rfl) (fun _ _ _ h => h) (Or.inl ⟨by kernel_rfl, ?_⟩) hHeld ?_
              rotate_left
              · intro w hSw
                obtain ⟨hSw0, hSw1, hSw2⟩ := hSw
                go_simp
                try with_reducible rfl
              simp only [List.set_cons_zero, List.set_cons_succ]
              refine rgTake (i := 6) (v := ?_) rfl rfl (by kernel_rfl) (by kernel_rfl) (by kernel_rfl) (fun _ _ _ h => h) (Or.inl ⟨by kernel_rfl, ?_⟩) hHeld ?_
              rotate_left
              · intro w hSw
                obtain ⟨hSw0, hSw1, hSw2⟩ := hSw
                go_simp
                try with_reducible rfl
              simp only [List.set_cons_zero, List.set_cons_succ]
              refine rgTake (i := 7) (v := ?_) rfl rfl (by kernel_rfl) (by kernel_rfl) (by kernel_rfl) (fun _ _ _ h => h) (Or.inl ⟨by kernel_rfl, ?_⟩) hHeld ?_
              rotate_left
              · intro w hSw
                obtain ⟨hSw0, hSw1, hSw2⟩ := hSw
                go_simp
                try with_reducible rfl
              simp only [List.set_cons_zero, List.set_cons_succ]
              refine rgTake (i := 8) (v := ?_) rfl rfl (by kernel_rfl) (by kernel_rfl) (by kernel_rfl) (fun _ _ _ h => h) (Or.inl ⟨by kernel_rfl, ?_⟩) hHeld ?_
              rotate_left
              · intro w hSw
                obtain ⟨hSw0, hSw1, hSw2⟩ := hSw
                go_simp
                try with_reducible rfl
              simp only [List.set_cons_zero, List.set_cons_succ]
              refine rgTake (i := 9) (v := ?_) rfl rfl (by kernel_rfl) (by kernel_rfl) (by kernel_rfl) (fun _ _ _ h => h) (Or.inl ⟨by kernel_rfl, ?_⟩) hHeld ?_
              rotate_left
              · intro w hSw
                obtain ⟨hSw0, hSw1, hSw2⟩ := hSw
                go_simp
                try with_reducible rfl
              simp only [List.set_cons_zero, List.set_cons_succ]
              refine rgTake (i := 10) (v := ?_) rfl rfl (by kernel_rfl) (by kernel_rfl) (by kernel_rfl) (fun _ _ _ h => h) (Or.inl ⟨by kernel_rfl, ?_⟩) hHeld ?_
              rotate_left
              · intro w hSw
                obtain ⟨hSw0, hSw1, hSw2⟩ := hSw
                go_simp
                try with_reducible rfl
              simp only [List.set_cons_zero, List.set_cons_succ]
              refine rgTake (i := 11) (v := ?_) rfl rfl (by kernel_rfl) (by kernel_rfl) (by kernel_rfl) (fun _ _ _ h => h) (Or.inl ⟨by kernel_rfl, ?_⟩) hHeld ?_
              rotate_left
              · intro w hSw
                obtain ⟨hSw0, hSw1, hSw2⟩ := hSw
                go_simp
                try with_reducible rfl
              simp only [List.set_cons_zero, List.set_cons_succ]
              refine rgTake (i := 12) (v := ?_) rfl rfl (by kernel_rfl) (by kernel_rfl) (by kernel_rfl) (fun _ _ _ h => h) (Or.inl ⟨by kernel_rfl, ?_⟩) hHeld ?_
              rotate_left
              · intro w hSw
                obtain ⟨hSw0, hSw1, hSw2⟩ := hSw
                go_simp
                try with_reducible rfl
              simp only [List.set_cons_zero, List.set_cons_succ]
              refine rgTake (i := 13) (v := ?_) rfl rfl (by kernel_rfl) (by kernel_rfl) (by kernel_rfl) (fun _ _ _ h => h) (Or.inl ⟨by kernel_rfl, ?_⟩) hHeld ?_
              rotate_left
              · intro w hSw
                obtain ⟨hSw0, hSw1, hSw2⟩ := hSw
                go_simp
                try with_reducible rfl
              simp only [List.set_cons_zero, List.set_cons_succ]
              refine rgTake (i := 14) (v := undef) rfl rfl (by kernel_rfl) (by kernel_rfl) (by kernel_rfl) (fun _ _ _ h => h) (Or.inr ⟨by kernel_rfl, rfl⟩) hHeld ?_
              simp only [List.set_cons_zero, List.set_cons_succ]
              refine rgTake (i := 15) (v := undef) rfl rfl (by kernel_rfl) (by kernel_rfl) (by kernel_rfl) (fun _ _ _ h => h) (Or.inr ⟨by kernel_rfl, rfl⟩) hHeld ?_
              simp only [List.set_cons_zero, List.set_cons_succ]
              refine rgTake (i := 16) (v := undef) rfl rfl (by kernel_rfl) (by kernel_rfl) (by kernel_rfl) (fun _ _ _ h => h) (Or.inr ⟨by kernel_rfl, rfl⟩) hHeld ?_
              simp only [List.set_cons_zero, List.set_cons_succ]
              refine rgTake (i := 17) (v := undef) rfl rfl (by kernel_rfl) (by kernel_rfl) (by kernel_rfl) (fun _ _ _ h => h) (Or.inr ⟨by kernel_rfl, rfl⟩) hHeld ?_
              simp only [List.set_cons_zero, List.set_cons_succ]
              refine rgTake (i := 18) (v := undef) rfl rfl (by kernel_rfl) (by kernel_rfl) (by kernel_rfl) (fun _ _ _ h => h) (Or.inr ⟨by kernel_rfl, rfl⟩) hHeld ?_
              simp only [List.set_cons_zero, List.set_cons_succ]
              refine rgTake (i := 19) (v := undef) rfl rfl (by kernel_rfl) (by kernel_rfl) (by kernel_rfl) (fun _ _ _ h => h) (Or.inr ⟨by kernel_rfl, rfl⟩) hHeld ?_
              simp only [List.set_cons_zero, List.set_cons_succ]
              refine rgTake (i := 20) (v := ?_) rfl rfl (by kernel_rfl) (by kernel_rfl) (by kernel_rfl) (fun _ _ _ h => h) (Or.inl ⟨by kernel_rfl, ?_⟩) hHeld ?_
              rotate_left
              · intro w hSw
                obtain ⟨hSw0, hSw1, hSw2⟩ := hSw
                go_simp
                try with_reducible rfl
              simp only [List.set_cons_zero, List.set_cons_succ]
              refine wpAnyH_done (by kernel_rfl) ?_ _
              have kx := KW.out
              go_wp2
              go_ret
              exact ⟨rfl, kx⟩
            · have hld : decide (x3 < y3) = false := by simpa using hlx
              cases hb0
              · have Hok := Lib.hid (show okUp X (m + 1 + 1) from okUp_succ hok.out (by rw [HZ.out, hld]; rfl))
                clear hok HZ
                go_wp2_with fail
                refine wp_region_held_drew (S := fun w' => w'.cell? ⟨wr.heap.size, 1, none⟩ = some (.int .u64 x2) ∧ w'.cell? ⟨wr.heap.size, 2, none⟩ = some (.int .i64 x3) ∧ w'.cell? ⟨b, o + m * 3 + 2, none⟩ = some (.int .i64 y3)) (by kernel_rfl) ⟨d1, d2, d3⟩ (fun hHeld => ?_)
                refine rgTake (i := 0) (v := ?_) rfl rfl (by kernel_rfl) (by kernel_rfl) (by kernel_rfl) (fun _ _ _ h => h) (Or.inl ⟨by kernel_rfl, ?_⟩) hHeld ?_
                rotate_left
                · intro w hSw
                  obtain ⟨hSw0, hSw1, hSw2⟩ := hSw
                  go_simp
                  try with_reducible rfl
                simp only [List.set_cons_zero, List.set_cons_succ]
                refine rgTake (i := 1) (v := ?_) rfl rfl (by kernel_rfl) (by kernel_rfl) (by kernel_rfl) (fun _ _ _ h => h) (Or.inl ⟨by kernel_rfl, ?_⟩) hHeld ?_
                rotate_left
                · intro w hSw
                  obtain ⟨hSw0, hSw1, hSw2⟩ := hSw
                  go_simp
                  try with_reducible rfl
                simp only [List.set_cons_zero, List.set_cons_succ]
                refine rgTake (i := 2) (v := ?_) rfl rfl (by kernel_rfl) (by kernel_rfl) (by kernel_rfl) (fun _ _ _ h => h) (Or.inl ⟨by kernel_rfl, ?_⟩) hHeld ?_
                rotate_left
                · intro w hSw
                  obtain ⟨hSw0, hSw1, hSw2⟩ := hSw
                  go_simp
                  try with_reducible rfl
                simp only [List.set_cons_zero, List.set_cons_succ]
                refine rgTake (i := 3) (v := ?_) rfl rfl (by kernel_rfl) (by kernel_rfl) (by kernel_rfl) (fun _ _ _ h => h) (Or.inl ⟨by kernel_rfl, ?_⟩) hHeld ?_
                rotate_left
                · intro w hSw
                  obtain ⟨hSw0, hSw1, hSw2⟩ := hSw
                  go_simp
                  try with_reducible rfl
                simp only [List.set_cons_zero, List.set_cons_succ]
                refine rgTake (i := 4) (v := ?_) rfl rfl (by kernel_rfl) (by kernel_rfl) (by kernel_rfl) (fun _ _ _ h => h) (Or.inl ⟨by kernel_rfl, ?_⟩) hHeld ?_
                rotate_left
                · intro w hSw
                  obtain ⟨hSw0, hSw1, hSw2⟩ := hSw
                  go_simp
                  try with_reducible rfl
                simp only [List.set_cons_zero, List.set_cons_succ]
                refine rgTake (i := 5) (v := ?_) rfl rfl (by kernel_rfl) (by kernel_rfl) (by kernel_rfl) (fun _ _ _ h => h) (Or.inl ⟨by kernel_rfl, ?_⟩) hHeld ?_
                rotate_left
                · intro w hSw
                  obtain ⟨hSw0, hSw1, hSw2⟩ := hSw
                  go_simp
                  try with_reducible rfl
                simp only [List.set_cons_zero, List.set_cons_succ]
                refine rgTake (i := 6) (v := ?_) rfl rfl (by kernel_rfl) (by kernel_rfl) (by kernel_rfl) (fun _ _ _ h => h) (Or.inl ⟨by kernel_rfl, ?_⟩) hHeld ?_
                rotate_left
                · intro w hSw
                  obtain ⟨hSw0, hSw1, hSw2⟩ := hSw
                  go_simp
                  try with_reducible rfl
                simp only [List.set_cons_zero, List.set_cons_succ]
                refine rgTake (i := 7) (v := ?_) rfl rfl (by kernel_rfl) (by kernel_rfl) (by kernel_rfl) (fun _ _ _ h => h) (Or.inl ⟨by kernel_rfl, ?_⟩) hHeld ?_
                rotate_left
                · intro w hSw
                  obtain ⟨hSw0, hSw1, hSw2⟩ := hSw
                  go_simp
                  try with_reducible rfl
                simp only [List.set_cons_zero, List.set_cons_succ]
                refine rgTake (i := 8) (v := ?_) rfl rfl (by kernel_rfl) (by kernel_rfl) (by kernel_rfl) (fun _ _ _ h => h) (Or.inl ⟨by kernel_rfl, ?_⟩) hHeld ?_
                rotate_left
                · intro w hSw
                  obtain ⟨hSw0, hSw1, hSw2⟩ := hSw
                  go_simp
                  try with_reducible rfl
                simp only [List.set_cons_zero, List.set_cons_succ]
                refine rgTake (i := 9) (v := ?_) rfl rfl (by kernel_rfl) (by kernel_rfl) (by kernel_rfl) (fun _ _ _ h => h) (Or.inl ⟨by kernel_rfl, ?_⟩) hHeld ?_
                rotate_left
                · intro w hSw
                  obtain ⟨hSw0, hSw1, hSw2⟩ := hSw
                  go_simp
                  try with_reducible rfl
                simp only [List.set_cons_zero, List.set_cons_succ]
                refine rgTake (i := 10) (v := ?_) rfl rfl (by kernel_rfl) (by kernel_rfl) (by kernel_rfl) (fun _ _ _ h => h) (Or.inl ⟨by kernel_rfl, ?_⟩) hHeld ?_
                rotate_left
                · intro w hSw
                  obtain ⟨hSw0, hSw1, hSw2⟩ := hSw
                  go_simp
                  try with_reducible rfl
                simp only [List.set_cons_zero, List.set_cons_succ]
                refine rgTake (i := 11) (v := ?_) rfl rfl (by kernel_rfl) (by kernel_rfl) (by kernel_rfl) (fun _ _ _ h => h) (Or.inl ⟨by kernel_rfl, ?_⟩) hHeld ?_
                rotate_left
                · intro w hSw
                  obtain ⟨hSw0, hSw1, hSw2⟩ := hSw
                  go_simp
                  try with_reducible rfl
                simp only [List.set_cons_zero, List.set_cons_succ]
                refine rgTake (i := 12) (v := ?_) rfl rfl (by kernel_rfl) (by kernel_rfl) (by kernel_rfl) (fun _ _ _ h => h) (Or.inl ⟨by kernel_rfl, ?_⟩) hHeld ?_
                rotate_left
                · intro w hSw
                  obtain ⟨hSw0, hSw1, hSw2⟩ := hSw
                  go_simp
                  try with_reducible rfl
                simp only [List.set_cons_zero, List.set_cons_succ]
                refine rgTake (i := 13) (v := ?_) rfl rfl (by kernel_rfl) (by kernel_rfl) (by kernel_rfl) (fun _ _ _ h => h) (Or.inl ⟨by kernel_rfl, ?_⟩) hHeld ?_
                rotate_left
                · intro w hSw
                  obtain ⟨hSw0, hSw1, hSw2⟩ := hSw
                  go_simp
                  try with_reducible rfl
                simp only [List.set_cons_zero, List.set_cons_succ]
                refine rgTake (i := 14) (v := ?_) rfl rfl (by kernel_rfl) (by kernel_rfl) (by kernel_rfl) (fun _ _ _ h => h) (Or.inl ⟨by kernel_rfl, ?_⟩) hHeld ?_
                rotate_left
                · intro w hSw
                  obtain ⟨hSw0, hSw1, hSw2⟩ := hSw
                  go_simp
                  try with_reducible rfl
                simp only [List.set_cons_zero, List.set_cons_succ]
                refine rgTake (i := 15) (v := ?_) rfl rfl (by kernel_rfl) (by kernel_rfl) (by kernel_rfl) (fun _ _ _ h => h) (Or.inl ⟨by kernel_rfl, ?_⟩) hHeld ?_
                rotate_left
                · intro w hSw
                  obtain ⟨hSw0, hSw1, hSw2⟩ := hSw
                  go_simp
                  try with_reducible rfl
                simp only [List.set_cons_zero, List.set_cons_succ]
                refine rgTake (i := 16) (v := ?_) rfl rfl (by kernel_rfl) (by kernel_rfl) (by kernel_rfl) (fun _ _ _ h => h) (Or.inl ⟨by kernel_rfl, ?_⟩) hHeld ?_
                rotate_left
                · intro w hSw
                  obtain ⟨hSw0, hSw1, hSw2⟩ := hSw
                  go_simp
                  try with_reducible rfl
                simp only [List.set_cons_zero, List.set_cons_succ]
                refine rgTake (i := 17) (v := ?_) rfl rfl (by kernel_rfl) (by kernel_rfl) (by kernel_rfl) (fun _ _ _ h => h) (Or.inl ⟨by kernel_rfl, ?_⟩) hHeld ?_
                rotate_left
                · intro w hSw
                  obtain ⟨hSw0, hSw1, hSw2⟩ := hSw
                  go_simp
                  try with_reducible rfl
                simp only [List.set_cons_zero, List.set_cons_succ]
                refine rgTake (i := 18) (v := ?_) rfl rfl (by kernel_rfl) (by kernel_rfl) (by kernel_rfl) (fun _ _ _ h => h) (Or.inl ⟨by kernel_rfl, ?_⟩) hHeld ?_
                rotate_left
                · intro w hSw
                  obtain ⟨hSw0, hSw1, hSw2⟩ := hSw
                  go_simp
                  try with_reducible rfl
                simp only [List.set_cons_zero, List.set_cons_succ]
                refine wpAnyH_ready (rs := [19]) (by kernel_rfl) (by simp) ?_
                refine AllReadyH.cons rfl (fun KK hK => ?_) AllReadyH.nil
                go_simp
                refine (HC.out).mono ?_
                rintro e w3 ⟨rfl, hb1⟩
                show KK _ w3
                refine hK.out _ _ ⟨(hb1.cell (p := ⟨wr.heap.size, 1, none⟩) (by simp)).trans d1, (hb1.cell (p := ⟨wr.heap.size, 2, none⟩) (by simp)).trans d2, (hb1.cell (p := ⟨b, o + m * 3 + 2, none⟩) (show b < _ by omega)).trans d3⟩ (fun hHeld => ?_)
                clear hK KK
                try simp only [Act.put, List.setIfInBounds_toArray, List.set_cons_zero, List.set_cons_succ]
                refine rgTake (i := 20) (v := ?_) rfl rfl (by kernel_rfl) (by kernel_rfl) (by kernel_rfl) (fun _ _ _ h => h) (Or.inl ⟨by kernel_rfl, ?_⟩) hHeld ?_
                rotate_left
                · intro w hSw
                  obtain ⟨hSw0, hSw1, hSw2⟩ := hSw
                  go_simp
                  try with_reducible rfl
                simp only [List.set_cons_zero, List.set_cons_succ]
                refine wpAnyH_done (by kernel_rfl) ?_ _
                have kx := KA.out.trans (hb1.mono (by omega))
                clear hb1
                go_wp2
                go_roundw
                case rel => exact ⟨m + 1 + 1, by go_num, by omega, Hok, kx⟩
                case measure => simp [intOf]; omega
              · obtain rfl : V = false := by rw [HV.out, okUp_not hlt (by rw [HZ.out, hld]; rfl)]; rfl
                clear hok HZ HV
                go_wp2_with fail
                refine wp_region_held_drew (S := fun w' => w'.cell? ⟨wr.heap.size, 1, none⟩ = some (.int .u64 x2) ∧ w'.cell? ⟨wr.heap.size, 2, none⟩ = some (.int .i64 x3) ∧ w'.cell? ⟨b, o + m * 3 + 2, none⟩ = some (.int .i64 y3)) (by kernel_rfl) ⟨d1, d2, d3⟩ (fun hHeld => ?_)
                refine rgTake (i := 0) (v := ?_) rfl rfl (by kernel_rfl) (by kernel_rfl) (by kernel_rfl) (fun _ _ _ h => h) (Or.inl ⟨by kernel_rfl, ?_⟩) hHeld ?_
                rotate_left
                · intro w hSw
                  obtain ⟨hSw0, hSw1, hSw2⟩ := hSw
                  go_simp
                  try with_reducible rfl
                simp only [List.set_cons_zero, List.set_cons_succ]
                refine rgTake (i := 1) (v := ?_) rfl rfl (by kernel_rfl) (by kernel_rfl) (by kernel_rfl) (fun _ _ _ h => h) (Or.inl ⟨by kernel_rfl, ?_⟩) hHeld ?_
                rotate_left
                · intro w hSw
                  obtain ⟨hSw0, hSw1, hSw2⟩ := hSw
                  go_simp
                  try with_reducible rfl
                simp only [List.set_cons_zero, List.set_cons_succ]
                refine rgTake (i := 2) (v := ?_) rfl rfl (by kernel_rfl) (by kernel_rfl) (by kernel_rfl) (fun _ _ _ h => h) (Or.inl ⟨by kernel_rfl, ?_⟩) hHeld ?_
                rotate_left
                · intro w hSw
                  obtain ⟨hSw0, hSw1, hSw2⟩ := hSw
                  go_simp
                  try with_reducible rfl
                simp only [List.set_cons_zero, List.set_cons_succ]
                refine rgTake (i := 3) (v := ?_) rfl rfl (by kernel_rfl) (by kernel_rfl) (by kernel_rfl) (fun _ _ _ h => h) (Or.inl ⟨by kernel_rfl, ?_⟩) hHeld ?_
                rotate_left
                · intro w hSw
                  obtain ⟨hSw0, hSw1, hSw2⟩ := hSw
                  go_simp
                  try with_reducible rfl
                simp only [List.set_cons_zero, List.set_cons_succ]
                refine rgTake (i := 4) (v := ?_) rfl rfl (by kernel_rfl) (by kernel_rfl) (by kernel_rfl) (fun _ _ _ h => h) (Or.inl ⟨by kernel_rfl, ?_⟩) hHeld ?_
                rotate_left
                · intro w hSw
                  obtain ⟨hSw0, hSw1, hSw2⟩ := hSw
                  go_simp
                  try with_reducible rfl
                simp only [List.set_cons_zero, List.set_cons_succ]
                refine rgTake (i := 5) (v := ?_) rfl rfl (by kernel_rfl) (by kernel_rfl) (by kernel_rfl) (fun _ _ _ h => h) (Or.inl ⟨by kernel_rfl, ?_⟩) hHeld ?_
                rotate_left
                · intro w hSw
                  obtain ⟨hSw0, hSw1, hSw2⟩ := hSw
                  go_simp
                  try with_reducible rfl
                simp only [List.set_cons_zero, List.set_cons_succ]
                refine rgTake (i := 6) (v := ?_) rfl rfl (by kernel_rfl) (by kernel_rfl) (by kernel_rfl) (fun _ _ _ h => h) (Or.inl ⟨by kernel_rfl, ?_⟩) hHeld ?_
                rotate_left
                · intro w hSw
                  obtain ⟨hSw0, hSw1, hSw2⟩ := hSw
                  go_simp
                  try with_reducible rfl
                simp only [List.set_cons_zero, List.set_cons_succ]
                refine rgTake (i := 7) (v := ?_) rfl rfl (by kernel_rfl) (by kernel_rfl) (by kernel_rfl) (fun _ _ _ h => h) (Or.inl ⟨by kernel_rfl, ?_⟩) hHeld ?_
                rotate_left
                · intro w hSw
                  obtain ⟨hSw0, hSw1, hSw2⟩ := hSw
                  go_simp
                  try with_reducible rfl
                simp only [List.set_cons_zero, List.set_cons_succ]
                refine rgTake (i := 8) (v := ?_) rfl rfl (by kernel_rfl) (by kernel_rfl) (by kernel_rfl) (fun _ _ _ h => h) (Or.inl ⟨by kernel_rfl, ?_⟩) hHeld ?_
                rotate_left
                · intro w hSw
                  obtain ⟨hSw0, hSw1, hSw2⟩ := hSw
                  go_simp
                  try with_reducible rfl
                simp only [List.set_cons_zero, List.set_cons_succ]
                refine rgTake (i := 9) (v := ?_) rfl rfl (by kernel_rfl) (by kernel_rfl) (by kernel_rfl) (fun _ _ _ h => h) (Or.inl ⟨by kernel_rfl, ?_⟩) hHeld ?_
                rotate_left
                · intro w hSw
                  obtain ⟨hSw0, hSw1, hSw2⟩ := hSw
                  go_simp
                  try with_reducible rfl
                simp only [List.set_cons_zero, List.set_cons_succ]
                refine rgTake (i := 10) (v := ?_) rfl rfl (by kernel_rfl) (by kernel_rfl) (by kernel_rfl) (fun _ _ _ h => h) (Or.inl ⟨by kernel_rfl, ?_⟩) hHeld ?_
                rotate_left
                · intro w hSw
                  obtain ⟨hSw0, hSw1, hSw2⟩ := hSw
                  go_simp
                  try with_reducible rfl
                simp only [List.set_cons_zero, List.set_cons_succ]
                refine rgTake (i := 11) (v := ?_) rfl rfl (by kernel_rfl) (by kernel_rfl) (by kernel_rfl) (fun _ _ _ h => h) (Or.inl ⟨by kernel_rfl, ?_⟩) hHeld ?_
                rotate_left
                · intro w hSw
                  obtain ⟨hSw0, hSw1, hSw2⟩ := hSw
                  go_simp
                  try with_reducible rfl
                simp only [List.set_cons_zero, List.set_cons_succ]
                refine rgTake (i := 12) (v := ?_) rfl rfl (by kernel_rfl) (by kernel_rfl) (by kernel_rfl) (fun _ _ _ h => h) (Or.inl ⟨by kernel_rfl, ?_⟩) hHeld ?_
                rotate_left
                · intro w hSw
                  obtain ⟨hSw0, hSw1, hSw2⟩ := hSw
                  go_simp
                  try with_reducible rfl
                simp only [List.set_cons_zero, List.set_cons_succ]
                refine rgTake (i := 13) (v := ?_) rfl rfl (by kernel_rfl) (by kernel_rfl) (by kernel_rfl) (fun _ _ _ h => h) (Or.inl ⟨by kernel_rfl, ?_⟩) hHeld ?_
                rotate_left
                · intro w hSw
                  obtain ⟨hSw0, hSw1, hSw2⟩ := hSw
                  go_simp
                  try with_reducible rfl
                simp only [List.set_cons_zero, List.set_cons_succ]
                refine rgTake (i := 14) (v := ?_) rfl rfl (by kernel_rfl) (by kernel_rfl) (by kernel_rfl) (fun _ _ _ h => h) (Or.inl ⟨by kernel_rfl, ?_⟩) hHeld ?_
                rotate_left
                · intro w hSw
                  obtain ⟨hSw0, hSw1, hSw2⟩ := hSw
                  go_simp
                  try with_reducible rfl
                simp only [List.set_cons_zero, List.set_cons_succ]
                refine rgTake (i := 15) (v := ?_) rfl rfl (by kernel_rfl) (by kernel_rfl) (by kernel_rfl) (fun _ _ _ h => h) (Or.inl ⟨by kernel_rfl, ?_⟩) hHeld ?_
                rotate_left
                · intro w hSw
                  obtain ⟨hSw0, hSw1, hSw2⟩ := hSw
                  go_simp
                  try with_reducible rfl
                simp only [List.set_cons_zero, List.set_cons_succ]
                refine rgTake (i := 16) (v := ?_) rfl rfl (by kernel_rfl) (by kernel_rfl) (by kernel_rfl) (fun _ _ _ h => h) (Or.inl ⟨by kernel_rfl, ?_⟩) hHeld ?_
                rotate_left
                · intro w hSw
                  obtain ⟨hSw0, hSw1, hSw2⟩ := hSw
                  go_simp
                  try with_reducible rfl
                simp only [List.set_cons_zero, List.set_cons_succ]
                refine rgTake (i := 17) (v := ?_) rfl rfl (by kernel_rfl) (by kernel_rfl) (by kernel_rfl) (fun _ _ _ h => h) (Or.inl ⟨by kernel_rfl, ?_⟩) hHeld ?_
                rotate_left
                · intro w hSw
                  obtain ⟨hSw0, hSw1, hSw2⟩ := hSw
                  go_simp
                  try with_reducible rfl
                simp only [List.set_cons_zero, List.set_cons_succ]
                refine rgTake (i := 18) (v := ?_) rfl rfl (by kernel_rfl) (by kernel_rfl) (by kernel_rfl) (fun _ _ _ h => h) (Or.inl ⟨by kernel_rfl, ?_⟩) hHeld ?_
                rotate_left
                · intro w hSw
                  obtain ⟨hSw0, hSw1, hSw2⟩ := hSw
                  go_simp
                  try with_reducible rfl
                simp only [List.set_cons_zero, List.set_cons_succ]
                refine wpAnyH_ready (rs := [19]) (by kernel_rfl) (by simp) ?_
                refine AllReadyH.cons rfl (fun KK hK => ?_) AllReadyH.nil
                go_simp
                refine (HC.out).mono ?_
                rintro e w4 ⟨rfl, hb1⟩
                show KK _ w4
                refine hK.out _ _ ⟨(hb1.cell (p := ⟨wr.heap.size, 1, none⟩) (by simp)).trans d1, (hb1.cell (p := ⟨wr.heap.size, 2, none⟩) (by simp)).trans d2, (hb1.cell (p := ⟨b, o + m * 3 + 2, none⟩) (show b < _ by omega)).trans d3⟩ (fun hHeld => ?_)
                clear hK KK
                try simp only [Act.put, List.setIfInBounds_toArray, List.set_cons_zero, List.set_cons_succ]
                refine rgTake (i := 20) (v := ?_) rfl rfl (by kernel_rfl) (by kernel_rfl) (by kernel_rfl) (fun _ _ _ h => h) (Or.inl ⟨by kernel_rfl, ?_⟩) hHeld ?_
                rotate_left
                · intro w hSw
                  obtain ⟨hSw0, hSw1, hSw2⟩ := hSw
                  go_simp
                  try with_reducible rfl
                simp only [List.set_cons_zero, List.set_cons_succ]
                refine wpAnyH_done (by kernel_rfl) ?_ _
                have kx := KW.out.trans (hb1.mono (by omega))
                clear hb1
                go_wp2
                go_ret
                exact ⟨rfl, kx⟩
        · have hge : ¬ (q : Int) < X.length := by omega
          obtain rfl : q = X.length := by omega
          obtain ⟨c0, c1, c2, c3, _⟩ := J0.out _ kk
          have M := Lib.hid (HM.out wr (HR.out.lift kw))
          have hve : V = (meetL k p n X).isEmpty := by rw [HV.out, okUp_all hok.out]; simp
          have KW := Lib.hid kw
          generalize meetL k p n X = L at *
          have HVE := Lib.hid hve
          clear hve HM HV hok
          go_wp2_with fail
          refine M.out.mono ?_
          rintro e w2 ⟨u, rfl, ho, hb2⟩
          obtain ⟨pu, cu, rfl, hcu, hru⟩ := ho.rd
          have K2 := Lib.hid (KW.out.trans (hb2.mono KW.out.size))
          clear ho hb2 hru M c0 c1 c2 c3
          cases L with
          | nil =>
            go_wp2
            go_ret
            exact ⟨by rw [HVE.out]; rfl, K2.out⟩
          | cons y L =>
            have hy : ¬ ((L.length : Int) + 1 = 0) := by omega
            go_wp2
            go_ret
            exact ⟨by rw [HVE.out]; simp; try omega, K2.out⟩
  · obtain rfl : V = false := by rw [hV]; simp [h30]
    have h30i : 30 ≤ (X.length : Int) := by omega
    clear hV hR
    go_enter Try.func30, Try.ntmps30
    go_wp2
    go_ret
    exact ⟨rfl, HB.out⟩
end Go.Proofs.Ytllojkdacinhfaa.Jn
