/- Layer 11: the contracts of the document's Same and Ids. -/
import Derived.Test.YtgipohicgbppaaaWhP
namespace Go.Proofs.Ytgipohicgbppaaa
open Go.RowKit Go.Shelf
/-- A list of Ids, wherever it lies. -/
structure RdU (w : World) (pa : Option Addr) (X : List Int) : Prop where
  out : X ≠ [] → ∃ b o, pa = some ⟨b, o, none⟩ ∧ b < w.heap.size ∧ ∀ i (h : i < X.length), w.cell? ⟨b, o + i, none⟩ = some (.int .u64 X[i])
theorem RdU.at {w : World} {pa : Option Addr} {X : List Int} (h : RdU w pa X) (i : Nat) (hi : i < X.length) : ∃ b o, pa = some ⟨b, o, none⟩ ∧ b < w.heap.size ∧ w.cell? ⟨b, o + i, none⟩ = some (.int .u64 X[i]) := by
  obtain ⟨b, o, e, hb, hc⟩ := h.out (by intro e; rw [e] at hi; exact absurd hi (by simp))
  exact ⟨b, o, e, hb, hc i hi⟩
theorem RdU.lift {w w' : World} {pa : Option Addr} {X : List Int} (h : RdU w pa X) (hb : Below w.heap.size w w') : RdU w' pa X := ⟨fun hx => by
  obtain ⟨b, o, e, hlt, hc⟩ := h.out hx
  exact ⟨b, o, e, Nat.lt_of_lt_of_le hlt hb.size, fun i hi => (hb.cell (p := ⟨b, o + i, none⟩) hlt).trans (hc i hi)⟩⟩
theorem RdU.nil (w : World) (pa : Option Addr) : RdU w pa [] := ⟨fun h => absurd rfl h⟩
theorem OwnU.rd {w : World} {base : Nat} {v : Value} {X : List Int} (h : OwnU w base v X) : ∃ pa cap, v = .slice pa X.length cap ∧ X.length ≤ cap ∧ RdU w pa X := by
  rcases h.own.2 with ⟨rfl, h0⟩ | ⟨g, cap, cur, rfl, hg, hh, hc, _, _, hx⟩
  · have : X = [] := List.eq_nil_of_length_eq_zero h0
    subst this
    exact ⟨none, 0, rfl, Nat.le_refl _, RdU.nil _ _⟩
  · refine ⟨some ⟨g, 0, none⟩, cap, rfl, hc, ⟨fun _ => ⟨g, 0, rfl, (h.own.lt g rfl).2, fun i hi => ?_⟩⟩⟩
    have e1 := h.own.cellAt i (by omega)
    rw [Nat.zero_add]
    rw [e1]
    unfold flatI
    rw [List.getElem?_map, List.getElem?_eq_getElem hi]
    rfl
theorem take_eq_step {α : Type} {X Y : List α} {k : Nat} (hx : k < X.length) (hy : k < Y.length) (h : X.take k = Y.take k) : X.take (k + 1) = Y.take (k + 1) ↔ X[k] = Y[k] := by
  rw [List.take_succ_eq_append_getElem hx, List.take_succ_eq_append_getElem hy, h]
  exact ⟨fun e => List.head_eq_of_cons_eq (List.append_cancel_left e), fun e => by rw [e]⟩
theorem ne_of_at {α : Type} {X Y : List α} {k : Nat} (hx : k < X.length) (hy : k < Y.length) (h : X[k] ≠ Y[k]) : X ≠ Y := by
  rintro rfl; exact h rfl
set_option maxHeartbeats 2000000 in
set_option maxRecDepth 100000 in
theorem same_any (X Y : List Tm) (pa pb : Option Addr) (ca cb : Nat) (w : World) (hX : X.length ≤ 1000) (hA : Rd w pa X) (hB : Rd w pb Y) :
    Calls Try.prog 14 #[.slice pa X.length ca, .slice pb Y.length cb] w fun e w' => e = .returned (.bool (decide (X = Y))) ∧ Below w.heap.size w w' := by
  obtain ⟨V, hV⟩ : ∃ V, V = decide (X = Y) := ⟨_, rfl⟩
  rw [← hV]
  have HV := Lib.hid hV
  clear hV
  have HA := Lib.hid hA
  have HB := Lib.hid hB
  clear hA hB
  by_cases hl : X.length = Y.length
  · have HL := Lib.hid hl
    have hXi : (X.length : Int) ≤ 1000 := by omega
    rw [← hl]
    clear hl
    go_enter Try.func14, Try.ntmps14
    go_wp2_with fail
    go_loopw [5] (fun i wx => ∃ k : Nat, i = .int .i64 k ∧ k ≤ X.length ∧ X.take k = Y.take k ∧ Below w.heap.size w wx) (fun i _ => X.length - (intOf i).toNat)
    case atStart => exact ⟨0, rfl, Nat.zero_le _, rfl, Below.refl _ _⟩
    case round =>
      obtain ⟨k, rfl, hk, ht, kk⟩ := hrel
      by_cases hlt : k < X.length
      · have hly : k < Y.length := by have := HL.out; omega
        obtain ⟨b, o, rfl, hbz, c0, c1⟩ := (HA.out.lift kk).at k hlt
        obtain ⟨b2, o2, rfl, hbz2, d0, d1⟩ := (HB.out.lift kk).at k hly
        have hst := take_eq_step hlt hly ht
        have hne := ne_of_at hlt hly
        generalize X[k] = x at *
        generalize Y[k] = y at *
        obtain ⟨x1, x2⟩ := x
        obtain ⟨y1, y2⟩ := y
        simp only at c0 c1 d0 d1
        have kd := Lib.hid kk.drew
        have hk0 : (k : Int) < X.length := by omega
        clear ht HA HB
        by_cases he : (x1, x2) = (y1, y2)
        · have Hs := Lib.hid (hst.2 he)
          obtain ⟨rfl, rfl⟩ : x1 = y1 ∧ x2 = y2 := by simpa using he
          clear hst hne he
          go_wp2_with fail
          have k1 : (0 : Int) ≤ k := by omega
          have k2 : k < X.length := hlt
          go_region
          go_wp2
          go_roundw
          case rel => exact ⟨k + 1, by go_num, by omega, Hs.out, kd.out⟩
          case measure => simp [intOf]; omega
        · have hv : V = false := by rw [HV.out]; simpa using hne he
          subst hv
          have Hne := Lib.hid he
          clear hst hne he
          by_cases h1 : x1 = y1
          · subst h1
            have h2 : ¬ x2 = y2 := by rintro rfl; exact Hne.out rfl
            clear Hne
            go_wp2_with fail
            have k1 : (0 : Int) ≤ k := by omega
            have k2 : k < X.length := hlt
            go_region
            go_wp2
            go_ret
            exact ⟨rfl, kd.out⟩
          · clear Hne
            go_wp2_with fail
            have k1 : (0 : Int) ≤ k := by omega
            have k2 : k < X.length := hlt
            go_region
            go_wp2
            go_ret
            exact ⟨rfl, kd.out⟩
      · have hv : V = true := by
          have := HL.out
          rw [List.take_of_length_le (by omega), List.take_of_length_le (by omega)] at ht
          rw [HV.out]; simpa using ht
        subst hv
        have hge : (X.length : Int) ≤ k := by omega
        clear ht
        go_wp2
        go_ret
        exact ⟨rfl, kk⟩
  · have hv : V = false := by rw [HV.out]; simp; rintro rfl; exact hl rfl
    subst hv
    have hli : ¬ (X.length : Int) = Y.length := by omega
    go_enter Try.func14, Try.ntmps14
    go_wp2
    go_ret
    exact ⟨rfl, Below.refl _ _⟩
set_option maxHeartbeats 2000000 in
set_option maxRecDepth 100000 in
theorem idsSame_any (X Y : List Int) (pa pb : Option Addr) (ca cb : Nat) (w : World) (hX : X.length ≤ 1000) (hA : RdU w pa X) (hB : RdU w pb Y) :
    Calls Try.prog 23 #[.slice pa X.length ca, .slice pb Y.length cb] w fun e w' => e = .returned (.bool (decide (X = Y))) ∧ Below w.heap.size w w' := by
  obtain ⟨V, hV⟩ : ∃ V, V = decide (X = Y) := ⟨_, rfl⟩
  rw [← hV]
  have HV := Lib.hid hV
  clear hV
  have HA := Lib.hid hA
  have HB := Lib.hid hB
  clear hA hB
  by_cases hl : X.length = Y.length
  · have HL := Lib.hid hl
    have hXi : (X.length : Int) ≤ 1000 := by omega
    rw [← hl]
    clear hl
    go_enter Try.func23, Try.ntmps23
    go_wp2_with fail
    go_loopw [5] (fun i wx => ∃ k : Nat, i = .int .i64 k ∧ k ≤ X.length ∧ X.take k = Y.take k ∧ Below w.heap.size w wx) (fun i _ => X.length - (intOf i).toNat)
    case atStart => exact ⟨0, rfl, Nat.zero_le _, rfl, Below.refl _ _⟩
    case round =>
      obtain ⟨k, rfl, hk, ht, kk⟩ := hrel
      by_cases hlt : k < X.length
      · have hly : k < Y.length := by have := HL.out; omega
        obtain ⟨b, o, rfl, hbz, c0⟩ := (HA.out.lift kk).at k hlt
        obtain ⟨b2, o2, rfl, hbz2, d0⟩ := (HB.out.lift kk).at k hly
        have hst := take_eq_step hlt hly ht
        have hne := ne_of_at hlt hly
        generalize X[k] = x at *
        generalize Y[k] = y at *
        have kd := Lib.hid kk.drew
        have hk0 : (k : Int) < X.length := by omega
        clear ht HA HB
        by_cases he : x = y
        · have Hs := Lib.hid (hst.2 he)
          subst he
          clear hst hne
          go_wp2_with fail
          have k1 : (0 : Int) ≤ k := by omega
          have k2 : k < X.length := hlt
          go_region
          go_wp2
          go_roundw
          case rel => exact ⟨k + 1, by go_num, by omega, Hs.out, kd.out⟩
          case measure => simp [intOf]; omega
        · have hv : V = false := by rw [HV.out]; simpa using hne he
          subst hv
          clear hst hne
          go_wp2_with fail
          have k1 : (0 : Int) ≤ k := by omega
          have k2 : k < X.length := hlt
          go_region
          go_wp2
          go_ret
          exact ⟨rfl, kd.out⟩
      · have hv : V = true := by
          have := HL.out
          rw [List.take_of_length_le (by omega), List.take_of_length_le (by omega)] at ht
          rw [HV.out]; simpa using ht
        subst hv
        have hge : (X.length : Int) ≤ k := by omega
        clear ht
        go_wp2
        go_ret
        exact ⟨rfl, kk⟩
  · have hv : V = false := by rw [HV.out]; simp; rintro rfl; exact hl rfl
    subst hv
    have hli : ¬ (X.length : Int) = Y.length := by omega
    go_enter Try.func23, Try.ntmps23
    go_wp2
    go_ret
    exact ⟨rfl, Below.refl _ _⟩
end Go.Proofs.Ytgipohicgbppaaa
