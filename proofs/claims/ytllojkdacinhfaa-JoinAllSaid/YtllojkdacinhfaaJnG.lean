/- Layer 9: the document's Same; the chapter's examples. -/
import Derived.Test.YtllojkdacinhfaaJnF
import Derived.Deep.QuietTactic
import Derived.BigQuiet
namespace Go.Proofs.Ytllojkdacinhfaa.Jn
open Go.RowKit Go.Shelf Go.Proofs.Ytllojkdacinhfaa Go.Proofs.Ytllojkdacinhfaa.Ke
set_option linter.unusedVariables false
set_option linter.unusedSimpArgs false
theorem below_drewN {B : Nat} {a w : World} (h : Below B a w) (n : Nat) : Below B a (w.drewN n) := ⟨h.os, h.tape, h.output, h.size, h.block⟩
theorem take_eq_step {α : Type} {X Y : List α} {k : Nat} (hx : k < X.length) (hy : k < Y.length) (h : X.take k = Y.take k) : X.take (k + 1) = Y.take (k + 1) ↔ X[k] = Y[k] := by
  rw [List.take_succ_eq_append_getElem hx, List.take_succ_eq_append_getElem hy, h]
  exact ⟨fun e => List.head_eq_of_cons_eq (List.append_cancel_left e), fun e => by rw [e]⟩
set_option maxHeartbeats 4000000 in
set_option maxRecDepth 100000 in
theorem same_any (X Y : List El) (pa pb : Option Addr) (ca cb : Nat) (w : World) (hX : X.length ≤ 7000) (hA : Rd w pa X) (hB : Rd w pb Y) :
    Calls Try.prog 15 #[.slice pa X.length ca, .slice pb Y.length cb] w fun e w' => e = .returned (.bool (decide (X = Y))) ∧ Below w.heap.size w w' := by
  obtain ⟨V, hV⟩ : ∃ V, V = decide (X = Y) := ⟨_, rfl⟩
  rw [← hV]
  have HV := Lib.hid hV
  have HA := Lib.hid hA
  have HB := Lib.hid hB
  clear hV hA hB
  by_cases hl : X.length = Y.length
  · have HL := Lib.hid hl
    have hXi : (X.length : Int) ≤ 7000 := by omega
    rw [← hl]
    clear hl
    go_enter Try.func15, Try.ntmps15
    go_wp2_with fail
    go_loopw [5] (fun i wx => ∃ k : Nat, i = .int .i64 k ∧ k ≤ X.length ∧ X.take k = Y.take k ∧ Below w.heap.size w wx) (fun i _ => X.length - (intOf i).toNat)
    case atStart => exact ⟨0, rfl, Nat.zero_le _, rfl, Below.refl _ _⟩
    case round =>
      obtain ⟨k, rfl, hk, ht, kk⟩ := hrel
      by_cases hlt : k < X.length
      · have hly : k < Y.length := by have := HL.out; omega
        obtain ⟨b, o, rfl, hbz, c0, c1, c2⟩ := (HA.out.lift kk).at k hlt
        obtain ⟨b2, o2, rfl, hbz2, d0, d1, d2⟩ := (HB.out.lift kk).at k hly
        have hst := take_eq_step hlt hly ht
        have hne : X[k] ≠ Y[k] → X ≠ Y := fun h => by rintro rfl; exact h rfl
        generalize X[k] = x at *
        generalize Y[k] = y at *
        obtain ⟨x1, x2, x3⟩ := x
        obtain ⟨y1, y2, y3⟩ := y
        simp only at c0 c1 c2 d0 d1 d2
        have Kk := Lib.hid kk
        have hk0 : (k : Int) < X.length := by omega
        clear ht HA HB kk
        by_cases he : (x1, x2, x3) = (y1, y2, y3)
        · have Hs := Lib.hid (hst.2 he)
          obtain ⟨rfl, rfl, rfl⟩ : x1 = y1 ∧ x2 = y2 ∧ x3 = y3 := by simpa using he
          clear hst hne he
          go_wp2_with fail
          have k1 : (0 : Int) ≤ k := by omega
          have k2 : k < X.length := hlt
          go_quiet (fail)
          have kq := Lib.hid (below_drewN Kk.out nq)
          go_wp2
          go_roundw
          case rel => exact ⟨k + 1, by go_num, by omega, Hs.out, kq.out⟩
          case measure => simp [intOf]; omega
        · have hv : V = false := by rw [HV.out]; simpa using hne he
          subst hv
          have Hne := Lib.hid he
          clear hst hne he HV
          by_cases h1 : x1 = y1
          · subst h1
            by_cases h2 : x2 = y2
            · subst h2
              have h3 : ¬ x3 = y3 := by rintro rfl; exact Hne.out rfl
              clear Hne
              go_wp2_with fail
              have k1 : (0 : Int) ≤ k := by omega
              have k2 : k < X.length := hlt
              go_quiet (fail)
              have kq := Lib.hid (below_drewN Kk.out nq)
              go_wp2
              go_ret
              exact ⟨rfl, kq.out⟩
            · clear Hne
              go_wp2_with fail
              have k1 : (0 : Int) ≤ k := by omega
              have k2 : k < X.length := hlt
              go_quiet (fail)
              have kq := Lib.hid (below_drewN Kk.out nq)
              go_wp2
              go_ret
              exact ⟨rfl, kq.out⟩
          · clear Hne
            go_wp2_with fail
            have k1 : (0 : Int) ≤ k := by omega
            have k2 : k < X.length := hlt
            go_quiet (fail)
            have kq := Lib.hid (below_drewN Kk.out nq)
            go_wp2
            go_ret
            exact ⟨rfl, kq.out⟩
      · have hv : V = true := by
          have := HL.out
          rw [List.take_of_length_le (by omega), List.take_of_length_le (by omega)] at ht
          rw [HV.out]; simpa using ht
        subst hv
        have hge : (X.length : Int) ≤ k := by omega
        have kq := Lib.hid kk
        clear ht HA HB kk
        go_wp2
        go_ret
        exact ⟨rfl, kq.out⟩
  · obtain rfl : V = false := by rw [HV.out]; simp; rintro rfl; exact hl rfl
    have hli : ¬ (X.length : Int) = Y.length := by omega
    clear HA HB HV
    go_enter Try.func15, Try.ntmps15
    go_wp2
    go_ret
    exact ⟨rfl, Below.refl _ _⟩
abbrev bAll : ByteArray := ⟨#[97, 108, 108]⟩
abbrev bAny : ByteArray := ⟨#[97, 110, 121]⟩
abbrev bCnt : ByteArray := ⟨#[99, 111, 117, 110, 116]⟩
theorem aw1 : feedD bAll 2 0 9 [] (0, 1, 0) = ([(0, 1, 0)], [], [], 0) := by decide +kernel
theorem aw2 : feedD bAll 2 0 9 [(0, 1, 0)] (0, 2, 0) = ([(0, 1, 0), (0, 2, 0)], [], [], 0) := by decide +kernel
theorem meet3 : meetL bAll 2 0 [(0, 1, 0), (0, 2, 0), (1, 3, 0)] = [0, 2] := by
  unfold meetL
  rw [if_pos (by decide +kernel)]
  unfold eachS
  rw [if_neg (by decide +kernel)]
  show List.mergeSort [(0 : Int), 2] _ = _
  rw [List.mergeSort_of_pairwise]
  simp
theorem aw3 : feedD bAll 2 0 9 [(0, 1, 0), (0, 2, 0)] (1, 3, 0) = ([(0, 2, 0)], [(0, 1, 0), (1, 3, 0)], [], 0) := by
  have h : feedD bAll 2 0 9 [(0, 1, 0), (0, 2, 0)] (1, 3, 0) = feedT bAll 2 0 [(0, 1, 0), (0, 2, 0), (1, 3, 0)] [] := by
    unfold feedD
    rw [if_pos (by decide +kernel), if_neg (by decide +kernel), if_neg (by decide +kernel)]
    rfl
  rw [h]
  unfold feedT
  rw [meet3]
  decide +kernel
theorem aw4 : feedD bAny 1 0 0 [] (0, 1, 0) = ([], [(0, 1, 0)], [], 0) := by decide +kernel
end Go.Proofs.Ytllojkdacinhfaa.Jn
