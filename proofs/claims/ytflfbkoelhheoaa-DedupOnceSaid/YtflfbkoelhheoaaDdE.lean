/- Layer 13: what is looked at; the document's Same and Find. -/
import Derived.Test.YtflfbkoelhheoaaDdD
import Derived.Test.YtflfbkoelhheoaaNmL
import Derived.Deep.QuietTactic
import Derived.BigQuiet
namespace Go.Proofs.Ytflfbkoelhheoaa.Dd
open Go.RowKit Go.Shelf Go.Proofs.Ytflfbkoelhheoaa Go.Proofs.Ytflfbkoelhheoaa.La
set_option linter.unusedVariables false
set_option linter.unusedSimpArgs false
theorem below_drewN {B : Nat} {a w : World} (h : Below B a w) (n : Nat) : Below B a (w.drewN n) := ⟨h.os, h.tape, h.output, h.size, h.block⟩
def fewE (x : El) : El := (fw x.1, x.2)
def fewD (X : List El) : List El := (X.take 51).map fewE
theorem fewD_len (X : List El) : (fewD X).length ≤ 51 := by unfold fewD; simp; omega
theorem few_ok (X : List El) (h : ∀ x ∈ X, 0 ≤ x.2.1 ∧ x.2.1 ≤ 18446744073709551615) : Oks (fewD X) := by
  intro y hy
  obtain ⟨x, hx, rfl⟩ := List.mem_map.1 hy
  exact ⟨fw_size _, (h x (List.mem_of_mem_take hx)).1, (h x (List.mem_of_mem_take hx)).2⟩
set_option maxRecDepth 100000 in
set_option maxHeartbeats 2000000 in
theorem fewD_any (X : List El) (pa : Option Addr) (cap : Nat) (w : World) (hXm : X.length ≤ 9223372036854775807) (hR : Rd w pa X) :
    Calls Try.prog 8 #[.slice pa X.length cap] w (ListPost (fewD X) w) := by
  have HR := Lib.hid hR
  have HX := Lib.hid hXm
  clear hR hXm
  go_enter Try.func8, Try.ntmps8
  go_wp2_with fail
  go_loopw [3, 4] (fun v i wx => ∃ k : Nat, i = .int .i64 k ∧ k ≤ X.length ∧ k ≤ 51 ∧ Own wx w.heap.size v ((X.take k).map fewE) ∧ Below w.heap.size w wx) (fun _ i _ => 51 - (intOf i).toNat)
  case atStart => exact ⟨0, rfl, Nat.zero_le _, Nat.zero_le _, Own.nil _ _, Below.refl _ _⟩
  case round =>
    obtain ⟨k, rfl, hk, hk51, ho, kk⟩ := hrel
    by_cases hlt : k < X.length
    · have hlt' : (k : Int) < X.length := by omega
      by_cases h51 : k < 51
      · have h51i : (k : Int) < 51 := by omega
        obtain ⟨b, o, rfl, hbz, c0, c1, c2⟩ := (HR.out.lift kk).at k hlt
        have hst : (X.take (k + 1)).map fewE = (X.take k).map fewE ++ [fewE X[k]] := by rw [List.take_succ_eq_append_getElem hlt, List.map_append]; rfl
        have hln : ((X.take k).map fewE).length ≤ 51 := by simp; omega
        have Fw := Lib.hid (fun w => few_any X[k].1 w)
        have hfe : fewE X[k] = (fw X[k].1, X[k].2.1, X[k].2.2) := rfl
        rw [hfe] at hst
        generalize X[k] = x at *
        obtain ⟨x1, x2, x3⟩ := x
        simp only at c0 c1 c2 hst
        generalize hf1 : fw x1 = f1 at *
        have Hst := Lib.hid hst
        generalize (X.take k).map fewE = A at *
        have hb2 : Below wr.heap.size wr ((wr.alloc (.cells #[.string f1, .int .u64 x2, .int .i64 x3] 25)).alloc (.cells #[.string f1, .int .u64 x2, .int .i64 x3] 25)) := ((Below.refl _ _).alloc (Nat.le_refl _) _).alloc (by simp) _
        have O := Lib.hid (ho.lift hb2)
        have kb := kk.trans (hb2.mono kk.size)
        have R1 := one_rd (f1, x2, x3) (wr.alloc (.cells #[.string f1, .int .u64 x2, .int .i64 x3] 25))
        have hsz : (wr.alloc (.cells #[.string f1, .int .u64 x2, .int .i64 x3] 25)).heap.size = wr.heap.size + 1 := by simp
        rw [hsz] at R1
        have RR := Lib.hid R1
        have hl2 : A.length + [(f1, x2, x3)].length ≤ 8000 := by simp; omega
        clear hst hln hf1 ho hb2 R1 hsz hfe
        go_wp2_with fail
        refine (Fw.out _).mono ?_
        rintro e w1 ⟨rfl, rfl⟩
        go_wp2_with (first | (at_builtin; refine wpList_app rfl (.tmp 24) (.tmp 26) rfl w.heap.size _ A [(f1, x2, x3)] rfl O.out (some ⟨wr.heap.size + 1, 0, none⟩) 1 rfl RR.out (fun h => by cases h) hl2 kb.size ?_))
        intro v2 w2 o2 hb2
        have O2 := Lib.hid o2
        have K2 := Lib.hid (kb.trans hb2)
        clear o2 hb2 O RR
        go_wp2
        go_roundw
        case rel => exact ⟨k + 1, by go_num, by omega, by omega, by rw [Hst.out]; exact O2.out, K2.out⟩
        case measure => simp [intOf]; omega
      · have h51i : ¬ (k : Int) < 51 := by omega
        have h51d : decide ((k : Int) < 51) = false := by simpa using h51i
        obtain rfl : k = 51 := by omega
        go_wp2
        go_ret
        exact ⟨_, rfl, ho, kk⟩
    · have hge : ¬ (k : Int) < X.length := by omega
      have hged : decide ((k : Int) < X.length) = false := by simpa using hge
      have e : X.take k = X.take 51 := by rw [List.take_of_length_le (by omega), List.take_of_length_le (by omega)]
      rw [e] at ho
      go_wp2
      go_ret
      exact ⟨_, rfl, ho, kk⟩
theorem take_eq_step {α : Type} {X Y : List α} {k : Nat} (hx : k < X.length) (hy : k < Y.length) (h : X.take k = Y.take k) : X.take (k + 1) = Y.take (k + 1) ↔ X[k] = Y[k] := by
  rw [List.take_succ_eq_append_getElem hx, List.take_succ_eq_append_getElem hy, h]
  exact ⟨fun e => List.head_eq_of_cons_eq (List.append_cancel_left e), fun e => by rw [e]⟩
set_option maxHeartbeats 4000000 in
set_option maxRecDepth 100000 in
theorem same_any (X Y : List El) (pa pb : Option Addr) (ca cb : Nat) (w : World) (hX : X.length ≤ 7000) (hA : Rd w pa X) (hB : Rd w pb Y) :
    Calls Try.prog 16 #[.slice pa X.length ca, .slice pb Y.length cb] w fun e w' => e = .returned (.bool (decide (X = Y))) ∧ Below w.heap.size w w' := by
  obtain ⟨V, hV⟩ : ∃ V, V = decide (X = Y) := ⟨_, rfl⟩
  rw [← hV]
  have HV := Lib.hid hV
  have HA := Lib.hid hA
  have HB := Lib.hid hB
  clear hV hA hB
  by_cases hl : X.length = Y.length
  · have HL := Lib.hid hl
    have hXi : (X.length : Int) ≤ 7000 := by omega
    rw [← hl]
    clear hl
    go_enter Try.func16, Try.ntmps16
    go_wp2_with fail
    go_loopw [5] (fun i wx => ∃ k : Nat, i = .int .i64 k ∧ k ≤ X.length ∧ X.take k = Y.take k ∧ Below w.heap.size w wx) (fun i _ => X.length - (intOf i).toNat)
    case atStart => exact ⟨0, rfl, Nat.zero_le _, rfl, Below.refl _ _⟩
    case round =>
      obtain ⟨k, rfl, hk, ht, kk⟩ := hrel
      by_cases hlt : k < X.length
      · have hly : k < Y.length := by have := HL.out; omega
        obtain ⟨b, o, rfl, hbz, c0, c1, c2⟩ := (HA.out.lift kk).at k hlt
        obtain ⟨b2, o2, rfl, hbz2, d0, d1, d2⟩ := (HB.out.lift kk).at k hly
        have hst := take_eq_step hlt hly ht
        have hne : X[k] ≠ Y[k] → X ≠ Y := fun h => by rintro rfl; exact h rfl
        generalize X[k] = x at *
        generalize Y[k] = y at *
        obtain ⟨x1, x2, x3⟩ := x
        obtain ⟨y1, y2, y3⟩ := y
        simp only at c0 c1 c2 d0 d1 d2
        have Kk := Lib.hid kk
        have hk0 : (k : Int) < X.length := by omega
        clear ht HA HB kk
        by_cases he : (x1, x2, x3) = (y1, y2, y3)
        · have Hs := Lib.hid (hst.2 he)
          obtain ⟨rfl, rfl, rfl⟩ : x1 = y1 ∧ x2 = y2 ∧ x3 = y3 := by simpa using he
          clear hst hne he
          go_wp2_with fail
          have k1 : (0 : Int) ≤ k := by omega
          have k2 : k < X.length := hlt
          go_quiet (fail)
          have kq := Lib.hid (below_drewN Kk.out nq)
          go_wp2
          go_roundw
          case rel => exact ⟨k + 1, by go_num, by omega, Hs.out, kq.out⟩
          case measure => simp [intOf]; omega
        · have hv : V = false := by rw [HV.out]; simpa using hne he
          subst hv
          have Hne := Lib.hid he
          clear hst hne he HV
          by_cases h1 : x1 = y1
          · subst h1
            by_cases h2 : x2 = y2
            · subst h2
              have h3 : ¬ x3 = y3 := by rintro rfl; exact Hne.out rfl
              clear Hne
              go_wp2_with fail
              have k1 : (0 : Int) ≤ k := by omega
              have k2 : k < X.length := hlt
              go_quiet (fail)
              have kq := Lib.hid (below_drewN Kk.out nq)
              go_wp2
              go_ret
              exact ⟨rfl, kq.out⟩
            · clear Hne
              go_wp2_with fail
              have k1 : (0 : Int) ≤ k := by omega
              have k2 : k < X.length := hlt
              go_quiet (fail)
              have kq := Lib.hid (below_drewN Kk.out nq)
              go_wp2
              go_ret
              exact ⟨rfl, kq.out⟩
          · have h1t : ¬ x1.toList = y1.toList := fun e => h1 ((str_eq _ _).1 e)
            have h1b : (x1.toList == y1.toList) = false := by simpa using h1t
            clear Hne
            go_wp2_with fail
            have k1 : (0 : Int) ≤ k := by omega
            have k2 : k < X.length := hlt
            go_quiet (fail)
            have kq := Lib.hid (below_drewN Kk.out nq)
            go_wp2
            go_ret
            exact ⟨rfl, kq.out⟩
      · have hv : V = true := by
          have := HL.out
          rw [List.take_of_length_le (by omega), List.take_of_length_le (by omega)] at ht
          rw [HV.out]; simpa using ht
        subst hv
        have hge : (X.length : Int) ≤ k := by omega
        clear ht HV
        go_wp2
        go_ret
        exact ⟨rfl, kk⟩
  · have hv : V = false := by rw [HV.out]; simp; rintro rfl; exact hl rfl
    subst hv
    have hli : ¬ (X.length : Int) = Y.length := by omega
    go_enter Try.func16, Try.ntmps16
    go_wp2
    go_ret
    exact ⟨rfl, Below.refl _ _⟩
set_option maxHeartbeats 2000000 in
set_option maxRecDepth 100000 in
theorem rfind_any (X : List El) (pa : Option Addr) (cap : Nat) (p : ByteArray) (w : World) (hX : X.length ≤ 100) (hR : Rd w pa X) :
    Calls Try.prog 15 #[.slice pa X.length cap, .string p] w fun e w' => e = .returned (.tuple #[eV (findD X p).1, .bool (findD X p).2]) ∧ Below w.heap.size w w' := by
  obtain ⟨V, hV⟩ : ∃ V, V = findD X p := ⟨_, rfl⟩
  rw [← hV]
  have HV := Lib.hid hV
  have HR := Lib.hid hR
  have hXi : (X.length : Int) ≤ 100 := by omega
  have BX := Lib.hid (Bx.new zE w)
  clear hV hR
  have HB := Lib.hid (show Below w.heap.size w (w.alloc (.cells #[.string ⟨#[]⟩, .int .u64 0, .int .i64 0] 25)) from (Below.refl _ _).alloc (Nat.le_refl _) _)
  go_enter Try.func15, Try.ntmps15
  go_wp2_with fail
  go_loopw [6] (fun i wx => ∃ k : Nat, i = .int .i64 k ∧ k ≤ X.length ∧ Hid (k ≤ posD X p) ∧ wx = w.alloc (.cells #[.string ⟨#[]⟩, .int .u64 0, .int .i64 0] 25)) (fun i _ => X.length - (intOf i).toNat)
  case atStart => exact ⟨0, rfl, Nat.zero_le _, Lib.hid (Nat.zero_le _), rfl⟩
  case round =>
    obtain ⟨k, rfl, hk, hp, rfl⟩ := hrel
    obtain ⟨y0, y1, y2⟩ := BX.out.c
    obtain ⟨q0, q1, q2⟩ := BX.out.f
    by_cases hlt : k < X.length
    · have hlt' : (k : Int) < X.length := by omega
      have hpos : ∀ h : X[k].1 = p, posD X p = k := fun h => by
        have h1 := hp.out
        rcases Nat.lt_or_ge k (posD X p) with h2 | h2
        · have := lsPl_before (fun x : El => decide (x.1 = p)) X k hlt h2
          simp at this; exact absurd h this
        · omega
      have hnot : ¬ X[k].1 = p → k + 1 ≤ posD X p := fun h => by
        have h1 := hp.out
        rcases Nat.lt_or_ge k (posD X p) with h2 | h2
        · omega
        · have e : k = posD X p := by omega
          have h3 := lsPl_at (fun x : El => decide (x.1 = p)) X (by show posD X p < _; omega)
          have h4 : (X[posD X p]'(by omega)).1 = p := of_decide_eq_true h3
          simp only [← e] at h4
          exact absurd h4 h
      obtain ⟨b, o, rfl, hbz, c0, c1, c2⟩ := HR.out.at k hlt
      have hne : b ≠ w.heap.size := by omega
      have hfs := fun h : posD X p = k => findD_some X p (by omega)
      have hxk : ∀ h : posD X p = k, X[posD X p]? = some X[k] := fun h => by rw [h]; exact List.getElem?_eq_getElem hlt
      have hV2 : ∀ h : X[k].1 = p, V = (X[k], true) := fun h => by
        rw [HV.out]; unfold findD; rw [hxk (hpos h)]
      have Hnot := Lib.hid hnot
      have HV2 := Lib.hid hV2
      clear hpos hnot hfs hxk hV2
      generalize X[k] = x at *
      obtain ⟨x1, x2, x3⟩ := x
      simp only at c0 c1 c2
      by_cases h1 : x1 = p
      · obtain rfl : V = ((x1, x2, x3), true) := HV2.out h1
        subst h1
        clear HV HV2 Hnot hp
        go_wp2
        exact bodyPost_ret (v := .tuple #[.agg #[.string x1, .int .u64 x2, .int .i64 x3], .bool true]) (by simp [results, Try.results15, go_sem, y0, y1, y2]) rfl ⟨rfl, (Below.refl _ _).alloc (Nat.le_refl _) _⟩
      · have h1t : ¬ x1.toList = p.toList := fun e => h1 ((str_eq _ _).1 e)
        have h1b : (x1.toList == p.toList) = false := by simpa using h1t
        have Hk := Lib.hid (Hnot.out h1)
        clear HV2 Hnot hp
        go_wp2
        go_roundw
        case rel => exact ⟨k + 1, by go_num, by omega, Hk, trivial⟩
        case measure => simp [intOf]; omega
    · have hge : (X.length : Int) ≤ k := by omega
      obtain rfl : V = (zE, false) := by
        rw [HV.out]
        have := lsPl_le (fun x : El => decide (x.1 = p)) X
        exact findD_none X p (by have h1 := hp.out; show posD X p = _; have h2 : posD X p ≤ X.length := this; omega)
      clear HV hp
      go_wp2
      exact bodyPost_ret (v := .tuple #[.agg #[.string ⟨#[]⟩, .int .u64 0, .int .i64 0], .bool false]) (by simp [results, Try.results15, go_sem, y0, y1, y2]) rfl ⟨rfl, (Below.refl _ _).alloc (Nat.le_refl _) _⟩
end Go.Proofs.Ytflfbkoelhheoaa.Dd
