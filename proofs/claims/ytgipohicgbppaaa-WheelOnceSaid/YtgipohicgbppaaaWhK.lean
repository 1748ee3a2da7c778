/- Layer 11: the contract of Concat. -/
import Derived.Test.YtgipohicgbppaaaWhJ
namespace Go.Proofs.Ytgipohicgbppaaa
open Go.RowKit Go.Shelf
/-- A part: where it lies, its room, its timers. -/
abbrev Part := Option Addr × Nat × List Tm
def partV (p : Part) : Value := .slice p.1 p.2.2.length p.2.1
def flatP (Ps : List Part) : List Tm := Ps.flatMap (·.2.2)
theorem flatP_snoc (Ps : List Part) (p : Part) : flatP (Ps ++ [p]) = flatP Ps ++ p.2.2 := by unfold flatP; rw [List.flatMap_append]; simp
theorem flatP_take_le (Ps : List Part) (k : Nat) : (flatP (Ps.take k)).length ≤ (flatP Ps).length := by
  have h : flatP Ps = flatP (Ps.take k) ++ flatP (Ps.drop k) := by
    unfold flatP; rw [← List.flatMap_append, List.take_append_drop]
  rw [h, List.length_append]; omega
theorem flatP_step (Ps : List Part) (k : Nat) (h : k < Ps.length) : flatP (Ps.take (k + 1)) = flatP (Ps.take k) ++ Ps[k].2.2 := by
  rw [List.take_succ_eq_append_getElem h, flatP_snoc]
structure Parts (w : World) (B o : Nat) (Ps : List Part) : Prop where
  lt : B < w.heap.size
  cell : ∀ i (h : i < Ps.length), w.cell? ⟨B, o + i, none⟩ = some (partV Ps[i])
  rd : ∀ i (h : i < Ps.length), Rd w Ps[i].1 Ps[i].2.2
  nil : ∀ i (h : i < Ps.length), Ps[i].1 = none → Ps[i].2.1 = 0
theorem Parts.lift {w w' : World} {B o : Nat} {Ps : List Part} (h : Parts w B o Ps) (hb : Below w.heap.size w w') : Parts w' B o Ps :=
  ⟨Nat.lt_of_lt_of_le h.lt hb.size, fun i hi => (hb.cell (p := ⟨B, o + i, none⟩) h.lt).trans (h.cell i hi), fun i hi => (h.rd i hi).lift hb, h.nil⟩
set_option maxHeartbeats 1000000 in
theorem concat_any (Ps : List Part) (B o : Nat) (w : World) (hn : (flatP Ps).length ≤ 1000) (hl : Ps.length ≤ 1000) (hP : Parts w B o Ps) :
    Calls Try.prog 35 #[.slice (some ⟨B, o, none⟩) Ps.length Ps.length] w (ListPost (flatP Ps) w) := by
  obtain ⟨i0, hi, hz0, hz1, hz2⟩ := info_parts info_tm
  have Hz0 := Lib.hid hz0
  have Hz1 := Lib.hid hz1
  have Hz2 := Lib.hid hz2
  have HP := Lib.hid hP
  have HT := Lib.hid (flatP_take_le Ps)
  have HN := Lib.hid hn
  have G := Lib.hid grow_nil
  have hPi : (Ps.length : Int) ≤ 1000 := by omega
  clear hz0 hz1 hz2 hP hn
  go_enter Try.func35, Try.ntmps35
  go_wp2_with fail
  go_loopw [3, 11] (fun s i wx => ∃ k n : Nat, i = .int .i64 k ∧ k ≤ Ps.length ∧ s = .int .i64 n ∧ n = (flatP (Ps.take k)).length ∧ wx = w) (fun _ i _ => Ps.length - (intOf i).toNat)
  case atStart => exact ⟨0, 0, rfl, Nat.zero_le _, rfl, rfl, rfl⟩
  case round =>
    obtain ⟨k, n, rfl, hk, rfl, hnn, hww⟩ := hrel
    obtain rfl := hww.symm
    by_cases hlt : k < Ps.length
    · have hlt' : (k : Int) < Ps.length := by omega
      have hc := HP.out.cell k hlt
      have hst := flatP_step Ps k hlt
      have h1 := HT.out (k + 1)
      rw [hst, List.length_append, ← hnn] at h1
      have hst2 := congrArg List.length hst
      rw [List.length_append, ← hnn] at hst2
      have h0 := HN.out
      unfold partV at hc
      generalize Ps[k] = p at *
      obtain ⟨pa, cap, xs⟩ := p
      simp only at hc h1 hst2
      have b1 : n + xs.length ≤ 1000 := by omega
      have Hst := Lib.hid hst2
      clear hst hst2 h1 h0 hnn
      have b2 : (n : Int) + xs.length ≤ 1000 := by omega
      have b3 : (0 : Int) ≤ (n : Int) + xs.length := by omega
      have b4 : ¬ (n : Int) + xs.length < 0 := by omega
      go_wp2
      go_roundw
      case rel => exact ⟨k + 1, n + xs.length, by go_num, by omega, by go_num, Hst.out.symm, trivial⟩
      case measure => simp [intOf]; omega
    · have hge : (Ps.length : Int) ≤ k := by omega
      rw [List.take_of_length_le (by omega)] at hnn
      have hn2 : n ≤ 1000 := by have := HN.out; omega
      have G2 := Lib.hid (G.out n w hn2)
      have Hnn := Lib.hid hnn
      clear hnn
      go_wp2_with fail
      refine G2.out.mono ?_
      rintro e w1 ⟨⟨v, rfl, hown⟩, hb1⟩
      have HP1 := Lib.hid (HP.out.lift hb1)
      have Hb := Lib.hid hb1
      have Ho := Lib.hid hown
      clear G2 hb1 hown
      go_wp2_with fail
      go_loopw [6, 27] (fun s i wx => ∃ k : Nat, i = .int .i64 k ∧ k ≤ Ps.length ∧ Own wx w.heap.size s (flatP (Ps.take k)) ∧ Below w.heap.size w wx) (fun _ i _ => Ps.length - (intOf i).toNat)
      case atStart => exact ⟨0, rfl, Nat.zero_le _, Ho.out, Hb.out⟩
      case round =>
        obtain ⟨k, rfl, hk, hw, kk⟩ := hrel
        by_cases hlt : k < Ps.length
        · have hlt' : (k : Int) < Ps.length := by omega
          have hc := (HP.out.lift kk).cell k hlt
          have hr := (HP.out.lift kk).rd k hlt
          have hnl := (HP.out.lift kk).nil k hlt
          have hst := flatP_step Ps k hlt
          have h1 := HT.out (k + 1)
          have h2 := HT.out k
          rw [hst, List.length_append] at h1
          have h0 := HN.out
          unfold partV at hc
          generalize Ps[k] = p at *
          obtain ⟨pa, cap, xs⟩ := p
          simp only at hc hr hst h1 hnl
          have hX := Lib.hid (flatP (Ps.take k)).length.le_refl
          have hu := own_base hw.own
          rename_i s _ _
          have O := Lib.hid hw.own
          have b1 : (flatP (Ps.take k)).length + xs.length ≤ 1000 := by omega
          have fin : ∀ v2 w2, w2.ownsRow w.heap.size 38 2 v2 ((flatP (Ps.take k)).length + xs.length) (flatT (flatP (Ps.take k)) ++ flatT xs) → Own w2 w.heap.size v2 (flatP (Ps.take (k + 1))) := by
            intro v2 w2 h
            refine ⟨?_⟩
            rw [hst, List.length_append, flatT_append]
            exact h
          have Fin := Lib.hid fin
          have Hu := Lib.hid hu
          generalize hA : flatP (Ps.take k) = A at *
          clear hst h1 h2 h0 hw hu hX hA
          cases pa with
          | none =>
            obtain rfl := hr.none
            obtain rfl := hnl rfl
            have Fin2 := Lib.hid (Fin.out _ _ (by simpa [flatT] using O.out))
            clear hr Fin Hu b1
            go_wp2_with (first | (at_builtin; refine wpList_append_own_none rfl (.tmp 31) (.tmp 32) 22 rfl w.heap.size 38 i0 2 Try.underlying22 hi _ _ _ rfl O.out rfl ?_))
            go_wp2
            go_roundw
            case rel => exact ⟨k + 1, by go_num, by omega, Fin2.out, kk⟩
            case measure => simp [intOf]; omega
          | some a =>
            have N := Lib.hid hr.some
            have Hw := Lib.hid kk
            clear hr
            go_wp2_with (first | (at_builtin; refine wpList_append_own _ rfl (.tmp 31) (.tmp 32) 22 rfl w.heap.size 38 i0 (.agg #[.int .i64 0, .int .u64 0]) 2 16 Try.underlying22 hi Hz0.out Hz1.out Hz2.out rfl (by decide) _ _ _ rfl O.out a xs.length cap (flatT xs) rfl (flatT_len xs) N.out (flatT_one xs) ?c3a ?c4a ?c5a ?_))
            case c3a => unfold maxLen; omega
            case c4a => omega
            case c5a => exact kk.size
            intro v2 w2 hown2 hgr2 _
            have Fin2 := Lib.hid (Fin.out v2 w2 hown2)
            have kk2 := Lib.hid (Hw.out.grown hgr2 Hw.out.size Hu.out)
            clear hown2 hgr2 Fin N O Hu Hw
            go_wp2
            go_roundw
            case rel => exact ⟨k + 1, by go_num, by omega, Fin2.out, kk2.out⟩
            case measure => simp [intOf]; omega
        · have hge : (Ps.length : Int) ≤ k := by omega
          rw [List.take_of_length_le (by omega)] at hw
          go_wp2
          go_ret
          exact ⟨_, rfl, hw, kk⟩
end Go.Proofs.Ytgipohicgbppaaa
