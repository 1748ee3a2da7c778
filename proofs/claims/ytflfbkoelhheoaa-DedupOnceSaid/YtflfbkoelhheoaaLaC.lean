/- Concat, With, Without over lists of api.Last. -/
import Derived.Test.YtflfbkoelhheoaaLaB
namespace Go.Proofs.Ytflfbkoelhheoaa.La
open Go.RowKit Go.Shelf Go.Proofs.Ytflfbkoelhheoaa
set_option linter.unusedVariables false
set_option linter.unusedSimpArgs false
/-- A part: where it lies, its room, what is in it. -/
abbrev Part := Option Addr × Nat × List El
def partV (p : Part) : Value := .slice p.1 p.2.2.length p.2.1
def flatP (Ps : List Part) : List El := Ps.flatMap (·.2.2)
theorem flatP_snoc (Ps : List Part) (p : Part) : flatP (Ps ++ [p]) = flatP Ps ++ p.2.2 := by unfold flatP; rw [List.flatMap_append]; simp
theorem flatP_take_le (Ps : List Part) (k : Nat) : (flatP (Ps.take k)).length ≤ (flatP Ps).length := by
  have h : flatP Ps = flatP (Ps.take k) ++ flatP (Ps.drop k) := by
    unfold flatP; rw [← List.flatMap_append, List.take_append_drop]
  rw [h, List.length_append]; omega
theorem flatP_step (Ps : List Part) (k : Nat) (h : k < Ps.length) : flatP (Ps.take (k + 1)) = flatP (Ps.take k) ++ Ps[k].2.2 := by
  rw [List.take_succ_eq_append_getElem h, flatP_snoc]
structure Parts (w : World) (B o : Nat) (Ps : List Part) : Prop where
  lt : B < w.heap.size
  cell : ∀ i (h : i < Ps.length), w.cell? ⟨B, o + i, none⟩ = some (partV Ps[i])
  rd : ∀ i (h : i < Ps.length), Rd w Ps[i].1 Ps[i].2.2
  nil : ∀ i (h : i < Ps.length), Ps[i].1 = none → Ps[i].2.1 = 0
theorem Parts.lift {w w' : World} {B o : Nat} {Ps : List Part} (h : Parts w B o Ps) (hb : Below w.heap.size w w') : Parts w' B o Ps :=
  ⟨Nat.lt_of_lt_of_le h.lt hb.size, fun i hi => (hb.cell (p := ⟨B, o + i, none⟩) h.lt).trans (h.cell i hi), fun i hi => (h.rd i hi).lift hb, h.nil⟩
set_option maxHeartbeats 1000000 in
theorem concat_any (Ps : List Part) (B o : Nat) (w : World) (hn : (flatP Ps).length ≤ 8000) (hl : Ps.length ≤ 1000) (hP : Parts w B o Ps) :
    Calls Try.prog 38 #[.slice (some ⟨B, o, none⟩) Ps.length Ps.length] w (ListPost (flatP Ps) w) := by
  obtain ⟨i0, hi, hz0, hz1, hz2⟩ := info_parts info
  have Hz0 := Lib.hid hz0
  have Hz1 := Lib.hid hz1
  have Hz2 := Lib.hid hz2
  have HP := Lib.hid hP
  have HT := Lib.hid (flatP_take_le Ps)
  have HN := Lib.hid hn
  have G := Lib.hid grow_nil
  have hPi : (Ps.length : Int) ≤ 1000 := by omega
  clear hz0 hz1 hz2 hP hn
  go_enter Try.func38, Try.ntmps38
  go_wp2_with fail
  go_loopw [3, 11] (fun s i wx => ∃ k n : Nat, i = .int .i64 k ∧ k ≤ Ps.length ∧ s = .int .i64 n ∧ n = (flatP (Ps.take k)).length ∧ wx = w) (fun _ i _ => Ps.length - (intOf i).toNat)
  case atStart => exact ⟨0, 0, rfl, Nat.zero_le _, rfl, rfl, rfl⟩
  case round =>
    obtain ⟨k, n, rfl, hk, rfl, hnn, hww⟩ := hrel
    obtain rfl := hww.symm
    by_cases hlt : k < Ps.length
    · have hlt' : (k : Int) < Ps.length := by omega
      have hc := HP.out.cell k hlt
      have hst := flatP_step Ps k hlt
      have h1 := HT.out (k + 1)
      rw [hst, List.length_append, ← hnn] at h1
      have hst2 := congrArg List.length hst
      rw [List.length_append, ← hnn] at hst2
      have h0 := HN.out
      unfold partV at hc
      generalize Ps[k] = p at *
      obtain ⟨pa, cap, xs⟩ := p
      simp only at hc h1 hst2
      have b1 : n + xs.length ≤ 8000 := by omega
      have Hst := Lib.hid hst2
      clear hst hst2 h1 h0 hnn
      have b2 : (n : Int) + xs.length ≤ 8000 := by omega
      have b3 : (0 : Int) ≤ (n : Int) + xs.length := by omega
      have b4 : ¬ (n : Int) + xs.length < 0 := by omega
      go_wp2
      go_roundw
      case rel => exact ⟨k + 1, n + xs.length, by go_num, by omega, by go_num, Hst.out.symm, trivial⟩
      case measure => simp [intOf]; omega
    · have hge : (Ps.length : Int) ≤ k := by omega
      rw [List.take_of_length_le (by omega)] at hnn
      have hn2 : n ≤ 8000 := by have := HN.out; omega
      have G2 := Lib.hid (G.out n w hn2)
      have Hnn := Lib.hid hnn
      clear hnn
      go_wp2_with fail
      refine G2.out.mono ?_
      rintro e w1 ⟨⟨v, rfl, hown⟩, hb1⟩
      have HP1 := Lib.hid (HP.out.lift hb1)
      have Hb := Lib.hid hb1
      have Ho := Lib.hid hown
      clear G2 hb1 hown
      go_wp2_with fail
      go_loopw [6, 27] (fun s i wx => ∃ k : Nat, i = .int .i64 k ∧ k ≤ Ps.length ∧ Own wx w.heap.size s (flatP (Ps.take k)) ∧ Below w.heap.size w wx) (fun _ i _ => Ps.length - (intOf i).toNat)
      case atStart => exact ⟨0, rfl, Nat.zero_le _, Ho.out, Hb.out⟩
      case round =>
        obtain ⟨k, rfl, hk, hw, kk⟩ := hrel
        by_cases hlt : k < Ps.length
        · have hlt' : (k : Int) < Ps.length := by omega
          have hc := (HP.out.lift kk).cell k hlt
          have hr := (HP.out.lift kk).rd k hlt
          have hnl := (HP.out.lift kk).nil k hlt
          have hst := flatP_step Ps k hlt
          have h1 := HT.out (k + 1)
          have h2 := HT.out k
          rw [hst, List.length_append] at h1
          have h0 := HN.out
          unfold partV at hc
          generalize Ps[k] = p at *
          obtain ⟨pa, cap, xs⟩ := p
          simp only at hc hr hst h1 hnl
          have hu := lsOwn_base hw.own
          rename_i s _ _
          have O := Lib.hid hw.own
          have b1 : (flatP (Ps.take k)).length + xs.length ≤ 8000 := by omega
          have fin : ∀ v2 w2, w2.ownsRow w.heap.size 25 3 v2 ((flatP (Ps.take k)).length + xs.length) (flat (flatP (Ps.take k)) ++ flat xs) → Own w2 w.heap.size v2 (flatP (Ps.take (k + 1))) := by
            intro v2 w2 h
            refine ⟨?_⟩
            rw [hst, List.length_append, flat_append]
            exact h
          have Fin := Lib.hid fin
          have Hu := Lib.hid hu
          generalize hA : flatP (Ps.take k) = A at *
          clear hst h1 h2 h0 hw hu hA
          cases pa with
          | none =>
            obtain rfl := hr.isNil
            obtain rfl := hnl rfl
            have Fin2 := Lib.hid (Fin.out _ _ (by simpa [flat] using O.out))
            clear hr Fin Hu b1
            go_wp2_with (first | (at_builtin; refine wpList_append_own_none rfl (.tmp 31) (.tmp 32) 22 rfl w.heap.size 25 i0 3 Try.underlying22 hi _ _ _ rfl O.out rfl ?_))
            go_wp2
            go_roundw
            case rel => exact ⟨k + 1, by go_num, by omega, Fin2.out, kk⟩
            case measure => simp [intOf]; omega
          | some a =>
            have N := Lib.hid hr.cells
            have Hw := Lib.hid kk
            clear hr
            go_wp2_with (first | (at_builtin; refine wpList_append_own _ rfl (.tmp 31) (.tmp 32) 22 rfl w.heap.size 25 i0 (.agg #[.string ByteArray.empty, .int .u64 0, .int .i64 0]) 3 32 Try.underlying22 hi Hz0.out Hz1.out Hz2.out rfl (by decide) _ _ _ rfl O.out a xs.length cap (flat xs) rfl (flat_len xs) N.out (flat_one xs) ?c3a ?c4a ?c5a ?_))
            case c3a => unfold maxLen; omega
            case c4a => omega
            case c5a => exact kk.size
            intro v2 w2 hown2 hgr2 _
            have Fin2 := Lib.hid (Fin.out v2 w2 hown2)
            have kk2 := Lib.hid (Hw.out.grown hgr2 Hw.out.size Hu.out)
            clear hown2 hgr2 Fin N O Hu Hw
            go_wp2
            go_roundw
            case rel => exact ⟨k + 1, by go_num, by omega, Fin2.out, kk2.out⟩
            case measure => simp [intOf]; omega
        · have hge : (Ps.length : Int) ≤ k := by omega
          rw [List.take_of_length_le (by omega)] at hw
          go_wp2
          go_ret
          exact ⟨_, rfl, hw, kk⟩

theorem wout_args (X : List El) (pa A : Option Addr) (cap k n c : Nat) (w : World) (hX : X.length ≤ 7000) (hcap : X.length ≤ cap) (hk : k < X.length) (hR : Rd w pa X) (hnil : pa = none → cap = 0) (hA : lsCut 3 pa cap (k + 1) = A) (hn : X.length - (k + 1) = n) (hc : cap - (k + 1) = c) :
    Calls Try.prog 38 #[.slice (some ⟨w.heap.size, 0, none⟩) 2 2]
      (w.alloc (.cells #[.slice pa k cap, .slice A n c] 22)).drew
      (ListPost (X.take k ++ X.drop (k + 1)) (w.alloc (.cells #[.slice pa k cap, .slice A n c] 22)).drew) := by
  subst hA hn hc
  have hb : Below w.heap.size w (w.alloc (.cells #[.slice pa k cap, .slice (lsCut 3 pa cap (k + 1)) (X.length - (k + 1)) (cap - (k + 1))] 22)).drew := ((Below.refl _ _).alloc (Nat.le_refl _) _).drew
  have hf : flatP [(pa, cap, X.take k), (lsCut 3 pa cap (k + 1), cap - (k + 1), X.drop (k + 1))] = X.take k ++ X.drop (k + 1) := by simp [flatP]
  have h := concat_any [(pa, cap, X.take k), (lsCut 3 pa cap (k + 1), cap - (k + 1), X.drop (k + 1))] w.heap.size 0 _ (by rw [hf]; simp; omega) (by simp)
    (⟨by show w.heap.size < _; simp, fun i hi => by
      match i, hi with
      | 0, _ => simp [partV, go_sem, Nat.min_eq_left (Nat.le_of_lt hk)]
      | 1, _ => simp [partV, go_sem], fun i hi => by
      match i, hi with
      | 0, _ => exact (hR.take k).lift hb
      | 1, _ => exact (hR.drop (k + 1) cap hcap).lift hb, fun i hi => by
      match i, hi with
      | 0, _ => exact hnil
      | 1, _ => exact lsCut_nil hnil⟩ : Parts (w.alloc (.cells #[.slice pa k cap, .slice (lsCut 3 pa cap (k + 1)) (X.length - (k + 1)) (cap - (k + 1))] 22)).drew w.heap.size 0 _)
  rw [hf] at h
  exact h
theorem with_args (X : List El) (pa A : Option Addr) (cap k n c : Nat) (x : El) (w : World) (hX : X.length ≤ 7000) (hcap : X.length ≤ cap) (hk : k ≤ X.length) (hR : Rd w pa X) (hnil : pa = none → cap = 0) (hA : lsCut 3 pa cap k = A) (hn : X.length - k = n) (hc : cap - k = c) :
    Calls Try.prog 38 #[.slice (some ⟨w.heap.size + 1 + 1, 0, none⟩) 3 3]
      (((w.alloc (.cells #[.string x.1, .int .u64 x.2.1, .int .i64 x.2.2] 25)).alloc (.cells #[.string x.1, .int .u64 x.2.1, .int .i64 x.2.2] 25)).alloc (.cells #[.slice pa k cap, .slice (some ⟨w.heap.size + 1, 0, none⟩) 1 1, .slice A n c] 22)).drew
      (ListPost (X.take k ++ x :: X.drop k) (((w.alloc (.cells #[.string x.1, .int .u64 x.2.1, .int .i64 x.2.2] 25)).alloc (.cells #[.string x.1, .int .u64 x.2.1, .int .i64 x.2.2] 25)).alloc (.cells #[.slice pa k cap, .slice (some ⟨w.heap.size + 1, 0, none⟩) 1 1, .slice A n c] 22)).drew) := by
  subst hA hn hc
  obtain ⟨W, hW⟩ : ∃ W, W = (((w.alloc (.cells #[.string x.1, .int .u64 x.2.1, .int .i64 x.2.2] 25)).alloc (.cells #[.string x.1, .int .u64 x.2.1, .int .i64 x.2.2] 25)).alloc (.cells #[.slice pa k cap, .slice (some ⟨w.heap.size + 1, 0, none⟩) 1 1, .slice (lsCut 3 pa cap k) (X.length - k) (cap - k)] 22)).drew := ⟨_, rfl⟩
  have hb : Below w.heap.size w W := by rw [hW]; exact ((((Below.refl _ _).alloc (Nat.le_refl _) _).alloc (by simp) _).alloc (by simp; omega) _).drew
  have hf : flatP [(pa, cap, X.take k), (some ⟨w.heap.size + 1, 0, none⟩, 1, [x]), (lsCut 3 pa cap k, cap - k, X.drop k)] = X.take k ++ x :: X.drop k := by simp [flatP]
  have h := concat_any [(pa, cap, X.take k), (some ⟨w.heap.size + 1, 0, none⟩, 1, [x]), (lsCut 3 pa cap k, cap - k, X.drop k)] (w.heap.size + 1 + 1) 0 W (by rw [hf]; simp; omega) (by simp)
    (⟨by rw [hW]; show w.heap.size + 1 + 1 < _; simp, fun i hi => by
      rw [hW]
      match i, hi with
      | 0, _ => simp [partV, go_sem, Nat.min_eq_left hk]
      | 1, _ => simp [partV, go_sem]
      | 2, _ => simp [partV, go_sem], fun i hi => by
      match i, hi with
      | 0, _ => exact (hR.take k).lift hb
      | 1, _ => exact ⟨fun _ => ⟨w.heap.size + 1, 0, rfl, by rw [hW]; simp, fun j hj => by
          obtain rfl : j = 0 := by simp at hj; exact hj
          rw [hW]; refine ⟨?_, ?_, ?_⟩ <;> simp [go_sem]⟩⟩
      | 2, _ => exact (hR.drop k cap hcap).lift hb, fun i hi => by
      match i, hi with
      | 0, _ => exact hnil
      | 1, _ => intro h; cases h
      | 2, _ => exact lsCut_nil hnil⟩ : Parts W (w.heap.size + 1 + 1) 0 _)
  rw [hf] at h
  rw [← hW]
  exact h
set_option maxRecDepth 100000 in
set_option maxHeartbeats 1000000 in
theorem with_any (X : List El) (pa : Option Addr) (cap k : Nat) (x : El) (w : World) (hX : X.length ≤ 7000) (hcap : X.length ≤ cap) (hk : k ≤ X.length) (hR : Rd w pa X) (hnil : pa = none → cap = 0) :
    Calls Try.prog 26 #[.slice pa X.length cap, .int .i64 k, eV x] w (ListPost (X.take k ++ x :: X.drop k) w) := by
  obtain ⟨x1, x2, x3⟩ := x
  by_cases he : cap = k
  · have C := Lib.hid (with_args X pa pa cap k 0 0 (x1, x2, x3) w hX hcap hk hR hnil (by unfold lsCut; rw [if_pos he]) (by omega) (by omega))
    clear hR
    subst he
    go_enter Try.func26, Try.ntmps26
    go_wp2_with fail
    have hki : (cap : Int) ≤ X.length := by omega
    have hk0 : (0 : Int) ≤ cap := by omega
    have hkc : (cap : Int) ≤ (cap : Int) := by omega
    have c0 : (w.alloc (Obj.cells #[Value.string x1, Value.int IntKind.u64 x2, Value.int IntKind.i64 x3] 25)).cell? ⟨w.heap.size, 0, none⟩ = some (.string x1) := by simp [go_sem]
    have c1 : (w.alloc (Obj.cells #[Value.string x1, Value.int IntKind.u64 x2, Value.int IntKind.i64 x3] 25)).cell? ⟨w.heap.size, 1, none⟩ = some (.int .u64 x2) := by simp [go_sem]
    have c2 : (w.alloc (Obj.cells #[Value.string x1, Value.int IntKind.u64 x2, Value.int IntKind.i64 x3] 25)).cell? ⟨w.heap.size, 2, none⟩ = some (.int .i64 x3) := by simp [go_sem]
    go_region_with (go_at_call 38; refine C.out.mono ?_; rintro e w1 ⟨v, rfl, hown, hb1⟩)
    go_wp2
    go_ret
    exact ⟨v, rfl, hown.mono (by simp; omega), ((((Below.refl _ _).alloc (Nat.le_refl _) _).alloc (by simp) _).alloc (by simp; omega) _).drew.trans (hb1.mono (by simp; omega))⟩
  · have C := Lib.hid (with_args X pa (pa.map (fun y => y.add (k * 3))) cap k (X.length - k) (cap - k) (x1, x2, x3) w hX hcap hk hR hnil (by unfold lsCut; rw [if_neg he]) rfl rfl)
    clear hR
    go_enter Try.func26, Try.ntmps26
    go_wp2_with fail
    have hki : (k : Int) ≤ X.length := by omega
    have hk0 : (0 : Int) ≤ k := by omega
    have hkc : (k : Int) ≤ cap := by omega
    have c0 : (w.alloc (Obj.cells #[Value.string x1, Value.int IntKind.u64 x2, Value.int IntKind.i64 x3] 25)).cell? ⟨w.heap.size, 0, none⟩ = some (.string x1) := by simp [go_sem]
    have c1 : (w.alloc (Obj.cells #[Value.string x1, Value.int IntKind.u64 x2, Value.int IntKind.i64 x3] 25)).cell? ⟨w.heap.size, 1, none⟩ = some (.int .u64 x2) := by simp [go_sem]
    have c2 : (w.alloc (Obj.cells #[Value.string x1, Value.int IntKind.u64 x2, Value.int IntKind.i64 x3] 25)).cell? ⟨w.heap.size, 2, none⟩ = some (.int .i64 x3) := by simp [go_sem]
    go_region_with (go_at_call 38; refine C.out.mono ?_; rintro e w1 ⟨v, rfl, hown, hb1⟩)
    go_wp2
    go_ret
    exact ⟨v, rfl, hown.mono (by simp; omega), ((((Below.refl _ _).alloc (Nat.le_refl _) _).alloc (by simp) _).alloc (by simp; omega) _).drew.trans (hb1.mono (by simp; omega))⟩
end Go.Proofs.Ytflfbkoelhheoaa.La
