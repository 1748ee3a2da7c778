/- Layer 3: contracts of the document's Take. -/
import Derived.Test.YtkakldlfgnijdaaDoorValD
namespace Go.Proofs.YtkakldlfgnijdaaDoor
open Go.RowKit
/-! ### the document's own -/
set_option maxHeartbeats 400000 in
theorem rtake_empty (s : ByteArray) (w : World) (h : s.size = 0) :
    Calls Tryd.prog 22 #[.string s] w fun e w' => e = .returned (.tuple #[.agg #[.bool false, .int .i64 0, .string ⟨#[]⟩], .int .i64 0, .int .i64 3]) ∧ Below w.heap.size w w' := by
  have he : s.toList = [] := by rw [ByteArray.toList_eq]; exact List.eq_nil_of_length_eq_zero (by rw [Array.length_toList]; exact h)
  have he' : s.toList.isEmpty = true := by rw [he]; rfl
  go_enter Tryd.func22, Tryd.ntmps22
  go_wp2
  exact bodyPost_ret (v := .tuple #[.agg #[.bool false, .int .i64 0, .string ⟨#[]⟩], .int .i64 0, .int .i64 3]) (by simp [results, Tryd.results22, go_sem]) rfl ⟨rfl, (Below.refl _ _).alloc (Nat.le_refl _) _⟩
set_option maxRecDepth 100000 in
set_option maxHeartbeats 400000 in
theorem rtake_mark (s : ByteArray) (w : World) (h : 0 < s.size) (h1 : (s[0]'h).toNat ≠ 1) (h2 : (s[0]'h).toNat ≠ 2) :
    Calls Tryd.prog 22 #[.string s] w fun e w' => e = .returned (.tuple #[.agg #[.bool false, .int .i64 0, .string ⟨#[]⟩], .int .i64 0, .int .i64 2]) ∧ Below w.heap.size w w' := by
  have hn := toList_ne s (by omega)
  have hn' := toList_isEmpty s (by omega)
  have g1 : (((s[0]'h).toNat : Int) == 1) = false := by simp; omega
  have g2 : (((s[0]'h).toNat : Int) == 2) = false := by simp; omega
  have g3 : ¬ ((s[0]'h).toNat : Int) = 1 := by omega
  have g4 : ¬ ((s[0]'h).toNat : Int) = 2 := by omega
  have g5 : (((s[0]'h).toNat : Int) != 1) = true := by rw [bne, g1]; rfl
  have g6 : (((s[0]'h).toNat : Int) != 2) = true := by rw [bne, g2]; rfl
  clear h1 h2
  go_enter Tryd.func22, Tryd.ntmps22
  go_wp2
  exact bodyPost_ret (v := .tuple #[.agg #[.bool false, .int .i64 0, .string ⟨#[]⟩], .int .i64 0, .int .i64 2]) (by simp [results, Tryd.results22, go_sem]) rfl ⟨rfl, (Below.refl _ _).alloc (Nat.le_refl _) _⟩
theorem runpB_any (s : ByteArray) (hs : s.size ≤ 1000) (w : World) : Calls Tryd.prog 40 #[.string (s.extract 1 s.size)] w fun e w' => e = .returned (.tuple #[.int .u64 (unpB s).1, .int .i64 (unpB s).2.1, .int .i64 (unpB s).2.2]) ∧ Below w.heap.size w w' :=
  runpack_any _ w (by rw [ByteArray.size_extract]; omega)
set_option maxRecDepth 100000 in
set_option maxHeartbeats 400000 in
theorem rtake_err (s : ByteArray) (w : World) (h : 0 < s.size) (hs : s.size ≤ 1000) (b : UInt8) (hb : s[0]'h = b) (hb12 : b = 1 ∨ b = 2) (x y z : Nat) (hu : unpB s = (x, y, z)) (hz : z ≠ 0) :
    Calls Tryd.prog 22 #[.string s] w fun e w' => e = .returned (.tuple #[.agg #[.bool false, .int .i64 0, .string ⟨#[]⟩], .int .i64 0, .int .i64 z]) ∧ Below w.heap.size w w' := by
  have hn := toList_ne s (by omega)
  have hn' := toList_isEmpty s (by omega)
  have Cu := Lib.hid (runpB_any s hs)
  rw [hu] at Cu
  have hz' : ((z : Int) == 0) = false := by simp; omega
  have h1 : (1 : Int) ≤ s.size := by omega
  have g : ((s[0]'h).toNat : Int) = 1 ∨ ((s[0]'h).toNat : Int) = 2 := by
    rw [hb]; rcases hb12 with rfl | rfl
    · exact .inl rfl
    · exact .inr rfl
  clear hb hu hz hb12
  rcases g with g | g
  all_goals
    go_enter Tryd.func22, Tryd.ntmps22
    go_wp2_with fail
    refine (Cu.out _).mono ?_
    rintro e w2 ⟨rfl, hb2⟩
    have hlt := box_lt hb2
    have hb0 := box_below hb2
    have hc0 := box_cell (i := 0) hb2
    have hc1 := box_cell (i := 1) hb2
    have hc2 := box_cell (i := 2) hb2
    have hf0 := hb2.frozen (p := ⟨w.heap.size, 0, none⟩) (by simp)
    have hf1 := hb2.frozen (p := ⟨w.heap.size, 1, none⟩) (by simp)
    have hf2 := hb2.frozen (p := ⟨w.heap.size, 2, none⟩) (by simp)
    simp at hc0 hc1 hc2 hf0 hf1 hf2
    go_wp2
    exact bodyPost_ret (v := .tuple #[.agg #[.bool false, .int .i64 0, .string ⟨#[]⟩], .int .i64 0, .int .i64 z]) (by simp [results, Tryd.results22, go_sem, hc0, hc1, hc2]) rfl ⟨rfl, ((hb0.setCell (Nat.le_refl _) _).setCell (Nat.le_refl _) _).setCell (Nat.le_refl _) _⟩
set_option maxRecDepth 100000 in
set_option maxHeartbeats 400000 in
theorem rtake_num (s : ByteArray) (w : World) (h : 0 < s.size) (hs : s.size ≤ 1000) (hb : s[0]'h = 1) (x y : Nat) (hu : unpB s = (x, y, 0)) (hx : x ≤ 18446744073709551615) (hy : y ≤ 10) :
    Calls Tryd.prog 22 #[.string s] w fun e w' => e = .returned (.tuple #[.agg #[.bool true, .int .i64 (unfoldZ x), .string ⟨#[]⟩], .int .i64 (1 + y), .int .i64 0]) ∧ Below w.heap.size w w' := by
  have hn := toList_ne s (by omega)
  have hn' := toList_isEmpty s (by omega)
  have Cu := Lib.hid (runpB_any s hs)
  rw [hu] at Cu
  have h1 : (1 : Int) ≤ s.size := by omega
  have g : ((s[0]'h).toNat : Int) = 1 := by rw [hb]; rfl
  clear hb hu
  go_enter Tryd.func22, Tryd.ntmps22
  go_wp2_with fail
  refine (Cu.out _).mono ?_
  rintro e w2 ⟨rfl, hb2⟩
  have hlt := box_lt hb2
  have hb0 := box_below hb2
  have hc0 := box_cell (i := 0) hb2
  have hc1 := box_cell (i := 1) hb2
  have hc2 := box_cell (i := 2) hb2
  have hf0 := hb2.frozen (p := ⟨w.heap.size, 0, none⟩) (by simp)
  have hf1 := hb2.frozen (p := ⟨w.heap.size, 1, none⟩) (by simp)
  have hf2 := hb2.frozen (p := ⟨w.heap.size, 2, none⟩) (by simp)
  simp at hc0 hc1 hc2 hf0 hf1 hf2
  go_wp2_with fail
  refine (runfold_any x _ (by omega) (by omega)).mono ?_
  rintro e wx ⟨rfl, rfl⟩
  go_wp2
  exact bodyPost_ret (v := .tuple #[.agg #[.bool true, .int .i64 (unfoldZ x), .string ⟨#[]⟩], .int .i64 (1 + y), .int .i64 0]) (by simp [results, Tryd.results22, go_sem, hc0, hc1, hc2]) rfl ⟨rfl, ((hb0.setCell (Nat.le_refl _) _).setCell (Nat.le_refl _) _).setCell (Nat.le_refl _) _⟩
set_option maxRecDepth 100000 in
set_option maxHeartbeats 400000 in
theorem rtake_no (s : ByteArray) (w : World) (h : 0 < s.size) (hs : s.size ≤ 1000) (hb : s[0]'h = 2) (x y : Nat) (hu : unpB s = (x, y, 0)) (hx : x ≤ 18446744073709551615) (hy : y ≤ 10) (z : Int) (hz : 60 < x ∧ z = 2 ∨ x ≤ 60 ∧ s.size < 1 + y + x ∧ z = 3) :
    Calls Tryd.prog 22 #[.string s] w fun e w' => e = .returned (.tuple #[.agg #[.bool false, .int .i64 0, .string ⟨#[]⟩], .int .i64 0, .int .i64 z]) ∧ Below w.heap.size w w' := by
  have hn := toList_ne s (by omega)
  have hn' := toList_isEmpty s (by omega)
  have Cu := Lib.hid (runpB_any s hs)
  rw [hu] at Cu
  have h1 : (1 : Int) ≤ s.size := by omega
  have g : ((s[0]'h).toNat : Int) = 2 := by rw [hb]; rfl
  clear hb hu
  rcases hz with ⟨hz, rfl⟩ | ⟨hz, hz', rfl⟩
  all_goals
    go_enter Tryd.func22, Tryd.ntmps22
    go_wp2_with fail
    refine (Cu.out _).mono ?_
    rintro e w2 ⟨rfl, hb2⟩
    have hlt := box_lt hb2
    have hb0 := box_below hb2
    have hc0 := box_cell (i := 0) hb2
    have hc1 := box_cell (i := 1) hb2
    have hc2 := box_cell (i := 2) hb2
    have hf0 := hb2.frozen (p := ⟨w.heap.size, 0, none⟩) (by simp)
    have hf1 := hb2.frozen (p := ⟨w.heap.size, 1, none⟩) (by simp)
    have hf2 := hb2.frozen (p := ⟨w.heap.size, 2, none⟩) (by simp)
    simp at hc0 hc1 hc2 hf0 hf1 hf2
    go_wp2
    exact bodyPost_ret (v := .tuple #[.agg #[.bool false, .int .i64 0, .string ⟨#[]⟩], .int .i64 0, .int .i64 _]) (by simp [results, Tryd.results22, go_sem, hc0, hc1, hc2]) rfl ⟨rfl, ((hb0.setCell (Nat.le_refl _) _).setCell (Nat.le_refl _) _).setCell (Nat.le_refl _) _⟩
set_option maxRecDepth 100000 in
set_option maxHeartbeats 400000 in
theorem rtake_ok (s : ByteArray) (w : World) (h : 0 < s.size) (hs : s.size ≤ 1000) (hb : s[0]'h = 2) (x y : Nat) (hu : unpB s = (x, y, 0)) (hx : x ≤ 60) (hy : y ≤ 10) (hz : 1 + y + x ≤ s.size) :
    Calls Tryd.prog 22 #[.string s] w fun e w' => e = .returned (.tuple #[.agg #[.bool false, .int .i64 0, .string (s.extract (1 + y) (1 + y + x))], .int .i64 (1 + y + x), .int .i64 0]) ∧ Below w.heap.size w w' := by
  have hn := toList_ne s (by omega)
  have hn' := toList_isEmpty s (by omega)
  have Cu := Lib.hid (runpB_any s hs)
  rw [hu] at Cu
  have h1 : (1 : Int) ≤ s.size := by omega
  have hz' : (1 : Int) + y + x ≤ s.size := by omega
  have g : ((s[0]'h).toNat : Int) = 2 := by rw [hb]; rfl
  clear hb hu
  go_enter Tryd.func22, Tryd.ntmps22
  go_wp2_with fail
  refine (Cu.out _).mono ?_
  rintro e w2 ⟨rfl, hb2⟩
  have hlt := box_lt hb2
  have hb0 := box_below hb2
  have hc0 := box_cell (i := 0) hb2
  have hc1 := box_cell (i := 1) hb2
  have hc2 := box_cell (i := 2) hb2
  have hf0 := hb2.frozen (p := ⟨w.heap.size, 0, none⟩) (by simp)
  have hf1 := hb2.frozen (p := ⟨w.heap.size, 1, none⟩) (by simp)
  have hf2 := hb2.frozen (p := ⟨w.heap.size, 2, none⟩) (by simp)
  simp at hc0 hc1 hc2 hf0 hf1 hf2
  go_wp2
  exact bodyPost_ret (v := .tuple #[.agg #[.bool false, .int .i64 0, .string (s.extract (1 + y) (1 + y + x))], .int .i64 (1 + y + x), .int .i64 0]) (by simp [results, Tryd.results22, go_sem, hc0, hc1, hc2]) rfl ⟨rfl, ((hb0.setCell (Nat.le_refl _) _).setCell (Nat.le_refl _) _).setCell (Nat.le_refl _) _⟩
theorem leadN_le : ∀ (l : List UInt8) (f : Nat), leadN l f ≤ f ∧ leadN l f ≤ l.length
  | [], f => by simp [leadN]
  | b :: t, 0 => by simp [leadN]
  | b :: t, f + 1 => by have := leadN_le t f; simp only [leadN, List.length_cons]; split <;> omega
theorem leadN_big : ∀ (l : List UInt8) (f : Nat), ∀ t, t < leadN l f → 128 ≤ gB l t
  | [], f, t, h => by simp [leadN] at h
  | b :: l, 0, t, h => by simp [leadN] at h
  | b :: l, f + 1, t, h => by
    simp only [leadN] at h
    split at h
    · rename_i hb
      cases t with
      | zero => simpa [gB] using hb
      | succ t => have := leadN_big l f t (by omega); simpa [gB] using this
    · omega
theorem leadN_stop : ∀ (l : List UInt8) (f : Nat), leadN l f < f → leadN l f < l.length → gB l (leadN l f) < 128
  | [], f, _, h => by simp [leadN] at h
  | b :: l, 0, h, _ => by simp [leadN] at h
  | b :: l, f + 1, h, h' => by
    simp only [leadN] at h h' ⊢
    split at h
    · rename_i hb
      rw [if_pos hb] at h' ⊢
      have := leadN_stop l f (by omega) (by simpa using h')
      simpa [gB] using this
    · rename_i hb
      rw [if_neg hb]; simp [gB]; omega
theorem unpS_small (l : List UInt8) : (unpS l).1 < 2 ^ 64 ∧ (unpS l).2.1 ≤ 10 := by
  unfold unpS
  split
  · exact ⟨by decide, by decide⟩
  · rename_i h10
    split
    · exact ⟨by decide, by decide⟩
    · rename_i hl
      split
      · rename_i hm
        have hb := leadN_le l 10
        have ha := leadN_big l 10
        have hs := leadN_stop l 10
        refine ⟨?_, by show leadN l 10 + 1 ≤ 10; omega⟩
        have hk : leadN l 10 < l.length := by omega
        refine Ends.val_lt (k := leadN l 10) ⟨by omega, hk, ha, hs (by omega) hk, fun h9 => ?_⟩
        rw [h9] at hm ⊢
        have : gB l 9 = 1 := of_decide_eq_true hm
        omega
      · exact ⟨by decide, by decide⟩
/-- WHAT IS TAKEN OF OCTETS, by the program and by the document: the same. -/
theorem takes_at (s : ByteArray) (hs : s.size ≤ 1000) : ∃ (b : Bool) (n : Int) (t : ByteArray) (m e : Int),
    (∀ w, Calls Tryd.prog 18 #[.string s] w fun E w' => E = .returned (.tuple #[.agg #[.bool b, .int .i64 n, .string t], .int .i64 m, .int .i64 e]) ∧ Below w.heap.size w w') ∧
    (∀ w, Calls Tryd.prog 22 #[.string s] w fun E w' => E = .returned (.tuple #[.agg #[.bool b, .int .i64 n, .string t], .int .i64 m, .int .i64 e]) ∧ Below w.heap.size w w') := by
  by_cases h0 : s.size = 0
  · exact ⟨_, _, _, _, _, fun w => take_empty s w h0, fun w => rtake_empty s w h0⟩
  · have h : 0 < s.size := by omega
    by_cases hb : s[0]'h = 1 ∨ s[0]'h = 2
    · obtain ⟨x, y, z, hu⟩ : ∃ x y z, unpB s = (x, y, z) := ⟨_, _, _, rfl⟩
      have hsm := unpS_small (s.extract 1 s.size).data.toList
      rw [show unpS (s.extract 1 s.size).data.toList = (x, y, z) from hu] at hsm
      obtain ⟨hx, hy⟩ := hsm
      simp only [] at hx hy
      by_cases hz : z = 0
      · subst hz
        rcases hb with hb | hb
        · exact ⟨_, _, _, _, _, fun w => take_num s w h hs hb x y hu (by omega) hy, fun w => rtake_num s w h hs hb x y hu (by omega) hy⟩
        · by_cases h60 : 60 < x
          · exact ⟨_, _, _, _, _, fun w => take_by s w h hs hb x y hu hy _ _ _ (fun w => tt_long s (1 + y) x w (by omega)), fun w => rtake_no s w h hs hb x y hu (by omega) hy 2 (.inl ⟨h60, rfl⟩)⟩
          · by_cases hl : s.size < 1 + y + x
            · exact ⟨_, _, _, _, _, fun w => take_by s w h hs hb x y hu hy _ _ _ (fun w => tt_short s (1 + y) x w (by omega) (by omega) (by omega) (by omega) (by omega)), fun w => rtake_no s w h hs hb x y hu (by omega) hy 3 (.inr ⟨by omega, hl, rfl⟩)⟩
            · refine ⟨_, _, _, _, _, fun w => take_by s w h hs hb x y hu hy (s.extract (1 + y) (1 + y + x)) (1 + y + x) 0 (fun w => ?_), fun w => rtake_ok s w h hs hb x y hu (by omega) hy (by omega)⟩
              have := tt_ok s (1 + y) x w (by omega) (by omega) (by omega)
              rw [show ((1 + y : Nat) : Int) = 1 + (y : Int) by omega] at this
              exact this
      · exact ⟨_, _, _, _, _, fun w => take_err s w h hs _ rfl hb x y z hu hz, fun w => rtake_err s w h hs _ rfl hb x y z hu hz⟩
    · have n1 : (s[0]'h).toNat ≠ 1 := fun e => hb (.inl (UInt8.toNat_inj.1 e))
      have n2 : (s[0]'h).toNat ≠ 2 := fun e => hb (.inr (UInt8.toNat_inj.1 e))
      exact ⟨_, _, _, _, _, fun w => take_mark s w h n1 n2, fun w => rtake_mark s w h n1 n2⟩
end Go.Proofs.YtkakldlfgnijdaaDoor
