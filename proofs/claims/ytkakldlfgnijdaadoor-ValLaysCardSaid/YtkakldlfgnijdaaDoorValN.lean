/- Layer 3: the contract of Read, whole. -/
import Derived.Test.YtkakldlfgnijdaaDoorValM
namespace Go.Proofs.YtkakldlfgnijdaaDoor
open Go.RowKit
theorem txt_read (r : Option (List UInt8 × Nat)) : txtV r = readV (r.map fun r => ((false, 0, r.1), r.2)) := by
  cases r <;> rfl
set_option maxRecDepth 100000 in
set_option maxHeartbeats 400000 in
theorem read_txt (s : ByteArray) (w : World) (h0 : 1 ≤ s.size) (hs : s.size ≤ 1000) (h1 : Lib.hasPrefix s.data.toList (⟨#[34]⟩ : ByteArray).data.toList = true) :
    Calls Tryd.prog 19 #[.string s] w fun e w' => e = .returned (txtV (rdT (s.data.toList.drop 1) [] 1)) ∧ Below w.heap.size w w' := by
  have H1 := Lib.hid (pre_of s ⟨#[34]⟩ true h1)
  have H2 := Lib.hid (fun w => text_any s w h0 hs)
  cases hr : rdT (s.data.toList.drop 1) [] 1 with
  | none =>
    rw [hr] at H2
    unfold txtV at H2
    clear h1 hr
    go_enter Tryd.func19, Tryd.ntmps19
    go_wp2_with fail
    refine (H1.out _).mono ?_
    rintro e wx ⟨rfl, rfl⟩
    go_wp2_with fail
    refine (H2.out _).mono ?_
    rintro e w2 ⟨rfl, hb2⟩
    have hlt := box_lt hb2
    have hb0 := box_below hb2
    have hc0 := box_cell (i := 0) hb2
    have hc1 := box_cell (i := 1) hb2
    have hc2 := box_cell (i := 2) hb2
    have hf0 := hb2.frozen (p := ⟨w.heap.size, 0, none⟩) (by simp)
    have hf1 := hb2.frozen (p := ⟨w.heap.size, 1, none⟩) (by simp)
    have hf2 := hb2.frozen (p := ⟨w.heap.size, 2, none⟩) (by simp)
    simp at hc0 hc1 hc2 hf0 hf1 hf2
    go_wp2
    exact bodyPost_ret (v := .tuple #[.agg #[.bool false, .int .i64 0, .string ⟨#[]⟩], .int .i64 0, .int .i64 2]) (by simp [results, Tryd.results19, go_sem, hc0, hc1, hc2]) rfl ⟨rfl, ((hb0.setCell (Nat.le_refl _) _).setCell (Nat.le_refl _) _).setCell (Nat.le_refl _) _⟩
  | some r =>
    obtain ⟨x, n⟩ := r
    rw [hr] at H2
    unfold txtV at H2
    clear h1 hr
    go_enter Tryd.func19, Tryd.ntmps19
    go_wp2_with fail
    refine (H1.out _).mono ?_
    rintro e wx ⟨rfl, rfl⟩
    go_wp2_with fail
    refine (H2.out _).mono ?_
    rintro e w2 ⟨rfl, hb2⟩
    have hlt := box_lt hb2
    have hb0 := box_below hb2
    have hc0 := box_cell (i := 0) hb2
    have hc1 := box_cell (i := 1) hb2
    have hc2 := box_cell (i := 2) hb2
    have hf0 := hb2.frozen (p := ⟨w.heap.size, 0, none⟩) (by simp)
    have hf1 := hb2.frozen (p := ⟨w.heap.size, 1, none⟩) (by simp)
    have hf2 := hb2.frozen (p := ⟨w.heap.size, 2, none⟩) (by simp)
    simp at hc0 hc1 hc2 hf0 hf1 hf2
    go_wp2
    exact bodyPost_ret (v := .tuple #[.agg #[.bool false, .int .i64 0, .string ⟨x.toArray⟩], .int .i64 n, .int .i64 0]) (by simp [results, Tryd.results19, go_sem, hc0, hc1, hc2]) rfl ⟨rfl, ((hb0.setCell (Nat.le_refl _) _).setCell (Nat.le_refl _) _).setCell (Nat.le_refl _) _⟩
set_option maxRecDepth 100000 in
set_option maxHeartbeats 400000 in
/-- Read of a number with a sign. -/
theorem read_neg (s t : ByteArray) (w : World) (_hs : s.size ≤ 1000) (h1 : Lib.hasPrefix s.data.toList (⟨#[34]⟩ : ByteArray).data.toList = false) (h2 : Lib.hasPrefix s.data.toList (⟨#[45]⟩ : ByteArray).data.toList = true)
    (ht : (Lib.trimPrefix s.data.toList (⟨#[45]⟩ : ByteArray).data.toList).toArray = t.data) (hts : t.size ≤ 1000) (N K : Nat) (hr : rdD 9223372036854775808 t.data.toList = (N, K)) :
    Calls Tryd.prog 19 #[.string s] w fun e w' => e = .returned (readV (if N = 0 then none else some ((true, -(N : Int), []), 1 + K))) ∧ Below w.heap.size w w' := by
  have H1 := Lib.hid (pre_of s ⟨#[34]⟩ false h1)
  have H2 := Lib.hid (cut_yes s ⟨#[45]⟩ h2)
  rw [ht] at H2
  have H3 := Lib.hid (fun w => digits_all t 9223372036854775808 hts (by omega) (by omega) w)
  have hle := rdD_le 9223372036854775808 (by omega) t.data.toList
  rw [hr] at H3 hle
  obtain ⟨hN, hK⟩ := hle
  simp at hN hK
  clear h1 h2 hr ht
  by_cases hk : N = 0
  · subst hk
    rw [if_pos rfl]
    go_enter Tryd.func19, Tryd.ntmps19
    go_wp2_with fail
    refine (H1.out _).mono ?_
    rintro e wx ⟨rfl, rfl⟩
    go_wp2_with fail
    refine (H2.out _).mono ?_
    rintro e wx ⟨rfl, rfl⟩
    go_wp2_with fail
    refine (H3.out _).mono ?_
    rintro e w2 ⟨rfl, hb2⟩
    have hlt := box_lt hb2
    have hb0 := box_below hb2
    have hc0 := box_cell (i := 0) hb2
    have hc1 := box_cell (i := 1) hb2
    have hc2 := box_cell (i := 2) hb2
    have hf0 := hb2.frozen (p := ⟨w.heap.size, 0, none⟩) (by simp)
    have hf1 := hb2.frozen (p := ⟨w.heap.size, 1, none⟩) (by simp)
    have hf2 := hb2.frozen (p := ⟨w.heap.size, 2, none⟩) (by simp)
    simp at hc0 hc1 hc2 hf0 hf1 hf2
    go_wp2
    exact bodyPost_ret (v := .tuple #[.agg #[.bool false, .int .i64 0, .string ⟨#[]⟩], .int .i64 0, .int .i64 2]) (by simp [results, Tryd.results19, go_sem, hc0, hc1, hc2]) rfl ⟨rfl, ((hb0.setCell (Nat.le_refl _) _).setCell (Nat.le_refl _) _).setCell (Nat.le_refl _) _⟩
  · have hk' : ((N : Int) == 0) = false := by simp; omega
    rw [if_neg hk]
    have hk1 : K ≤ 1000 := by omega
    have e1 : wrap64 (-(wrap64 (N : Int))) = -(N : Int) := by unfold wrap64; omega
    have E1 := Lib.hid e1
    clear e1
    clear hk
    go_enter Tryd.func19, Tryd.ntmps19
    go_wp2_with fail
    refine (H1.out _).mono ?_
    rintro e wx ⟨rfl, rfl⟩
    go_wp2_with fail
    refine (H2.out _).mono ?_
    rintro e wx ⟨rfl, rfl⟩
    go_wp2_with fail
    refine (H3.out _).mono ?_
    rintro e w2 ⟨rfl, hb2⟩
    have hlt := box_lt hb2
    have hb0 := box_below hb2
    have hc0 := box_cell (i := 0) hb2
    have hc1 := box_cell (i := 1) hb2
    have hc2 := box_cell (i := 2) hb2
    have hf0 := hb2.frozen (p := ⟨w.heap.size, 0, none⟩) (by simp)
    have hf1 := hb2.frozen (p := ⟨w.heap.size, 1, none⟩) (by simp)
    have hf2 := hb2.frozen (p := ⟨w.heap.size, 2, none⟩) (by simp)
    simp at hc0 hc1 hc2 hf0 hf1 hf2
    go_wp2
    rw [E1.out]
    exact bodyPost_ret (v := .tuple #[.agg #[.bool true, .int .i64 (-(N : Int)), .string ⟨#[]⟩], .int .i64 (1 + K), .int .i64 0]) (by simp [results, Tryd.results19, go_sem, hc0, hc1, hc2]) rfl ⟨by simp [readV], ((hb0.setCell (Nat.le_refl _) _).setCell (Nat.le_refl _) _).setCell (Nat.le_refl _) _⟩
theorem has1 (b : UInt8) (t : List UInt8) (c : UInt8) : Lib.hasPrefix (b :: t) [c] = (b == c) := by
  rw [Bool.eq_iff_iff]; simp [Lib.hasPrefix]; exact eq_comm
/-- READ: what it answers, of whatever octets. -/
theorem read_any (s : ByteArray) (w : World) (hs : s.size ≤ 1000) :
    Calls Tryd.prog 19 #[.string s] w fun e w' => e = .returned (readV (readB s.data.toList)) ∧ Below w.heap.size w w' := by
  have hlen : s.data.toList.length = s.size := by simp
  cases hl : s.data.toList with
  | nil =>
    have := read_pos s w hs (by rw [hl]; rfl) (by rw [hl]; rfl) 0 0 (by rw [hl]; rfl)
    exact this
  | cons b t =>
    rw [hl] at hlen
    simp at hlen
    rw [readB]
    by_cases h34 : b.toNat = 34
    · rw [if_pos h34, ← txt_read]
      have hb : b = 34 := UInt8.toNat_inj.1 h34
      have := read_txt s w (by omega) hs (by rw [hl]; subst hb; rfl)
      rw [hl] at this; exact this
    · rw [if_neg h34]
      have n34 : (b == 34) = false := by simp only [beq_eq_false_iff_ne, ne_eq]; intro e; subst e; exact h34 rfl
      by_cases h45 : b.toNat = 45
      · rw [if_pos h45]
        have hb : b = 45 := UInt8.toNat_inj.1 h45
        subst hb
        refine read_neg s ⟨t.toArray⟩ w hs (by rw [hl]; rfl) (by rw [hl]; rfl) (by rw [hl]; rfl) (by show t.toArray.size ≤ 1000; simp; omega) _ _ ?_
        simp
      · rw [if_neg h45]
        have n45 : (b == 45) = false := by simp only [beq_eq_false_iff_ne, ne_eq]; intro e; subst e; exact h45 rfl
        refine read_pos s w hs (by rw [hl]; exact (has1 b t 34).trans n34) (by rw [hl]; exact (has1 b t 45).trans n45) _ _ ?_
        rw [hl]
end Go.Proofs.YtkakldlfgnijdaaDoor
