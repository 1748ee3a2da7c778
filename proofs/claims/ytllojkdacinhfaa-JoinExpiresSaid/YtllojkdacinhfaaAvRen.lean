/- A part of a way to reckon what a Go program does without its memory (AvRen). -/
import Derived.Test.YtllojkdacinhfaaAvCall
namespace Go.Av
open Go Go.RowKit
set_option autoImplicit false
set_option linter.all false
/-! ### Other numbers -/
mutual
def ren (ρ : Nat → Nat) : V → V
  | .agg cs => .agg (rens ρ cs)
  | .tup cs => .tup (rens ρ cs)
  | .fn f a b => .fn f (rens ρ a) (rens ρ b)
  | .own g len => .own (ρ g) len
  | .ptr g off => .ptr (ρ g) off
  | .eptr g len i off => .eptr (ρ g) len i off
  | .map g => .map (ρ g)
  | .it g => .it (ρ g)
  | v => v
def rens (ρ : Nat → Nat) : List V → List V
  | [] => []
  | x :: l => ren ρ x :: rens ρ l
end
def renM (ρ : Nat → Nat) : List (V × V) → List (V × V)
  | [] => []
  | (k, x) :: l => (ren ρ k, ren ρ x) :: renM ρ l
def renE (ρ : Nat → Nat) : Entry → Entry
  | .box cs => .box (rens ρ cs)
  | .map kvs => .map (renM ρ kvs)
  | e => e
theorem renE_shp (ρ : Nat → Nat) (e : Entry) : (renE ρ e).shp = e.shp := by cases e <;> rfl
theorem renE_owned (ρ : Nat → Nat) (e : Entry) : (renE ρ e).owned = e.owned := by cases e <;> rfl
theorem sl_deep {R R' : Rd} (h : RTr R.deep R'.deep) {n : Nat} {xs : List V} {v : Value} (hv : VRep R (.sl n xs) v) : VRep R' (.sl n xs) v := by
  have h2 : VRep R.deep (.sl n xs) v := by simp only [VRep] at hv ⊢; exact hv
  have h3 := VRep_tr h _ v h2
  simp only [VRep] at h3 ⊢; exact h3
theorem slx_deep {R R' : Rd} (h : RTr R.deep R'.deep) {n : Nat} {xs : List V} {v : Value} (hv : VRep R (.slx n xs) v) : VRep R' (.slx n xs) v := by
  have h2 : VRep R.deep (.slx n xs) v := by simp only [VRep] at hv ⊢; exact hv
  have h3 := VRep_tr h _ v h2
  simp only [VRep] at h3 ⊢; exact h3
theorem ref_deep {R R' : Rd} (h : RTr R.deep R'.deep) {xs : List V} {v : Value} (hv : VRep R (.ref xs) v) : VRep R' (.ref xs) v := by
  have h2 : VRep R.deep (.ref xs) v := by simp only [VRep] at hv ⊢; exact hv
  have h3 := VRep_tr h _ v h2
  simp only [VRep] at h3 ⊢; exact h3
/-- One reading's numbers are told by the other's. -/
structure Ren (R R' : Rd) (ρ : Nat → Nat) : Prop where
  deep : RTr R.deep R'.deep
  id : ∀ g s, R.sh g = some s → s ≠ .resv → R'.sh (ρ g) = some s ∧ R'.β (ρ g) = R.β g
mutual
theorem VRep_ren {R R' : Rd} {ρ : Nat → Nat} (h : Ren R R' ρ) : ∀ (x : V) (v : Value), VRep R x v → VRep R' (ren ρ x) v
  | .bool _, _, hv => by simpa only [VRep, ren] using hv
  | .int _ _, _, hv => by simpa only [VRep, ren] using hv
  | .str _, _, hv => by simpa only [VRep, ren] using hv
  | .agg cs, _, hv => by
    simp only [VRep, ren] at hv ⊢
    obtain ⟨ds, rfl, hc⟩ := hv
    exact ⟨ds, rfl, CRep_ren h cs ds hc⟩
  | .tup cs, _, hv => by
    simp only [VRep, ren] at hv ⊢
    obtain ⟨ds, rfl, hc⟩ := hv
    exact ⟨ds, rfl, CRep_ren h cs ds hc⟩
  | .nilsl, _, hv => by simpa only [VRep, ren] using hv
  | .sl n xs, v, hv => sl_deep h.deep hv
  | .slx n xs, v, hv => slx_deep h.deep hv
  | .own g len, v, hv => by
    simp only [VRep, ren] at hv ⊢
    refine ⟨hv.1, ?_⟩
    cases hs : R.sh g with
    | none => rw [hs] at hv; exact hv.2.elim
    | some s =>
      rw [hs] at hv
      obtain ⟨h1, h2⟩ := h.id g s hs (by rintro rfl; exact hv.2.elim)
      rw [h1, h2]; exact hv.2
  | .nilp, _, hv => by simpa only [VRep, ren] using hv
  | .ref cs, v, hv => ref_deep h.deep hv
  | .ptr g off, v, hv => by
    simp only [VRep, ren] at hv ⊢
    refine ⟨hv.1, ?_⟩
    cases hs : R.sh g with
    | none => rw [hs] at hv; exact hv.2.elim
    | some s =>
      rw [hs] at hv
      obtain ⟨h1, h2⟩ := h.id g s hs (by rintro rfl; exact hv.2.elim)
      rw [h1, h2]; exact hv.2
  | .eptr g len i off, v, hv => by
    simp only [VRep, ren] at hv ⊢
    refine ⟨hv.1, ?_⟩
    cases hs : R.sh g with
    | none => rw [hs] at hv; exact hv.2.elim
    | some s =>
      rw [hs] at hv
      obtain ⟨h1, h2⟩ := h.id g s hs (by rintro rfl; exact hv.2.elim)
      rw [h1, h2]; exact hv.2
  | .nilfn, _, hv => by simpa only [VRep, ren] using hv
  | .fn f a b, _, hv => by
    simp only [VRep, ren] at hv ⊢
    obtain ⟨x, y, rfl, h1, h2⟩ := hv
    exact ⟨x, y, rfl, CRep_ren h a x h1, CRep_ren h b y h2⟩
  | .nilmap, _, hv => by simpa only [VRep, ren] using hv
  | .map g, v, hv => by
    simp only [VRep, ren] at hv ⊢
    refine ⟨hv.1, ?_⟩
    cases hs : R.sh g with
    | none => rw [hs] at hv; exact hv.2.elim
    | some s =>
      rw [hs] at hv
      obtain ⟨h1, h2⟩ := h.id g s hs (by rintro rfl; exact hv.2.elim)
      rw [h1, h2]; exact hv.2
  | .it g, v, hv => by
    simp only [VRep, ren] at hv ⊢
    refine ⟨hv.1, ?_⟩
    cases hs : R.sh g with
    | none => rw [hs] at hv; exact hv.2.elim
    | some s =>
      rw [hs] at hv
      obtain ⟨h1, h2⟩ := h.id g s hs (by rintro rfl; exact hv.2.elim)
      rw [h1, h2]; exact hv.2
  | .junk, _, _ => by simp only [VRep, ren]
theorem CRep_ren {R R' : Rd} {ρ : Nat → Nat} (h : Ren R R' ρ) : ∀ (cs : List V) (ds : List Value), CRep R cs ds → CRep R' (rens ρ cs) ds
  | [], _, hv => by simpa only [CRep, rens] using hv
  | c :: cs, ds, hv => by
    simp only [CRep, rens] at hv ⊢
    obtain ⟨d, r, rfl, h1, h2⟩ := hv
    exact ⟨d, r, rfl, VRep_ren h c d h1, CRep_ren h cs r h2⟩
end
theorem MRep_ren {R R' : Rd} {ρ : Nat → Nat} (h : Ren R R' ρ) : ∀ (kvs : List (V × V)) (es : List MapEntry), MRep R kvs es → MRep R' (renM ρ kvs) es
  | [], _, hv => hv
  | (k, x) :: l, es, hv => by
    obtain ⟨e, r, rfl, h1, h2, h3⟩ := hv
    exact ⟨e, r, rfl, VRep_ren h _ _ h1, VRep_ren h _ _ h2, MRep_ren h l r h3⟩
/-- And back, where the numbers are told. -/
structure Unren (R R' : Rd) (ρ : Nat → Nat) (m : Nat) : Prop where
  deep : RTr R'.deep R.deep
  id : ∀ g, g < m → R.sh g = R'.sh (ρ g) ∧ R.β g = R'.β (ρ g)
mutual
theorem VRep_unren {R R' : Rd} {ρ : Nat → Nat} {m : Nat} (h : Unren R R' ρ m) : ∀ (x : V) (v : Value), idsLt m x = true → VRep R' (ren ρ x) v → VRep R x v
  | .bool _, _, _, hv => by simpa only [VRep, ren] using hv
  | .int _ _, _, _, hv => by simpa only [VRep, ren] using hv
  | .str _, _, _, hv => by simpa only [VRep, ren] using hv
  | .agg cs, _, hi, hv => by
    simp only [VRep, ren] at hv ⊢
    obtain ⟨ds, rfl, hc⟩ := hv
    exact ⟨ds, rfl, CRep_unren h cs ds (by simpa only [idsLt] using hi) hc⟩
  | .tup cs, _, hi, hv => by
    simp only [VRep, ren] at hv ⊢
    obtain ⟨ds, rfl, hc⟩ := hv
    exact ⟨ds, rfl, CRep_unren h cs ds (by simpa only [idsLt] using hi) hc⟩
  | .nilsl, _, _, hv => by simpa only [VRep, ren] using hv
  | .sl n xs, v, _, hv => sl_deep h.deep hv
  | .slx n xs, v, _, hv => slx_deep h.deep hv
  | .own g len, v, hi, hv => by
    simp only [VRep, ren] at hv ⊢
    obtain ⟨h1, h2⟩ := h.id g (by simpa only [idsLt, decide_eq_true_eq] using hi)
    rw [h1, h2]; exact hv
  | .nilp, _, _, hv => by simpa only [VRep, ren] using hv
  | .ref cs, v, _, hv => ref_deep h.deep hv
  | .ptr g off, v, hi, hv => by
    simp only [VRep, ren] at hv ⊢
    obtain ⟨h1, h2⟩ := h.id g (by simpa only [idsLt, decide_eq_true_eq] using hi)
    rw [h1, h2]; exact hv
  | .eptr g len i off, v, hi, hv => by
    simp only [VRep, ren] at hv ⊢
    obtain ⟨h1, h2⟩ := h.id g (by simpa only [idsLt, decide_eq_true_eq] using hi)
    rw [h1, h2]; exact hv
  | .nilfn, _, _, hv => by simpa only [VRep, ren] using hv
  | .fn f a b, _, hi, hv => by
    simp only [VRep, ren] at hv ⊢
    simp only [idsLt, Bool.and_eq_true] at hi
    obtain ⟨x, y, rfl, h1, h2⟩ := hv
    exact ⟨x, y, rfl, CRep_unren h a x hi.1 h1, CRep_unren h b y hi.2 h2⟩
  | .nilmap, _, _, hv => by simpa only [VRep, ren] using hv
  | .map g, v, hi, hv => by
    simp only [VRep, ren] at hv ⊢
    obtain ⟨h1, h2⟩ := h.id g (by simpa only [idsLt, decide_eq_true_eq] using hi)
    rw [h1, h2]; exact hv
  | .it g, v, hi, hv => by
    simp only [VRep, ren] at hv ⊢
    obtain ⟨h1, h2⟩ := h.id g (by simpa only [idsLt, decide_eq_true_eq] using hi)
    rw [h1, h2]; exact hv
  | .junk, _, _, _ => by simp only [VRep]
theorem CRep_unren {R R' : Rd} {ρ : Nat → Nat} {m : Nat} (h : Unren R R' ρ m) : ∀ (cs : List V) (ds : List Value), idsLts m cs = true → CRep R' (rens ρ cs) ds → CRep R cs ds
  | [], _, _, hv => by simpa only [CRep, rens] using hv
  | c :: cs, ds, hi, hv => by
    simp only [CRep, rens] at hv ⊢
    simp only [idsLts, Bool.and_eq_true] at hi
    obtain ⟨d, r, rfl, h1, h2⟩ := hv
    exact ⟨d, r, rfl, VRep_unren h c d hi.1 h1, CRep_unren h cs r hi.2 h2⟩
end
theorem MRep_unren {R R' : Rd} {ρ : Nat → Nat} {m : Nat} (h : Unren R R' ρ m) : ∀ (kvs : List (V × V)) (es : List MapEntry), idsLtM m kvs = true → MRep R' (renM ρ kvs) es → MRep R kvs es
  | [], _, _, hv => hv
  | (k, x) :: l, es, hi, hv => by
    simp only [idsLtM, Bool.and_eq_true] at hi
    obtain ⟨e, r, rfl, h1, h2, h3⟩ := hv
    exact ⟨e, r, rfl, VRep_unren h _ _ hi.1 h1, VRep_unren h _ _ hi.2.1 h2, MRep_unren h l r hi.2.2 h3⟩
end Go.Av
