/- A part of a way to reckon what a Go program does without its memory (AvG). -/
import Derived.Test.YtllojkdacinhfaaAvF
namespace Go.Av
open Go Go.RowKit
set_option autoImplicit false
set_option linter.all false
section
variable {P : Program} {C : Ctx} {K : KV}
theorem tyOk_parts {t : TypeId} {n : Nat} (h : tyOk P t n = true) : (P.underlying t).isSome = true ∧ (isAggT P t = false → n = 1) := by
  unfold tyOk at h
  simp only [Bool.and_eq_true, Bool.or_eq_true, beq_iff_eq] at h
  exact ⟨h.1, fun hf => by rcases h.2 with h2 | h2; (· rw [hf] at h2; cases h2); exact h2⟩
theorem deepC {cs : List V} {ds : List Value} (h : CRep C.R.deep cs ds) : CRep C.R cs ds := CRep_tr (RTr_deep _) _ _ h
theorem deepV {x : V} {v : Value} (h : VRep C.R.deep x v) : VRep C.R x v := VRep_tr (RTr_deep _) _ _ h
/-- What is only read. -/
def Reads (P : Program) (s : Sem Value) (C : Ctx) (K : KV) : Prop := ∃ (x : V) (v : Value), s.run P C.w = .ok v C.w ∧ VRep C.R x v ∧ K x C.H
theorem Reads.does {s : Sem Value} (hC : HRep C) (h : Reads P s C K) : Does P s C K := by
  obtain ⟨x, v, h1, h2, h3⟩ := h
  exact Does.pure hC h1 h2 h3
theorem load_reads {t : TypeId} {n : Nat} {x : V} {v : Value} (hs : sizeT P t = some n) (ht : tyOk P t n = true) (hC : HRep C) (hv : VRep C.R x v) (hk : loadK n (isAggT P t) x C.H K) :
    Reads P (Instr.loadAt t v) C K := by
  obtain ⟨hu, h1⟩ := tyOk_parts ht
  unfold loadK at hk
  split at hk
  · rename_i cs
    simp only [VRep] at hv
    obtain ⟨b, o, cells, rfl, _, _, hc, hr⟩ := hv
    obtain ⟨u, h2, h3⟩ := load_cells (C := C) (off := 0) hs hu h1 hc (deepC hr) (by omega)
    exact ⟨_, u, h2, h3, hk.2⟩
  · rename_i j off
    unfold loadH at hk
    split at hk
    · rename_i cs he
      obtain ⟨b, c, hb, rfl⟩ := ptr_at hv he rfl
      obtain ⟨b', c', cur, E, k1, k2, k3⟩ := hC.ent j _ he
      rw [hb] at k1; cases k1
      obtain ⟨u, h2, h3⟩ := load_cells (C := C) (o := 0) hs hu h1 (cellsAt_row k2) k3 hk.1
      rw [Nat.zero_add] at h2
      exact ⟨_, u, h2, h3, hk.2⟩
    · rename_i cs he
      obtain ⟨b, c, hb, rfl⟩ := ptr_at hv he rfl
      obtain ⟨b', c', cells, k1, _, _, k4, k5⟩ := hC.ent j _ he
      rw [hb] at k1; cases k1
      obtain ⟨u, h2, h3⟩ := load_cells (C := C) (o := 0) hs hu h1 k4 (deepC k5) hk.1
      rw [Nat.zero_add] at h2
      exact ⟨_, u, h2, h3, hk.2⟩
    · exact hk.elim
  · rename_i j len i off
    unfold loadE at hk
    have key : ∀ {m : Nat} {xs : List V} {cells : List Value} {b : Nat}, cellsAt C.w b 0 cells → ERep C.R.deep m xs cells → (len = xs.length ∧ i < xs.length ∧ off + n ≤ m) ∧ K (part n (isAggT P t) ((nth xs i).cells.drop off)) C.H →
        v = .pointer (some ⟨b, i * m + off, none⟩) → Reads P (Instr.loadAt t v) C K := by
      intro m xs cells b hc hr hk hv
      subst hv
      obtain ⟨u, e1, e2, e3, e4⟩ := ERep_at i hr hk.1.2.1
      have hcr := cells_rep e4 e3
      rw [e1] at hcr
      have hl := CRep_length hcr
      have hul : u.cells.toList.length = m := by simpa using e2
      rw [e1] at hul
      have hc2 := cellsAt_drop hc (i * m) m
      obtain ⟨z, h2, h3⟩ := load_cells (C := C) (off := off) hs hu h1 hc2 (deepC hcr) (by omega)
      simp only [Nat.zero_add] at h2
      exact ⟨_, z, h2, h3, hk.2⟩
    split at hk
    · rename_i E m xs he
      obtain ⟨b, c, hb, hv⟩ := eptr_at hv he rfl hk.1.1
      rcases hC.ent j _ he with ⟨k1, k2⟩ | ⟨b', cap, cur, cells, k1, k2, k3, k4, k5, k6, k7⟩
      · rw [hb] at k1; cases k1
      · rw [hb] at k1; cases k1
        refine key (b := b) (cells := cells) ?_ k7 hk hv
        have := cellsAt_row k2
        intro k c hk
        rw [← k6, List.getElem?_take] at hk
        split at hk
        · exact this k c hk
        · cases hk
    · rename_i m xs he
      obtain ⟨b, c, hb, hv⟩ := eptr_at hv he rfl hk.1.1
      rcases hC.ent j _ he with ⟨k1, k2⟩ | ⟨b', cap, cells, k1, _, _, _, k5, k7⟩
      · rw [hb] at k1; cases k1
      · rw [hb] at k1; cases k1
        exact key (b := b) (cells := cells) k5 k7 hk hv
    · exact hk.elim
  · exact hk.elim

/-! Places of parts -/
theorem load_does {t : TypeId} {n : Nat} {x : V} {v : Value} (hs : sizeT P t = some n) (ht : tyOk P t n = true) (hC : HRep C) (hv : VRep C.R x v) (hk : loadK n (isAggT P t) x C.H K) :
    Does P (Instr.loadAt t v) C K := (load_reads hs ht hC hv hk).does hC
theorem box_at {j o : Nat} {x : V} {v : Value} (hv : VRep C.R (.ptr j o) v) (hk : nckB (isBox C.H[j]?) x C.H K) :
    ∃ b c, C.R.β j = some (b, c) ∧ v = .pointer (some ⟨b, o, none⟩) ∧ C.R.sh j = some .box ∧ K x C.H := by
  cases he : C.H[j]? with
  | none => rw [he] at hk; exact hk.elim
  | some e =>
    rw [he] at hk
    have hs : e.shp = .box := by cases e <;> first | rfl | exact hk.elim
    obtain ⟨b, c, hb, rfl⟩ := ptr_at hv he hs
    refine ⟨b, c, hb, rfl, by simp [Ctx.R, Ctx.sh, he, hs], ?_⟩
    cases e <;> first | exact hk | exact hk.elim
theorem isRow_at {j len : Nat} {A : Prop} (hk : isRow len C.H[j]? A) : ∃ e n xs, C.H[j]? = some e ∧ e.shp = .row n xs.length ∧ len = xs.length ∧ A ∧ ((∃ E, e = .row E n xs) ∨ e = .irow n xs) := by
  cases he : C.H[j]? with
  | none => rw [he] at hk; exact hk.elim
  | some e =>
    rw [he] at hk
    cases e with
    | row E n xs => exact ⟨_, n, xs, rfl, rfl, hk.1, hk.2, .inl ⟨E, rfl⟩⟩
    | irow n xs => exact ⟨_, n, xs, rfl, rfl, hk.1, hk.2, .inr rfl⟩
    | _ => exact hk.elim
theorem el_at {j len i o : Nat} {v : Value} {A : Prop} (hv : VRep C.R (.eptr j len i o) v) (hk : isRow len C.H[j]? A) :
    ∃ m b c, C.R.β j = some (b, c) ∧ v = .pointer (some ⟨b, i * m + o, none⟩) ∧ C.R.sh j = some (.row m len) ∧ A := by
  obtain ⟨e, n, xs, he, hs, hl, hA, _⟩ := isRow_at hk
  obtain ⟨b, c, hb, rfl⟩ := eptr_at hv he hs hl
  exact ⟨n, b, c, hb, rfl, by simp [Ctx.R, Ctx.sh, he, hs, hl], hA⟩
theorem fad_does {s : TypeId} {fs : Array Field} {g : Field} {f n : Nat} {x : V} {v : Value} (hu : P.underlying s = some (.struct fs)) (hf : fs[f]? = some g) (hn : sizeT P g.type = some (n + 1)) (hC : HRep C)
    (hv : VRep C.R x v) (hk : fadK g.offset x C.H K) : Does P (Instr.fieldAt s v f) C K := by
  have run : ∀ (b o : Nat), (Instr.fieldAt s (.pointer (some ⟨b, o, none⟩)) f).run P C.w = .ok (.pointer (some ⟨b, o + g.offset, none⟩)) C.w := by
    intro b o
    simp [Instr.fieldAt, run_underlying' hu, hf, Instr.sureAddr, fieldPlace, run_sizeOf hn, Addr.add_lit]
  unfold fadK at hk
  split at hk
  · rename_i cs
    simp only [VRep] at hv
    obtain ⟨b, o, cells, rfl, h1, h2, hc, hr⟩ := hv
    refine Does.pure hC (run b o) ?_ hk
    simp only [VRep]
    refine ⟨b, o + g.offset, cells.drop g.offset, rfl, h1, h2, ?_, CRep_drop _ hr⟩
    intro k c hk
    rw [List.getElem?_drop] at hk
    rw [Nat.add_assoc]
    exact hc _ _ hk
  · rename_i j o
    obtain ⟨b, c, hb, rfl, hsh, hk⟩ := box_at hv hk
    refine Does.pure hC (run b o) ?_ hk
    simp only [VRep, hsh]
    exact ⟨rfl, b, c, hb, rfl⟩
  · rename_i j len i o
    obtain ⟨m, b, c, hb, rfl, hsh, hk⟩ := el_at hv hk
    refine Does.pure hC (run b _) ?_ hk
    simp only [VRep, hsh]
    exact ⟨rfl, Nat.le_refl _, fun _ => ⟨b, c, hb, by simp [Nat.add_assoc]⟩⟩
  · exact hk.elim
end
end Go.Av
