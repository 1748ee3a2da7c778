/- A part of a way to reckon what a Go program does without its memory (AvR). -/
import Derived.Test.YtllojkdacinhfaaAvS
namespace Go.Av
open Go Go.RowKit
set_option autoImplicit false
set_option linter.all false
section
variable {P : Program} {C : Ctx} {K : KV}
/-- Nothing is done but that less is one's own. -/
structure Quiet (C C' : Ctx) (H' : List Entry) : Prop where
  h : C'.H = H'
  w : C'.w = C.w
  tr : Tr C C'
  rep : HRep C'
theorem Quiet.refl (hC : HRep C) : Quiet C C C.H := ⟨rfl, rfl, Tr.refl C, hC⟩
def FzOk (f : List Entry → V → V × List Entry) : Prop := ∀ (C : Ctx) (x : V) (v : Value), HRep C → VRep C.R x v → ∃ C', Quiet C C' (f C.H x).2 ∧ VRep C'.R (f C.H x).1 v
def FzsOk (f : List Entry → List V → List V × List Entry) : Prop := ∀ (C : Ctx) (xs : List V) (vs : List Value), HRep C → CRep C.R xs vs → ∃ C', Quiet C C' (f C.H xs).2 ∧ CRep C'.R (f C.H xs).1 vs
theorem Quiet.trans {C1 C2 : Ctx} {H1 H2 : List Entry} (h : Quiet C C1 H1) (k : Quiet C1 C2 H2) : Quiet C C2 H2 := ⟨k.h, k.w.trans h.w, h.tr.trans k.tr, k.rep⟩
theorem fzsW_ok {f : List Entry → V → V × List Entry} (hf : FzOk f) : FzsOk (fzsW f) := by
  intro C xs
  induction xs generalizing C with
  | nil => intro vs hC hr; exact ⟨C, Quiet.refl hC, by simpa only [fzsW] using hr⟩
  | cons x l ih =>
    intro vs hC hr
    simp only [CRep] at hr
    obtain ⟨d, r, rfl, h1, h2⟩ := hr
    obtain ⟨C1, q1, r1⟩ := hf C x d hC h1
    obtain ⟨C2, q2, r2⟩ := ih C1 r q1.rep (CRep_tr q1.tr.R _ _ h2)
    rw [q1.h] at q2 r2
    exact ⟨C2, q1.trans q2, CRep_cons (VRep_tr q2.tr.R _ _ r1) r2⟩
theorem irow_read {g n len : Nat} {xs : List V} {v : Value} (hC : HRep C) (he : C.H[g]? = some (.irow n xs)) (hl : xs.length = len) (hv : VRep C.R (.own g len) v) : VRep C.R (.sl n xs) v := by
  have hsh : C.R.sh g = some (.row n xs.length) := by simp [Ctx.R, Ctx.sh, he, Entry.shp]
  simp only [VRep, hsh] at hv ⊢
  obtain ⟨_, _, hv⟩ := hv
  rcases hC.ent g _ he with ⟨k1, k2⟩ | ⟨b, cap, cells, k1, k2, k3, k4, k5, k6⟩
  · rcases hv hl.symm with ⟨_, a, rfl⟩ | ⟨b, c, hb, _⟩
    · subst k2; subst hl; exact .inl ⟨rfl, a, 0, rfl⟩
    · have : C.β g = some (b, c) := hb
      rw [k1] at this; cases this
  · rcases hv hl.symm with ⟨hb, _⟩ | ⟨b', c', hb, rfl⟩
    · have : C.β g = none := hb
      rw [k1] at this; cases this
    · have : C.β g = some (b', c') := hb
      rw [k1] at this; cases this
      subst hl
      exact .inr ⟨b, 0, cap, cells, rfl, k4, k2, k3, k5, k6⟩
theorem fzRow_ok {g len : Nat} {v : Value} (hC : HRep C) (hv : VRep C.R (.own g len) v) : ∃ C', Quiet C C' (fzRow g len C.H C.H[g]?).2 ∧ VRep C'.R (fzRow g len C.H C.H[g]?).1 v := by
  unfold fzRow
  split
  · rename_i E n xs he
    split
    · rename_i hl
      obtain ⟨ht, hr⟩ := frz_row hC he
      exact ⟨C.turn C.w g (C.β g) (.irow n xs), ⟨rfl, rfl, ht, hr⟩, irow_read hr (turn_get_new he) hl (VRep_tr ht.R _ _ hv)⟩
    · exact ⟨C, Quiet.refl hC, hv⟩
  · rename_i n xs he
    split
    · rename_i hl
      exact ⟨C, Quiet.refl hC, irow_read hC he hl hv⟩
    · exact ⟨C, Quiet.refl hC, hv⟩
  · exact ⟨C, Quiet.refl hC, hv⟩
theorem ibox_read {g : Nat} {cs : List V} {v : Value} (hC : HRep C) (he : C.H[g]? = some (.ibox cs)) (hv : VRep C.R (.ptr g 0) v) : VRep C.R (.ref cs) v := by
  have hsh : C.R.sh g = some .box := by simp [Ctx.R, Ctx.sh, he, Entry.shp]
  simp only [VRep, hsh] at hv ⊢
  obtain ⟨_, b, c, hb, rfl⟩ := hv
  obtain ⟨b', c', cells, k1, k2, k3, k4, k5⟩ := hC.ent g _ he
  have : C.β g = some (b, c) := hb
  rw [k1] at this; cases this
  exact ⟨b, 0, cells, rfl, k2, k3, k4, k5⟩
theorem frz_box {g : Nat} {cs cs' : List V} (hC : HRep C) (he : C.H[g]? = some (.box cs)) (hr : ∀ b c cur E, C.β g = some (b, c) → C.w.heap[b]? = some (.cells cur E (0, 0)) → CRep C.R cs' cur.toList) (hn : noids cs' = true) :
    Tr C (C.turn C.w g (C.β g) (.ibox cs')) ∧ HRep (C.turn C.w g (C.β g) (.ibox cs')) := by
  have ht := frz_turns (e' := .ibox cs') he rfl (by simp [Entry.shp, STr])
  refine ⟨turn_tr hC ht, turn_rep hC ht ?_⟩
  obtain ⟨b, c, cur, E, k1, k2, k3⟩ := hC.ent g _ he
  refine ⟨b, c, cur.toList, by rw [turn_beta_new]; exact k1, frz_av hC he rfl rfl k1, (Array.getElem?_eq_some_iff.1 k2).1, cellsAt_row k2, ?_⟩
  exact CRep_tr (turn_tr hC ht).R.deep _ _ (noids_deep _ _ hn (hr b c cur E k1 k2))
theorem fzBox_ok {f : List Entry → List V → List V × List Entry} (hf : FzsOk f) {g : Nat} {v : Value} (hC : HRep C) (hv : VRep C.R (.ptr g 0) v) : ∃ C', Quiet C C' (fzBox f g C.H C.H[g]?).2 ∧ VRep C'.R (fzBox f g C.H C.H[g]?).1 v := by
  unfold fzBox
  split
  · rename_i cs he
    obtain ⟨b, c, cur, E, k1, k2, k3⟩ := hC.ent g _ he
    obtain ⟨C1, q1, r1⟩ := hf C cs _ hC k3
    unfold fzPut
    split
    · rename_i cs1 he1 hn
      rw [← q1.h] at he1 ⊢
      have hβ : C1.β g = C.β g := by
        obtain ⟨s', h1, h2⟩ := q1.tr.ids g .box (by simp [Ctx.sh, he, Entry.shp])
        rcases h2 with ⟨_, h2⟩ | h2
        · exact h2
        · rw [h2] at h1
          simp [Ctx.sh, he1, Entry.shp] at h1
      obtain ⟨ht, hr⟩ := frz_box (cs' := (f C.H cs).1) q1.rep he1 (fun b' c' cur' E' g1 g2 => by
        rw [hβ, k1] at g1; cases g1
        rw [q1.w, k2] at g2; cases g2
        exact r1) hn
      exact ⟨C1.turn C1.w g (C1.β g) (.ibox (f C.H cs).1), ⟨rfl, q1.w, q1.tr.trans ht, hr⟩, ibox_read hr (turn_get_new he1) (VRep_tr (q1.tr.trans ht).R _ _ hv)⟩
    · exact ⟨C, Quiet.refl hC, hv⟩
  · rename_i cs he
    exact ⟨C, Quiet.refl hC, ibox_read hC he hv⟩
  · exact ⟨C, Quiet.refl hC, hv⟩
theorem fz_ok : ∀ d : Nat, FzOk (fz d)
  | 0 => fun C x v hC hv => ⟨C, Quiet.refl hC, hv⟩
  | d + 1 => by
    have ih := fzsW_ok (fz_ok d)
    intro C x v hC hv
    unfold fz
    split
    · rename_i h; cases h
    · rename_i h; cases h
      simp only [VRep] at hv ⊢
      obtain ⟨ds, rfl, hc⟩ := hv
      obtain ⟨C1, q1, r1⟩ := ih C _ ds hC hc
      exact ⟨C1, q1, ds, rfl, r1⟩
    · rename_i h; cases h
      simp only [VRep] at hv ⊢
      obtain ⟨ds, rfl, hc⟩ := hv
      obtain ⟨C1, q1, r1⟩ := ih C _ ds hC hc
      exact ⟨C1, q1, ds, rfl, r1⟩
    · rename_i h; cases h
      exact fzRow_ok hC hv
    · rename_i h; cases h
      exact fzBox_ok ih hC hv
    · rename_i h; cases h
      simp only [VRep] at hv ⊢
      obtain ⟨x, y, rfl, h1, h2⟩ := hv
      obtain ⟨C1, q1, r1⟩ := ih C _ x hC h1
      obtain ⟨C2, q2, r2⟩ := ih C1 _ y q1.rep (CRep_tr q1.tr.R _ _ h2)
      rw [q1.h] at q2 r2
      exact ⟨C2, q1.trans q2, x, y, rfl, CRep_tr q2.tr.R _ _ r1, r2⟩
    · exact ⟨C, Quiet.refl hC, hv⟩
theorem bsl_does {t el : TypeId} {n len : Nat} {g : Bool} {parts : Array (Nat × Operand)} {l : List Opd} {a : Act} {e : List V} (hu : P.underlying t = some (.slice el)) (hn : sizeT P el = some n) (hl : inOrder 0 parts.toList = some l) (hlen : l.length = len)
    (h24 : len * n ≤ 2 ^ 24) (hz : (zeroT P el).isSome = true) (hC : HRep C) (hE : CRep C.R e a.tmps.toList) (hk : bslF n g (noids (evs e l)) (evs e l) C.H K) :
    Does P (Instr.buildSlice t len (parts.map fun (i, x) => (i, a.eval x))) C K := by
  obtain ⟨vs, h1, h2, h3⟩ := inOrder_eval hE hl
  unfold bslF at hk
  split at hk
  · rename_i hnd
    exact bsl_core (g := g) hu hn h1 (by omega) h24 hz hC h2 (by rw [hnd, Bool.and_true]; exact hk)
  · obtain ⟨C1, q1, r1⟩ := fzsW_ok (fz_ok 8) C _ vs hC h2
    rw [← q1.h] at hk
    exact Does.after q1.tr q1.w (bsl_core (g := g) hu hn h1 (by omega) h24 hz q1.rep r1 hk)
end
end Go.Av
