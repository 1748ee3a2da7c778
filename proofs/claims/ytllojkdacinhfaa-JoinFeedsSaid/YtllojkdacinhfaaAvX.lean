/- A part of a way to reckon what a Go program does without its memory (AvX). -/
import Derived.Test.YtllojkdacinhfaaAvW
import Derived.Scope
namespace Go.Av
open Go Go.RowKit
set_option autoImplicit false
set_option linter.all false

/-! ### Code -/
def putD (e : List V) (d : Option Nat) (v : V) : List V := match d with | some i => setAt e i v | none => e
mutual
def idsLt (m : Nat) : V → Bool
  | .agg cs => idsLts m cs
  | .tup cs => idsLts m cs
  | .fn _ a b => idsLts m a && idsLts m b
  | .own g _ => decide (g < m)
  | .ptr g _ => decide (g < m)
  | .eptr g _ _ _ => decide (g < m)
  | .map g => decide (g < m)
  | .it g => decide (g < m)
  | _ => true
def idsLts (m : Nat) : List V → Bool
  | [] => true
  | x :: l => idsLt m x && idsLts m l
end
def idsLtM (m : Nat) : List (V × V) → Bool
  | [] => true
  | (k, x) :: l => idsLt m k && (idsLt m x && idsLtM m l)
def idsLtE (m : Nat) : Entry → Bool
  | .box cs => idsLts m cs
  | .map kvs => idsLtM m kvs
  | _ => true
def eLe (m : Nat) : List V → List V → Prop
  | [], [] => True
  | a :: l, b :: l' => (b = .junk ∨ (b = a ∧ idsLt m b = true)) ∧ eLe m l l'
  | _, _ => False
/-- The first entries are the same, or given up. -/
def hLe (m : Nat) : List Entry → List Entry → Prop
  | _, [] => True
  | a :: l, b :: l' => (b = .gone ∨ (b = a ∧ idsLtE m b = true)) ∧ hLe m l l'
  | [], _ :: _ => False
/-- What is known may be less. -/
inductive Wk (n0 : Nat) : List V → List Entry → List V → List Entry → Prop
  | refl {e : List V} {H : List Entry} : Wk n0 e H e H
  | trans {e e1 e2 : List V} {H H1 H2 : List Entry} (h : Wk n0 e H e1 H1) (k : Wk n0 e1 H1 e2 H2) : Wk n0 e H e2 H2
  | drop {e e' : List V} {H H' : List Entry} (hn : n0 ≤ H'.length) (he : eLe H'.length e e') (hh : hLe H'.length H H') : Wk n0 e H e' H'
  | adopt {e : List V} {H : List Entry} (i E n : Nat) (h : nth e i = .nilsl) : Wk n0 e H (setAt e i (.own H.length 0)) (H ++ [.row E n []])
  | frz {e : List V} {H : List Entry} (i : Nat) : Wk n0 e H (setAt e i (fz 8 H (nth e i)).1) (fz 8 H (nth e i)).2

/-- One operation, wanted or not. -/
def opK (P : Program) (o : AO) (K : KV) (e : List V) (H : List Entry) : Prop :=
  match o.guard with
  | none => step P o.op e H K
  | some (t, b) => match nth e t with
    | .bool c => bif c == b then step P o.op e H K else K undefV H
    | .tup _ => K undefV H
    | _ => False
def ops (P : Program) : List AO → K1 → List V → List Entry → Prop
  | [], K, e, H => K e H
  | o :: l, K, e, H => opK P o (fun v H' => ops P l K (putD e o.dst v) H') e H
def putK (P : Program) (d : Option Nat) (l : List AO) (K : K1) (e : List V) : KV := fun v H' => ops P l K (putD e d v) H'
def gdK (P : Program) (v : V) (b : Bool) (o : AOp) (K : KV) (e : List V) (H : List Entry) : Prop :=
  match v with
  | .bool c => bif c == b then step P o e H K else K undefV H
  | .tup _ => K undefV H
  | _ => False
/-- What is to be shown at a round's end. -/
def roundK (n0 : Nat) (I : Nat → K1) (n : Nat) (Q : KQ) : KQ
  | .norm, e, H => ∃ m e' H', m < n ∧ Wk n0 e H e' H' ∧ I m e' H'
  | x, e, H => Q x e H
def LoopP (n0 : Nat) (f : KQ → K1) (Q : KQ) (e : List V) (H : List Entry) : Prop :=
  ∃ I : Nat → K1, (∃ n e' H', Wk n0 e H e' H' ∧ I n e' H') ∧ ∀ n e H, I n e H → f (roundK n0 I n Q) e H
def seqK (k : K1) (Q : KQ) : KQ
  | .norm, e, H => k e H
  | x, e, H => Q x e H
def blockK (id : Nat) (Q : KQ) : KQ
  | .exit i, e, H => bif i == id then Q .norm e H else Q (.exit i) e H
  | x, e, H => Q x e H
def condK (v : V) (a b : K1) (e : List V) (H : List Entry) : Prop :=
  match v with
  | .bool c => bif c then a e H else b e H
  | _ => False
def WkP (n0 : Nat) (f : K1) (e : List V) (H : List Entry) : Prop := ∃ e' H', Wk n0 e H e' H' ∧ f e' H'
def awp (P : Program) (n0 : Nat) : AC → KQ → List V → List Entry → Prop
  | .skip, Q, e, H => Q .norm e H
  | .ops l, Q, e, H => ops P l (Q .norm) e H
  | .draw l, Q, e, H => ops P l (Q .norm) e H
  | .seq a b, Q, e, H => awp P n0 a (seqK (awp P n0 b Q) Q) e H
  | .cond x a b, Q, e, H => condK (ev e x) (awp P n0 a Q) (awp P n0 b Q) e H
  | .block id a, Q, e, H => awp P n0 a (blockK id Q) e H
  | .loop a, Q, e, H => LoopP n0 (awp P n0 a) Q e H
  | .exit id, Q, e, H => Q (.exit id) e H
  | .scope a, Q, e, H => awp P n0 a Q e H
  | .ret, Q, e, H => Q .ret e H
  | .wk a, Q, e, H => WkP n0 (awp P n0 a Q) e H
  | .bad, _, _, _ => False
/-- The code without the places where less may be known. -/
def strip : AC → AC
  | .seq a b => .seq (strip a) (strip b)
  | .cond x a b => .cond x (strip a) (strip b)
  | .block id a => .block id (strip a)
  | .loop a => .loop (strip a)
  | .scope a => .scope (strip a)
  | .wk a => strip a
  | a => a

/-! ### What is known may be less: soundness -/
theorem Quiet.rep' {C C' : Ctx} {H' : List Entry} (h : Quiet C C' H') {e : List V} {l : List Value} (hE : CRep C.R e l) : CRep C'.R e l := CRep_tr h.tr.R _ _ hE
theorem CRep_setAt : ∀ {R : Rd} {e : List V} {ds : List Value} (i : Nat) {x : V}, CRep R e ds → (∀ v, ds[i]? = some v → VRep R x v) → CRep R (setAt e i x) ds
  | _, [], _, _, _, h, _ => h
  | _, c :: cs, ds, 0, x, h, hv => by
    simp only [CRep] at h
    obtain ⟨d, r, rfl, h1, h2⟩ := h
    exact CRep_cons (hv d rfl) h2
  | R, c :: cs, ds, i + 1, x, h, hv => by
    simp only [CRep] at h
    obtain ⟨d, r, rfl, h1, h2⟩ := h
    exact CRep_cons h1 (CRep_setAt i h2 (fun v hv' => hv v (by simpa using hv')))

theorem deep_less {R R' : Rd} (hw : R'.w = R.w) (ha : ∀ b, R'.av b → R.av b) : RTr R.deep R'.deep :=
  ⟨by show R.w.heap.size ≤ R'.w.heap.size; rw [hw]; exact Nat.le_refl _, fun b _ hn => ⟨by show R'.w.heap[b]? = R.w.heap[b]?; rw [hw], fun k => hn (ha b k)⟩, fun g s hs => by cases hs⟩
mutual
/-- With fewer numbers, and fewer blocks of one's own. -/
theorem VRep_less {R R' : Rd} {m : Nat} (hw : R'.w = R.w) (ha : ∀ b, R'.av b → R.av b) (hb : R'.β = R.β) (hs : ∀ g, g < m → R'.sh g = R.sh g ∨ (R.sh g ≠ none ∧ R'.sh g = some .gone)) : ∀ (x : V) (v : Value), idsLt m x = true → VRep R x v → VRep R' x v
  | .bool _, _, _, hv => by simpa only [VRep] using hv
  | .int _ _, _, _, hv => by simpa only [VRep] using hv
  | .str _, _, _, hv => by simpa only [VRep] using hv
  | .agg cs, _, hn, hv => by
    simp only [VRep] at hv ⊢
    obtain ⟨ds, rfl, hc⟩ := hv
    exact ⟨ds, rfl, CRep_less hw ha hb hs cs ds (by simpa only [idsLt] using hn) hc⟩
  | .tup cs, _, hn, hv => by
    simp only [VRep] at hv ⊢
    obtain ⟨ds, rfl, hc⟩ := hv
    exact ⟨ds, rfl, CRep_less hw ha hb hs cs ds (by simpa only [idsLt] using hn) hc⟩
  | .nilsl, _, _, hv => by simpa only [VRep] using hv
  | .sl n xs, v, _, hv => by
    have h2 : VRep R.deep (.sl n xs) v := by simp only [VRep] at hv ⊢; exact hv
    have h3 := VRep_tr (deep_less hw ha) _ v h2
    simp only [VRep] at h3 ⊢; exact h3
  | .slx n xs, v, _, hv => by
    have h2 : VRep R.deep (.slx n xs) v := by simp only [VRep] at hv ⊢; exact hv
    have h3 := VRep_tr (deep_less hw ha) _ v h2
    simp only [VRep] at h3 ⊢; exact h3
  | .own g len, v, hn, hv => by
    have hg : g < m := by simpa only [idsLt, decide_eq_true_eq] using hn
    simp only [VRep] at hv ⊢
    rcases hs g hg with h | ⟨_, h⟩
    · rw [h, hb]; exact hv
    · rw [h]; exact ⟨hv.1, trivial⟩
  | .nilp, _, _, hv => by simpa only [VRep] using hv
  | .ref cs, v, _, hv => by
    have h2 : VRep R.deep (.ref cs) v := by simp only [VRep] at hv ⊢; exact hv
    have h3 := VRep_tr (deep_less hw ha) _ v h2
    simp only [VRep] at h3 ⊢; exact h3
  | .ptr g off, v, hn, hv => by
    have hg : g < m := by simpa only [idsLt, decide_eq_true_eq] using hn
    simp only [VRep] at hv ⊢
    rcases hs g hg with h | ⟨_, h⟩
    · rw [h, hb]; exact hv
    · rw [h]; exact ⟨hv.1, trivial⟩
  | .eptr g len i off, v, hn, hv => by
    have hg : g < m := by simpa only [idsLt, decide_eq_true_eq] using hn
    simp only [VRep] at hv ⊢
    rcases hs g hg with h | ⟨_, h⟩
    · rw [h, hb]; exact hv
    · rw [h]; exact ⟨hv.1, trivial⟩
  | .nilfn, _, _, hv => by simpa only [VRep] using hv
  | .fn f a b, _, hn, hv => by
    simp only [idsLt, Bool.and_eq_true] at hn
    simp only [VRep] at hv ⊢
    obtain ⟨x, y, rfl, h1, h2⟩ := hv
    exact ⟨x, y, rfl, CRep_less hw ha hb hs a x hn.1 h1, CRep_less hw ha hb hs b y hn.2 h2⟩
  | .nilmap, _, _, hv => by simpa only [VRep] using hv
  | .map g, v, hn, hv => by
    have hg : g < m := by simpa only [idsLt, decide_eq_true_eq] using hn
    simp only [VRep] at hv ⊢
    rcases hs g hg with h | ⟨_, h⟩
    · rw [h, hb]; exact hv
    · rw [h]; exact ⟨hv.1, trivial⟩
  | .it g, v, hn, hv => by
    have hg : g < m := by simpa only [idsLt, decide_eq_true_eq] using hn
    simp only [VRep] at hv ⊢
    rcases hs g hg with h | ⟨_, h⟩
    · rw [h, hb]; exact hv
    · rw [h]; exact ⟨hv.1, trivial⟩
  | .junk, _, _, _ => by simp only [VRep]
theorem CRep_less {R R' : Rd} {m : Nat} (hw : R'.w = R.w) (ha : ∀ b, R'.av b → R.av b) (hb : R'.β = R.β) (hs : ∀ g, g < m → R'.sh g = R.sh g ∨ (R.sh g ≠ none ∧ R'.sh g = some .gone)) : ∀ (cs : List V) (ds : List Value), idsLts m cs = true → CRep R cs ds → CRep R' cs ds
  | [], _, _, hv => by simpa only [CRep] using hv
  | c :: cs, ds, hn, hv => by
    simp only [idsLts, Bool.and_eq_true] at hn
    simp only [CRep] at hv ⊢
    obtain ⟨d, r, rfl, h1, h2⟩ := hv
    exact ⟨d, r, rfl, VRep_less hw ha hb hs c d hn.1 h1, CRep_less hw ha hb hs cs r hn.2 h2⟩
end

theorem nth_ids {m : Nat} : ∀ {e e' : List V} {R R' : Rd} {ds : List Value}, eLe m e e' → (∀ (x : V) (v : Value), idsLt m x = true → VRep R x v → VRep R' x v) → CRep R e ds → CRep R' e' ds
  | [], [], _, _, _, _, _, hr => by simpa only [CRep] using hr
  | [], _ :: _, _, _, _, h, _, _ => by simp [eLe] at h
  | _ :: _, [], _, _, _, h, _, _ => by simp [eLe] at h
  | a :: l, b :: l', R, R', ds, h, hs, hr => by
    simp only [eLe] at h
    simp only [CRep] at hr ⊢
    obtain ⟨d, r, rfl, h1, h2⟩ := hr
    refine ⟨d, r, rfl, ?_, nth_ids h.2 hs h2⟩
    rcases h.1 with rfl | ⟨rfl, hi⟩
    · exact VRep_junk
    · exact hs _ _ hi h1
theorem hLe_get {m : Nat} : ∀ {H H' : List Entry} {g : Nat} {e' : Entry}, hLe m H H' → H'[g]? = some e' → ∃ e, H[g]? = some e ∧ (e' = .gone ∨ (e' = e ∧ idsLtE m e' = true))
  | _, [], g, e', _, he => by simp at he
  | [], _ :: _, _, _, h, _ => by simp [hLe] at h
  | a :: l, b :: l', 0, e', h, he => by
    simp only [hLe] at h
    simp at he; subst he
    exact ⟨a, rfl, h.1⟩
  | a :: l, b :: l', g + 1, e', h, he => by
    simp only [hLe] at h
    simpa using hLe_get h.2 (by simpa using he)
/-- Fewer numbers. -/
def Ctx.less (C : Ctx) (H' : List Entry) : Ctx := ⟨C.w, C.β, H', C.F⟩
section less
variable {C C0 : Ctx} {H' : List Entry}
theorem less_own (hh : hLe H'.length C.H H') {b : Nat} (h : (C.less H').own b) : C.own b := by
  obtain ⟨g, e, c, h1, h2, h3⟩ := h
  obtain ⟨e0, k1, k2⟩ := hLe_get hh h1
  rcases k2 with rfl | ⟨rfl, _⟩
  · cases h2
  · exact ⟨g, e, c, k1, h2, h3⟩
theorem less_av (hh : hLe H'.length C.H H') (b : Nat) (h : (C.less H').av b) : C.av b := h.imp (less_own hh) id
theorem less_sh (hh : hLe H'.length C.H H') (g : Nat) (hg : g < H'.length) : (C.less H').R.sh g = C.R.sh g ∨ (C.R.sh g ≠ none ∧ (C.less H').R.sh g = some .gone) := by
  have h1 : H'[g]? = some H'[g] := List.getElem?_eq_getElem hg
  obtain ⟨e0, k1, k2⟩ := hLe_get hh h1
  have s1 : C.R.sh g = some e0.shp := by simp [Ctx.R, Ctx.sh, k1]
  have s2 : (C.less H').R.sh g = some H'[g].shp := by simp [Ctx.R, Ctx.sh, Ctx.less, h1]
  rcases k2 with k2 | ⟨k2, _⟩
  · right; rw [s1, s2, k2]; simp [Entry.shp]
  · left; rw [s1, s2, k2]
theorem less_V (hh : hLe H'.length C.H H') (x : V) (v : Value) (hi : idsLt H'.length x = true) (h : VRep C.R x v) : VRep (C.less H').R x v :=
  VRep_less (R := C.R) (R' := (C.less H').R) rfl (less_av hh) rfl (less_sh hh) x v hi h
theorem less_C (hh : hLe H'.length C.H H') (x : List V) (v : List Value) (hi : idsLts H'.length x = true) (h : CRep C.R x v) : CRep (C.less H').R x v :=
  CRep_less (R := C.R) (R' := (C.less H').R) rfl (less_av hh) rfl (less_sh hh) x v hi h
theorem less_M (hh : hLe H'.length C.H H') : ∀ (kvs : List (V × V)) (es : List MapEntry), idsLtM H'.length kvs = true → MRep C.R kvs es → MRep (C.less H').R kvs es
  | [], _, _, h => h
  | (k, x) :: l, es, hi, h => by
    simp only [idsLtM, Bool.and_eq_true] at hi
    obtain ⟨e, r, rfl, h1, h2, h3⟩ := h
    exact ⟨e, r, rfl, less_V hh _ _ hi.1 h1, less_V hh _ _ hi.2.1 h2, less_M hh l r hi.2.2 h3⟩
theorem less_deepE (hh : hLe H'.length C.H H') {n : Nat} {xs : List V} {cells : List Value} (h : ERep C.R.deep n xs cells) : ERep (C.less H').R.deep n xs cells :=
  ERep_tr (deep_less (R := C.R) (R' := (C.less H').R) rfl (less_av hh)) n xs cells h
theorem less_deepC (hh : hLe H'.length C.H H') {xs : List V} {cells : List Value} (h : CRep C.R.deep xs cells) : CRep (C.less H').R.deep xs cells :=
  CRep_tr (deep_less (R := C.R) (R' := (C.less H').R) rfl (less_av hh)) xs cells h
theorem less_rep (hC : HRep C) (hh : hLe H'.length C.H H') : HRep (C.less H') := by
  refine ⟨fun g e he => ?_, ?_, fun b hb => hC.nF b (less_own hh hb), hC.ltF⟩
  · obtain ⟨e0, k1, k2⟩ := hLe_get hh he
    rcases k2 with rfl | ⟨rfl, hi⟩
    · trivial
    · have h0 := hC.ent g e k1
      cases e with
      | box cs =>
        obtain ⟨b, c, cur, E, h1, h2, h3⟩ := h0
        exact ⟨b, c, cur, E, h1, h2, less_C hh _ _ hi h3⟩
      | ibox cs =>
        obtain ⟨b, c, cells, h1, h2, h3, h4, h5⟩ := h0
        exact ⟨b, c, cells, h1, fun k => h2 (less_av hh b k), h3, h4, less_deepC hh h5⟩
      | row E n xs =>
        rcases h0 with h0 | ⟨b, cap, cur, cells, h1, h2, h3, h4, h5, h6, h7⟩
        · exact .inl h0
        · exact .inr ⟨b, cap, cur, cells, h1, h2, h3, h4, h5, h6, less_deepE hh h7⟩
      | irow n xs =>
        rcases h0 with h0 | ⟨b, cap, cells, h1, h2, h3, h4, h5, h6⟩
        · exact .inl h0
        · exact .inr ⟨b, cap, cells, h1, fun k => h2 (less_av hh b k), h3, h4, h5, less_deepE hh h6⟩
      | map kvs =>
        obtain ⟨b, c, es, clock, h1, h2, h3⟩ := h0
        exact ⟨b, c, es, clock, h1, h2, less_M hh _ _ hi h3⟩
      | siter s pos => exact h0
      | resv => trivial
      | gone => trivial
  · intro g g' e e' b c c' h1 h2 o1 o2 b1 b2
    obtain ⟨e0, k1, k2⟩ := hLe_get hh h1
    obtain ⟨e0', m1, m2⟩ := hLe_get hh h2
    rcases k2 with rfl | ⟨rfl, _⟩
    · cases o1
    rcases m2 with rfl | ⟨rfl, _⟩
    · cases o2
    exact hC.inj g g' _ _ b c c' k1 m1 o1 o2 b1 b2
theorem less_tr (ht : Tr C0 C) (hn : C0.H.length ≤ H'.length) (hh : hLe H'.length C.H H') : Tr C0 (C.less H') := by
  refine ⟨ht.os, ht.tape, ht.output, ht.size, ht.F, fun b hb hn => ?_, fun g s hs => ?_⟩
  · obtain ⟨k1, k2⟩ := ht.keep b hb hn
    exact ⟨k1, fun k => k2 (less_own hh k)⟩
  · obtain ⟨s', h1, h2⟩ := ht.ids g s hs
    have hg : g < C0.H.length := by
      rcases Nat.lt_or_ge g C0.H.length with h | h
      · exact h
      · simp [Ctx.sh, List.getElem?_eq_none h] at hs
    have h3 : H'[g]? = some (H'[g]'(by omega)) := List.getElem?_eq_getElem (by omega)
    obtain ⟨e0, k1, k2⟩ := hLe_get hh h3
    have s1 : C.sh g = some e0.shp := by simp [Ctx.sh, k1]
    have s2 : (C.less H').sh g = some (H'[g]'(by omega)).shp := by simp [Ctx.sh, Ctx.less, h3]
    rw [s1] at h1; cases h1
    rcases k2 with k2 | ⟨k2, _⟩
    · refine ⟨_, s2, ?_⟩
      rw [k2]
      cases s <;> simp [STr, Entry.shp]
    · refine ⟨_, s2, ?_⟩
      rw [k2]; exact h2
end less
/-- Less is known: nothing is done. -/
theorem Wk_sound {n0 : Nat} {e e' : List V} {H H' : List Entry} (h : Wk n0 e H e' H') : ∀ (C0 C : Ctx) (l : List Value), C0.H.length = n0 → C.H = H → Tr C0 C → HRep C → CRep C.R e l →
    ∃ C', C'.w = C.w ∧ C'.H = H' ∧ Tr C0 C' ∧ HRep C' ∧ CRep C'.R e' l := by
  induction h with
  | refl => exact fun C0 C l _ h1 h2 h3 h4 => ⟨C, rfl, h1, h2, h3, h4⟩
  | trans _ _ ih1 ih2 =>
    intro C0 C l hn h1 h2 h3 h4
    obtain ⟨C1, w1, k1, k2, k3, k4⟩ := ih1 C0 C l hn h1 h2 h3 h4
    obtain ⟨C2, w2, m1, m2, m3, m4⟩ := ih2 C0 C1 l hn k1 k2 k3 k4
    exact ⟨C2, w2.trans w1, m1, m2, m3, m4⟩
  | @drop e e' H H' hn he hh =>
    intro C0 C l hn0 h1 h2 h3 h4
    subst h1
    exact ⟨C.less H', rfl, rfl, less_tr h2 (by omega) hh, less_rep h3 hh, nth_ids he (less_V hh) h4⟩
  | @adopt e H i E n hi =>
    intro C0 C l hn0 h1 h2 h3 h4
    subst h1
    refine ⟨C.more (.row E n []), rfl, rfl, h2.trans more_tr, more_rep h3 (.inl ⟨more_beta_new, rfl⟩), CRep_setAt i (CRep_tr more_tr.R _ _ h4) fun v hv => ?_⟩
    have := CRep_get i v h4 hv
    rw [hi] at this
    simp only [VRep] at this
    subst this
    have hsh : (C.more (.row E n [])).R.sh C.H.length = some (.row n 0) := by simp [Ctx.R, Ctx.sh, more_get_new, Entry.shp]
    simp only [VRep, hsh]
    exact ⟨rfl, Nat.le_refl _, fun _ => .inl ⟨more_beta_new (e := .row E n []), none, rfl⟩⟩
  | @frz e H i =>
    intro C0 C l hn0 h1 h2 h3 h4
    subst h1
    by_cases hi : i < l.length
    · have hv : l[i]? = some l[i] := List.getElem?_eq_getElem hi
      obtain ⟨C1, q1, r1⟩ := fz_ok 8 C (nth e i) _ h3 (CRep_get i _ h4 hv)
      refine ⟨C1, q1.w, q1.h, h2.trans q1.tr, q1.rep, CRep_setAt i (q1.rep' h4) fun v hv' => ?_⟩
      rw [hv] at hv'; cases hv'
      exact r1
    · have hj : nth e i = .junk := nth_out (by rw [CRep_length h4]; omega)
      have hf : fz 8 C.H (nth e i) = (.junk, C.H) := by rw [hj]; rfl
      rw [hf]
      exact ⟨C, rfl, rfl, h2, h3, CRep_setAt i h4 fun v _ => VRep_junk⟩
end Go.Av
