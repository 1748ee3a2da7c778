/- A part of a way to reckon what a Go program does without its memory (AvC). -/
import Derived.Test.YtllojkdacinhfaaAvB
namespace Go.Av
open Go Go.RowKit
set_option autoImplicit false
set_option linter.all false

theorem not_own_of_not_av {C : Ctx} {b : Nat} (h : ¬ C.av b) : ¬ C.own b := fun k => h (.inl k)
theorem EntRep.keep {C C' : Ctx} {g : Nat} {e : Entry} (ht : Tr C C') (h : EntRep C g e) (hβ : C'.β g = C.β g)
    (hw : e.owned = true → ∀ b c, C.β g = some (b, c) → C'.w.heap[b]? = C.w.heap[b]?) : EntRep C' g e := by
  cases e with
  | box cs =>
    obtain ⟨b, c, cur, E, h1, h2, h3⟩ := h
    exact ⟨b, c, cur, E, hβ.trans h1, (hw rfl b c h1).trans h2, CRep_tr ht.R _ _ h3⟩
  | ibox cs =>
    obtain ⟨b, c, cells, h1, h2, h3, h4, h5⟩ := h
    obtain ⟨k1, k2⟩ := ht.R.keep b h3 h2
    exact ⟨b, c, cells, hβ.trans h1, k2, Nat.lt_of_lt_of_le h3 ht.size, cellsAt_of_block k1 h4, CRep_tr ht.R.deep _ _ h5⟩
  | row E n xs =>
    rcases h with ⟨h1, h2⟩ | ⟨b, cap, cur, cells, h1, h2, h3, h4, h5, h6, h7⟩
    · exact .inl ⟨hβ.trans h1, h2⟩
    · exact .inr ⟨b, cap, cur, cells, hβ.trans h1, (hw rfl b cap h1).trans h2, h3, h4, h5, h6, ERep_tr ht.R.deep _ _ _ h7⟩
  | irow n xs =>
    rcases h with ⟨h1, h2⟩ | ⟨b, cap, cells, h1, h2, h3, h4, h5, h6⟩
    · exact .inl ⟨hβ.trans h1, h2⟩
    · obtain ⟨k1, k2⟩ := ht.R.keep b h3 h2
      exact .inr ⟨b, cap, cells, hβ.trans h1, k2, Nat.lt_of_lt_of_le h3 ht.size, h4, cellsAt_of_block k1 h5, ERep_tr ht.R.deep _ _ _ h6⟩
  | map kvs =>
    obtain ⟨b, c, es, clock, h1, h2, h3⟩ := h
    exact ⟨b, c, es, clock, hβ.trans h1, (hw rfl b c h1).trans h2, MRep_tr ht.R _ _ h3⟩
  | siter s pos =>
    obtain ⟨b, c, h1, h2⟩ := h
    exact ⟨b, c, hβ.trans h1, (hw rfl b c h1).trans h2⟩
  | resv => trivial
  | gone => trivial

theorem own_lt {C : Ctx} (h : HRep C) {b : Nat} (hb : C.own b) : b < C.w.heap.size := by
  obtain ⟨g, e, c, h1, h2, h3⟩ := hb
  have he := h.ent g e h1
  cases e with
  | box cs =>
    obtain ⟨b', c', cur, E, k1, k2, _⟩ := he
    rw [h3] at k1; cases k1
    exact (Array.getElem?_eq_some_iff.1 k2).1
  | row E n xs =>
    rcases he with ⟨k1, _⟩ | ⟨b', c', cur, cells, k1, k2, _⟩
    · rw [h3] at k1; cases k1
    · rw [h3] at k1; cases k1
      exact (Array.getElem?_eq_some_iff.1 k2).1
  | map kvs =>
    obtain ⟨b', c', es, clock, k1, k2, _⟩ := he
    rw [h3] at k1; cases k1
    exact (Array.getElem?_eq_some_iff.1 k2).1
  | siter s pos =>
    obtain ⟨b', c', k1, k2⟩ := he
    rw [h3] at k1; cases k1
    exact (Array.getElem?_eq_some_iff.1 k2).1
  | ibox cs => cases h2
  | irow n xs => cases h2
  | resv => cases h2
  | gone => cases h2

/-- The world's count of draws has gone on: nothing else. -/
def Ctx.drew (C : Ctx) : Ctx := { C with w := C.w.drew }
theorem drew_tr (C : Ctx) : Tr C C.drew := ⟨rfl, rfl, rfl, Nat.le_refl _, rfl, fun _ _ h => ⟨rfl, h⟩, fun g s h => ⟨s, h, STr.refl _ _⟩⟩
theorem drew_rep {C : Ctx} (h : HRep C) : HRep C.drew :=
  ⟨fun g e he => (h.ent g e he).keep (drew_tr C) rfl (fun _ _ _ _ => rfl), h.inj, h.nF, h.ltF⟩

/-- A new block, of the call's own, with a number of its own. -/
def Ctx.push (C : Ctx) (o : Obj) (c : Nat) (e : Entry) : Ctx :=
  ⟨C.w.alloc o, fun g => if g = C.H.length then some (C.w.heap.size, c) else C.β g, C.H ++ [e], C.F⟩
section push
variable {C : Ctx} {o : Obj} {c : Nat} {e : Entry}
theorem push_get_old {g : Nat} (h : g < C.H.length) : (C.push o c e).H[g]? = C.H[g]? := List.getElem?_append_left h
theorem push_get_new : (C.push o c e).H[C.H.length]? = some e := by simp [Ctx.push]
theorem push_cases {g : Nat} {e' : Entry} (h : (C.push o c e).H[g]? = some e') : (g < C.H.length ∧ C.H[g]? = some e') ∨ (g = C.H.length ∧ e' = e) := by
  rcases Nat.lt_trichotomy g C.H.length with h1 | h1 | h1
  · exact .inl ⟨h1, (push_get_old h1).symm.trans h⟩
  · subst h1
    rw [push_get_new] at h
    exact .inr ⟨rfl, (Option.some.inj h).symm⟩
  · simp only [Ctx.push] at h
    rw [List.getElem?_append_right (by omega)] at h
    have : g - C.H.length = (g - C.H.length - 1) + 1 := by omega
    rw [this] at h
    simp at h
theorem push_beta_old {g : Nat} (h : g < C.H.length) : (C.push o c e).β g = C.β g := by
  simp only [Ctx.push]; rw [if_neg (by omega)]
theorem push_beta_new : (C.push o c e).β C.H.length = some (C.w.heap.size, c) := by simp [Ctx.push]
theorem push_own {b : Nat} (h : (C.push o c e).own b) : C.own b ∨ b = C.w.heap.size := by
  obtain ⟨g, e', c', h1, h2, h3⟩ := h
  rcases push_cases h1 with ⟨k1, k2⟩ | ⟨rfl, rfl⟩
  · rw [push_beta_old k1] at h3
    exact .inl ⟨g, e', c', k2, h2, h3⟩
  · rw [push_beta_new] at h3
    cases h3
    exact .inr rfl
theorem push_tr : Tr C (C.push o c e) :=
  ⟨rfl, rfl, rfl, by simp [Ctx.push], rfl, fun b hb hn => ⟨heap_alloc_old C.w o b hb, fun k => by
    rcases push_own k with k | k
    · exact hn k
    · omega⟩, fun g s hs => by
    have hg : g < C.H.length := by
      rcases Nat.lt_or_ge g C.H.length with h | h
      · exact h
      · simp [Ctx.sh, List.getElem?_eq_none h] at hs
    refine ⟨s, ?_, ?_⟩
    · simp only [Ctx.sh, push_get_old hg]; exact hs
    · rw [push_beta_old hg]; exact STr.refl _ _⟩
theorem push_rep (h : HRep C) (he : EntRep (C.push o c e) C.H.length e) : HRep (C.push o c e) := by
  have hF : ¬ C.F C.w.heap.size := fun k => by have := h.ltF _ k; omega
  refine ⟨fun g e' hg => ?_, ?_, ?_, fun b hb => Nat.lt_of_lt_of_le (h.ltF b hb) push_tr.size⟩
  · rcases push_cases hg with ⟨k1, k2⟩ | ⟨rfl, rfl⟩
    · refine (h.ent g e' k2).keep push_tr (push_beta_old k1) (fun ho b c' hb => ?_)
      exact heap_alloc_old C.w o b (own_lt h ⟨g, e', c', k2, ho, hb⟩)
    · exact he
  · intro g g' e1 e2 b c1 c2 h1 h2 o1 o2 b1 b2
    rcases push_cases h1 with ⟨k1, k2⟩ | ⟨rfl, rfl⟩
    · rw [push_beta_old k1] at b1
      rcases push_cases h2 with ⟨m1, m2⟩ | ⟨rfl, rfl⟩
      · rw [push_beta_old m1] at b2
        exact h.inj g g' e1 e2 b c1 c2 k2 m2 o1 o2 b1 b2
      · rw [push_beta_new] at b2
        cases b2
        exact absurd (own_lt h ⟨g, e1, c1, k2, o1, b1⟩) (by omega)
    · rw [push_beta_new] at b1
      cases b1
      rcases push_cases h2 with ⟨m1, m2⟩ | ⟨rfl, rfl⟩
      · rw [push_beta_old m1] at b2
        exact absurd (own_lt h ⟨g', e2, c2, m2, o2, b2⟩) (by omega)
      · rfl
  · intro b hb
    rcases push_own hb with k | rfl
    · exact h.nF b k
    · exact hF
end push

/-- An entry is another one, and so is the world, but for blocks that are not its own. -/
def Ctx.turn (C : Ctx) (w : World) (g : Nat) (x : Option (Nat × Nat)) (e : Entry) : Ctx :=
  ⟨w, fun j => if j = g then x else C.β j, C.H.set g e, C.F⟩
section turn
variable {C : Ctx} {w : World} {g : Nat} {x : Option (Nat × Nat)} {e e' : Entry}
theorem turn_get_old {j : Nat} (h : j ≠ g) : (C.turn w g x e').H[j]? = C.H[j]? := by
  simp only [Ctx.turn]; exact List.getElem?_set_ne (Ne.symm h)
theorem turn_get_new (he : C.H[g]? = some e) : (C.turn w g x e').H[g]? = some e' := by
  have : g < C.H.length := (List.getElem?_eq_some_iff.1 he).1
  simp [Ctx.turn, this]
theorem turn_beta_old {j : Nat} (h : j ≠ g) : (C.turn w g x e').β j = C.β j := by simp [Ctx.turn, h]
theorem turn_beta_new : (C.turn w g x e').β g = x := by simp [Ctx.turn]
theorem turn_own {b : Nat} (he : C.H[g]? = some e) (h : (C.turn w g x e').own b) : (∃ j e1 c, j ≠ g ∧ C.H[j]? = some e1 ∧ e1.owned = true ∧ C.β j = some (b, c)) ∨ (e'.owned = true ∧ ∃ c, x = some (b, c)) := by
  obtain ⟨j, e1, c, h1, h2, h3⟩ := h
  by_cases hj : j = g
  · subst hj
    rw [turn_get_new he] at h1
    cases h1
    rw [turn_beta_new] at h3
    exact .inr ⟨h2, c, h3⟩
  · rw [turn_get_old hj] at h1
    rw [turn_beta_old hj] at h3
    exact .inl ⟨j, e1, c, hj, h1, h2, h3⟩
/-- What must be shown of such a turn. -/
structure Turns (C : Ctx) (w : World) (g : Nat) (x : Option (Nat × Nat)) (e e' : Entry) : Prop where
  get : C.H[g]? = some e
  os : w.os = C.w.os
  tape : w.tape = C.w.tape
  output : w.output = C.w.output
  size : C.w.heap.size ≤ w.heap.size
  block : ∀ b, b < C.w.heap.size → (e.owned = true → ∀ c, C.β g ≠ some (b, c)) → w.heap[b]? = C.w.heap[b]?
  str : STr e.shp e'.shp (C.β g) x
  new : e'.owned = true → ∀ b c, x = some (b, c) → (e.owned = true ∧ ∃ c', C.β g = some (b, c')) ∨ C.w.heap.size ≤ b
theorem turn_tr (h : HRep C) (t : Turns C w g x e e') : Tr C (C.turn w g x e') := by
  refine ⟨t.os, t.tape, t.output, t.size, rfl, fun b hb hn => ⟨t.block b hb (fun ho c hc => hn ⟨g, e, c, t.get, ho, hc⟩), fun k => ?_⟩, fun j s hs => ?_⟩
  · rcases turn_own t.get k with ⟨j, e1, c, _, h1, h2, h3⟩ | ⟨ho, c, hx⟩
    · exact hn ⟨j, e1, c, h1, h2, h3⟩
    · rcases t.new ho b c hx with ⟨k1, c', k2⟩ | k1
      · exact hn ⟨g, e, c', t.get, k1, k2⟩
      · omega
  · by_cases hj : j = g
    · subst hj
      simp only [Ctx.sh, t.get, Option.map_some, Option.some.injEq] at hs
      subst hs
      exact ⟨e'.shp, by simp only [Ctx.sh, turn_get_new t.get, Option.map_some], by rw [turn_beta_new]; exact t.str⟩
    · refine ⟨s, by simp only [Ctx.sh, turn_get_old hj]; exact hs, by rw [turn_beta_old hj]; exact STr.refl _ _⟩
theorem turn_rep (h : HRep C) (t : Turns C w g x e e') (he : EntRep (C.turn w g x e') g e') : HRep (C.turn w g x e') := by
  have ht := turn_tr h t
  have hnew : e'.owned = true → ∀ b c, x = some (b, c) → ∀ j e1 c1, j ≠ g → C.H[j]? = some e1 → e1.owned = true → C.β j = some (b, c1) → False := by
    intro ho b c hx j e1 c1 hj h1 h2 h3
    rcases t.new ho b c hx with ⟨k1, c', k2⟩ | k1
    · exact hj (h.inj j g e1 e b c1 c' h1 t.get h2 k1 h3 k2)
    · have := own_lt h ⟨j, e1, c1, h1, h2, h3⟩
      omega
  refine ⟨fun j e1 hj => ?_, ?_, ?_, fun b hb => Nat.lt_of_lt_of_le (h.ltF b hb) t.size⟩
  · by_cases e2 : j = g
    · subst e2
      rw [turn_get_new t.get] at hj
      cases hj
      exact he
    · rw [turn_get_old e2] at hj
      refine (h.ent j e1 hj).keep ht (turn_beta_old e2) (fun ho b c hb => ?_)
      refine t.block b (own_lt h ⟨j, e1, c, hj, ho, hb⟩) (fun k1 c' k2 => e2 (h.inj j g e1 e b c c' hj t.get ho k1 hb k2))
  · intro j j' e1 e2 b c1 c2 h1 h2 o1 o2 b1 b2
    by_cases k1 : j = g
    · subst k1
      by_cases k2 : j' = j
      · exact k2.symm
      · rw [turn_get_new t.get] at h1
        cases h1
        rw [turn_get_old k2] at h2
        rw [turn_beta_old k2] at b2
        rw [turn_beta_new] at b1
        exact (hnew o1 b c1 b1 j' e2 c2 k2 h2 o2 b2).elim
    · by_cases k2 : j' = g
      · subst k2
        rw [turn_get_new t.get] at h2
        cases h2
        rw [turn_get_old k1] at h1
        rw [turn_beta_old k1] at b1
        rw [turn_beta_new] at b2
        exact (hnew o2 b c2 b2 j e1 c1 k1 h1 o1 b1).elim
      · rw [turn_get_old k1] at h1
        rw [turn_get_old k2] at h2
        rw [turn_beta_old k1] at b1
        rw [turn_beta_old k2] at b2
        exact h.inj j j' e1 e2 b c1 c2 h1 h2 o1 o2 b1 b2
  · intro b hb hF
    rcases turn_own t.get hb with ⟨j, e1, c, _, h1, h2, h3⟩ | ⟨ho, c, hx⟩
    · exact h.nF b ⟨j, e1, c, h1, h2, h3⟩ hF
    · rcases t.new ho b c hx with ⟨k1, c', k2⟩ | k1
      · exact h.nF b ⟨g, e, c', t.get, k1, k2⟩ hF
      · have := h.ltF b hF
        omega
end turn
end Go.Av
