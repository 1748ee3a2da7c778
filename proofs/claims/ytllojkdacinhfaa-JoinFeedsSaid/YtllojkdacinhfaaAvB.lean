/- A part of a way to reckon what a Go program does without its memory (AvB). -/
import Derived.Test.YtllojkdacinhfaaAvA
import Derived.Calls
import Derived.Below
import Derived.Orders
namespace Go.Av
open Go Go.RowKit
set_option autoImplicit false
set_option linter.all false

/-! ### What stands for what -/
inductive Shp where
  | box | row (n len : Nat) | map | it | resv | gone
def Entry.shp : Entry → Shp
  | .box _ | .ibox _ => .box
  | .row _ n xs | .irow n xs => .row n xs.length
  | .map _ => .map
  | .siter _ _ => .it
  | .resv => .resv
  | .gone => .gone
def Entry.owned : Entry → Bool
  | .box _ | .row .. | .map _ | .siter .. => true
  | _ => false

/-- What is looked at when a value is read: the world, the blocks that are not to be read, and what goes by a number. -/
structure Rd where
  w : World
  av : Nat → Prop
  sh : Nat → Option Shp
  β : Nat → Option (Nat × Nat)
def Rd.deep (R : Rd) : Rd := { R with sh := fun _ => none }
def cellsAt (w : World) (b o : Nat) (cells : List Value) : Prop := ∀ (k : Nat) (c : Value), cells[k]? = some c → w.cell? ⟨b, o + k, none⟩ = some c

mutual
def VRep (R : Rd) : V → Value → Prop
  | .bool b, v => v = .bool b
  | .int k n, v => v = .int k n
  | .str s, v => v = .string ⟨s.toArray⟩
  | .agg cs, v => ∃ ds : List Value, v = .agg ds.toArray ∧ CRep R cs ds
  | .tup cs, v => ∃ ds : List Value, v = .tuple ds.toArray ∧ CRep R cs ds
  | .nilsl, v => v = .slice none 0 0
  | .sl n xs, v => (xs = [] ∧ ∃ a cap, v = .slice a 0 cap) ∨
      ∃ b o cap cells, v = .slice (some ⟨b, o, none⟩) xs.length cap ∧ xs.length ≤ cap ∧ ¬ R.av b ∧ b < R.w.heap.size ∧ cellsAt R.w b o cells ∧ ERep R.deep n xs cells
  | .slx n xs, v => (xs = [] ∧ ∃ a, v = .slice a 0 0) ∨
      ∃ b o cells, v = .slice (some ⟨b, o, none⟩) xs.length xs.length ∧ ¬ R.av b ∧ b < R.w.heap.size ∧ cellsAt R.w b o cells ∧ ERep R.deep n xs cells
  | .own g len, v => v.oneCell' = true ∧ match R.sh g with
      | some (.row _ l) => len ≤ l ∧ (len = l → (R.β g = none ∧ ∃ a, v = .slice a 0 0) ∨ ∃ b c, R.β g = some (b, c) ∧ v = .slice (some ⟨b, 0, none⟩) len c)
      | some .gone => True
      | _ => False
  | .nilp, v => v = .pointer none
  | .ref cs, v => ∃ b o cells, v = .pointer (some ⟨b, o, none⟩) ∧ ¬ R.av b ∧ b < R.w.heap.size ∧ cellsAt R.w b o cells ∧ CRep R.deep cs cells
  | .ptr g off, v => v.oneCell' = true ∧ match R.sh g with
      | some .box => ∃ b c, R.β g = some (b, c) ∧ v = .pointer (some ⟨b, off, none⟩)
      | some .gone => True
      | _ => False
  | .eptr g len i off, v => v.oneCell' = true ∧ match R.sh g with
      | some (.row n l) => len ≤ l ∧ (len = l → ∃ b c, R.β g = some (b, c) ∧ v = .pointer (some ⟨b, i * n + off, none⟩))
      | some .gone => True
      | _ => False
  | .nilfn, v => v = .nilFunc
  | .fn f a b, v => ∃ x y : List Value, v = .func (.func f) x.toArray y.toArray ∧ CRep R a x ∧ CRep R b y
  | .nilmap, v => v = .map none
  | .map g, v => v.oneCell' = true ∧ match R.sh g with
      | some .map => ∃ b c, R.β g = some (b, c) ∧ v = .map (some b)
      | some .gone => True
      | _ => False
  | .it g, v => v.oneCell' = true ∧ match R.sh g with
      | some .it => ∃ b c, R.β g = some (b, c) ∧ v = .pointer (some ⟨b, 0, none⟩)
      | some .gone => True
      | _ => False
  | .junk, _ => True
def CRep (R : Rd) : List V → List Value → Prop
  | [], ds => ds = []
  | c :: cs, ds => ∃ d r, ds = d :: r ∧ VRep R c d ∧ CRep R cs r
/-- A row's elements: each is so many cells. -/
def ERep (R : Rd) (n : Nat) : List V → List Value → Prop
  | [], ds => ds = []
  | x :: xs, ds => ∃ v r, ds = v.cells.toList ++ r ∧ v.cells.size = n ∧ (x ≠ .junk ∧ ∀ u ∈ v.cells.toList, u.oneCell' = true) ∧ VRep R x v ∧ ERep R n xs r
end

/-! ### What is the call's own -/
structure Ctx where
  w : World
  β : Nat → Option (Nat × Nat)
  H : List Entry
  F : Nat → Prop
def Ctx.sh (C : Ctx) (g : Nat) : Option Shp := (C.H[g]?).map Entry.shp
def Ctx.own (C : Ctx) (b : Nat) : Prop := ∃ g e c, C.H[g]? = some e ∧ e.owned = true ∧ C.β g = some (b, c)
def Ctx.av (C : Ctx) (b : Nat) : Prop := C.own b ∨ C.F b
def Ctx.R (C : Ctx) : Rd := ⟨C.w, C.av, C.sh, C.β⟩

/-- A map's entries. -/
def MRep (R : Rd) : List (V × V) → List MapEntry → Prop
  | [], es => es = []
  | (k, x) :: l, es => ∃ e r, es = e :: r ∧ VRep R k e.key ∧ VRep R x e.val ∧ MRep R l r

def EntRep (C : Ctx) (g : Nat) : Entry → Prop
  | .box cs => ∃ b c cur E, C.β g = some (b, c) ∧ C.w.heap[b]? = some (.cells cur E (0, 0)) ∧ CRep C.R cs cur.toList
  | .ibox cs => ∃ b c cells, C.β g = some (b, c) ∧ ¬ C.av b ∧ b < C.w.heap.size ∧ cellsAt C.w b 0 cells ∧ CRep C.R.deep cs cells
  | .row E n xs => (C.β g = none ∧ xs = []) ∨ ∃ b cap cur cells, C.β g = some (b, cap) ∧ C.w.heap[b]? = some (.cells cur E (0, 0)) ∧ cur.size = cap * n ∧ xs.length ≤ cap ∧ cap ≤ maxLen ∧
      cur.toList.take (xs.length * n) = cells ∧ ERep C.R.deep n xs cells
  | .irow n xs => (C.β g = none ∧ xs = []) ∨ ∃ b cap cells, C.β g = some (b, cap) ∧ ¬ C.av b ∧ b < C.w.heap.size ∧ xs.length ≤ cap ∧ cellsAt C.w b 0 cells ∧ ERep C.R.deep n xs cells
  | .map kvs => ∃ b c es clock, C.β g = some (b, c) ∧ C.w.heap[b]? = some (.map es clock) ∧ MRep C.R kvs es.toList
  | .siter s pos => ∃ b c, C.β g = some (b, c) ∧ C.w.heap[b]? = some (.stringIter ⟨s.toArray⟩ pos)
  | .resv => True
  | .gone => True

structure HRep (C : Ctx) : Prop where
  ent : ∀ g e, C.H[g]? = some e → EntRep C g e
  inj : ∀ g g' e e' b c c', C.H[g]? = some e → C.H[g']? = some e' → e.owned = true → e'.owned = true → C.β g = some (b, c) → C.β g' = some (b, c') → g = g'
  nF : ∀ b, C.own b → ¬ C.F b
  ltF : ∀ b, C.F b → b < C.w.heap.size

def STr : Shp → Shp → Option (Nat × Nat) → Option (Nat × Nat) → Prop
  | .resv, _, _, _ => True
  | .gone, s, _, _ => s = .gone
  | .box, s, x, y => (s = .box ∧ y = x) ∨ s = .gone
  | .row n l, s, x, y => (∃ l', s = .row n l' ∧ l ≤ l' ∧ (l = l' → y = x)) ∨ s = .gone
  | .map, s, x, y => (s = .map ∧ y = x) ∨ s = .gone
  | .it, s, x, y => (s = .it ∧ y = x) ∨ s = .gone

/-- What may become of what there is. -/
structure Tr (C C' : Ctx) : Prop where
  os : C'.w.os = C.w.os
  tape : C'.w.tape = C.w.tape
  output : C'.w.output = C.w.output
  size : C.w.heap.size ≤ C'.w.heap.size
  F : C'.F = C.F
  keep : ∀ b, b < C.w.heap.size → ¬ C.own b → C'.w.heap[b]? = C.w.heap[b]? ∧ ¬ C'.own b
  ids : ∀ g s, C.sh g = some s → ∃ s', C'.sh g = some s' ∧ STr s s' (C.β g) (C'.β g)

/-- The part of it that a value's reading needs. -/
structure RTr (R R' : Rd) : Prop where
  size : R.w.heap.size ≤ R'.w.heap.size
  keep : ∀ b, b < R.w.heap.size → ¬ R.av b → R'.w.heap[b]? = R.w.heap[b]? ∧ ¬ R'.av b
  ids : ∀ g s, R.sh g = some s → ∃ s', R'.sh g = some s' ∧ STr s s' (R.β g) (R'.β g)

theorem RTr.deep {R R' : Rd} (h : RTr R R') : RTr R.deep R'.deep := ⟨h.size, h.keep, fun g s hs => by cases hs⟩
theorem cellsAt_of_block {w w' : World} {b o : Nat} {cells : List Value} (h : w'.heap[b]? = w.heap[b]?) (hc : cellsAt w b o cells) : cellsAt w' b o cells :=
  fun k c hk => (World.cell?_of_block (w := w) h).trans (hc k c hk)

mutual
theorem VRep_tr {R R' : Rd} (h : RTr R R') : ∀ (x : V) (v : Value), VRep R x v → VRep R' x v
  | .bool _, _, hv => by simpa only [VRep] using hv
  | .int _ _, _, hv => by simpa only [VRep] using hv
  | .str _, _, hv => by simpa only [VRep] using hv
  | .agg cs, _, hv => by
    simp only [VRep] at hv ⊢
    obtain ⟨ds, rfl, hc⟩ := hv
    exact ⟨ds, rfl, CRep_tr h cs ds hc⟩
  | .tup cs, _, hv => by
    simp only [VRep] at hv ⊢
    obtain ⟨ds, rfl, hc⟩ := hv
    exact ⟨ds, rfl, CRep_tr h cs ds hc⟩
  | .nilsl, _, hv => by simpa only [VRep] using hv
  | .sl n xs, _, hv => by
    simp only [VRep] at hv ⊢
    rcases hv with hv | ⟨b, o, cap, cells, rfl, h1, h2, h3, h4, h5⟩
    · exact .inl hv
    · obtain ⟨k1, k2⟩ := h.keep b h3 h2
      exact .inr ⟨b, o, cap, cells, rfl, h1, k2, Nat.lt_of_lt_of_le h3 h.size, cellsAt_of_block k1 h4, ERep_tr h.deep n xs cells h5⟩
  | .slx n xs, _, hv => by
    simp only [VRep] at hv ⊢
    rcases hv with hv | ⟨b, o, cells, rfl, h2, h3, h4, h5⟩
    · exact .inl hv
    · obtain ⟨k1, k2⟩ := h.keep b h3 h2
      exact .inr ⟨b, o, cells, rfl, k2, Nat.lt_of_lt_of_le h3 h.size, cellsAt_of_block k1 h4, ERep_tr h.deep n xs cells h5⟩
  | .own g len, v, hv => by
    simp only [VRep] at hv ⊢
    refine ⟨hv.1, ?_⟩
    replace hv := hv.2
    cases hs : R.sh g with
    | none => rw [hs] at hv; exact hv.elim
    | some s =>
      rw [hs] at hv
      obtain ⟨s', hs', ht⟩ := h.ids g s hs
      rw [hs']
      cases s <;> simp only [STr] at ht <;> try exact hv.elim
      · rename_i n l
        rcases ht with ⟨l', rfl, hl, he⟩ | rfl
        · refine ⟨Nat.le_trans hv.1 hl, fun e => ?_⟩
          have : l = l' := by have := hv.1; omega
          subst this
          rw [he rfl]
          exact hv.2 e
        · trivial
      · subst ht; trivial
  | .nilp, _, hv => by simpa only [VRep] using hv
  | .ref cs, _, hv => by
    simp only [VRep] at hv ⊢
    obtain ⟨b, o, cells, rfl, h2, h3, h4, h5⟩ := hv
    obtain ⟨k1, k2⟩ := h.keep b h3 h2
    exact ⟨b, o, cells, rfl, k2, Nat.lt_of_lt_of_le h3 h.size, cellsAt_of_block k1 h4, CRep_tr h.deep cs cells h5⟩
  | .ptr g off, v, hv => by
    simp only [VRep] at hv ⊢
    refine ⟨hv.1, ?_⟩
    replace hv := hv.2
    cases hs : R.sh g with
    | none => rw [hs] at hv; exact hv.elim
    | some s =>
      rw [hs] at hv
      obtain ⟨s', hs', ht⟩ := h.ids g s hs
      rw [hs']
      cases s <;> simp only [STr] at ht <;> try exact hv.elim
      · rcases ht with ⟨rfl, he⟩ | rfl
        · rw [he]; exact hv
        · trivial
      · subst ht; trivial
  | .eptr g len i off, v, hv => by
    simp only [VRep] at hv ⊢
    refine ⟨hv.1, ?_⟩
    replace hv := hv.2
    cases hs : R.sh g with
    | none => rw [hs] at hv; exact hv.elim
    | some s =>
      rw [hs] at hv
      obtain ⟨s', hs', ht⟩ := h.ids g s hs
      rw [hs']
      cases s <;> simp only [STr] at ht <;> try exact hv.elim
      · rename_i n l
        rcases ht with ⟨l', rfl, hl, he⟩ | rfl
        · refine ⟨Nat.le_trans hv.1 hl, fun e => ?_⟩
          have : l = l' := by have := hv.1; omega
          subst this
          rw [he rfl]
          exact hv.2 e
        · trivial
      · subst ht; trivial
  | .nilfn, _, hv => by simpa only [VRep] using hv
  | .fn f a b, _, hv => by
    simp only [VRep] at hv ⊢
    obtain ⟨x, y, rfl, h1, h2⟩ := hv
    exact ⟨x, y, rfl, CRep_tr h a x h1, CRep_tr h b y h2⟩
  | .nilmap, _, hv => by simpa only [VRep] using hv
  | .map g, v, hv => by
    simp only [VRep] at hv ⊢
    refine ⟨hv.1, ?_⟩
    replace hv := hv.2
    cases hs : R.sh g with
    | none => rw [hs] at hv; exact hv.elim
    | some s =>
      rw [hs] at hv
      obtain ⟨s', hs', ht⟩ := h.ids g s hs
      rw [hs']
      cases s <;> simp only [STr] at ht <;> try exact hv.elim
      · rcases ht with ⟨rfl, he⟩ | rfl
        · rw [he]; exact hv
        · trivial
      · subst ht; trivial
  | .it g, v, hv => by
    simp only [VRep] at hv ⊢
    refine ⟨hv.1, ?_⟩
    replace hv := hv.2
    cases hs : R.sh g with
    | none => rw [hs] at hv; exact hv.elim
    | some s =>
      rw [hs] at hv
      obtain ⟨s', hs', ht⟩ := h.ids g s hs
      rw [hs']
      cases s <;> simp only [STr] at ht <;> try exact hv.elim
      · rcases ht with ⟨rfl, he⟩ | rfl
        · rw [he]; exact hv
        · trivial
      · subst ht; trivial
  | .junk, _, _ => by simp only [VRep]
theorem CRep_tr {R R' : Rd} (h : RTr R R') : ∀ (cs : List V) (ds : List Value), CRep R cs ds → CRep R' cs ds
  | [], _, hv => by simpa only [CRep] using hv
  | c :: cs, ds, hv => by
    simp only [CRep] at hv ⊢
    obtain ⟨d, r, rfl, h1, h2⟩ := hv
    exact ⟨d, r, rfl, VRep_tr h c d h1, CRep_tr h cs r h2⟩
theorem ERep_tr {R R' : Rd} (h : RTr R R') (n : Nat) : ∀ (cs : List V) (ds : List Value), ERep R n cs ds → ERep R' n cs ds
  | [], _, hv => by simpa only [ERep] using hv
  | c :: cs, ds, hv => by
    simp only [ERep] at hv ⊢
    obtain ⟨d, r, rfl, h0, hj, h1, h2⟩ := hv
    exact ⟨d, r, rfl, h0, hj, VRep_tr h c d h1, ERep_tr h n cs r h2⟩
end
theorem MRep_tr {R R' : Rd} (h : RTr R R') : ∀ (kvs : List (V × V)) (es : List MapEntry), MRep R kvs es → MRep R' kvs es
  | [], _, hv => hv
  | (k, x) :: l, es, hv => by
    obtain ⟨e, r, rfl, h1, h2, h3⟩ := hv
    exact ⟨e, r, rfl, VRep_tr h _ _ h1, VRep_tr h _ _ h2, MRep_tr h l r h3⟩

theorem Tr.R {C C' : Ctx} (h : Tr C C') : RTr C.R C'.R :=
  ⟨h.size, fun b hb hn => by
    have hn' : ¬ C.own b := fun k => hn (.inl k)
    obtain ⟨k1, k2⟩ := h.keep b hb hn'
    refine ⟨k1, fun k => ?_⟩
    rcases k with k | k
    · exact k2 k
    · exact hn (.inr (by have := h.F; rw [this] at k; exact k)), h.ids⟩
theorem STr.refl (s : Shp) (x : Option (Nat × Nat)) : STr s s x x := by
  cases s <;> simp [STr]
theorem STr.trans {a b c : Shp} {x y z : Option (Nat × Nat)} (h : STr a b x y) (k : STr b c y z) : STr a c x z := by
  cases a <;> simp only [STr] at h ⊢
  · rcases h with ⟨rfl, rfl⟩ | rfl
    · simpa only [STr] using k
    · simp only [STr] at k; exact .inr k
  · rcases h with ⟨l', rfl, hl, he⟩ | rfl
    · simp only [STr] at k
      rcases k with ⟨l2, rfl, hl2, he2⟩ | rfl
      · refine .inl ⟨l2, rfl, Nat.le_trans hl hl2, fun e => ?_⟩
        rw [he2 (by omega), he (by omega)]
      · exact .inr rfl
    · simp only [STr] at k; exact .inr k
  · rcases h with ⟨rfl, rfl⟩ | rfl
    · simpa only [STr] using k
    · simp only [STr] at k; exact .inr k
  · rcases h with ⟨rfl, rfl⟩ | rfl
    · simpa only [STr] using k
    · simp only [STr] at k; exact .inr k
  · subst h; simpa only [STr] using k
theorem Tr.refl (C : Ctx) : Tr C C := ⟨rfl, rfl, rfl, Nat.le_refl _, rfl, fun _ _ h => ⟨rfl, h⟩, fun g s h => ⟨s, h, STr.refl _ _⟩⟩
theorem Tr.trans {A B C : Ctx} (h : Tr A B) (k : Tr B C) : Tr A C :=
  ⟨k.os.trans h.os, k.tape.trans h.tape, k.output.trans h.output, Nat.le_trans h.size k.size, k.F.trans h.F,
   fun b hb hn => by
    obtain ⟨a1, a2⟩ := h.keep b hb hn
    obtain ⟨b1, b2⟩ := k.keep b (Nat.lt_of_lt_of_le hb h.size) a2
    exact ⟨b1.trans a1, b2⟩,
   fun g s hs => by
    obtain ⟨s1, h1, t1⟩ := h.ids g s hs
    obtain ⟨s2, h2, t2⟩ := k.ids g s1 h1
    exact ⟨s2, h2, t1.trans t2⟩⟩
end Go.Av
