/- Lists in a world: what those of all types share. -/
import Derived.Test.YtllojkdacinhfaaShelf
import Derived.Test.YtllojkdacinhfaaChecked
import Derived.WalkKit
import Derived.Lib.Walk
import Derived.Lib.Hide
import Derived.Laws.DeepNot64
import Derived.LoopTactic
import Derived.Below
import Derived.RegionTactic
import Derived.Deep.RegionHeld3
import Derived.Deep.RegionWith
import Derived.Shelf.Abstract
import Derived.WalkLawsBesides
import Derived.WalkSpells
import Derived.Laws.AppendOwn
import Derived.Laws.OwnMore
import Derived.Lib.SmallJoins
namespace Go.Proofs.Ytllojkdacinhfaa
open Go.RowKit Go.Shelf
theorem lsRet {n m : Int} (h : n = m) : Ending.returned (Value.int .i64 n) = Ending.returned (Value.int .i64 m) := by rw [h]
/-- The place of the first one of which something holds; -1, if there is none. -/
def lsIdx {α : Type} (p : α → Bool) : List α → Nat → Int
  | [], _ => -1
  | x :: r, k => if p x then (k : Int) else lsIdx p r (k + 1)
theorem lsIdx_any {α : Type} (p : α → Bool) : ∀ (X : List α) (k : Nat), (X.any p = true → 0 ≤ lsIdx p X k) ∧ (X.any p = false → lsIdx p X k = -1)
  | [], k => ⟨fun h => by simp at h, fun _ => rfl⟩
  | x :: r, k => by
    have ih := lsIdx_any p r (k + 1)
    unfold lsIdx
    rw [List.any_cons]
    cases p x
    · simpa using ih
    · simp
/-- Where the first one lies of which something holds; behind all, if there is none. -/
def lsPl {α : Type} (p : α → Bool) : List α → Nat
  | [] => 0
  | x :: r => if p x then 0 else lsPl p r + 1
theorem lsPl_le {α : Type} (p : α → Bool) : ∀ X : List α, lsPl p X ≤ X.length
  | [] => Nat.le_refl _
  | x :: r => by
    have := lsPl_le p r
    unfold lsPl
    split
    · omega
    · simp; omega
theorem lsIdx_pl {α : Type} (p : α → Bool) : ∀ (X : List α) (k : Nat), (lsIdx p X k = -1 ∧ lsPl p X = X.length) ∨ (lsIdx p X k = (k + lsPl p X : Nat) ∧ lsPl p X < X.length)
  | [], k => .inl ⟨rfl, rfl⟩
  | x :: r, k => by
    unfold lsIdx lsPl
    cases p x
    · rcases lsIdx_pl p r (k + 1) with ⟨h1, h2⟩ | ⟨h1, h2⟩
      · exact .inl ⟨h1, by simp [h2]⟩
      · refine .inr ⟨?_, by simp; exact h2⟩
        simp only [Bool.false_eq_true, if_false]
        rw [h1]; congr 1; omega
    · exact .inr ⟨by simp, by simp⟩
/-- The first one of which something holds. -/
theorem lsPl_at {α : Type} (p : α → Bool) : ∀ (X : List α) (h : lsPl p X < X.length), p (X[lsPl p X]) = true
  | x :: r, h => by
    by_cases hx : p x = true
    · have e : lsPl p (x :: r) = 0 := by unfold lsPl; rw [if_pos hx]
      simp only [e, List.getElem_cons_zero]; exact hx
    · have e : lsPl p (x :: r) = lsPl p r + 1 := by rw [lsPl, if_neg hx]
      simp only [e, List.getElem_cons_succ]
      exact lsPl_at p r (by rw [e] at h; simpa using h)
theorem lsPl_before {α : Type} (p : α → Bool) : ∀ (X : List α) (i : Nat) (hi : i < X.length), i < lsPl p X → p X[i] = false
  | x :: r, i, hi, h => by
    by_cases hx : p x = true
    · rw [lsPl, if_pos hx] at h; omega
    · rw [lsPl, if_neg hx] at h
      cases i with
      | zero => simpa using hx
      | succ i => simpa using lsPl_before p r i (by simpa using hi) (by omega)
theorem lsPl_none {α : Type} (p : α → Bool) (X : List α) : lsPl p X = X.length ↔ X.any p = false := by
  rcases lsIdx_pl p X 0 with ⟨h1, h2⟩ | ⟨h1, h2⟩
  · refine ⟨fun _ => ?_, fun _ => h2⟩
    cases h : X.any p
    · rfl
    · have := (lsIdx_any p X 0).1 h; omega
  · refine ⟨fun h => by omega, fun h => ?_⟩
    have := (lsIdx_any p X 0).2 h; omega
/-- Is each one below the next? -/
def lsRises {α : Type} (ord : α → α → Int) : List α → Bool
  | x :: y :: r => decide (ord x y < 0) && lsRises ord (y :: r)
  | _ => true
theorem lsRises_pw {α : Type} (ord : α → α → Int) (ht : ∀ x y z, ord x y < 0 → ord y z < 0 → ord x z < 0) : ∀ X : List α, lsRises ord X = true ↔ X.Pairwise (fun x y => ord x y < 0)
  | [] => by simp [lsRises]
  | [x] => by simp [lsRises]
  | x :: y :: r => by
    have ih := lsRises_pw ord ht (y :: r)
    unfold lsRises
    rw [Bool.and_eq_true, ih, decide_eq_true_eq]
    constructor
    · rintro ⟨h1, h2⟩
      refine List.pairwise_cons.2 ⟨fun z hz => ?_, h2⟩
      rcases List.mem_cons.1 hz with rfl | hz
      · exact h1
      · exact ht _ _ _ h1 ((List.pairwise_cons.1 h2).1 z hz)
    · intro h
      have h' := List.pairwise_cons.1 h
      exact ⟨h'.1 y (by simp), h'.2⟩
theorem lsAdd (b o j : Nat) : (⟨b, o, none⟩ : Addr).add j = ⟨b, o + j, none⟩ := by by_cases h : j = 0 <;> simp [Addr.add, h]
theorem lsAlloc_cell (w : World) (o : Obj) (a : Addr) (u : Value) (h : w.cell? a = some u) : (w.alloc o).cell? a = some u := by
  rw [World.cell?_alloc_old _ _ _ (Nat.ne_of_lt (World.block_lt_of_cell? w a h))]; exact h
theorem lsZero_size (z : Array Value) (n : Nat) : (Builtin.zeroCells z n).size = n * z.size := by simp [Builtin.zeroCells]
theorem lsOwn_base {w : World} {base : Nat} {t : TypeId} {z : Nat} {v : Value} {n : Nat} {xs : List Value} (h : w.ownsRow base t z v n xs) : ∀ k, v.ownBlock = some k → base ≤ k := by
  intro k hk
  rcases h.2 with ⟨rfl, _⟩ | ⟨g, cap, cur, rfl, hg, _⟩
  · simp [Value.ownBlock] at hk
  · simp [Value.ownBlock] at hk; omega
theorem lsOwn_mono {w : World} {b b' size n : Nat} {t : TypeId} {v : Value} {xs : List Value} (h : w.ownsRow b t size v n xs) (hb : b' ≤ b) : w.ownsRow b' t size v n xs := ⟨h.1, by
  rcases h.2 with h0 | ⟨g, cap, cur, hv, hg, hx⟩
  · exact .inl h0
  · exact .inr ⟨g, cap, cur, hv, Nat.le_trans hb hg, hx⟩⟩
theorem lsRow_lift {w w' : World} {base m size n : Nat} {e : TypeId} {v : Value} {xs : List Value} (h : w.ownsRow base e size v n xs) (hb : Below m w w') (hm : w.heap.size ≤ m) : w'.ownsRow base e size v n xs := ⟨h.1, by
  rcases h.2 with h0 | ⟨g, cap, cur, hv, hg, hh, hx⟩
  · exact .inl h0
  · refine .inr ⟨g, cap, cur, hv, hg, ?_, hx⟩
    have hlt : g < w.heap.size := (Array.getElem?_eq_some_iff.1 hh).1
    rw [hb.block g (by omega)]
    exact hh⟩
/-- A part from a place on, as the model cuts it. -/
def lsCut (sz : Nat) (pa : Option Addr) (cap k : Nat) : Option Addr := if cap = k then pa else pa.map (·.add (k * sz))
theorem lsCut_nil {sz : Nat} {pa : Option Addr} {cap k : Nat} (hnil : pa = none → cap = 0) (h : lsCut sz pa cap k = none) : cap - k = 0 := by
  unfold lsCut at h
  split at h
  · rename_i e; omega
  · cases pa with
    | none => have := hnil rfl; omega
    | some a => simp at h
/-- One box. -/
theorem lsBox (w : World) (v : Value) (t : TypeId) {w' : World} (hb : Below (w.alloc (.cells #[v] t)).heap.size (w.alloc (.cells #[v] t)) w') : w'.cell? ⟨w.heap.size, 0, none⟩ = some v :=
  (hb.cell (p := ⟨w.heap.size, 0, none⟩) (by simp)).trans (by simp [go_sem])
theorem lsForm {w : World} {base : Nat} {e : TypeId} {size : Nat} {v : Value} {n : Nat} {xs : List Value} (h : w.ownsRow base e size v n xs) (hn : 0 < n) : ∃ g cap, v = .slice (some ⟨g, 0, none⟩) n cap := by
  rcases h.2 with ⟨_, rfl⟩ | ⟨g, cap, cur, rfl, _⟩
  · omega
  · exact ⟨g, cap, rfl⟩
end Go.Proofs.Ytllojkdacinhfaa
