/- Lists of int in a world: the first one of which something holds; lists that rise. -/
import Derived.Test.YtllojkdacinhfaaLsBase
namespace Go.Proofs.Ytllojkdacinhfaa.Pl
open Go.RowKit Go.Shelf Go.Proofs.Ytllojkdacinhfaa
set_option linter.unusedVariables false
set_option linter.unusedSimpArgs false
abbrev El := Int
abbrev eV (x : El) : Value := .int .i64 x
/-- A list, wherever it lies. -/
structure Rd (w : World) (pa : Option Addr) (X : List El) : Prop where
  out : X ≠ [] → ∃ b o, pa = some ⟨b, o, none⟩ ∧ b < w.heap.size ∧ ∀ i (h : i < X.length), w.cell? ⟨b, o + i * 1, none⟩ = some (.int .i64 X[i])
theorem Rd.at {w : World} {pa : Option Addr} {X : List El} (h : Rd w pa X) (i : Nat) (hi : i < X.length) : ∃ b o, pa = some ⟨b, o, none⟩ ∧ b < w.heap.size ∧ w.cell? ⟨b, o + i * 1, none⟩ = some (.int .i64 X[i]) := by
  obtain ⟨b, o, e, hb, hc⟩ := h.out (by intro e; rw [e] at hi; exact absurd hi (by simp))
  exact ⟨b, o, e, hb, hc i hi⟩
theorem Rd.lift {w w' : World} {pa : Option Addr} {X : List El} (h : Rd w pa X) (hb : Below w.heap.size w w') : Rd w' pa X := ⟨fun hx => by
  obtain ⟨b, o, e, hlt, hc⟩ := h.out hx
  exact ⟨b, o, e, Nat.lt_of_lt_of_le hlt hb.size, fun i hi => (hb.cell (p := ⟨b, o + i * 1, none⟩) hlt).trans (hc i hi)⟩⟩
theorem Rd.nil (w : World) (pa : Option Addr) : Rd w pa [] := ⟨fun h => absurd rfl h⟩
theorem Rd.isNil {w : World} {X : List El} (h : Rd w none X) : X = [] := by
  cases X with
  | nil => rfl
  | cons x X => obtain ⟨b, o, e, _⟩ := h.out (by simp); cases e
theorem Rd.take {w : World} {pa : Option Addr} {X : List El} (h : Rd w pa X) (k : Nat) : Rd w pa (X.take k) := ⟨fun hx => by
  obtain ⟨b, o, e, hb, hc⟩ := h.out (by rintro rfl; simp at hx)
  refine ⟨b, o, e, hb, fun i hi => ?_⟩
  have hi2 : i < X.length := by rw [List.length_take] at hi; omega
  rw [List.getElem_take]
  exact hc i hi2⟩
theorem Rd.drop {w : World} {pa : Option Addr} {X : List El} (h : Rd w pa X) (k cap : Nat) (hcap : X.length ≤ cap) : Rd w (lsCut 1 pa cap k) (X.drop k) := ⟨fun hx => by
  have hlt : k < X.length := by
    apply Classical.byContradiction; intro hn
    exact hx (List.drop_eq_nil_of_le (by omega))
  obtain ⟨b, o, e, hb, hc⟩ := h.out (by rintro rfl; simp at hx)
  subst e
  refine ⟨b, o + k * 1, ?_, hb, fun i hi => ?_⟩
  · unfold lsCut
    rw [if_neg (by omega), Option.map_some, lsAdd]
  · rw [List.length_drop] at hi
    have := hc (k + i) (by omega)
    rw [List.getElem_drop]
    rw [show o + k * 1 + i * 1 = o + (k + i) * 1 by omega]
    exact this⟩
/-- What a function of the program says of each one of a list. -/
def Pred (fn : Nat) (lb : Array Value) (p : El → Bool) (X : List El) (w0 : World) : Prop := (∀ args w, (callFunc fn args).run Try.prog w = .ok (.enter fn args) w) ∧
  ∀ x ∈ X, ∀ (w : World), Below w0.heap.size w0 w → Calls Try.prog fn (#[eV x] ++ lb) w fun e w' => e = .returned (.bool (p x)) ∧ Below w.heap.size w w'
theorem Pred.lift {fn : Nat} {lb : Array Value} {p : El → Bool} {X : List El} {w w' : World} (h : Pred fn lb p X w) (hb : Below w.heap.size w w') : Pred fn lb p X w' :=
  ⟨h.1, fun x hx W hW => h.2 x hx W (hb.trans (hW.mono hb.size))⟩
def Ord (fn : Nat) (lb : Array Value) (ord : El → El → Int) (X : List El) (w0 : World) : Prop := (∀ args w, (callFunc fn args).run Try.prog w = .ok (.enter fn args) w) ∧
  ∀ x ∈ X, ∀ y ∈ X, ∀ (w : World), Below w0.heap.size w0 w → Calls Try.prog fn (#[eV x, eV y] ++ lb) w fun e w' => e = .returned (.int .i64 (ord x y)) ∧ Below w.heap.size w w'
theorem Ord.lift {fn : Nat} {lb : Array Value} {p : El → El → Int} {X : List El} {w w' : World} (h : Ord fn lb p X w) (hb : Below w.heap.size w w') : Ord fn lb p X w' :=
  ⟨h.1, fun x hx y hy W hW => h.2 x hx y hy W (hb.trans (hW.mono hb.size))⟩
end Go.Proofs.Ytllojkdacinhfaa.Pl
