/- Concat, With, Without over lists of api.Kept. -/
import Derived.Test.YtllojkdacinhfaaKeB
namespace Go.Proofs.Ytllojkdacinhfaa.Ke
open Go.RowKit Go.Shelf Go.Proofs.Ytllojkdacinhfaa
set_option linter.unusedVariables false
set_option linter.unusedSimpArgs false
/-- A part: where it lies, its room, what is in it. -/
abbrev Part := Option Addr × Nat × List El
def partV (p : Part) : Value := .slice p.1 p.2.2.length p.2.1
def flatP (Ps : List Part) : List El := Ps.flatMap (·.2.2)
theorem flatP_snoc (Ps : List Part) (p : Part) : flatP (Ps ++ [p]) = flatP Ps ++ p.2.2 := by unfold flatP; rw [List.flatMap_append]; simp
theorem flatP_take_le (Ps : List Part) (k : Nat) : (flatP (Ps.take k)).length ≤ (flatP Ps).length := by
  have h : flatP Ps = flatP (Ps.take k) ++ flatP (Ps.drop k) := by
    unfold flatP; rw [← List.flatMap_append, List.take_append_drop]
  rw [h, List.length_append]; omega
theorem flatP_step (Ps : List Part) (k : Nat) (h : k < Ps.length) : flatP (Ps.take (k + 1)) = flatP (Ps.take k) ++ Ps[k].2.2 := by
  rw [List.take_succ_eq_append_getElem h, flatP_snoc]
structure Parts (w : World) (B o : Nat) (Ps : List Part) : Prop where
  lt : B < w.heap.size
  cell : ∀ i (h : i < Ps.length), w.cell? ⟨B, o + i, none⟩ = some (partV Ps[i])
  rd : ∀ i (h : i < Ps.length), Rd w Ps[i].1 Ps[i].2.2
  nil : ∀ i (h : i < Ps.length), Ps[i].1 = none → Ps[i].2.1 = 0
theorem Parts.lift {w w' : World} {B o : Nat} {Ps : List Part} (h : Parts w B o Ps) (hb : Below w.heap.size w w') : Parts w' B o Ps :=
  ⟨Nat.lt_of_lt_of_le h.lt hb.size, fun i hi => (hb.cell (p := ⟨B, o + i, none⟩) h.lt).trans (h.cell i hi), fun i hi => (h.rd i hi).lift hb, h.nil⟩
end Go.Proofs.Ytllojkdacinhfaa.Ke
