/- Slices of structs that come in, whatever the number of fields: the cells of one. -/
import Derived.Test.YtllojkdacinhfaaLsBase
import Derived.Carry
import Derived.ProofKit
import Derived.Deep.Slices
import Derived.Deep.Fields
import Derived.ChangeSame
namespace Go.Proofs.Ytllojkdacinhfaa
open Go.RowKit Go.Shelf Go.ChangeShapes Go.WideShapes Go.Deep Go.Joins
theorem laidOut : laidOutB Try.prog = true := by kernel_rfl
section
variable {H : Type} {enc : TypeId × Value → H} {w : World} {base : Nat} {spare : Nat → Bool} {held : Bool}
/-- The j-th field of a struct whose cells lie from a on. -/
theorem lsField {e : TypeId} {fs : Array Field} {m n : Nat} {a : Addr} {cs : List Value} {y : DataW H × List MemPlace} (he : Try.prog.underlying e = some (.struct fs)) (hone : oneCellFields Try.prog fs = true)
    (hm : m = fs.size) (hc : w.cells? base a m = some cs) (ht : DataW.trod enc Try.prog w base spare held n e cs = some y) (j : Nat) (f : Field) (hj : fs[j]? = some f) :
    ∃ (v : Value) (z : DataW H × List MemPlace) (k : Nat), w.cell? (a.add j) = some v ∧ DataW.trod enc Try.prog w base spare held k f.type [v] = some z := by
  obtain ⟨_, hl, hat⟩ := World.cells?_some hc
  obtain ⟨ys, k, _, _, _, hyl, hf⟩ := DataW.trod_struct he ht
  obtain ⟨ho, hk⟩ := hone_of hone j f hj
  have hjm : j < fs.size := (Array.getElem?_eq_some_iff.1 hj).1
  have hjl : j < cs.length := by omega
  have h1 := hf j f hj
  have e1 : (cs.drop f.offset).take (Try.prog.cellsOf f.type) = [cs[j]] := by
    rw [ho, hk, List.drop_eq_getElem_cons hjl]; rfl
  rw [e1, List.getElem?_eq_getElem (by omega)] at h1
  exact ⟨cs[j], _, k, (hat j (by omega)).trans (List.getElem?_eq_getElem hjl), h1⟩
end
end Go.Proofs.Ytllojkdacinhfaa
