/- Layer 2: the contract of Order. -/
import Derived.Test.YtoicgilcdlakkaaNmH
import Derived.Test.YtoicgilcdlakkaaNmJ
import Derived.WalkLawsBesides
import Derived.WalkSpells
namespace Go.Proofs.Ytoicgilcdlakkaa
open Go.RowKit Go.Shelf
theorem ret_intK' {n m : Int} (h : n = m) : Ending.returned (Value.int .i64 n) = Ending.returned (Value.int .i64 m) := by rw [h]
/-- Which one is first. -/
def orderB (a b : ByteArray) : Int := cmpP (partsL a.data.toList) (partsL b.data.toList)
theorem Row.cells {w : World} {base : Nat} {pa : Option Addr} {X : List ByteArray} (h : Row w base pa X) : ∀ i (h : i < X.length), ∃ b, pa = some ⟨b, 0, none⟩ ∧ w.cell? ⟨b, i, none⟩ = some (.string X[i]) := fun i hi => by
  obtain ⟨b, e, _, hh⟩ := h.cons (by intro e; rw [e] at hi; exact absurd hi (by simp))
  exact ⟨b, e, hh.cell i hi⟩
end Go.Proofs.Ytoicgilcdlakkaa
