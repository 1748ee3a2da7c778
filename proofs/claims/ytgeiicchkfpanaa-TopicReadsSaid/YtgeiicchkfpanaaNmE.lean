/- Layer 2: the map of what was asked. -/
import Derived.Test.YtgeiicchkfpanaaNmC
import Derived.Laws.StructEq
namespace Go.Proofs.Ytgeiicchkfpanaa
open Go.RowKit Go.Shelf
def keyV (p : Nat × Nat) : Value := .agg #[.int .i64 p.1, .int .i64 p.2]
/-- What lies in a map of what was asked. -/
structure MapIs (w : World) (M : Nat) (K : List (Nat × Nat)) : Prop where
  out : ∃ (es : Array MapEntry) (clock : Nat), w.heap[M]? = some (.map es clock) ∧ es.toList.map (·.key) = K.map keyV ∧ ∀ e ∈ es.toList, e.val = .agg #[]
def setMap (w : World) (M : Nat) (es : Array MapEntry) (clock : Nat) : World := { w with heap := w.heap.setIfInBounds M (.map es clock) }
theorem setMap_below (w : World) (M : Nat) (es : Array MapEntry) (clock : Nat) : Below M w (setMap w M es clock) :=
  ⟨rfl, rfl, rfl, by simp [setMap], fun k hk => by simp [setMap, show M ≠ k by omega]⟩
theorem setMap_block (w : World) (M : Nat) (es : Array MapEntry) (clock : Nat) (k : Nat) (h : k ≠ M) : (setMap w M es clock).heap[k]? = w.heap[k]? := by
  simp [setMap, show M ≠ k by omega]
theorem setMap_size (w : World) (M : Nat) (es : Array MapEntry) (clock : Nat) : (setMap w M es clock).heap.size = w.heap.size := by simp [setMap]
theorem MapIs.keep {w w' : World} {M : Nat} {K : List (Nat × Nat)} (h : MapIs w M K) (e : w'.heap[M]? = w.heap[M]?) : MapIs w' M K := by
  obtain ⟨es, clock, h1, h2, h3⟩ := h.out
  exact ⟨es, clock, e.trans h1, h2, h3⟩
end Go.Proofs.Ytgeiicchkfpanaa
