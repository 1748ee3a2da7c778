/- Layer 2: the contracts of Parts and of Meets. -/
import Derived.Test.YtgeiicchkfpanaaNmD
import Derived.Test.YtgeiicchkfpanaaNmG
namespace Go.Proofs.Ytgeiicchkfpanaa
open Go.RowKit Go.Shelf
/-- A glob's parts; none, of what is none. -/
def partsB (s : ByteArray) : List ByteArray := if globL s.data.toList then cutB s else []
theorem partsB_data (s : ByteArray) : (partsB s).map dl = partsL s.data.toList := by
  unfold partsB partsL
  split
  · exact cutB_data s
  · rfl
theorem cutB_pos (s : ByteArray) : 0 < (cutB s).length := by rw [cutB_len]; omega
theorem cut_len (s : ByteArray) : (cutB s).length = (cutL s.data.toList).length := by rw [← cutB_data, List.length_map]
theorem glob_8 (s : ByteArray) (h : globL s.data.toList = true) : (cutB s).length ≤ 8 ∧ s.size ≤ 40 := by
  rw [cut_len]
  unfold globL isL at h
  simp only [Bool.and_eq_true, decide_eq_true_eq, size_list] at h
  exact ⟨h.2.2, h.1⟩
theorem partsB_8 (s : ByteArray) : (partsB s).length ≤ 8 := by
  unfold partsB
  split
  · exact (glob_8 s (by assumption)).1
  · simp
/-- What a list of texts is, whose block is one of the call's own. -/
structure Row (w : World) (base : Nat) (pa : Option Addr) (X : List ByteArray) : Prop where
  nil : X = [] → pa = none
  cons : X ≠ [] → ∃ b, pa = some ⟨b, 0, none⟩ ∧ base ≤ b ∧ Held w b X
theorem Held.lift {w w' : World} {b : Nat} {X : List ByteArray} (h : Held w b X) (hb : Below w.heap.size w w') : Held w' b X :=
  ⟨Nat.lt_of_lt_of_le h.lt hb.size, fun i hi => (hb.cell (p := ⟨b, i, none⟩) h.lt).trans (h.cell i hi)⟩
theorem Row.lift {w w' : World} {base : Nat} {pa : Option Addr} {X : List ByteArray} (h : Row w base pa X) (hb : Below w.heap.size w w') : Row w' base pa X :=
  ⟨h.nil, fun hx => by obtain ⟨b, e, hl, hh⟩ := h.cons hx; exact ⟨b, e, hl, hh.lift hb⟩⟩
structure PartsPost (s : ByteArray) (w : World) (e : Ending) (w' : World) : Prop where
  out : ∃ pa, e = .returned (.slice pa (partsB s).length (partsB s).length) ∧ Row w' w.heap.size pa (partsB s) ∧ Below w.heap.size w w'
theorem held_new (w : World) (X : List ByteArray) : Held (w.alloc (.cells (X.map Value.string).toArray 9)) w.heap.size X :=
  ⟨by simp, fun i hi => by simp [go_sem, hi]⟩
end Go.Proofs.Ytgeiicchkfpanaa
