/- Layer 11: the contracts of Clone, and of the law's Few. -/
import Derived.Test.YtgipohicgbppaaaWhH
namespace Go.Proofs.Ytgipohicgbppaaa
open Go.RowKit Go.Shelf
structure ListPost (X : List Tm) (w : World) (e : Ending) (w' : World) : Prop where
  out : ∃ v, e = .returned v ∧ Own w' w.heap.size v X ∧ Below w.heap.size w w'
theorem eql_nil (a : Option Addr) (l c : Nat) (W : World) : (binOp .eql 22 (.slice a l c) (.slice none 0 0)).run Try.prog W = .ok (.bool a.isNone) W := by
  simp only [binOp]
  simp [run_equal_slice_nil W 22 _ a l c Try.underlying22]
theorem Rd.some {w : World} {a : Addr} {X : List Tm} (h : Rd w (some a) X) : ∀ (j : Nat) (u : Value), (flatT X)[j]? = some u → w.cell? (a.add j) = some u := by
  intro j u hj
  have hne : X ≠ [] := by rintro rfl; cases hj
  obtain ⟨b, o, e, _, hc⟩ := h.out hne
  cases e
  exact Rd.flat hc j u hj
theorem Rd.none {w : World} {X : List Tm} (h : Rd w none X) : X = [] := by
  cases X with
  | nil => rfl
  | cons x X => obtain ⟨b, o, e, _⟩ := h.out (by simp); cases e
theorem alloc_cell (w : World) (o : Obj) (a : Addr) (u : Value) (h : w.cell? a = some u) : (w.alloc o).cell? a = some u := by
  rw [World.cell?_alloc_old _ _ _ (Nat.ne_of_lt (World.block_lt_of_cell? w a h))]; exact h
set_option maxHeartbeats 1000000 in
theorem clone_any (X : List Tm) (pa : Option Addr) (cap : Nat) (w : World) (hX : X.length ≤ 130) (hR : Rd w pa X) :
    Calls Try.prog 31 #[.slice pa X.length cap] w (ListPost X w) := by
  obtain ⟨i0, hi, hz0, hz1, hz2⟩ := info_parts info_tm
  cases pa with
  | none =>
    obtain rfl := hR.none
    have he := eql_nil none 0 cap
    have hn : (([] : List Tm).length) = 0 := rfl
    rw [hn]
    clear hR hX
    go_enter Try.func31, Try.ntmps31
    go_wp2
    go_ret
    exact ⟨_, rfl, Own.nil _ _, Below.refl _ _⟩
  | some a =>
    have he := eql_nil (some a) X.length cap
    have hown : Own (w.alloc (.cells #[] 38)) w.heap.size (.slice (some ⟨w.heap.size, 0, none⟩) 0 0) [] := by
      refine ⟨rfl, .inr ⟨w.heap.size, 0, #[], rfl, Nat.le_refl _, ?_, Nat.le_refl _, Nat.zero_le _, rfl, rfl⟩⟩
      show (w.heap.push _)[w.heap.size]? = _
      exact Array.getElem?_push_size
    have hnews : ∀ (j : Nat) (u : Value), (flatT X)[j]? = some u → (w.alloc (.cells #[] 38)).cell? (a.add j) = some u := fun j u h => alloc_cell _ _ _ _ (hR.some j u h)
    have O := Lib.hid (show (w.alloc (.cells #[] 38)).ownsRow w.heap.size 38 2 (.slice (some ⟨w.heap.size, 0, none⟩) 0 0) 0 [] from hown.own)
    have N := Lib.hid hnews
    have Hz0 := Lib.hid hz0
    have Hz1 := Lib.hid hz1
    have Hz2 := Lib.hid hz2
    clear hR hown hnews hz0 hz1 hz2
    go_enter Try.func31, Try.ntmps31
    go_wp2_with (first | (at_builtin; refine wpList_append_own _ rfl (.tmp 5) (.tmp 6) 22 rfl w.heap.size 38 i0 (.agg #[.int .i64 0, .int .u64 0]) 2 16 Try.underlying22 hi Hz0.out Hz1.out Hz2.out rfl (by decide) _ _ _ rfl O.out a X.length cap (flatT X) rfl (flatT_len X) N.out (flatT_one X) ?c3a ?c4a ?c5a ?_))
    case c3a => unfold maxLen; omega
    case c4a => omega
    case c5a => simp
    intro v2 w2 hown2 hgr2 _
    have hb2 : Below w.heap.size w w2 := ((Below.refl _ _).alloc (Nat.le_refl _) _).grown hgr2 (by simp) (own_base O.out)
    have hown3 : Own w2 w.heap.size v2 X := ⟨by simpa using hown2⟩
    clear hown2 hgr2
    go_wp2
    go_ret
    exact ⟨v2, rfl, hown3, hb2⟩
end Go.Proofs.Ytgipohicgbppaaa
