/- Layer 11: the contract of the order. -/
import Derived.Test.YtgipohicgbppaaaWhA
namespace Go.Proofs.Ytgipohicgbppaaa
open Go.RowKit Go.Shelf
/-- The boxes of two timers, the last two blocks ahead of whatever follows. -/
structure Pair (B : Nat) (w0 w : World) (x y : Tm) : Prop where
  c0 : w.cell? ⟨B, 0, none⟩ = some (.int .i64 x.1)
  c1 : w.cell? ⟨B, 1, none⟩ = some (.int .u64 x.2)
  d0 : w.cell? ⟨B + 1, 0, none⟩ = some (.int .i64 y.1)
  d1 : w.cell? ⟨B + 1, 1, none⟩ = some (.int .u64 y.2)
  size : B + 1 < w.heap.size
  below : Below B w0 w
theorem Pair.step {B : Nat} {w0 w w' : World} {x y : Tm} (h : Pair B w0 w x y) (hb : Below w.heap.size w w') : Pair B w0 w' x y := by
  have hz := h.size
  exact ⟨(hb.cell (p := ⟨B, 0, none⟩) (by show B < _; omega)).trans h.c0, (hb.cell (p := ⟨B, 1, none⟩) (by show B < _; omega)).trans h.c1, (hb.cell (p := ⟨B + 1, 0, none⟩) hz).trans h.d0, (hb.cell (p := ⟨B + 1, 1, none⟩) hz).trans h.d1,
    Nat.lt_of_lt_of_le hz hb.size, h.below.trans (hb.mono (by omega))⟩
theorem Pair.drew {B : Nat} {w0 w : World} {x y : Tm} (h : Pair B w0 w x y) : Pair B w0 w.drew x y := h.step ((Below.refl _ _).drew)
theorem keepP {B : Nat} {w0 w w' : World} {x y : Tm} (h : Pair B w0 w x y) (hb : Below w.heap.size w w') : w'.cell? ⟨B, 0, none⟩ = some (.int .i64 x.1) ∧ w'.cell? ⟨B, 1, none⟩ = some (.int .u64 x.2) ∧ w'.cell? ⟨B + 1, 0, none⟩ = some (.int .i64 y.1) ∧ w'.cell? ⟨B + 1, 1, none⟩ = some (.int .u64 y.2) ∧ Pair B w0 w' x y :=
  ⟨(h.step hb).c0, (h.step hb).c1, (h.step hb).d0, (h.step hb).d1, h.step hb⟩
set_option maxRecDepth 100000 in
set_option maxHeartbeats 1000000 in
theorem order_any (x y : Tm) (w : World) : Calls Try.prog 27 #[tmV x, tmV y] w fun e w' => e = .returned (.int .i64 (ordT x y)) ∧ Below w.heap.size w w' := by
  have T0 : Pair w.heap.size w ((w.alloc (.cells #[.int .i64 x.1, .int .u64 x.2] 59)).alloc (.cells #[.int .i64 y.1, .int .u64 y.2] 59)) x y := by
    refine ⟨?_, ?_, ?_, ?_, by simp, ((Below.refl _ _).alloc (Nat.le_refl _) _).alloc (by simp) _⟩
    all_goals simp [go_sem]
  have C1 := Lib.hid (fun w => cmpInt_any x.1 y.1 w)
  have C2 := Lib.hid (fun w => cmpU_any x.2 y.2 w)
  have hor := fun g w h0 h1 => or_any (cmpZ x.1 y.1) (cmpZ x.2 y.2) g w h0 h1
  have C3 := Lib.hid hor
  have hV : (if cmpZ x.1 y.1 = 0 then cmpZ x.2 y.2 else cmpZ x.1 y.1) = ordT x y := rfl
  rw [hV] at C3
  generalize ordT x y = r at *
  clear hor hV
  obtain ⟨x1, x2⟩ := x
  obtain ⟨y1, y2⟩ := y
  simp only at *
  generalize cmpZ x1 y1 = a at *
  generalize cmpZ x2 y2 = b at *
  go_enter Try.func27, Try.ntmps27
  go_wp2_with fail
  generalize (w.alloc (.cells #[.int .i64 x1, .int .u64 x2] 59)).alloc (.cells #[.int .i64 y1, .int .u64 y2] 59) = W at *
  generalize hB : w.heap.size = B at *
  have c0 := T0.c0; have c1 := T0.c1; have d0 := T0.d0; have d1 := T0.d1
  simp only at c0 c1 d0 d1
  have Td := T0.drew
  go_region_held3 (fun w' => w'.cell? ⟨B, 0, none⟩ = some (.int .i64 x1) ∧ w'.cell? ⟨B, 1, none⟩ = some (.int .u64 x2) ∧ w'.cell? ⟨B + 1, 0, none⟩ = some (.int .i64 y1) ∧ w'.cell? ⟨B + 1, 1, none⟩ = some (.int .u64 y2) ∧ Pair B w w' (x1, x2) (y1, y2)) (first | (exact ⟨c0, c1, d0, d1, Td⟩) | (go_split_ands; first | assumption | (exact ⟨by assumption, by assumption, by assumption, by assumption, by assumption⟩) | (exact keepP (by assumption) (by assumption)) | (exact keepP (by assumption) ((Below.refl _ _).alloc (Nat.le_refl _) _)))) (first | (go_at_call 38; (with_reducible refine (C1.out _).mono ?_); rintro e w1 ⟨rfl, rfl⟩) | (go_at_call 39; (with_reducible refine (C2.out _).mono ?_); rintro e w1 ⟨rfl, rfl⟩) | (go_at_call 37; refine (C3.out _ _ (by simp [go_sem]) (by simp [go_sem])).mono ?_; rintro e w1 ⟨rfl, rfl⟩))
  all_goals go_wp2
  all_goals go_ret
  all_goals (go_split_ands; refine ⟨rfl, ?_⟩; rw [hB]; exact Pair.below (by assumption))
end Go.Proofs.Ytgipohicgbppaaa
