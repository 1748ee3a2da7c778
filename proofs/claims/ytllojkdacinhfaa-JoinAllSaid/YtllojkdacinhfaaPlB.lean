/- Lists of int of the call's own; Grow and Clone. -/
import Derived.Test.YtllojkdacinhfaaPlA
import Derived.Lib.AppendZeros
import Derived.Laws.AppendOwnNone
import Derived.Laws.Cover3
import Derived.Deep.DeepHandedRow
import Derived.BigFrame
namespace Go.Proofs.Ytllojkdacinhfaa.Pl
open Go.RowKit Go.Shelf Go.Proofs.Ytllojkdacinhfaa
set_option linter.unusedVariables false
set_option linter.unusedSimpArgs false
/-- The cells. -/
def flat (X : List El) : List Value := X.flatMap fun x => [.int .i64 x]
theorem flat_cons (x : El) (X : List El) : flat (x :: X) = .int .i64 x :: flat X := rfl
theorem flat_append (X Y : List El) : flat (X ++ Y) = flat X ++ flat Y := by unfold flat; rw [List.flatMap_append]
theorem flat_len : ∀ X : List El, (flat X).length = X.length * 1
  | [] => rfl
  | x :: X => by rw [flat_cons]; simp only [List.length_cons]; rw [flat_len X]; omega
theorem flat_one (X : List El) : ∀ u ∈ flat X, u.oneCell' = true := by
  intro u hu
  unfold flat at hu
  rw [List.mem_flatMap] at hu
  obtain ⟨x, _, hx⟩ := hu
  simp at hx
  rcases hx with rfl <;> rfl
theorem flat_get : ∀ (X : List El) (i : Nat) (h : i < X.length), (flat X)[i * 1]? = some (.int .i64 X[i])
  | x :: X, 0, _ => by rw [flat_cons]; simp
  | x :: X, i + 1, h => by
    have := flat_get X i (by simpa using h)
    rw [flat_cons, show (i + 1) * 1 = i * 1 + 1 by omega]
    simpa using this
theorem rdFlat {w : World} {b o : Nat} {X : List El} (hc : ∀ i (h : i < X.length), w.cell? ⟨b, o + i * 1, none⟩ = some (.int .i64 X[i])) :
    ∀ (j : Nat) (u : Value), (flat X)[j]? = some u → w.cell? ((⟨b, o, none⟩ : Addr).add j) = some u := by
  intro j u hj
  have hlt : j < X.length * 1 := by
    have := (List.getElem?_eq_some_iff.1 hj).1
    rw [flat_len] at this; exact this
  rw [lsAdd]
  have hg := flat_get X (j / 1) (by omega)
  have hh := hc (j / 1) (by omega)
  rcases (by omega : j = j / 1 * 1) with e
  · have hgi := hg
    have hhi := hh
    rw [← e] at hgi hhi
    rw [hj] at hgi
    cases hgi
    exact hhi
theorem Rd.cells {w : World} {a : Addr} {X : List El} (h : Rd w (some a) X) : ∀ (j : Nat) (u : Value), (flat X)[j]? = some u → w.cell? (a.add j) = some u := by
  intro j u hj
  have hne : X ≠ [] := by rintro rfl; cases hj
  obtain ⟨b, o, e, _, hc⟩ := h.out hne
  cases e
  exact rdFlat hc j u hj
/-- A list of the call's own. -/
structure Own (w : World) (base : Nat) (v : Value) (X : List El) : Prop where
  own : w.ownsRow base 3 1 v X.length (flat X)
/-- A list of the call's own, to read. -/
theorem Own.rd {w : World} {base : Nat} {v : Value} {X : List El} (h : Own w base v X) : ∃ pa cap, v = .slice pa X.length cap ∧ X.length ≤ cap ∧ Rd w pa X := by
  rcases h.own.2 with ⟨rfl, h0⟩ | ⟨g, cap, cur, rfl, hg, hh, hc, _, _, hx⟩
  · have : X = [] := List.eq_nil_of_length_eq_zero h0
    subst this
    exact ⟨none, 0, rfl, Nat.le_refl _, Rd.nil _ _⟩
  · refine ⟨some ⟨g, 0, none⟩, cap, rfl, hc, ⟨fun _ => ⟨g, 0, rfl, (h.own.lt g rfl).2, fun i hi => ?_⟩⟩⟩
    have hf := flat_get X i hi
    have e0 := h.own.cellAt (i * 1) (by omega)
    rw [Nat.zero_add]
    exact e0.trans hf
theorem Own.nil (w : World) (base : Nat) : Own w base (.slice none 0 0) [] := ⟨World.ownsRow_nil _ _ _ _⟩
theorem Own.mono {w : World} {b b' : Nat} {v : Value} {X : List El} (h : Own w b v X) (hb : b' ≤ b) : Own w b' v X := ⟨lsOwn_mono h.own hb⟩
theorem Own.lift {w w' : World} {base : Nat} {v : Value} {X : List El} (h : Own w base v X) (hb : Below w.heap.size w w') : Own w' base v X := ⟨lsRow_lift h.own hb (Nat.le_refl _)⟩
theorem Own.nil_cap {w : World} {b : Nat} {X : List El} {pa : Option Addr} {n cap : Nat} (h : Own w b (.slice pa n cap) X) : pa = none → cap = 0 := by
  rintro rfl
  rcases h.own.2 with ⟨e, _⟩ | ⟨g, c, cur, e, _⟩
  · simp at e; exact e.2
  · simp at e
theorem Own.args {w : World} {base : Nat} {v : Value} {X : List El} (h : Own w base v X) : ∃ pa cap, v = .slice pa X.length cap ∧ X.length ≤ cap ∧ Rd w pa X ∧ (pa = none → cap = 0) := by
  obtain ⟨pa, cap, rfl, hc, hr⟩ := h.rd
  exact ⟨pa, cap, rfl, hc, hr, h.nil_cap⟩
theorem info : (Try.prog.info? 3).map (fun i => (i.zero, i.size, i.bytes)) = some (some (.int .i64 0), 1, 8) := by kernel_rfl
structure ListPost (X : List El) (w : World) (e : Ending) (w' : World) : Prop where
  out : ∃ v, e = .returned v ∧ Own w' w.heap.size v X ∧ Below w.heap.size w w'
theorem eql_nil (a : Option Addr) (l c : Nat) (W : World) : (binOp .eql 58 (.slice a l c) (.slice none 0 0)).run Try.prog W = .ok (.bool a.isNone) W := by
  simp only [binOp]
  simp [run_equal_slice_nil W 58 _ a l c Try.underlying58]
theorem emptyOwn (w : World) : Own (w.alloc (.cells #[] 3)) w.heap.size (.slice (some ⟨w.heap.size, 0, none⟩) 0 0) [] := by
  refine ⟨rfl, .inr ⟨w.heap.size, 0, #[], rfl, Nat.le_refl _, ?_, Nat.le_refl _, Nat.zero_le _, rfl, rfl⟩⟩
  show (w.heap.push _)[w.heap.size]? = _
  exact Array.getElem?_push_size
/-- An append to a list of the call's own, wherever the other one lies. -/
theorem wpList_app {w : World} {ops : Array Oper} {rest : List Oper} {o : Oper} {a : Act} {Q : Exit → Act → World → Prop} (hw : Region.wanted o (yielded ops a.tmps) = true) (s x : Operand)
    (ho : o.op = .call { callee := .builtin .append, args := #[s, x], argTypes := #[58, 58] }) (base : Nat) (v : Value) (A B : List El) (hs : a.eval s = v) (hown : Own w base v A)
    (pa : Option Addr) (cap : Nat) (hx : a.eval x = .slice pa B.length cap) (hr : Rd w pa B) (hn : pa = none → cap = 0) (hl : A.length + B.length ≤ 8000) (hbase : base ≤ w.heap.size)
    (h : ∀ v' w', Own w' base v' (A ++ B) → Below base w w' → wpList Try.prog ops Q rest (a.put o.dst v') w') : wpList Try.prog ops Q (o :: rest) a w := by
  obtain ⟨i0, hi, hz0, hz1, hz2⟩ := info_parts info
  cases pa with
  | none =>
    obtain rfl := hr.isNil
    obtain rfl := hn rfl
    have hrun := run_append_owned_none (P := Try.prog) (w := w) base 58 o.type 3 i0 1 Try.underlying58 hi v _ _ hown.own
    refine BigFrame.wpList_want hw fun K hK => ?_
    unfold Oper.wp
    simp only [List.length_nil] at hx
    simp [execOp, ho, resolve, invoke, builtin, hs, hx, hrun, Result.andThen]
    exact hK _ _ (h _ _ (by simpa using hown) (Below.refl _ _))
  | some ad =>
    refine BigFrame.wpList_want hw fun K hK => ?_
    refine wp_append_own _ s x 58 ho base 3 i0 (.int .i64 0) 1 8 Try.underlying58 hi hz0 hz1 hz2 rfl (by decide) v _ _ hs hown.own ad B.length cap (flat B) hx (flat_len B) hr.cells (flat_one B) (by unfold maxLen; omega) (by omega) hbase ?_
    intro v' w' h1 h2 _
    refine hK _ _ (h v' w' ⟨by rw [List.length_append, flat_append]; exact h1⟩ ((Below.refl _ _).grown h2 hbase (lsOwn_base hown.own)))
/-- A box of one, that may be written. -/
structure Bx (B : Nat) (w : World) (x : El) : Prop where
  c : w.cell? ⟨B, 0, none⟩ = some (.int .i64 x)
  f : w.frozen? ⟨B, 0, none⟩ = false
  lt : B < w.heap.size
theorem Bx.lift {B : Nat} {w w' : World} {x : El} (h : Bx B w x) (hb : Below w.heap.size w w') : Bx B w' x :=
  ⟨(hb.cell (p := ⟨B, 0, none⟩) h.lt).trans h.c, (hb.frozen (p := ⟨B, 0, none⟩) h.lt).trans h.f, Nat.lt_of_lt_of_le h.lt hb.size⟩
theorem Bx.new (x : El) (w : World) : Bx w.heap.size (w.alloc (.cells #[.int .i64 x] 3)) x :=
  ⟨by simp [go_sem], by simp [go_sem], by simp⟩
/-- One that was made for an append. -/
theorem one_rd (x : El) (w : World) : Rd (w.alloc (.cells #[.int .i64 x] 3)) (some ⟨w.heap.size, 0, none⟩) [x] := ⟨fun _ => ⟨w.heap.size, 0, rfl, by simp, fun i hi => by
  obtain rfl : i = 0 := by simp at hi; exact hi
  simp [go_sem]⟩⟩

theorem flat_set : ∀ (X : List El) (k : Nat) (_ : k < X.length) (x : El), flat (X.set k x) = (flat X).set (k * 1) (.int .i64 x)
  | y :: X, 0, _, x => by rw [List.set_cons_zero, flat_cons, flat_cons]; rfl
  | y :: X, k + 1, h, x => by
    rw [List.set_cons_succ, flat_cons, flat_cons, flat_set X k (by simpa using h) x]
    rw [show (k + 1) * 1 = k * 1 + 1 by omega]
    simp [List.set_cons_succ]

theorem Own.set_ {w : World} {base g cap : Nat} {X : List El} (h : Own w base (.slice (some ⟨g, 0, none⟩) X.length cap) X) (k : Nat) (hk : k < X.length) (x : El) :
    Own ((w).setCell ⟨g, k * 1, none⟩ (.int .i64 x)) base (.slice (some ⟨g, 0, none⟩) X.length cap) (X.set k x) := by
  have hs := (h.own.stored (k * 1) (Value.int IntKind.i64 x)).1
  refine ⟨?_⟩
  rw [List.length_set, flat_set X k hk x]
  exact hs
end Go.Proofs.Ytllojkdacinhfaa.Pl
