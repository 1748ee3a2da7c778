/- Lists of api.Kept of the call's own; Grow and Clone. -/
import Derived.Test.YtllojkdacinhfaaKeA
import Derived.Lib.AppendZeros
import Derived.Laws.AppendOwnNone
import Derived.Laws.Cover3
import Derived.Deep.DeepHandedRow
import Derived.BigFrame
namespace Go.Proofs.Ytllojkdacinhfaa.Ke
open Go.RowKit Go.Shelf Go.Proofs.Ytllojkdacinhfaa
set_option linter.unusedVariables false
set_option linter.unusedSimpArgs false
/-- The cells. -/
def flat (X : List El) : List Value := X.flatMap fun x => [.int .i64 x.1, .int .u64 x.2.1, .int .i64 x.2.2]
theorem flat_cons (x : El) (X : List El) : flat (x :: X) = .int .i64 x.1 :: .int .u64 x.2.1 :: .int .i64 x.2.2 :: flat X := rfl
theorem flat_append (X Y : List El) : flat (X ++ Y) = flat X ++ flat Y := by unfold flat; rw [List.flatMap_append]
theorem flat_len : ∀ X : List El, (flat X).length = X.length * 3
  | [] => rfl
  | x :: X => by rw [flat_cons]; simp only [List.length_cons]; rw [flat_len X]; omega
theorem flat_one (X : List El) : ∀ u ∈ flat X, u.oneCell' = true := by
  intro u hu
  unfold flat at hu
  rw [List.mem_flatMap] at hu
  obtain ⟨x, _, hx⟩ := hu
  simp at hx
  rcases hx with rfl | rfl | rfl <;> rfl
theorem flat_get : ∀ (X : List El) (i : Nat) (h : i < X.length), (flat X)[i * 3]? = some (.int .i64 X[i].1) ∧ (flat X)[i * 3 + 1]? = some (.int .u64 X[i].2.1) ∧ (flat X)[i * 3 + 2]? = some (.int .i64 X[i].2.2)
  | x :: X, 0, _ => by rw [flat_cons]; simp
  | x :: X, i + 1, h => by
    have := flat_get X i (by simpa using h)
    rw [flat_cons, show (i + 1) * 3 = i * 3 + 1 + 1 + 1 by omega]
    simpa using this
theorem rdFlat {w : World} {b o : Nat} {X : List El} (hc : ∀ i (h : i < X.length), w.cell? ⟨b, o + i * 3, none⟩ = some (.int .i64 X[i].1) ∧ w.cell? ⟨b, o + i * 3 + 1, none⟩ = some (.int .u64 X[i].2.1) ∧ w.cell? ⟨b, o + i * 3 + 2, none⟩ = some (.int .i64 X[i].2.2)) :
    ∀ (j : Nat) (u : Value), (flat X)[j]? = some u → w.cell? ((⟨b, o, none⟩ : Addr).add j) = some u := by
  intro j u hj
  have hlt : j < X.length * 3 := by
    have := (List.getElem?_eq_some_iff.1 hj).1
    rw [flat_len] at this; exact this
  rw [lsAdd]
  have hg := flat_get X (j / 3) (by omega)
  have hh := hc (j / 3) (by omega)
  rcases (by omega : j = j / 3 * 3 ∨ j = j / 3 * 3 + 1 ∨ j = j / 3 * 3 + 2) with e | e | e
  · have hgi := hg.1
    have hhi := hh.1
    rw [← e] at hgi hhi
    rw [hj] at hgi
    cases hgi
    exact hhi
  · have hgi := hg.2.1
    have hhi := hh.2.1
    rw [← e] at hgi; rw [show o + j / 3 * 3 + 1 = o + j by omega] at hhi
    rw [hj] at hgi
    cases hgi
    exact hhi
  · have hgi := hg.2.2
    have hhi := hh.2.2
    rw [← e] at hgi; rw [show o + j / 3 * 3 + 2 = o + j by omega] at hhi
    rw [hj] at hgi
    cases hgi
    exact hhi
theorem Rd.cells {w : World} {a : Addr} {X : List El} (h : Rd w (some a) X) : ∀ (j : Nat) (u : Value), (flat X)[j]? = some u → w.cell? (a.add j) = some u := by
  intro j u hj
  have hne : X ≠ [] := by rintro rfl; cases hj
  obtain ⟨b, o, e, _, hc⟩ := h.out hne
  cases e
  exact rdFlat hc j u hj
/-- A list of the call's own. -/
structure Own (w : World) (base : Nat) (v : Value) (X : List El) : Prop where
  own : w.ownsRow base 27 3 v X.length (flat X)
/-- A list of the call's own, to read. -/
theorem Own.rd {w : World} {base : Nat} {v : Value} {X : List El} (h : Own w base v X) : ∃ pa cap, v = .slice pa X.length cap ∧ X.length ≤ cap ∧ Rd w pa X := by
  rcases h.own.2 with ⟨rfl, h0⟩ | ⟨g, cap, cur, rfl, hg, hh, hc, _, _, hx⟩
  · have : X = [] := List.eq_nil_of_length_eq_zero h0
    subst this
    exact ⟨none, 0, rfl, Nat.le_refl _, Rd.nil _ _⟩
  · refine ⟨some ⟨g, 0, none⟩, cap, rfl, hc, ⟨fun _ => ⟨g, 0, rfl, (h.own.lt g rfl).2, fun i hi => ?_⟩⟩⟩
    have hf := flat_get X i hi
    have e0 := h.own.cellAt (i * 3) (by omega)
    have e1 := h.own.cellAt (i * 3 + 1) (by omega)
    have e2 := h.own.cellAt (i * 3 + 2) (by omega)
    rw [Nat.zero_add]
    exact ⟨e0.trans hf.1, e1.trans hf.2.1, e2.trans hf.2.2⟩
theorem Own.nil (w : World) (base : Nat) : Own w base (.slice none 0 0) [] := ⟨World.ownsRow_nil _ _ _ _⟩
theorem Own.mono {w : World} {b b' : Nat} {v : Value} {X : List El} (h : Own w b v X) (hb : b' ≤ b) : Own w b' v X := ⟨lsOwn_mono h.own hb⟩
theorem Own.lift {w w' : World} {base : Nat} {v : Value} {X : List El} (h : Own w base v X) (hb : Below w.heap.size w w') : Own w' base v X := ⟨lsRow_lift h.own hb (Nat.le_refl _)⟩
theorem Own.nil_cap {w : World} {b : Nat} {X : List El} {pa : Option Addr} {n cap : Nat} (h : Own w b (.slice pa n cap) X) : pa = none → cap = 0 := by
  rintro rfl
  rcases h.own.2 with ⟨e, _⟩ | ⟨g, c, cur, e, _⟩
  · simp at e; exact e.2
  · simp at e
theorem Own.args {w : World} {base : Nat} {v : Value} {X : List El} (h : Own w base v X) : ∃ pa cap, v = .slice pa X.length cap ∧ X.length ≤ cap ∧ Rd w pa X ∧ (pa = none → cap = 0) := by
  obtain ⟨pa, cap, rfl, hc, hr⟩ := h.rd
  exact ⟨pa, cap, rfl, hc, hr, h.nil_cap⟩
theorem info : (Try.prog.info? 27).map (fun i => (i.zero, i.size, i.bytes)) = some (some (.agg #[.int .i64 0, .int .u64 0, .int .i64 0]), 3, 24) := by kernel_rfl
structure ListPost (X : List El) (w : World) (e : Ending) (w' : World) : Prop where
  out : ∃ v, e = .returned v ∧ Own w' w.heap.size v X ∧ Below w.heap.size w w'
theorem eql_nil (a : Option Addr) (l c : Nat) (W : World) : (binOp .eql 24 (.slice a l c) (.slice none 0 0)).run Try.prog W = .ok (.bool a.isNone) W := by
  simp only [binOp]
  simp [run_equal_slice_nil W 24 _ a l c Try.underlying24]
theorem emptyOwn (w : World) : Own (w.alloc (.cells #[] 27)) w.heap.size (.slice (some ⟨w.heap.size, 0, none⟩) 0 0) [] := by
  refine ⟨rfl, .inr ⟨w.heap.size, 0, #[], rfl, Nat.le_refl _, ?_, Nat.le_refl _, Nat.zero_le _, rfl, rfl⟩⟩
  show (w.heap.push _)[w.heap.size]? = _
  exact Array.getElem?_push_size
/-- An append to a list of the call's own, wherever the other one lies. -/
theorem wpList_app {w : World} {ops : Array Oper} {rest : List Oper} {o : Oper} {a : Act} {Q : Exit → Act → World → Prop} (hw : Region.wanted o (yielded ops a.tmps) = true) (s x : Operand)
    (ho : o.op = .call { callee := .builtin .append, args := #[s, x], argTypes := #[24, 24] }) (base : Nat) (v : Value) (A B : List El) (hs : a.eval s = v) (hown : Own w base v A)
    (pa : Option Addr) (cap : Nat) (hx : a.eval x = .slice pa B.length cap) (hr : Rd w pa B) (hn : pa = none → cap = 0) (hl : A.length + B.length ≤ 8000) (hbase : base ≤ w.heap.size)
    (h : ∀ v' w', Own w' base v' (A ++ B) → Below base w w' → wpList Try.prog ops Q rest (a.put o.dst v') w') : wpList Try.prog ops Q (o :: rest) a w := by
  obtain ⟨i0, hi, hz0, hz1, hz2⟩ := info_parts info
  cases pa with
  | none =>
    obtain rfl := hr.isNil
    obtain rfl := hn rfl
    have hrun := run_append_owned_none (P := Try.prog) (w := w) base 24 o.type 27 i0 3 Try.underlying24 hi v _ _ hown.own
    refine BigFrame.wpList_want hw fun K hK => ?_
    unfold Oper.wp
    simp only [List.length_nil] at hx
    simp [execOp, ho, resolve, invoke, builtin, hs, hx, hrun, Result.andThen]
    exact hK _ _ (h _ _ (by simpa using hown) (Below.refl _ _))
  | some ad =>
    refine BigFrame.wpList_want hw fun K hK => ?_
    refine wp_append_own _ s x 24 ho base 27 i0 (.agg #[.int .i64 0, .int .u64 0, .int .i64 0]) 3 24 Try.underlying24 hi hz0 hz1 hz2 rfl (by decide) v _ _ hs hown.own ad B.length cap (flat B) hx (flat_len B) hr.cells (flat_one B) (by unfold maxLen; omega) (by omega) hbase ?_
    intro v' w' h1 h2 _
    refine hK _ _ (h v' w' ⟨by rw [List.length_append, flat_append]; exact h1⟩ ((Below.refl _ _).grown h2 hbase (lsOwn_base hown.own)))
/-- A box of one, that may be written. -/
structure Bx (B : Nat) (w : World) (x : El) : Prop where
  c : w.cell? ⟨B, 0, none⟩ = some (.int .i64 x.1) ∧ w.cell? ⟨B, 1, none⟩ = some (.int .u64 x.2.1) ∧ w.cell? ⟨B, 2, none⟩ = some (.int .i64 x.2.2)
  f : w.frozen? ⟨B, 0, none⟩ = false ∧ w.frozen? ⟨B, 1, none⟩ = false ∧ w.frozen? ⟨B, 2, none⟩ = false
  lt : B < w.heap.size
theorem Bx.lift {B : Nat} {w w' : World} {x : El} (h : Bx B w x) (hb : Below w.heap.size w w') : Bx B w' x :=
  ⟨⟨(hb.cell (p := ⟨B, 0, none⟩) h.lt).trans h.c.1, (hb.cell (p := ⟨B, 1, none⟩) h.lt).trans h.c.2.1, (hb.cell (p := ⟨B, 2, none⟩) h.lt).trans h.c.2.2⟩, ⟨(hb.frozen (p := ⟨B, 0, none⟩) h.lt).trans h.f.1, (hb.frozen (p := ⟨B, 1, none⟩) h.lt).trans h.f.2.1, (hb.frozen (p := ⟨B, 2, none⟩) h.lt).trans h.f.2.2⟩, Nat.lt_of_lt_of_le h.lt hb.size⟩
theorem Bx.new (x : El) (w : World) : Bx w.heap.size (w.alloc (.cells #[.int .i64 x.1, .int .u64 x.2.1, .int .i64 x.2.2] 27)) x :=
  ⟨by refine ⟨?_, ?_, ?_⟩ <;> simp [go_sem], by refine ⟨?_, ?_, ?_⟩ <;> simp [go_sem], by simp⟩
/-- One that was made for an append. -/
theorem one_rd (x : El) (w : World) : Rd (w.alloc (.cells #[.int .i64 x.1, .int .u64 x.2.1, .int .i64 x.2.2] 27)) (some ⟨w.heap.size, 0, none⟩) [x] := ⟨fun _ => ⟨w.heap.size, 0, rfl, by simp, fun i hi => by
  obtain rfl : i = 0 := by simp at hi; exact hi
  simp [go_sem]⟩⟩

set_option maxHeartbeats 1000000 in
theorem clone_any (X : List El) (pa : Option Addr) (cap : Nat) (w : World) (hX : X.length ≤ 7000) (hR : Rd w pa X) :
    Calls Try.prog 34 #[.slice pa X.length cap] w (ListPost X w) := by
  obtain ⟨i0, hi, hz0, hz1, hz2⟩ := info_parts info
  cases pa with
  | none =>
    obtain rfl := hR.isNil
    have he := eql_nil none 0 cap
    have hn : (([] : List El).length) = 0 := rfl
    rw [hn]
    clear hR hX
    go_enter Try.func34, Try.ntmps34
    go_wp2
    go_ret
    exact ⟨_, rfl, Own.nil _ _, Below.refl _ _⟩
  | some a =>
    have he := eql_nil (some a) X.length cap
    have hown := emptyOwn w
    have hnews : ∀ (j : Nat) (u : Value), (flat X)[j]? = some u → (w.alloc (.cells #[] 27)).cell? (a.add j) = some u := fun j u h => lsAlloc_cell _ _ _ _ (hR.cells j u h)
    have O := Lib.hid (show (w.alloc (.cells #[] 27)).ownsRow w.heap.size 27 3 (.slice (some ⟨w.heap.size, 0, none⟩) 0 0) 0 [] from hown.own)
    have N := Lib.hid hnews
    have Hz0 := Lib.hid hz0
    have Hz1 := Lib.hid hz1
    have Hz2 := Lib.hid hz2
    clear hR hown hnews hz0 hz1 hz2
    go_enter Try.func34, Try.ntmps34
    go_wp2_with (first | (at_builtin; refine wpList_append_own _ rfl (.tmp 5) (.tmp 6) 24 rfl w.heap.size 27 i0 (.agg #[.int .i64 0, .int .u64 0, .int .i64 0]) 3 24 Try.underlying24 hi Hz0.out Hz1.out Hz2.out rfl (by decide) _ _ _ rfl O.out a X.length cap (flat X) rfl (flat_len X) N.out (flat_one X) ?c3a ?c4a ?c5a ?_))
    case c3a => unfold maxLen; omega
    case c4a => omega
    case c5a => simp
    intro v2 w2 hown2 hgr2 _
    have hb2 : Below w.heap.size w w2 := ((Below.refl _ _).alloc (Nat.le_refl _) _).grown hgr2 (by simp) (lsOwn_base O.out)
    have hown3 : Own w2 w.heap.size v2 X := ⟨by simpa using hown2⟩
    clear hown2 hgr2
    go_wp2
    go_ret
    exact ⟨v2, rfl, hown3, hb2⟩

theorem flat_set : ∀ (X : List El) (k : Nat) (_ : k < X.length) (x : El), flat (X.set k x) = (((flat X).set (k * 3) (.int .i64 x.1)).set (k * 3 + 1) (.int .u64 x.2.1)).set (k * 3 + 2) (.int .i64 x.2.2)
  | y :: X, 0, _, x => by rw [List.set_cons_zero, flat_cons, flat_cons]; rfl
  | y :: X, k + 1, h, x => by
    rw [List.set_cons_succ, flat_cons, flat_cons, flat_set X k (by simpa using h) x]
    rw [show (k + 1) * 3 = k * 3 + 1 + 1 + 1 by omega]
    simp [List.set_cons_succ]

theorem Own.set_ {w : World} {base g cap : Nat} {X : List El} (h : Own w base (.slice (some ⟨g, 0, none⟩) X.length cap) X) (k : Nat) (hk : k < X.length) (x : El) :
    Own ((((w).setCell ⟨g, k * 3, none⟩ (.int .i64 x.1)).setCell ⟨g, k * 3 + 1, none⟩ (.int .u64 x.2.1)).setCell ⟨g, k * 3 + 2, none⟩ (.int .i64 x.2.2)) base (.slice (some ⟨g, 0, none⟩) X.length cap) (X.set k x) := by
  have hs := (((((h.own.stored (k * 3) (Value.int IntKind.i64 x.1)).1).stored (k * 3 + 1) (Value.int IntKind.u64 x.2.1)).1).stored (k * 3 + 2) (Value.int IntKind.i64 x.2.2)).1
  refine ⟨?_⟩
  rw [List.length_set, flat_set X k hk x]
  exact hs
end Go.Proofs.Ytllojkdacinhfaa.Ke
