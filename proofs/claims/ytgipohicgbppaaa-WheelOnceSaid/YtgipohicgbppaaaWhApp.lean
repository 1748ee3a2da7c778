/- Layer 11: an append to a list of the call's own, wherever the other one lies. -/
import Derived.Test.YtgipohicgbppaaaWhR
import Derived.BigFrame
import Derived.Test.YtgipohicgbppaaaWhMath
namespace Go.Proofs.Ytgipohicgbppaaa
open Go.RowKit Go.Shelf
theorem RdU.some {w : World} {a : Addr} {X : List Int} (h : RdU w (some a) X) : ∀ (j : Nat) (u : Value), (flatI X)[j]? = some u → w.cell? (a.add j) = some u := by
  intro j u hj
  have hlt : j < X.length := by
    have := (List.getElem?_eq_some_iff.1 hj).1
    simpa [flatI] using this
  obtain ⟨b, o, e, _, hc⟩ := h.at j hlt
  cases e
  rw [addr_add, hc]
  unfold flatI at hj
  rw [List.getElem?_map, List.getElem?_eq_getElem hlt] at hj
  exact hj
theorem RdU.none {w : World} {X : List Int} (h : RdU w none X) : X = [] := by
  cases X with
  | nil => rfl
  | cons x X => obtain ⟨b, o, e, _⟩ := h.out (by simp); cases e
theorem OwnU.nil_cap {w : World} {b : Nat} {X : List Int} {pa : Option Addr} {n cap : Nat} (h : OwnU w b (.slice pa n cap) X) : pa = none → cap = 0 := by
  rintro rfl
  rcases h.own.2 with ⟨e, _⟩ | ⟨g, c, cur, e, _⟩
  · simp at e; exact e.2
  · simp at e
theorem ownU_args {w : World} {base : Nat} {v : Value} {X : List Int} (h : OwnU w base v X) : ∃ pa cap, v = .slice pa X.length cap ∧ X.length ≤ cap ∧ RdU w pa X ∧ (pa = none → cap = 0) := by
  obtain ⟨pa, cap, rfl, hc, hr⟩ := h.rd
  exact ⟨pa, cap, rfl, hc, hr, h.nil_cap⟩
theorem flatI_one (X : List Int) : ∀ u ∈ flatI X, u.oneCell' = true := by
  intro u hu
  unfold flatI at hu
  rw [List.mem_map] at hu
  obtain ⟨x, _, rfl⟩ := hu
  rfl
theorem wpList_appU {w : World} {ops : Array Oper} {rest : List Oper} {o : Oper} {a : Act} {Q : Exit → Act → World → Prop} (hw : Region.wanted o (yielded ops a.tmps) = true) (s x : Operand)
    (ho : o.op = .call { callee := .builtin .append, args := #[s, x], argTypes := #[44, 44] }) (base : Nat) (v : Value) (A B : List Int) (hs : a.eval s = v) (hown : OwnU w base v A)
    (pa : Option Addr) (cap : Nat) (hx : a.eval x = .slice pa B.length cap) (hr : RdU w pa B) (hn : pa = none → cap = 0) (hl : A.length + B.length ≤ 1000) (hbase : base ≤ w.heap.size)
    (h : ∀ v' w', OwnU w' base v' (A ++ B) → Below base w w' → wpList Try.prog ops Q rest (a.put o.dst v') w') : wpList Try.prog ops Q (o :: rest) a w := by
  obtain ⟨i0, hi, hz0, hz1, hz2⟩ := info_parts info_u
  cases pa with
  | none =>
    obtain rfl := hr.none
    obtain rfl := hn rfl
    have hrun := run_append_owned_none (P := Try.prog) (w := w) base 44 o.type 23 i0 1 Try.underlying44 hi v _ _ hown.own
    refine BigFrame.wpList_want hw fun K hK => ?_
    unfold Oper.wp
    simp only [List.length_nil] at hx
    simp [execOp, ho, resolve, invoke, builtin, hs, hx, hrun, Result.andThen]
    exact hK _ _ (h _ _ (by simpa using hown) (Below.refl _ _))
  | some ad =>
    refine BigFrame.wpList_want hw fun K hK => ?_
    refine wp_append_own _ s x 44 ho base 23 i0 (.int .u64 0) 1 8 Try.underlying44 hi hz0 hz1 hz2 rfl (by decide) v _ _ hs hown.own ad B.length cap (flatI B) hx (by simp [flatI]) hr.some (flatI_one B) (by unfold maxLen; omega) (by omega) hbase ?_
    intro v' w' h1 h2 _
    refine hK _ _ (h v' w' ⟨by simpa [flatI] using h1⟩ ((Below.refl _ _).grown h2 hbase (own_base hown.own)))
theorem wpList_appT {w : World} {ops : Array Oper} {rest : List Oper} {o : Oper} {a : Act} {Q : Exit → Act → World → Prop} (hw : Region.wanted o (yielded ops a.tmps) = true) (s x : Operand)
    (ho : o.op = .call { callee := .builtin .append, args := #[s, x], argTypes := #[22, 22] }) (base : Nat) (v : Value) (A B : List Tm) (hs : a.eval s = v) (hown : Own w base v A)
    (pa : Option Addr) (cap : Nat) (hx : a.eval x = .slice pa B.length cap) (hr : Rd w pa B) (hn : pa = none → cap = 0) (hl : A.length + B.length ≤ 1000) (hbase : base ≤ w.heap.size)
    (h : ∀ v' w', Own w' base v' (A ++ B) → Below base w w' → wpList Try.prog ops Q rest (a.put o.dst v') w') : wpList Try.prog ops Q (o :: rest) a w := by
  obtain ⟨i0, hi, hz0, hz1, hz2⟩ := info_parts info_tm
  cases pa with
  | none =>
    obtain rfl := hr.none
    obtain rfl := hn rfl
    have hrun := run_append_owned_none (P := Try.prog) (w := w) base 22 o.type 38 i0 2 Try.underlying22 hi v _ _ hown.own
    refine BigFrame.wpList_want hw fun K hK => ?_
    unfold Oper.wp
    simp only [List.length_nil] at hx
    simp [execOp, ho, resolve, invoke, builtin, hs, hx, hrun, Result.andThen]
    exact hK _ _ (h _ _ (by simpa using hown) (Below.refl _ _))
  | some ad =>
    refine BigFrame.wpList_want hw fun K hK => ?_
    refine wp_append_own _ s x 22 ho base 38 i0 (.agg #[.int .i64 0, .int .u64 0]) 2 16 Try.underlying22 hi hz0 hz1 hz2 rfl (by decide) v _ _ hs hown.own ad B.length cap (flatT B) hx (flatT_len B) hr.some (flatT_one B) (by unfold maxLen; omega) (by omega) hbase ?_
    intro v' w' h1 h2 _
    refine hK _ _ (h v' w' ⟨by rw [List.length_append, flatT_append]; exact h1⟩ ((Below.refl _ _).grown h2 hbase (own_base hown.own)))
end Go.Proofs.Ytgipohicgbppaaa
