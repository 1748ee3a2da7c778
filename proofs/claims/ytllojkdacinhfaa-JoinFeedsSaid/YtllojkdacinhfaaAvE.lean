/- A part of a way to reckon what a Go program does without its memory (AvE). -/
import Derived.Test.YtllojkdacinhfaaAvD
import Derived.WalkKit
import Derived.Laws.MakeOwn
import Derived.Laws.StructEq
namespace Go.Av
open Go Go.RowKit
set_option autoImplicit false
set_option linter.all false

/-! ### Values, and their cells -/
section
variable {R : Rd}
theorem CRep_nil : CRep R [] [] := by simp [CRep]
theorem CRep_cons {c : V} {cs : List V} {d : Value} {ds : List Value} (h : VRep R c d) (h2 : CRep R cs ds) : CRep R (c :: cs) (d :: ds) := by
  simp only [CRep]; exact ⟨d, ds, rfl, h, h2⟩
theorem CRep_length : ∀ {cs : List V} {ds : List Value}, CRep R cs ds → cs.length = ds.length
  | [], ds, h => by simp only [CRep] at h; subst h; rfl
  | c :: cs, ds, h => by
    simp only [CRep] at h
    obtain ⟨d, r, rfl, _, h2⟩ := h
    simp [CRep_length h2]
theorem CRep_get : ∀ {cs : List V} {ds : List Value} (i : Nat) (d : Value), CRep R cs ds → ds[i]? = some d → VRep R (nth cs i) d
  | [], ds, i, d, h, hd => by simp only [CRep] at h; subst h; simp at hd
  | c :: cs, ds, i, d, h, hd => by
    simp only [CRep] at h
    obtain ⟨d', r, rfl, h1, h2⟩ := h
    cases i with
    | zero => simp at hd; subst hd; exact h1
    | succ i => simp only [List.getElem?_cons_succ] at hd; exact CRep_get i d h2 hd
theorem nth_out : ∀ {cs : List V} {i : Nat}, cs.length ≤ i → nth cs i = .junk
  | [], _, _ => rfl
  | c :: cs, 0, h => by simp at h
  | c :: cs, i + 1, h => nth_out (cs := cs) (i := i) (by simpa using h)
theorem CRep_nth {cs : List V} {ds : List Value} (i : Nat) (h : CRep R cs ds) : VRep R (nth cs i) (ds.getD i undef) := by
  cases hd : ds[i]? with
  | none =>
    rw [nth_out (by rw [CRep_length h]; exact List.getElem?_eq_none_iff.1 hd)]
    simp only [VRep]
  | some d => rw [List.getD_eq_getElem?_getD, hd]; exact CRep_get i d h hd
theorem CRep_drop : ∀ {cs : List V} {ds : List Value} (n : Nat), CRep R cs ds → CRep R (cs.drop n) (ds.drop n)
  | cs, ds, 0, h => h
  | [], ds, n + 1, h => by simp only [CRep] at h; subst h; simp [CRep]
  | c :: cs, ds, n + 1, h => by
    simp only [CRep] at h
    obtain ⟨d', r, rfl, h1, h2⟩ := h
    simpa using CRep_drop n h2
theorem CRep_take : ∀ {cs : List V} {ds : List Value} (n : Nat), CRep R cs ds → CRep R (cs.take n) (ds.take n)
  | cs, ds, 0, h => by simp [CRep]
  | [], ds, n + 1, h => by simp only [CRep] at h; subst h; simp [CRep]
  | c :: cs, ds, n + 1, h => by
    simp only [CRep] at h
    obtain ⟨d', r, rfl, h1, h2⟩ := h
    simpa using CRep_cons h1 (CRep_take n h2)
theorem CRep_append : ∀ {cs cs' : List V} {ds ds' : List Value}, CRep R cs ds → CRep R cs' ds' → CRep R (cs ++ cs') (ds ++ ds')
  | [], _, ds, _, h, h' => by simp only [CRep] at h; subst h; exact h'
  | c :: cs, _, ds, _, h, h' => by
    simp only [CRep] at h
    obtain ⟨d', r, rfl, h1, h2⟩ := h
    exact CRep_cons h1 (CRep_append h2 h')
theorem CRep_set : ∀ {e : List V} {ds : List Value} (i : Nat) {x : V} {v : Value}, CRep R e ds → VRep R x v → CRep R (setAt e i x) (ds.set i v)
  | [], ds, i, x, v, h, _ => by simp only [CRep] at h; subst h; simp [setAt, CRep]
  | c :: e, ds, 0, x, v, h, hv => by
    simp only [CRep] at h
    obtain ⟨d', r, rfl, h1, h2⟩ := h
    simpa [setAt] using CRep_cons hv h2
  | c :: e, ds, i + 1, x, v, h, hv => by
    simp only [CRep] at h
    obtain ⟨d', r, rfl, h1, h2⟩ := h
    simpa [setAt] using CRep_cons h1 (CRep_set i h2 hv)
theorem VRep_int {k : IntKind} {n : Int} {v : Value} : VRep R (.int k n) v ↔ v = .int k n := by simp only [VRep]
theorem VRep_bool {b : Bool} {v : Value} : VRep R (.bool b) v ↔ v = .bool b := by simp only [VRep]
theorem VRep_str {s : List UInt8} {v : Value} : VRep R (.str s) v ↔ v = .string ⟨s.toArray⟩ := by simp only [VRep]
theorem VRep_undef : VRep R undefV undef := by simp [undefV, undef, VRep, CRep]
theorem VRep_junk {v : Value} : VRep R .junk v := by simp only [VRep]

/-- A value's cells stand for its cells. -/
theorem cells_rep {x : V} {v : Value} (h : VRep R x v) (hx : x ≠ .junk) : CRep R x.cells v.cells.toList := by
  have one : ∀ {v : Value}, VRep R x v → v.oneCell' = true → x.cells = [x] → CRep R x.cells v.cells.toList := by
    intro v h h1 h2
    rw [h2]
    cases v <;> simp [Value.oneCell'] at h1 <;> exact CRep_cons h CRep_nil
  cases x with
  | agg cs =>
    simp only [VRep] at h
    obtain ⟨ds, rfl, hc⟩ := h
    simpa [V.cells, Value.cells] using hc
  | tup cs =>
    have h' := h
    simp only [VRep] at h
    obtain ⟨ds, rfl, hc⟩ := h
    simpa [V.cells, Value.cells] using CRep_cons h' CRep_nil
  | junk => exact absurd rfl hx
  | own g l => exact one h (by simp only [VRep] at h; exact h.1) rfl
  | ptr g l => exact one h (by simp only [VRep] at h; exact h.1) rfl
  | eptr g l => exact one h (by simp only [VRep] at h; exact h.1) rfl
  | map g => exact one h (by simp only [VRep] at h; exact h.1) rfl
  | it g => exact one h (by simp only [VRep] at h; exact h.1) rfl
  | bool b => exact one h (by simp only [VRep] at h; subst h; rfl) rfl
  | int k n => exact one h (by simp only [VRep] at h; subst h; rfl) rfl
  | str k => exact one h (by simp only [VRep] at h; subst h; rfl) rfl
  | nilsl => exact one h (by simp only [VRep] at h; subst h; rfl) rfl
  | sl n xs => exact one h (by simp only [VRep] at h; rcases h with ⟨_, _, _, rfl⟩ | ⟨_, _, _, _, rfl, _⟩ <;> rfl) rfl
  | slx n xs => exact one h (by simp only [VRep] at h; rcases h with ⟨_, _, rfl⟩ | ⟨_, _, _, rfl, _⟩ <;> rfl) rfl
  | nilp => exact one h (by simp only [VRep] at h; subst h; rfl) rfl
  | ref cs => exact one h (by simp only [VRep] at h; obtain ⟨_, _, _, rfl, _⟩ := h; rfl) rfl
  | nilfn => exact one h (by simp only [VRep] at h; subst h; rfl) rfl
  | fn f a b => exact one h (by simp only [VRep] at h; obtain ⟨_, _, rfl, _⟩ := h; rfl) rfl
  | nilmap => exact one h (by simp only [VRep] at h; subst h; rfl) rfl

theorem lenEq_iff : ∀ {l : List V} {n : Nat}, lenEq l n = true ↔ l.length = n
  | [], 0 => by simp [lenEq]
  | [], n + 1 => by simp [lenEq]
  | _ :: l, 0 => by simp [lenEq]
  | _ :: l, n + 1 => by simp [lenEq, lenEq_iff (l := l)]
/-- Cells laid over others. -/
theorem putC_rep : ∀ {cs : List V} {o n : Nat} {vs cs' : List V} {ds es : List Value}, putC cs o n vs = some cs' → CRep R cs ds → CRep R vs es →
    es.length = n ∧ o + n ≤ ds.length ∧ CRep R cs' (ds.take o ++ es ++ ds.drop (o + n))
  | cs, 0, 0, [], cs', ds, es, h, hc, hv => by
    simp only [putC] at h
    cases h
    simp only [CRep] at hv
    subst hv
    exact ⟨rfl, Nat.zero_le _, by simpa using hc⟩
  | [], 0, n + 1, _, cs', ds, es, h, hc, hv => by simp [putC] at h
  | [], o + 1, n, _, cs', ds, es, h, hc, hv => by simp [putC] at h
  | [], 0, 0, _ :: _, cs', ds, es, h, hc, hv => by simp [putC] at h
  | c :: cs, 0, 0, v :: vs, cs', ds, es, h, hc, hv => by simp [putC] at h
  | c :: cs, 0, n + 1, [], cs', ds, es, h, hc, hv => by simp [putC] at h
  | c :: cs, 0, n + 1, v :: vs, cs', ds, es, h, hc, hv => by
    simp only [putC, Option.map_eq_some_iff] at h
    obtain ⟨r, hr, rfl⟩ := h
    simp only [CRep] at hc hv
    obtain ⟨d, ds, rfl, h1, h2⟩ := hc
    obtain ⟨e, es, rfl, h3, h4⟩ := hv
    obtain ⟨k1, k2, k3⟩ := putC_rep hr h2 h4
    refine ⟨by simp [k1], by simp; omega, ?_⟩
    have := CRep_cons h3 k3
    simpa [show 0 + (n + 1) = n + 1 by omega] using this
  | c :: cs, o + 1, n, vs, cs', ds, es, h, hc, hv => by
    simp only [putC, Option.map_eq_some_iff] at h
    obtain ⟨r, hr, rfl⟩ := h
    simp only [CRep] at hc
    obtain ⟨d, ds, rfl, h1, h2⟩ := hc
    obtain ⟨k1, k2, k3⟩ := putC_rep hr h2 hv
    refine ⟨k1, by simp; omega, ?_⟩
    have := CRep_cons h1 k3
    simpa [show o + 1 + n = (o + n) + 1 by omega] using this
end

/-! ### Constants, and operands -/
mutual
theorem vOf_rep {R : Rd} : ∀ (v : Value) (x : V), vOf v = some x → VRep R x v ∧ x ≠ .junk
  | .bool b, x, h => by simp only [vOf, Option.some.injEq] at h; subst h; simp [VRep]
  | .int k n, x, h => by simp only [vOf, Option.some.injEq] at h; subst h; simp [VRep]
  | .string s, x, h => by simp only [vOf, Option.some.injEq] at h; subst h; simp [VRep]
  | .pointer none, x, h => by simp only [vOf, Option.some.injEq] at h; subst h; simp [VRep]
  | .slice none 0 0, x, h => by simp only [vOf, Option.some.injEq] at h; subst h; simp [VRep]
  | .nilFunc, x, h => by simp only [vOf, Option.some.injEq] at h; subst h; simp [VRep]
  | .map none, x, h => by simp only [vOf, Option.some.injEq] at h; subst h; simp [VRep]
  | .func (.func f) ⟨a⟩ ⟨b⟩, x, h => by
    simp only [vOf] at h
    split at h
    · rename_i p q h1 h2
      cases h
      exact ⟨by simp only [VRep]; exact ⟨a, b, rfl, vsOf_rep a p h1, vsOf_rep b q h2⟩, by simp⟩
    · cases h
  | .agg ⟨cs⟩, x, h => by
    simp only [vOf] at h
    split at h
    · rename_i p h1
      cases h
      exact ⟨by simp only [VRep]; exact ⟨cs, rfl, vsOf_rep cs p h1⟩, by simp⟩
    · cases h
  | .tuple ⟨cs⟩, x, h => by
    simp only [vOf] at h
    split at h
    · rename_i p h1
      cases h
      exact ⟨by simp only [VRep]; exact ⟨cs, rfl, vsOf_rep cs p h1⟩, by simp⟩
    · cases h
  | .float .., x, h => by simp [vOf] at h
  | .complex .., x, h => by simp [vOf] at h
  | .pointer (some _), x, h => by simp [vOf] at h
  | .slice (some _) _ _, x, h => by simp [vOf] at h
  | .slice none (n+1) _, x, h => by simp [vOf] at h
  | .slice none 0 (n+1), x, h => by simp [vOf] at h
  | .map (some _), x, h => by simp [vOf] at h
  | .chan _, x, h => by simp [vOf] at h
  | .func (.method _) _ _, x, h => by simp [vOf] at h
  | .func (.methodOf _ _) _ _, x, h => by simp [vOf] at h
  | .func (.via ..) _ _, x, h => by simp [vOf] at h
  | .func (.yield _) _ _, x, h => by simp [vOf] at h
  | .iface .., x, h => by simp [vOf] at h
  | .nilIface, x, h => by simp [vOf] at h
theorem vsOf_rep {R : Rd} : ∀ (l : List Value) (xs : List V), vsOf l = some xs → CRep R xs l
  | [], xs, h => by simp only [vsOf, Option.some.injEq] at h; subst h; simp [CRep]
  | v :: l, xs, h => by
    simp only [vsOf] at h
    split at h
    · rename_i p q h1 h2
      cases h
      exact CRep_cons (vOf_rep v p h1).1 (vsOf_rep l q h2)
    · cases h
end

section
variable {R : Rd} {a : Act} {e : List V}
theorem opd_rep {x : Operand} {o : Opd} (hx : cOpd x = some o) (hE : CRep R e a.tmps.toList) : VRep R (ev e o) (a.eval x) := by
  cases x with
  | tmp t =>
    simp only [cOpd, Option.some.injEq] at hx
    subst hx
    have := CRep_nth t hE
    simpa [ev, Act.eval, Array.getD_eq_getD_getElem?, List.getD_eq_getElem?_getD] using this
  | const v =>
    simp only [cOpd, Option.map_eq_some_iff] at hx
    obtain ⟨y, hy, rfl⟩ := hx
    exact (vOf_rep v y hy).1
  | global g => simp [cOpd] at hx
  | func f =>
    simp only [cOpd, Option.some.injEq] at hx
    subst hx
    simp only [ev, VRep, Act.eval]
    exact ⟨[], [], rfl, CRep_nil, CRep_nil⟩
theorem opds_rep : ∀ {xs : List Operand} {os : List Opd}, cOpds xs = some os → CRep R e a.tmps.toList → CRep R (evs e os) (xs.map a.eval)
  | [], os, hx, hE => by simp only [cOpds, Option.some.injEq] at hx; subst hx; simp [evs, CRep]
  | x :: xs, os, hx, hE => by
    simp only [cOpds] at hx
    split at hx
    · rename_i p q h1 h2
      cases hx
      exact CRep_cons (opd_rep h1 hE) (opds_rep h2 hE)
    · cases hx
theorem zero_rep {P : Program} {t : TypeId} {z : V} (h : zeroT P t = some z) : ∃ i v, P.info? t = some i ∧ i.zero = some v ∧ VRep R z v ∧ z ≠ .junk ∧ CRep R z.cells v.cells.toList := by
  unfold zeroT at h
  cases hi : P.info? t with
  | none => simp [hi] at h
  | some i =>
    cases hz : i.zero with
    | none => simp [hi, hz] at h
    | some v =>
      simp only [hi, hz, Option.bind_some] at h
      obtain ⟨h1, h2⟩ := vOf_rep (R := R) v z h
      exact ⟨i, v, rfl, hz, h1, h2, cells_rep h1 h2⟩
end
end Go.Av
