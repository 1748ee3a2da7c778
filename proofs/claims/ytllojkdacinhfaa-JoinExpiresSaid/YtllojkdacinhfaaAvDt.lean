/- A part of a way to reckon what a Go program does without its memory (AvDt). -/
import Derived.Test.YtllojkdacinhfaaAvDs
namespace Go.Av
open Go Go.RowKit
set_option autoImplicit false
set_option linter.all false
section
variable {P : Program}
theorem hasN_iff : ∀ {l : List Nat} {x : Nat}, hasN l x = true ↔ x ∈ l
  | [], x => by simp [hasN]
  | y :: l, x => by
    simp only [hasN, Bool.or_eq_true, Nat.beq_eq, List.mem_cons, hasN_iff (l := l)]
    constructor
    · rintro (h | h)
      · exact .inl h.symm
      · exact .inr h
    · rintro (h | h)
      · exact .inl h.symm
      · exact .inr h
theorem edgeOk_spec {w : List (List Nat)} {i : Nat} : ∀ {l : List Edge}, edgeOk w i l = true → ∀ e ∈ l, Region.binds .any e = true → e.on < i
  | [], _, e, he, _ => by simp at he
  | x :: l, h, e, he, hb => by
    simp only [edgeOk, Bool.and_eq_true, Bool.or_eq_true, Bool.not_eq_true'] at h
    rcases List.mem_cons.1 he with rfl | he
    · rcases h.1 with h1 | h1
      · rw [hb] at h1; cases h1
      · exact Nat.le_of_ble_eq_true h1
    · exact edgeOk_spec h.2 e he hb
theorem waitOk_spec {w : List (List Nat)} {es : List Edge} : ∀ {l : List Nat}, waitOk w es l = true → ∀ j ∈ l, ∃ e ∈ es, Region.binds .any e = true ∧ (e.on = j ∨ j ∈ (w[e.on]?).getD [])
  | [], _, j, hj => by simp at hj
  | x :: l, h, j, hj => by
    simp only [waitOk, Bool.and_eq_true, List.any_eq_true, Bool.or_eq_true, Nat.beq_eq, hasN_iff] at h
    rcases List.mem_cons.1 hj with rfl | hj
    · obtain ⟨e, he, hb, h1⟩ := h.1
      exact ⟨e, he, hb, h1⟩
    · exact waitOk_spec h.2 j hj
theorem pairOk_spec {w : List Nat} {y : AO} : ∀ {l : List AO} {i : Nat}, pairOk w y i l = true → ∀ k x, l[k]? = some x → x.clash y = true → i + k ∈ w
  | [], _, _, k, x, h, _ => by simp at h
  | z :: l, i, h, 0, x, hx, hc => by
    simp at hx; subst hx
    simp only [pairOk, Bool.and_eq_true, Bool.or_eq_true, Bool.not_eq_true', hasN_iff] at h
    rcases h.1 with h1 | h1
    · rw [hc] at h1; cases h1
    · exact h1
  | z :: l, i, h, k + 1, x, hx, hc => by
    simp only [pairOk, Bool.and_eq_true] at h
    have := pairOk_spec h.2 k x (by simpa using hx) hc
    rw [show i + (k + 1) = i + 1 + k by omega]; exact this
/-- What is known of a region whose operations may be done in any order. -/
structure DrawFacts (w : List (List Nat)) (os : List Oper) (l : List AO) : Prop where
  len : os.length = l.length
  cls : ∀ o ∈ l, 1 ≤ o.op.cls
  edge : ∀ (i : Nat) (o : Oper), os[i]? = some o → ∀ e ∈ o.after, Region.binds .any e = true → e.on < i
  wait : ∀ (i : Nat) (o : Oper), os[i]? = some o → ∀ j ∈ (w[i]?).getD [], ∃ e ∈ o.after, Region.binds .any e = true ∧ (e.on = j ∨ j ∈ (w[e.on]?).getD [])
  cst : ∀ o ∈ l, constOk o.op.opds = true
  pair : ∀ (i j : Nat) (x y : AO), i < j → l[i]? = some x → l[j]? = some y → x.clash y = true → i ∈ (w[j]?).getD []
theorem drawGo_spec {w : List (List Nat)} : ∀ {os : List Oper} {l before : List AO} {i : Nat}, before.length = i → drawGo w i before os l = true →
    os.length = l.length ∧ (∀ o ∈ l, 1 ≤ o.op.cls ∧ constOk o.op.opds = true) ∧ (∀ (k : Nat) (o : Oper), os[k]? = some o → ∀ e ∈ o.after, Region.binds .any e = true → e.on < i + k) ∧
    (∀ (k : Nat) (o : Oper), os[k]? = some o → ∀ j ∈ (w[i + k]?).getD [], ∃ e ∈ o.after, Region.binds .any e = true ∧ (e.on = j ∨ j ∈ (w[e.on]?).getD [])) ∧
    (∀ (k j : Nat) (x y : AO), k < i + j → (before ++ l)[k]? = some x → l[j]? = some y → x.clash y = true → k ∈ (w[i + j]?).getD [])
  | [], [], before, i, hb, h => ⟨rfl, by simp, by simp, by simp, by simp⟩
  | [], _ :: _, before, i, hb, h => by simp [drawGo] at h
  | _ :: _, [], before, i, hb, h => by simp [drawGo] at h
  | o :: os, a :: l, before, i, hb, h => by
    simp only [drawGo, Bool.and_eq_true] at h
    obtain ⟨h1, h0, h2, h3, h4, h5⟩ := h
    obtain ⟨k1, k2, k3, k4, k5⟩ := drawGo_spec (before := before ++ [a]) (i := i + 1) (by simp [hb]) h5
    refine ⟨by simp [k1], ?_, ?_, ?_, ?_⟩
    · intro o' ho'
      rcases List.mem_cons.1 ho' with rfl | ho'
      · exact ⟨Nat.le_of_ble_eq_true h1, h0⟩
      · exact k2 o' ho'
    · intro k o' ho' e he hbd
      cases k with
      | zero => simp at ho'; subst ho'; exact edgeOk_spec h2 e (by simpa using he) hbd
      | succ k =>
        have := k3 k o' (by simpa using ho') e he hbd
        omega
    · intro k o' ho' j hj
      cases k with
      | zero =>
        simp at ho'; subst ho'
        obtain ⟨e, he, hbd, h⟩ := waitOk_spec h3 j hj
        exact ⟨e, by simpa using he, hbd, h⟩
      | succ k => exact k4 k o' (by simpa using ho') j (by rw [show i + 1 + k = i + (k + 1) by omega]; exact hj)
    · intro k j x y hkj hx hy hc
      cases j with
      | zero =>
        simp at hy; subst hy
        rw [List.getElem?_append_left (by omega)] at hx
        have := pairOk_spec h4 k x hx hc
        simpa using this
      | succ j =>
        rw [show i + (j + 1) = i + 1 + j by omega]
        exact k5 k j x y (by omega) (by simpa using hx) (by simpa using hy) hc
theorem drawOk_spec {os : List Oper} {l : List AO} (h : drawOk os l = true) : DrawFacts (waitA [] os) os l := by
  obtain ⟨k1, k2, k3, k4, k5⟩ := drawGo_spec (before := []) (i := 0) rfl h
  exact ⟨k1, fun o ho => (k2 o ho).1, fun i o ho e he hb => by have := k3 i o ho e he hb; omega, fun i o ho j hj => k4 i o ho j (by simpa using hj), fun o ho => (k2 o ho).2, fun i j x y hij hx hy hc => by
    have := k5 i j x y (by omega) (by simpa using hx) hy hc
    simpa using this⟩
theorem tmpsOf_mem : ∀ {l : List Opd} {t : Nat}, Opd.t t ∈ l → t ∈ tmpsOf l
  | [], _, h => by simp at h
  | .t i :: l, t, h => by
    simp only [tmpsOf, List.mem_cons] at h ⊢
    rcases h with h | h
    · cases h; exact .inl rfl
    · exact .inr (tmpsOf_mem h)
  | .c v :: l, t, h => by
    simp only [tmpsOf, List.mem_cons] at h ⊢
    rcases h with h | h
    · cases h
    · exact tmpsOf_mem h
theorem ev_congr {e e' : List V} {x : Opd} (h : ∀ t, x = .t t → nth e t = nth e' t) : ev e x = ev e' x := by
  cases x with
  | t i => exact h i rfl
  | c v => rfl
/-- What it looks at counts. -/
theorem opK_reads {o : AO} {e e' : List V} {H : List Entry} {K : KV} (hc : 1 ≤ o.op.cls) (h : ∀ t ∈ o.rds, nth e t = nth e' t) : opK P o K e H = opK P o K e' H := by
  have hs : ∀ t ∈ tmpsOf o.op.opds, nth e t = nth e' t := fun t ht => h t (by unfold AO.rds; split <;> simp [ht])
  have hst : step P o.op e H K = step P o.op e' H K := step_reads (by omega) fun x hx => ev_congr fun t ht => hs t (tmpsOf_mem (by rw [← ht]; exact hx))
  unfold opK
  cases hg : o.guard with
  | none => exact hst
  | some tb =>
    obtain ⟨t, b⟩ := tb
    have : nth e t = nth e' t := h t (by unfold AO.rds; rw [hg]; simp)
    simp only [this, hst]
theorem clash_write {x y : AO} {d : Nat} (hx : x.dst = some d) (hy : y.dst = some d) : x.clash y = true := by
  unfold AO.clash
  rw [hx, hy]
  simp
theorem clash_read {x y : AO} {d : Nat} (hx : x.dst = some d) (hy : d ∈ y.rds) : x.clash y = true := by
  unfold AO.clash
  rw [hx]
  simp [hasN_iff.2 hy]
theorem clash_read' {x y : AO} {d : Nat} (hx : y.dst = some d) (hy : d ∈ x.rds) : x.clash y = true := by
  unfold AO.clash
  rw [hx]
  simp [hasN_iff.2 hy]
theorem clash_cls {x y : AO} (h : hcl x.op.cls y.op.cls = true) : x.clash y = true := by
  unfold AO.clash
  rw [h]
  simp
theorem hcl_comm {a b : Nat} (h : hcl a b = true) : hcl b a = true := by
  unfold hcl at h ⊢
  simp only [Bool.or_eq_true, Bool.and_eq_true] at h ⊢
  rcases h with h | h | h
  · exact .inr (.inl h)
  · exact .inl h
  · exact .inr (.inr ⟨h.2, h.1⟩)
theorem ev_gid {R : Rd} {y : V} {v : Value} {g : Nat} (h : VRep R y v) (hg : gid y = some g) : R.sh g ≠ none := by
  intro hn
  cases y <;> simp only [gid, reduceCtorEq, Option.some.injEq] at hg <;> subst hg <;> simp only [VRep, hn, and_false] at h
def unl : List Bool → Nat
  | [] => 0
  | b :: l => (bif b then 0 else 1) + unl l
theorem constOk_spec : ∀ {l : List Opd} {v : V}, constOk l = true → Opd.c v ∈ l → gid v = none
  | [], _, _, h => by simp at h
  | .t i :: l, v, hc, h => by
    simp only [constOk] at hc
    rcases List.mem_cons.1 h with h | h
    · cases h
    · exact constOk_spec hc h
  | .c w :: l, v, hc, h => by
    simp only [constOk, Bool.and_eq_true, Option.isNone_iff_eq_none] at hc
    rcases List.mem_cons.1 h with h | h
    · cases h; exact hc.1
    · exact constOk_spec hc.2 h
theorem unl_set : ∀ {l : List Bool} {i : Nat}, l[i]? = some false → unl (l.set i true) + 1 = unl l
  | [], _, h => by simp at h
  | b :: l, 0, h => by
    simp at h; subst h
    simp [unl] <;> omega
  | b :: l, i + 1, h => by
    have := unl_set (l := l) (i := i) (by simpa using h)
    simp only [List.set_cons_succ, unl]; omega
theorem unl_zero : ∀ {l : List Bool}, unl l = 0 → ∀ i, i < l.length → l[i]? = some true
  | [], _, i, h => by simp at h
  | b :: l, hu, i, h => by
    simp only [unl] at hu
    cases b with
    | false => simp at hu
    | true =>
      cases i with
      | zero => rfl
      | succ i => simpa using unl_zero (l := l) (by simpa using hu) i (by simpa using h)
theorem unl_rep : ∀ n, unl (List.replicate n false) = n
  | 0 => rfl
  | n + 1 => by simp [List.replicate_succ, unl, unl_rep n] <;> omega
end
end Go.Av
