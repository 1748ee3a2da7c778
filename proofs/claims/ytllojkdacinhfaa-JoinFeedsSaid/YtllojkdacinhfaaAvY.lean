/- A part of a way to reckon what a Go program does without its memory (AvY). -/
import Derived.Test.YtllojkdacinhfaaAvX
namespace Go.Av
open Go Go.RowKit
set_option autoImplicit false
set_option linter.all false
section
variable {P : Program}
theorem put_rep {R : Rd} {e : List V} {a : Act} {d : Option Nat} {x : V} {v : Value} (hE : CRep R e a.tmps.toList) (hv : VRep R x v) : CRep R (putD e d x) (a.put d v).tmps.toList := by
  cases d with
  | none => exact hE
  | some i =>
    simp only [putD, Act.put, Array.toList_setIfInBounds]
    exact CRep_set i hE hv
theorem put_defers {a : Act} {d : Option Nat} {v : Value} : (a.put d v).defers = a.defers := by cases d <;> rfl
theorem guard_sound {ops : Array Oper} {R : Rd} {a : Act} {e : List V} {j t : Nat} {b c : Bool} (hg : (ops[j]?).bind (·.dst) = some t) (hE : CRep R e a.tmps.toList) (hv : nth e t = .bool c) : (yielded ops a.tmps j == some b) = (c == b) := by
  unfold yielded
  rw [hg]
  simp only [Option.bind_some]
  rcases Nat.lt_or_ge t a.tmps.size with h | h
  · have h1 : a.tmps.toList[t]? = some a.tmps[t] := by simp [h]
    have h2 := CRep_get t _ hE h1
    rw [hv, VRep_bool] at h2
    simp [h, h2]
  · have : nth e t = .junk := nth_out (by rw [CRep_length hE]; simpa using h)
    rw [this] at hv; cases hv
theorem guard_sound_tup {ops : Array Oper} {R : Rd} {a : Act} {e : List V} {j t : Nat} {b : Bool} {vs : List V} (hg : (ops[j]?).bind (·.dst) = some t) (hE : CRep R e a.tmps.toList) (hv : nth e t = .tup vs) : (yielded ops a.tmps j == some b) = false := by
  unfold yielded
  rw [hg]
  simp only [Option.bind_some]
  rcases Nat.lt_or_ge t a.tmps.size with h | h
  · have h1 : a.tmps.toList[t]? = some a.tmps[t] := by simp [h]
    have h2 := CRep_get t _ hE h1
    rw [hv] at h2
    simp only [VRep] at h2
    obtain ⟨ds, h2, _⟩ := h2
    simp [h, h2]
  · have : nth e t = .junk := nth_out (by rw [CRep_length hE]; simpa using h)
    rw [this] at hv; cases hv
theorem cGuard_some {ops : Array Oper} {j : Nat} {b : Bool} {g : Option (Nat × Bool)} (h : cGuard ops (some (j, b)) = some g) : ∃ t, (ops[j]?).bind (·.dst) = some t ∧ g = some (t, b) := by
  unfold cGuard at h
  split at h
  · rename_i h0; cases h0
  · rename_i j' b' h0
    cases h0
    split at h
    · rename_i d hd
      cases h
      exact ⟨d, hd, rfl⟩
    · cases h
theorem ops_cons (o : AO) (l : List AO) (K : K1) (e : List V) (H : List Entry) : ops P (o :: l) K e H = opK P o (putK P o.dst l K e) e H := rfl
theorem opK_sound {ops : Array Oper} {o : Oper} {ao : AOp} {g : Option (Nat × Bool)} {C : Ctx} {a : Act} {e : List V} {K : KV} {i : Nat} {Q : Exit → Act → World → Prop} {next : Act → World → Prop} (hi : ops[i]? = some o) (hc : cOp P o = some ao) (hg : cGuard ops o.guard = some g)
    (hC : HRep C) (hE : CRep C.R e a.tmps.toList) (hk : opK P ⟨o.dst, ao, g⟩ K e C.H)
    (hn : ∀ (C' : Ctx) (x : V) (v : Value), Tr C C' → HRep C' → VRep C'.R x v → K x C'.H → next (a.put o.dst v) C'.w) : wpOp P ops Q i next a C.w := by
  unfold wpOp
  simp only [hi]
  unfold opK at hk
  cases hog : o.guard with
  | none =>
    rw [hog] at hg
    simp only [cGuard, Option.some.injEq] at hg
    subst hg
    simp only [Region.wanted, hog, if_true]
    exact .inl (op_sound hc hC hE hk hn)
  | some jb =>
    obtain ⟨j, b⟩ := jb
    rw [hog] at hg
    obtain ⟨t, ht, rfl⟩ := cGuard_some hg
    simp only [Region.wanted, hog] at hk ⊢
    split at hk
    · rename_i c hv
      rw [guard_sound ht hE hv]
      cases hcb : (c == b) with
      | true =>
        rw [hcb] at hk
        simp only [if_true]
        exact .inl (op_sound hc hC hE hk hn)
      | false =>
        rw [hcb] at hk
        simp only [Bool.false_eq_true, if_false]
        exact hn C _ undef (Tr.refl C) hC VRep_undef hk
    · rename_i vs hv
      rw [guard_sound_tup ht hE hv]
      simp only [Bool.false_eq_true, if_false]
      exact hn C _ undef (Tr.refl C) hC VRep_undef hk
    · exact hk.elim
theorem cOps_cons {ops : Array Oper} {o : Oper} {l : List Oper} {aos : List AO} (h : cOps P ops (o :: l) = some aos) : ∃ ao g r, cOp P o = some ao ∧ cGuard ops o.guard = some g ∧ cOps P ops l = some r ∧ aos = ⟨o.dst, ao, g⟩ :: r := by
  simp only [cOps] at h
  split at h
  · rename_i a g r h1 h2 h3
    cases h
    exact ⟨a, g, r, h1, h2, h3, rfl⟩
  · cases h
theorem ops_sound {ops : Array Oper} {Q : Exit → Act → World → Prop} {K : K1} : ∀ (l : List Oper) (i : Nat) (aos : List AO), cOps P ops l = some aos → (∀ k o, l[k]? = some o → ops[i + k]? = some o) →
    ∀ (C : Ctx) (a : Act) (e : List V), HRep C → CRep C.R e a.tmps.toList → Av.ops P aos K e C.H →
    (∀ (C' : Ctx) (a' : Act) (e' : List V), Tr C C' → HRep C' → CRep C'.R e' a'.tmps.toList → a'.defers = a.defers → K e' C'.H → Q .normal a' C'.w) → wpOps P ops Q (List.range' i l.length) a C.w
  | [], i, aos, h, _, C, a, e, hC, hE, hk, hn => by
    simp only [cOps, Option.some.injEq] at h
    subst h
    simp only [List.length_nil, List.range'_zero, wpOps]
    exact hn C a e (Tr.refl C) hC hE rfl hk
  | o :: l, i, aos, h, hl, C, a, e, hC, hE, hk, hn => by
    obtain ⟨ao, g, r, h1, h2, h3, rfl⟩ := cOps_cons h
    have hi : ops[i]? = some o := hl 0 o rfl
    rw [ops_cons] at hk
    rw [List.length_cons, List.range'_succ, wpOps_cons]
    refine opK_sound hi h1 h2 hC hE hk fun C' x v ht hC' hv hK => ?_
    refine ops_sound l (i + 1) r h3 (fun k o' hk' => by rw [show i + 1 + k = i + (k + 1) by omega]; exact hl (k + 1) o' (by simpa using hk')) C' (a.put o.dst v) (putD e o.dst x) hC' (put_rep (CRep_tr ht.R _ _ hE) hv) hK ?_
    intro C2 a2 e2 t2 r2 c2 d2 k2
    exact hn C2 a2 e2 (ht.trans t2) r2 c2 (d2.trans put_defers) k2
theorem region_sound {ops : Array Oper} {Q : Exit → Act → World → Prop} {K : K1} {id : Nat} {aos : List AO} (h : cOps P ops ops.toList = some aos) (C : Ctx) (a : Act) (e : List V) (hC : HRep C) (hE : CRep C.R e a.tmps.toList) (hk : Av.ops P aos K e C.H)
    (hn : ∀ (C' : Ctx) (a' : Act) (e' : List V), Tr C C' → HRep C' → CRep C'.R e' a'.tmps.toList → a'.defers = a.defers → K e' C'.H → Q .normal a' C'.w) : (Code.region id ops false).wp P Q a C.w := by
  apply wp_region
  have := ops_sound (Q := Q) ops.toList 0 aos h (fun k o hk => by simpa using hk) C a e hC hE hk hn
  rw [List.range_eq_range']
  simpa using this
end
end Go.Av
