/- A part of a way to reckon what a Go program does without its memory (AvJ). -/
import Derived.Test.YtllojkdacinhfaaAvI
namespace Go.Av
open Go Go.RowKit
set_option autoImplicit false
set_option linter.all false
section
variable {P : Program}
/-! ### Equality of structs and arrays, cell by cell -/
theorem cellsEq_append : ∀ {ks ls : List Nat} {a c : List V} {x : Bool}, cellsEq (ks ++ ls) a c = some x →
    ∃ y z, cellsEq ks (a.take ks.length) (c.take ks.length) = some y ∧ cellsEq ls (a.drop ks.length) (c.drop ks.length) = some z ∧ x = (y && z)
  | [], ls, a, c, x, h => ⟨true, x, by simp [cellsEq], by simpa using h, by simp⟩
  | k :: ks, ls, [], c, x, h => by simp [cellsEq] at h
  | k :: ks, ls, p :: a, [], x, h => by simp [cellsEq] at h
  | k :: ks, ls, p :: a, q :: c, x, h => by
    simp only [List.cons_append, cellsEq] at h
    split at h
    · rename_i u v h1 h2
      obtain ⟨y, z, h3, h4, rfl⟩ := cellsEq_append h2
      cases h
      exact ⟨u && y, z, by simp only [List.length_cons, List.take_succ_cons, cellsEq, h1, h3], by simpa using h4, by simp [Bool.and_assoc]⟩
    · cases h
theorem cellsEq_len : ∀ {ks : List Nat} {a c : List V} {x : Bool}, cellsEq ks a c = some x → a.length = ks.length ∧ c.length = ks.length
  | [], [], [], x, h => by simp
  | [], p :: a, c, x, h => by simp [cellsEq] at h
  | [], [], q :: c, x, h => by simp [cellsEq] at h
  | k :: ks, [], c, x, h => by simp [cellsEq] at h
  | k :: ks, p :: a, [], x, h => by simp [cellsEq] at h
  | k :: ks, p :: a, q :: c, x, h => by
    simp only [cellsEq] at h
    split at h
    · rename_i u v h1 h2
      have := cellsEq_len h2
      simp [this.1, this.2]
    · cases h
def partEq (D : Nat) (t : TypeId) (vs us : List Value) (off : Nat) : Sem Bool := do
  let x ← Go.part t vs.toArray off
  let y ← Go.part t us.toArray off
  Op.equalIn D t x y
theorem part_agg_run {t : TypeId} {n off : Nat} {ds : List Value} {w : World} (hs : sizeT P t = some n) (hu : (P.underlying t).isSome = true) (hg : isAggT P t = true) :
    (Go.part t ds.toArray off).run P w = .ok (.agg ((ds.drop off).take n).toArray) w := by
  simp [Go.part, run_isAgg hs hu, hg, run_sizeOf hs]
theorem part_atom_run {t : TypeId} {n off : Nat} {ds : List Value} {w : World} (hs : sizeT P t = some n) (hu : (P.underlying t).isSome = true) (hg : isAggT P t = false) (h : off < ds.length) :
    (Go.part t ds.toArray off).run P w = .ok ds[off] w := by
  simp [Go.part, run_isAgg hs hu, hg, h]
/-- What the cells say of a value. -/
def EqOk (P : Program) (R : Rd) (f : TypeId → Option (List Nat)) (D : Nat) : Prop :=
  ∀ (t : TypeId) (ks : List Nat) (off : Nat) (cs ds : List V) (vs us : List Value) (b : Bool) (w : World), f t = some ks → CRep R cs vs → CRep R ds us →
    cellsEq ks ((cs.drop off).take ks.length) ((ds.drop off).take ks.length) = some b → (partEq D t vs us off).run P w = .ok b w
theorem flatF_ext {f : TypeId → Option (List Nat)} : ∀ {fs : List Field} {acc ks : List Nat}, flatF f acc fs = some ks → ∃ m, ks = acc ++ m
  | [], acc, ks, h => by simp only [flatF, Option.some.injEq] at h; exact ⟨[], by simp [h]⟩
  | x :: fs, acc, ks, h => by
    simp only [flatF] at h
    split at h
    · split at h
      · rename_i l hl
        obtain ⟨m, rfl⟩ := flatF_ext h
        exact ⟨l ++ m, by simp⟩
      · cases h
    · cases h
theorem eqFields_run {R : Rd} {f : TypeId → Option (List Nat)} {D : Nat} (hf : EqOk P R f D) : ∀ (fs : List Field) (acc ks : List Nat) (cs ds : List V) (vs us : List Value) (b : Bool) (w : World),
    flatF f acc fs = some ks → CRep R cs vs → CRep R ds us → cellsEq (ks.drop acc.length) (cs.drop acc.length) (ds.drop acc.length) = some b → (Op.eqFields D vs.toArray us.toArray fs).run P w = .ok b w
  | [], acc, ks, cs, ds, vs, us, b, w, h, _, _, he => by
    simp only [flatF, Option.some.injEq] at h
    subst h
    rw [List.drop_length] at he
    have := cellsEq_len he
    have e1 := List.eq_nil_of_length_eq_zero this.1
    have e2 := List.eq_nil_of_length_eq_zero this.2
    rw [e1, e2] at he
    simp only [cellsEq, Option.some.injEq] at he
    subst he
    simp [Op.eqFields]
  | x :: fs, acc, ks, cs, ds, vs, us, b, w, h, hr, hr2, he => by
    simp only [flatF] at h
    split at h
    · rename_i hx
      split at h
      · rename_i l hl
        obtain ⟨m, hm⟩ := flatF_ext h
        subst hm
        have e1 : ((acc ++ l) ++ m).drop acc.length = l ++ m := by simp
        rw [e1] at he
        obtain ⟨y, z, h1, h2, rfl⟩ := cellsEq_append he
        rw [List.drop_drop, List.drop_drop] at h2
        have hp := hf x.type l acc.length cs ds vs us y w hl hr hr2 h1
        have hrest := eqFields_run hf fs (acc ++ l) ((acc ++ l) ++ m) cs ds vs us z w h hr hr2 (by simpa [List.length_append] using h2)
        unfold partEq at hp
        rw [← hx.1] at hp
        simp only [Op.eqFields, hx.2, ne_eq, not_false_eq_true, if_true, Sem.run_bind] at hp ⊢
        generalize (Go.part x.type vs.toArray x.offset).run P w = r1 at hp ⊢
        cases r1 with
        | halt _ _ => cases hp
        | ok p w1 =>
          simp only [Result.andThen_ok] at hp ⊢
          generalize (Go.part x.type us.toArray x.offset).run P w1 = r2 at hp ⊢
          cases r2 with
          | halt _ _ => cases hp
          | ok q w2 =>
            simp only [Result.andThen_ok] at hp ⊢
            rw [hp]
            cases y
            · simp
            · simpa using hrest
      · cases h
    · cases h
theorem flatK_size : ∀ {d : Nat} {t : TypeId} {l : List Nat}, flatK P d t = some l → sizeT P t = some l.length
  | 0, t, l, h => by simp [flatK] at h
  | d + 1, t, l, h => by
    unfold flatK at h
    split at h
    · rename_i h1 h2; cases h; simpa using h2
    · rename_i q h1 h2; cases h; simpa using h2
    · rename_i h1 h2; cases h; simpa using h2
    · rename_i fs n hu hs
      split at h
      · cases h
      · split at h
        · split at h
          · rename_i hn; cases h; rw [hs, hn]
          · cases h
        · cases h
    · rename_i len e n hu hs
      split at h
      · rename_i l' hl
        split at h
        · rename_i hn; cases h; rw [hs]; simp [hn]
        · cases h
      · cases h
    · cases h
theorem atomEq_run {R : Rd} {k : Nat} {c d : V} {v u : Value} {b : Bool} {t : TypeId} {D : Nat} {w : World} (hv : VRep R c v) (hu : VRep R d u) (he : atomEq k c d = some b)
    (ht : (k = 0 ∧ P.underlying t = some .bool) ∨ (k = 1 ∧ ∃ q, P.underlying t = some (.int q)) ∨ (k = 2 ∧ P.underlying t = some .string)) : (Op.equalIn (D + 1) t v u).run P w = .ok b w := by
  unfold atomEq at he
  split at he
  · rcases ht with ⟨_, ht⟩ | ⟨h, _⟩ | ⟨h, _⟩ <;> first | omega | skip
    rw [VRep_bool] at hv hu
    subst hv hu
    cases he
    exact run_equalIn_bool' w D t _ _ ht
  · rcases ht with ⟨h, _⟩ | ⟨_, q, ht⟩ | ⟨h, _⟩ <;> first | omega | skip
    rw [VRep_int] at hv hu
    subst hv hu
    split at he
    · rename_i hpq
      subst hpq
      cases he
      exact run_equalIn_int w D t _ _ _ _ ht
    · cases he
  · rcases ht with ⟨h, _⟩ | ⟨h, _⟩ | ⟨_, ht⟩ <;> first | omega | skip
    rw [VRep_str] at hv hu
    subst hv hu
    cases he
    rw [run_equalIn_string w D t _ _ ht]
    simp
  · cases he
theorem array_loop {R : Rd} {f : TypeId → Option (List Nat)} {D : Nat} (hf : EqOk P R f D) {e : TypeId} {l : List Nat} (hl : f e = some l) (cs ds : List V) (vs us : List Value) (hr : CRep R cs vs) (hr2 : CRep R ds us) :
    ∀ (m i : Nat) (b : Bool) (w : World), cellsEq (List.replicate m l).flatten (cs.drop (i * l.length)) (ds.drop (i * l.length)) = some b →
      (do let r ← forIn (List.range' i m) ((none : Option Bool), ()) (fun j _ => do
            let x ← Go.part e vs.toArray (j * l.length)
            let y ← Go.part e us.toArray (j * l.length)
            let z ← Op.equalIn D e x y
            if (!z) = true then Pure.pure (ForInStep.done (some false, ())) else Pure.pure (ForInStep.yield (none, ())))
          match r.1 with
          | some a => Pure.pure a
          | none => Pure.pure true : Sem Bool).run P w = .ok b w
  | 0, i, b, w, h => by
    have := cellsEq_len h
    simp only [List.replicate_zero, List.flatten_nil, List.length_nil] at this
    have e1 := List.eq_nil_of_length_eq_zero this.1
    have e2 := List.eq_nil_of_length_eq_zero this.2
    rw [e1, e2] at h
    simp only [List.replicate_zero, List.flatten_nil, cellsEq, Option.some.injEq] at h
    subst h
    simp
  | m + 1, i, b, w, h => by
    rw [List.replicate_succ, List.flatten_cons] at h
    obtain ⟨y, z, h1, h2, rfl⟩ := cellsEq_append h
    rw [List.drop_drop, List.drop_drop, show i * l.length + l.length = (i + 1) * l.length by rw [Nat.add_mul, Nat.one_mul]] at h2
    have hp := hf e l (i * l.length) cs ds vs us y w hl hr hr2 h1
    have ih := array_loop hf hl cs ds vs us hr hr2 m (i + 1) z w h2
    unfold partEq at hp
    simp only [List.range'_succ, List.forIn_cons, Sem.run_bind] at hp ih ⊢
    generalize (Go.part e vs.toArray (i * l.length)).run P w = r1 at hp ⊢
    cases r1 with
    | halt _ _ => cases hp
    | ok p w1 =>
      simp only [Result.andThen_ok] at hp ⊢
      generalize (Go.part e us.toArray (i * l.length)).run P w1 = r2 at hp ⊢
      cases r2 with
      | halt _ _ => cases hp
      | ok q w2 =>
        simp only [Result.andThen_ok] at hp ⊢
        rw [hp]
        cases y
        · simp
        · simpa using ih
theorem eqOk {R : Rd} : ∀ (d D : Nat), d ≤ D → EqOk P R (flatK P d) D
  | 0, D, _ => fun t ks off cs ds vs us b w h => by simp [flatK] at h
  | d + 1, D, hD => fun t ks off cs ds vs us b w h hr hr2 he => by
    obtain ⟨D, rfl⟩ : ∃ D', D = D' + 1 := ⟨D - 1, by omega⟩
    have ih : EqOk P R (flatK P d) D := eqOk d D (by omega)
    have hlv := CRep_length hr
    have hlu := CRep_length hr2
    have hlen := cellsEq_len he
    simp only [List.length_take, List.length_drop] at hlen
    have atom : ∀ k, ks = [k] → sizeT P t = some 1 → ((k = 0 ∧ P.underlying t = some .bool) ∨ (k = 1 ∧ ∃ q, P.underlying t = some (.int q)) ∨ (k = 2 ∧ P.underlying t = some .string)) →
        (partEq (D + 1) t vs us off).run P w = .ok b w := by
      intro k hk hs ht
      subst hk
      simp only [List.length_singleton] at hlen he
      have hu : (P.underlying t).isSome = true := by rcases ht with ⟨_, h⟩ | ⟨_, q, h⟩ | ⟨_, h⟩ <;> simp [h]
      have hg : isAggT P t = false := by rcases ht with ⟨_, h⟩ | ⟨_, q, h⟩ | ⟨_, h⟩ <;> simp [isAggT, h]
      have k1 := part_atom_run (w := w) (off := off) (ds := vs) hs hu hg (by omega)
      have k2 := part_atom_run (w := w) (off := off) (ds := us) hs hu hg (by omega)
      have r1 := CRep_take 1 (CRep_drop off hr)
      have r2 := CRep_take 1 (CRep_drop off hr2)
      have e1 : (vs.drop off).take 1 = [vs[off]] := by rw [List.drop_eq_getElem_cons (by omega)]; rfl
      have e2 : (us.drop off).take 1 = [us[off]] := by rw [List.drop_eq_getElem_cons (by omega)]; rfl
      rw [e1] at r1
      rw [e2] at r2
      generalize (cs.drop off).take 1 = A at *
      generalize (ds.drop off).take 1 = B at *
      cases A with
      | nil => simp only [CRep] at r1; cases r1
      | cons c A =>
        cases B with
        | nil => simp only [CRep] at r2; cases r2
        | cons c' B =>
          simp only [CRep, List.cons.injEq] at r1 r2
          obtain ⟨_, _, ⟨rfl, rfl⟩, g1, g2⟩ := r1
          obtain ⟨_, _, ⟨rfl, rfl⟩, g3, g4⟩ := r2
          simp only [cellsEq] at he
          split at he
          · rename_i x y h1 h2
            have he2 : atomEq k c c' = some b := by
              cases A <;> cases B <;> simp [CRep] at g2 g4
              simp only [cellsEq, Option.some.injEq] at h2
              subst h2
              simpa [h1] using he
            have := atomEq_run (D := D) (w := w) g1 g3 he2 ht
            simp [partEq, k1, k2, this]
          · cases he
    unfold flatK at h
    split at h
    · rename_i h1 h2; cases h; exact atom 0 rfl h2 (.inl ⟨rfl, h1⟩)
    · rename_i q h1 h2; cases h; exact atom 1 rfl h2 (.inr (.inl ⟨rfl, q, h1⟩))
    · rename_i h1 h2; cases h; exact atom 2 rfl h2 (.inr (.inr ⟨rfl, h1⟩))
    · rename_i fs n hu hs
      split at h
      · cases h
      · rename_i hst
        split at h
        · rename_i l hl
          split at h
          · rename_i hn
            cases h
            have hg : isAggT P t = true := by simp [isAggT, hu]
            have k1 := part_agg_run (w := w) (off := off) (ds := vs) hs (by simp [hu]) hg
            have k2 := part_agg_run (w := w) (off := off) (ds := us) hs (by simp [hu]) hg
            rw [← hn] at k1 k2
            have hfo : P.fieldsOf t = fs := by simp [Program.fieldsOf, hu]
            have := eqFields_run ih fs.toList [] ks ((cs.drop off).take ks.length) ((ds.drop off).take ks.length) ((vs.drop off).take ks.length) ((us.drop off).take ks.length) b w hl
              (CRep_take _ (CRep_drop _ hr)) (CRep_take _ (CRep_drop _ hr2)) (by simpa using he)
            have hst2 : P.stoodInHeld t = false := by simpa using hst
            simp [partEq, k1, k2]
            rw [run_equalIn_struct w D t _ _ (by rw [hfo]; exact hu) hst2, hfo]
            exact this
          · cases h
        · cases h
    · rename_i len e n hu hs
      split at h
      · rename_i l hl
        split at h
        · rename_i hn
          cases h
          have hg : isAggT P t = true := by simp [isAggT, hu]
          have hkl : (List.replicate len l).flatten.length = n := by simp [hn]
          rw [hkl] at he hlen
          have k1 := part_agg_run (w := w) (off := off) (ds := vs) hs (by simp [hu]) hg
          have k2 := part_agg_run (w := w) (off := off) (ds := us) hs (by simp [hu]) hg
          have hse : sizeT P e = some l.length := flatK_size hl
          have := array_loop ih hl _ _ _ _ (CRep_take n (CRep_drop off hr)) (CRep_take n (CRep_drop off hr2)) len 0 b w (by simpa using he)
          simp only [partEq, k1, k2, Op.equalIn, Sem.run_bind, Result.andThen_ok, run_underlying' hu, run_sizeOf hse, Std.Legacy.Range.forIn_eq_forIn_range', Std.Legacy.Range.size, Nat.sub_zero, Nat.add_sub_cancel, Nat.div_one]
          rw [Sem.run_bind] at this
          refine Eq.trans ?_ this
          congr 1
          funext a w'
          cases a.fst <;> rfl
        · cases h
      · cases h
    · cases h
end
end Go.Av
