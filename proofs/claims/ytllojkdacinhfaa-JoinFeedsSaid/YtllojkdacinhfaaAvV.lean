/- A part of a way to reckon what a Go program does without its memory (AvV). -/
import Derived.Test.YtllojkdacinhfaaAvU
namespace Go.Av
open Go Go.RowKit
set_option autoImplicit false
set_option linter.all false
section
variable {P : Program} {C : Ctx} {K : KV}
/-! ### Maps -/
/-- What a value that can be held against itself is. -/
theorem valEq_shape {g : Bool} {ks : List Nat} {x y : V} {b : Bool} (h : valEq g ks x y = some b) : (g = true ∧ ∃ a c, x = .agg a ∧ y = .agg c ∧ cellsEq ks a c = some b) ∨ (g = false ∧ cellsEq ks [x] [y] = some b) := by
  unfold valEq at h
  split at h
  · exact .inl ⟨rfl, _, _, rfl, rfl, h⟩
  · exact .inr ⟨rfl, h⟩
  · cases h
def CkOk (P : Program) (R : Rd) (empty : Bool) (f : TypeId → Option (List Nat)) (D : Nat) : Prop :=
  ∀ (t : TypeId) (ks : List Nat) (off : Nat) (cs : List V) (vs : List Value) (w : World), f t = some ks → CRep R cs vs → off + ks.length ≤ cs.length →
    (do let x ← Go.part t vs.toArray off; Instr.checkKey empty D t x : Sem Unit).run P w = .ok () w
theorem ck_fields {R : Rd} {empty : Bool} {f : TypeId → Option (List Nat)} {D : Nat} (hf : CkOk P R empty f D) (cs : List V) (vs : List Value) (hr : CRep R cs vs) : ∀ (fs : List Field) (acc ks : List Nat) (w : World),
    flatF f acc fs = some ks → ks.length ≤ cs.length →
    (forIn fs PUnit.unit (fun x _ => if x.name ≠ "_" then (do let p ← Go.part x.type vs.toArray x.offset; Instr.checkKey empty D x.type p; Pure.pure (ForInStep.yield PUnit.unit)) else Pure.pure (ForInStep.yield PUnit.unit)) : Sem PUnit).run P w = .ok PUnit.unit w
  | [], acc, ks, w, _, _ => by simp
  | x :: fs, acc, ks, w, h, hl => by
    simp only [flatF] at h
    split at h
    · rename_i hx
      split at h
      · rename_i l hl2
        obtain ⟨m, hm⟩ := flatF_ext h
        have hp := hf x.type l x.offset cs vs w hl2 hr (by rw [hx.1]; have := congrArg List.length hm; simp only [List.length_append] at this; omega)
        have ih := ck_fields hf cs vs hr fs (acc ++ l) ks w h hl
        simp only [List.forIn_cons, ne_eq, hx.2, not_false_eq_true, if_true, Sem.run_bind] at hp ⊢
        generalize (Go.part x.type vs.toArray x.offset).run P w = r1 at hp ⊢
        cases r1 with
        | halt _ _ => cases hp
        | ok p w1 =>
          simp only [Result.andThen_ok] at hp ⊢
          rw [hp]
          simpa using ih
      · cases h
    · cases h
theorem ck_array {R : Rd} {empty : Bool} {f : TypeId → Option (List Nat)} {D : Nat} (hf : CkOk P R empty f D) {e : TypeId} {l : List Nat} (hl : f e = some l) (cs : List V) (vs : List Value) (hr : CRep R cs vs) (hse : sizeT P e = some l.length) :
    ∀ (m i : Nat) (w : World), (i + m) * l.length ≤ cs.length →
      (forIn (List.range' i m) PUnit.unit (fun j _ => do let s ← sizeOf e; let p ← Go.part e vs.toArray (j * s); Instr.checkKey empty D e p; Pure.pure (ForInStep.yield PUnit.unit)) : Sem PUnit).run P w = .ok PUnit.unit w
  | 0, i, w, _ => by simp
  | m + 1, i, w, h => by
    have hfit : i * l.length + l.length ≤ cs.length := by
      refine Nat.le_trans ?_ h
      rw [show i * l.length + l.length = (i + 1) * l.length by rw [Nat.add_mul, Nat.one_mul]]
      exact Nat.mul_le_mul_right _ (by omega)
    have hp := hf e l (i * l.length) cs vs w hl hr hfit
    have ih := ck_array hf hl cs vs hr hse m (i + 1) w (by rw [show i + 1 + m = i + (m + 1) by omega]; exact h)
    simp only [List.range'_succ, List.forIn_cons, Sem.run_bind, run_sizeOf hse, Result.andThen_ok] at hp ⊢
    generalize (Go.part e vs.toArray (i * l.length)).run P w = r1 at hp ⊢
    cases r1 with
    | halt _ _ => cases hp
    | ok p w1 =>
      simp only [Result.andThen_ok] at hp ⊢
      rw [hp]
      simpa using ih
theorem ckOk {R : Rd} {empty : Bool} : ∀ (d D : Nat), d ≤ D → CkOk P R empty (flatK P d) D
  | 0, D, _ => fun t ks off cs vs w h => by simp [flatK] at h
  | d + 1, D, hD => fun t ks off cs vs w h hr hfit => by
    obtain ⟨D, rfl⟩ : ∃ D', D = D' + 1 := ⟨D - 1, by omega⟩
    have ih : CkOk P R empty (flatK P d) D := ckOk d D (by omega)
    have hlv := CRep_length hr
    have atom : ks.length = 1 → sizeT P t = some 1 → (∃ dd, P.underlying t = some dd ∧ (dd = .bool ∨ dd = .string ∨ ∃ q, dd = .int q)) → (do let x ← Go.part t vs.toArray off; Instr.checkKey empty (D + 1) t x : Sem Unit).run P w = .ok () w := by
      intro hk hs ⟨dd, hu, hdd⟩
      have hg : isAggT P t = false := by rcases hdd with rfl | rfl | ⟨q, rfl⟩ <;> simp [isAggT, hu]
      have k1 := part_atom_run (w := w) (off := off) (ds := vs) hs (by simp [hu]) hg (by omega)
      simp only [Sem.run_bind, k1, Result.andThen_ok, Instr.checkKey, run_underlying' hu]
      rcases hdd with rfl | rfl | ⟨q, rfl⟩ <;> rfl
    unfold flatK at h
    split at h
    · rename_i h1 h2; cases h; exact atom rfl h2 ⟨_, h1, .inl rfl⟩
    · rename_i q h1 h2; cases h; exact atom rfl h2 ⟨_, h1, .inr (.inr ⟨q, rfl⟩)⟩
    · rename_i h1 h2; cases h; exact atom rfl h2 ⟨_, h1, .inr (.inl rfl)⟩
    · rename_i fs n hu hs
      split at h
      · cases h
      · split at h
        · rename_i l hl
          split at h
          · rename_i hn
            cases h
            have hg : isAggT P t = true := by simp [isAggT, hu]
            have k1 := part_agg_run (w := w) (off := off) (ds := vs) hs (by simp [hu]) hg
            rw [← hn] at k1
            have := ck_fields ih ((cs.drop off).take ks.length) ((vs.drop off).take ks.length) (CRep_take _ (CRep_drop _ hr)) fs.toList [] ks w hl (by simp; omega)
            simp only [Sem.run_bind, k1, Result.andThen_ok, Instr.checkKey, run_underlying' hu]
            rw [← Array.forIn_toList, this]
            rfl
          · cases h
        · cases h
    · rename_i len e n hu hs
      split at h
      · rename_i l hl
        split at h
        · rename_i hn
          cases h
          have hg : isAggT P t = true := by simp [isAggT, hu]
          have hkl : (List.replicate len l).flatten.length = n := by simp [hn]
          rw [hkl] at hfit
          have k1 := part_agg_run (w := w) (off := off) (ds := vs) hs (by simp [hu]) hg
          have hse : sizeT P e = some l.length := flatK_size hl
          have := ck_array ih hl _ _ (CRep_take n (CRep_drop off hr)) hse len 0 w (by simp [hn]; omega)
          simp only [Sem.run_bind, k1, Result.andThen_ok, Instr.checkKey, run_underlying' hu, Std.Legacy.Range.forIn_eq_forIn_range', Std.Legacy.Range.size, Nat.sub_zero, Nat.add_sub_cancel, Nat.div_one]
          rw [this]
          rfl
        · cases h
      · cases h
    · cases h
/-- A key that is one. -/
theorem key_ok {g : Bool} {ks : List Nat} {t : TypeId} {x : V} {v : Value} {empty : Bool} {w : World} (hk : flatK P 20 t = some ks) (hg : isAggT P t = g) (hx : valEq g ks x x = some true) (hv : VRep C.R x v) : (Instr.checkKey empty 10000 t v).run P w = .ok () w := by
  have hs := flatK_size hk
  have hun : (P.underlying t).isSome = true := by
    have : flatK P (19 + 1) t = some ks := hk
    unfold flatK at this
    split at this <;> simp_all
  rcases valEq_shape hx with ⟨rfl, a, c, rfl, h2, h3⟩ | ⟨rfl, h3⟩
  · cases h2
    simp only [VRep] at hv
    obtain ⟨ds, rfl, hr⟩ := hv
    have hl := cellsEq_len h3
    have hld := CRep_length hr
    have := ckOk (P := P) (R := C.R) (empty := empty) 20 10000 (by omega) t ks 0 a ds w hk hr (by omega)
    have p1 := part_agg_run (w := w) (off := 0) (ds := ds) hs hun hg
    rw [List.drop_zero, List.take_of_length_le (by omega)] at p1
    simp only [Sem.run_bind, p1, Result.andThen_ok] at this
    exact this
  · have hl := cellsEq_len h3
    simp only [List.length_singleton] at hl
    have := ckOk (P := P) (R := C.R) (empty := empty) 20 10000 (by omega) t ks 0 [x] [v] w hk (CRep_cons hv CRep_nil) (by simp; omega)
    have hs1 : sizeT P t = some 1 := by rw [hs, ← hl.1]
    have p1 := part_atom_run (w := w) (off := 0) (ds := [v]) hs1 hun hg (by simp)
    simp only [Sem.run_bind, p1, Result.andThen_ok, List.getElem_cons_zero] at this
    exact this
/-- Two keys held against one another. -/
theorem key_eq {R : Rd} {g : Bool} {ks : List Nat} {t : TypeId} {x y : V} {v u : Value} {b : Bool} {w : World} (hk : flatK P 20 t = some ks) (hg : isAggT P t = g) (hx : valEq g ks x y = some b) (hv : VRep R x v) (hu : VRep R y u) : (Op.equal t v u).run P w = .ok b w := by
  have hs := flatK_size hk
  have hun : (P.underlying t).isSome = true := by
    have : flatK P (19 + 1) t = some ks := hk
    unfold flatK at this
    split at this <;> simp_all
  have key := eqOk (P := P) (R := R) 20 10000 (by omega)
  rcases valEq_shape hx with ⟨rfl, a, c, rfl, rfl, h3⟩ | ⟨rfl, h3⟩
  · simp only [VRep] at hv hu
    obtain ⟨ds, rfl, hr⟩ := hv
    obtain ⟨us, rfl, hr2⟩ := hu
    have hl := cellsEq_len h3
    have hld := CRep_length hr
    have hlu := CRep_length hr2
    have := key t ks 0 a c ds us b w hk hr hr2 (by rw [List.drop_zero, List.drop_zero, List.take_of_length_le (by omega), List.take_of_length_le (by omega)]; exact h3)
    have p1 := part_agg_run (w := w) (off := 0) (ds := ds) hs hun hg
    have p2 := part_agg_run (w := w) (off := 0) (ds := us) hs hun hg
    rw [List.drop_zero, List.take_of_length_le (by omega)] at p1 p2
    simp only [partEq, Sem.run_bind, p1, p2, Result.andThen_ok] at this
    exact this
  · have hl := cellsEq_len h3
    simp only [List.length_singleton] at hl
    have := key t ks 0 [x] [y] [v] [u] b w hk (CRep_cons hv CRep_nil) (CRep_cons hu CRep_nil) (by rw [List.drop_zero, List.drop_zero, List.take_of_length_le (by simp; omega), List.take_of_length_le (by simp; omega)]; exact h3)
    have hs1 : sizeT P t = some 1 := by rw [hs, ← hl.1]
    have p1 := part_atom_run (w := w) (off := 0) (ds := [v]) hs1 hun hg (by simp)
    have p2 := part_atom_run (w := w) (off := 0) (ds := [u]) hs1 hun hg (by simp)
    simp only [partEq, Sem.run_bind, p1, p2, Result.andThen_ok, List.getElem_cons_zero] at this
    exact this
theorem atomEq_same {R : Rd} {k : Nat} {x y : V} {v u : Value} (h : atomEq k x y = some true) (hv : VRep R x v) (hu : VRep R y u) : v = u ∧ x = y ∧ ∀ n, Instr.sameBits n v u = true := by
  unfold atomEq at h
  split at h
  · rw [VRep_bool] at hv hu
    subst hv hu; simp at h; subst h; refine ⟨rfl, rfl, fun n => ?_⟩; cases n <;> simp [Instr.sameBits]
  · rw [VRep_int] at hv hu
    subst hv hu
    split at h
    · rename_i hpq; subst hpq; simp at h; subst h; refine ⟨rfl, rfl, fun n => ?_⟩; cases n <;> simp [Instr.sameBits]
    · cases h
  · rw [VRep_str] at hv hu
    subst hv hu; simp at h; subst h; refine ⟨rfl, rfl, fun n => ?_⟩; cases n <;> simp [Instr.sameBits, beq_toListBytes]
  · cases h
theorem cellsEq_same {R : Rd} : ∀ {ks : List Nat} {a b : List V} {vs us : List Value}, cellsEq ks a b = some true → CRep R a vs → CRep R b us → vs = us ∧ a = b ∧ ∀ n, (vs.zip us).all (fun (x, y) => Instr.sameBits n x y) = true
  | [], [], [], vs, us, _, h1, h2 => by simp only [CRep] at h1 h2; subst h1 h2; simp
  | [], [], _ :: _, _, _, h, _, _ => by simp [cellsEq] at h
  | [], _ :: _, _, _, _, h, _, _ => by simp [cellsEq] at h
  | _ :: _, [], _, _, _, h, _, _ => by simp [cellsEq] at h
  | _ :: _, _ :: _, [], _, _, h, _, _ => by simp [cellsEq] at h
  | k :: ks, x :: a, y :: b, vs, us, h, h1, h2 => by
    simp only [cellsEq] at h
    split at h
    · rename_i p q hp hq
      simp only [Option.some.injEq, Bool.and_eq_true] at h
      obtain ⟨rfl, rfl⟩ := h
      simp only [CRep] at h1 h2
      obtain ⟨d, r, rfl, g1, g2⟩ := h1
      obtain ⟨d', r', rfl, g3, g4⟩ := h2
      obtain ⟨rfl, rfl, k1⟩ := atomEq_same hp g1 g3
      obtain ⟨rfl, rfl, k2⟩ := cellsEq_same hq g2 g4
      exact ⟨rfl, rfl, fun n => by simp only [List.zip_cons_cons, List.all_cons, k1 n, k2 n, Bool.and_self]⟩
    · cases h
theorem key_same {R : Rd} {g : Bool} {ks : List Nat} {x y : V} {v u : Value} {w : World} (h : valEq g ks x y = some true) (hv : VRep R x v) (hu : VRep R y u) : x = y ∧ (Instr.keyThatStays u v).run P w = .ok v w := by
  have fin : ∀ n, Instr.sameBits (n + 1) v v = true → (Instr.keyThatStays v v).run P w = .ok v w → True := fun _ _ _ => trivial
  rcases valEq_shape h with ⟨rfl, a, c, rfl, rfl, h3⟩ | ⟨rfl, h3⟩
  · simp only [VRep] at hv hu
    obtain ⟨ds, rfl, hr⟩ := hv
    obtain ⟨us, rfl, hr2⟩ := hu
    obtain ⟨rfl, rfl, k⟩ := cellsEq_same h3 hr hr2
    refine ⟨rfl, ?_⟩
    have h4 : ∀ n, Instr.sameBits (n + 1) (.agg ds.toArray) (.agg ds.toArray) = true := fun n => by
      simp only [Instr.sameBits, beq_self_eq_true, Bool.true_and]
      exact k n
    have h5 : Instr.sameBits 10000 (.agg ds.toArray) (.agg ds.toArray) = true := h4 9999
    simp [Instr.keyThatStays, h5]
  · obtain ⟨h1, h2, k⟩ := cellsEq_same h3 (CRep_cons hv CRep_nil) (CRep_cons hu CRep_nil)
    simp only [List.cons.injEq, and_true] at h1 h2
    subst h1 h2
    refine ⟨rfl, ?_⟩
    have h5 : Instr.sameBits 10000 v v = true := by simpa using k 10000
    simp [Instr.keyThatStays, h5]
def hit (es : List MapEntry) (i : Nat) : Option Nat → Option (Nat × Value)
  | some j => some (i + j, ((es[j]?).map (·.val)).getD undef)
  | none => none
/-- A key is looked for. -/
theorem find_run {g : Bool} {ks : List Nat} {t : TypeId} {x : V} {v : Value} {w : World} (hk : flatK P 20 t = some ks) (hg : isAggT P t = g) (hv : VRep C.R x v) : ∀ {kvs : List (V × V)} {es : List MapEntry} {r : Option Nat} (i : Nat), MRep C.R kvs es → kpos g ks x kvs = some r →
    (Instr.findAsking t v es i).run P w = .ok (hit es i r) w ∧ (∀ j, r = some j → j < es.length ∧ j < kvs.length)
  | [], es, r, i, hm, hr => by
    simp only [MRep] at hm
    subst hm
    simp only [kpos, Option.some.injEq] at hr
    subst hr
    exact ⟨by simp [Instr.findAsking, hit], fun j h => by cases h⟩
  | (a, y) :: kvs, es, r, i, hm, hr => by
    obtain ⟨e, rest, rfl, h1, h2, h3⟩ := hm
    simp only [kpos] at hr
    split at hr
    · rename_i he
      cases hr
      have := key_eq (w := w) hk hg he hv h1
      exact ⟨by simp [Instr.findAsking, this, hit], fun j h => by cases h; simp⟩
    · rename_i he
      have := key_eq (w := w) hk hg he hv h1
      simp only [Option.map_eq_some_iff] at hr
      obtain ⟨r', hr', rfl⟩ := hr
      obtain ⟨k1, k2⟩ := find_run (w := w) hk hg hv (i + 1) h3 hr'
      refine ⟨?_, fun j h => ?_⟩
      · simp only [Instr.findAsking, Sem.run_bind, this, Result.andThen_ok, Bool.false_eq_true, if_false, k1]
        cases r' with
        | none => simp [hit]
        | some j => simp [hit]; omega
      · cases r' with
        | none => cases h
        | some j' =>
          simp only [Option.map_some, Option.some.injEq] at h
          obtain ⟨q1, q2⟩ := k2 j' rfl
          subst h
          simp; omega
    · cases hr
theorem now_eq {R : Rd} {g : Bool} {ks : List Nat} {x y : V} {v u : Value} {d : TypeDesc} {b b' : Bool} (h : valEq g ks x y = some b) (hv : VRep R x v) (hu : VRep R y u) (hn : Instr.sameNow d v u = some b') : b' = b := by
  rcases valEq_shape h with ⟨rfl, a, c, rfl, rfl, h3⟩ | ⟨rfl, h3⟩
  · simp only [VRep] at hv hu
    obtain ⟨ds, rfl, hr⟩ := hv
    obtain ⟨us, rfl, hr2⟩ := hu
    simp [Instr.sameNow] at hn
  · have hl := cellsEq_len h3
    match ks, hl with
    | [k], _ =>
      simp only [cellsEq] at h3
      split at h3
      · rename_i p q h1 h2
        cases h2
        simp only [Bool.and_true, Option.some.injEq] at h3
        subst h3
        unfold atomEq at h1
        split at h1
        · rw [VRep_bool] at hv hu
          subst hv hu
          unfold Instr.sameNow at hn
          split at hn <;> simp_all
        · rw [VRep_int] at hv hu
          subst hv hu
          unfold Instr.sameNow at hn
          split at hn <;> simp_all
        · rw [VRep_str] at hv hu
          subst hv hu
          unfold Instr.sameNow at hn
          split at hn <;> simp_all [beq_toListBytes]
          rename_i e1 e2
          subst e1 e2
          simpa using hn.symm.trans (by simpa using h1)
        · cases h1
      · cases h3
theorem now_run {g : Bool} {ks : List Nat} {x : V} {v : Value} {d : TypeDesc} (hv : VRep C.R x v) : ∀ {kvs : List (V × V)} {es : List MapEntry} {r : Option Nat} {q : Option (Nat × Value)} (i : Nat), MRep C.R kvs es → kpos g ks x kvs = some r →
    Instr.findNow d v es i = some q → q = (hit es i r)
  | [], es, r, q, i, hm, hr, hq => by
    simp only [MRep] at hm
    subst hm
    simp only [kpos, Option.some.injEq] at hr
    subst hr
    simpa [Instr.findNow, hit] using hq.symm
  | (a, y) :: kvs, es, r, q, i, hm, hr, hq => by
    obtain ⟨e, rest, rfl, h1, h2, h3⟩ := hm
    simp only [kpos] at hr
    simp only [Instr.findNow] at hq
    split at hr
    · rename_i he
      cases hr
      split at hq
      · simpa [hit] using hq.symm
      · rename_i hn; have := now_eq he hv h1 hn; cases this
      · cases hq
    · rename_i he
      simp only [Option.map_eq_some_iff] at hr
      obtain ⟨r', hr', rfl⟩ := hr
      split at hq
      · rename_i hn; have := now_eq he hv h1 hn; cases this
      · have := now_run hv (i + 1) h3 hr' hq
        rw [this]
        cases r' with
        | none => rfl
        | some j => simp [hit]; omega
      · cases hq
    · cases hr
theorem findKey_run {g : Bool} {ks : List Nat} {t : TypeId} {x : V} {v : Value} {w : World} (hk : flatK P 20 t = some ks) (hg : isAggT P t = g) (hv : VRep C.R x v) {kvs : List (V × V)} {es : List MapEntry} {r : Option Nat} (hm : MRep C.R kvs es) (hr : kpos g ks x kvs = some r) :
    (Instr.findKey t v es).run P w = .ok (hit es 0 r) w := by
  have hun : ∃ d, P.underlying t = some d := by
    have : flatK P (19 + 1) t = some ks := hk
    unfold flatK at this
    split at this <;> first | exact ⟨_, by assumption⟩ | cases this
  obtain ⟨d, hd⟩ := hun
  have h1 := (find_run (w := w) hk hg hv 0 hm hr).1
  unfold Instr.findKey
  simp only [Sem.run_bind, run_underlying' hd, Result.andThen_ok]
  split
  · rename_i q hq
    have := now_run hv 0 hm hr hq
    rw [this]
    rfl
  · exact h1
theorem MRep_val {R : Rd} : ∀ {kvs : List (V × V)} {es : List MapEntry} (j : Nat), MRep R kvs es → j < es.length → VRep R (kval kvs j) (((es[j]?).map (·.val)).getD undef)
  | [], es, j, h, hj => by simp only [MRep] at h; subst h; simp at hj
  | (k, x) :: l, es, 0, h, hj => by
    obtain ⟨e, r, rfl, h1, h2, h3⟩ := h
    simpa [kval] using h2
  | (k, x) :: l, es, j + 1, h, hj => by
    obtain ⟨e, r, rfl, h1, h2, h3⟩ := h
    simpa [kval] using MRep_val j h3 (by simpa using hj)
theorem MRep_push {R : Rd} {k x : V} {e : MapEntry} (h1 : VRep R k e.key) (h2 : VRep R x e.val) : ∀ {kvs : List (V × V)} {es : List MapEntry}, MRep R kvs es → MRep R (kvs ++ [(k, x)]) (es ++ [e])
  | [], es, h => by simp only [MRep] at h; subst h; exact ⟨e, [], rfl, h1, h2, rfl⟩
  | (k', x') :: l, es, h => by
    obtain ⟨e', r, rfl, g1, g2, g3⟩ := h
    exact ⟨e', _, rfl, g1, g2, MRep_push h1 h2 g3⟩
theorem MRep_set {R : Rd} {k x : V} {e : MapEntry} (h1 : VRep R k e.key) (h2 : VRep R x e.val) : ∀ {kvs : List (V × V)} {es : List MapEntry} (j : Nat), MRep R kvs es → MRep R (kvs.set j (k, x)) (es.set j e)
  | [], es, j, h => by simp only [MRep] at h; subst h; simp [MRep]
  | (k', x') :: l, es, 0, h => by
    obtain ⟨e', r, rfl, g1, g2, g3⟩ := h
    exact ⟨e, r, rfl, h1, h2, g3⟩
  | (k', x') :: l, es, j + 1, h => by
    obtain ⟨e', r, rfl, g1, g2, g3⟩ := h
    exact ⟨e', _, rfl, g1, g2, MRep_set h1 h2 j g3⟩
theorem MRep_key {R : Rd} : ∀ {kvs : List (V × V)} {es : List MapEntry} (j : Nat) (e : MapEntry), MRep R kvs es → es[j]? = some e → ∃ kx, kvs[j]? = some kx ∧ VRep R kx.1 e.key
  | [], es, j, e, h, hj => by simp only [MRep] at h; subst h; simp at hj
  | (k, x) :: l, es, 0, e, h, hj => by
    obtain ⟨e', r, rfl, h1, h2, h3⟩ := h
    simp at hj; subst hj
    exact ⟨_, rfl, h1⟩
  | (k, x) :: l, es, j + 1, e, h, hj => by
    obtain ⟨e', r, rfl, h1, h2, h3⟩ := h
    simpa using MRep_key j e h3 (by simpa using hj)
theorem kpos_eq {g : Bool} {ks : List Nat} {x : V} : ∀ {kvs : List (V × V)} {j : Nat}, kpos g ks x kvs = some (some j) → ∃ kx, kvs[j]? = some kx ∧ valEq g ks x kx.1 = some true
  | [], j, h => by simp [kpos] at h
  | (a, y) :: kvs, j, h => by
    simp only [kpos] at h
    split at h
    · rename_i he
      cases h
      exact ⟨_, rfl, he⟩
    · simp only [Option.map_eq_some_iff] at h
      obtain ⟨r', hr', h2⟩ := h
      obtain ⟨j', rfl, rfl⟩ := h2
      simpa using kpos_eq hr'
    · cases h
theorem mget_does {g : Bool} {ks : List Nat} {t kt et : TypeId} {z : V} {ok : Bool} {m x : V} {v u : Value} (hu : P.underlying t = some (.map kt et)) (hk1 : flatK P 20 kt = some ks) (hg : isAggT P kt = g) (hz : zeroT P et = some z) (hC : HRep C) (hv : VRep C.R m v) (hx : VRep C.R x u)
    (hk : mgetK g ks z ok m x C.H K) : Does P (Instr.lookup t v u ok) C K := by
  obtain ⟨i, zv, hi, hzv, hzr, _, _⟩ := zero_rep (R := C.R) hz
  have hzero : (zeroValue et).run P C.w = .ok zv C.w := by simp [zeroValue, typeInfo, hi, hzv]
  have fin : ∀ (y : V) (yv : Value) (b : Bool), VRep C.R y yv → VRep C.R (bif ok then .tup [y, .bool b] else y) (if ok then .tuple #[yv, .bool b] else yv) := by
    intro y yv b hy
    cases ok
    · exact hy
    · simp only [cond_true, if_true, VRep]
      exact ⟨[yv, .bool b], rfl, CRep_cons hy (CRep_cons (VRep_bool.2 rfl) CRep_nil)⟩
  unfold mgetK at hk
  split at hk
  · rename_i j
    unfold mgetE at hk
    split at hk
    · rename_i kvs heq he
      obtain ⟨b, c, hb, rfl⟩ := map_at hv he rfl
      obtain ⟨b', c', es, clock, k1, k2, k3⟩ := hC.ent j _ he
      rw [hb] at k1
      obtain ⟨rfl, rfl⟩ : b = b' ∧ c = c' := by simpa using k1
      have hgo := run_getObj (P := P) k2 (fun _ _ _ h => by cases h)
      have hck := key_ok (empty := es.isEmpty) (w := C.w) hk1 hg heq hx
      unfold mgetP at hk
      split at hk
      · rename_i p hp
        have hf := findKey_run (w := C.w) hk1 hg hx k3 hp
        have hlt := ((find_run (w := C.w) hk1 hg hx 0 k3 hp).2 p rfl).1
        refine Does.pure hC ?_ (fin _ _ true (MRep_val p k3 hlt)) hk
        simp only [Instr.lookup, Sem.run_bind, run_underlying' hu, Result.andThen_ok, hgo, Sem.run_pure, hck, hf, hit, Nat.zero_add]
      · rename_i hp
        have hf := findKey_run (w := C.w) hk1 hg hx k3 hp
        refine Does.pure hC ?_ (fin _ _ false hzr) hk
        simp only [Instr.lookup, Sem.run_bind, run_underlying' hu, Result.andThen_ok, hgo, Sem.run_pure, hck, hf, hit, hzero]
      · exact hk.elim
    · exact hk.elim
  · unfold mgetN at hk
    split at hk
    · rename_i heq
      simp only [VRep] at hv
      subst hv
      have hck := key_ok (empty := (#[] : Array MapEntry).isEmpty) (w := C.w) hk1 hg heq hx
      have hf := findKey_run (C := C) (w := C.w) hk1 hg hx (kvs := []) (es := []) (r := none) rfl rfl
      refine Does.pure hC ?_ (fin _ _ false hzr) hk
      simp only [Instr.lookup, Sem.run_bind, run_underlying' hu, Result.andThen_ok, Sem.run_pure, hck, hf, hit, hzero]
    · exact hk.elim
  · exact hk.elim
theorem modify_set {α : Type} (f : α → α) : ∀ {l : List α} (p : Nat) {e : α}, l[p]? = some e → l.modify p f = l.set p (f e)
  | [], p, e, h => by simp at h
  | a :: l, 0, e, h => by simp at h; simp [h]
  | a :: l, p + 1, e, h => by simp only [List.getElem?_cons_succ] at h; simp [modify_set f p h]
theorem mput_does {g : Bool} {ks : List Nat} {t kt et : TypeId} {m x y : V} {v u z : Value} (hu : P.underlying t = some (.map kt et)) (hk1 : flatK P 20 kt = some ks) (hg : isAggT P kt = g) (hC : HRep C) (hv : VRep C.R m v) (hx : VRep C.R x u) (hy : VRep C.R y z)
    (hk : mputK g ks m x y C.H K) : DoesU P (Instr.mapUpdate t v u z) C K := by
  unfold mputK at hk
  split at hk
  · rename_i j
    unfold mputE at hk
    split at hk
    · rename_i kvs heq he
      obtain ⟨b, c, hb, rfl⟩ := map_at hv he rfl
      obtain ⟨b', c', es, clock, k1, k2, k3⟩ := hC.ent j _ he
      rw [hb] at k1
      obtain ⟨rfl, rfl⟩ : b = b' ∧ c = c' := by simpa using k1
      have hlt := (Array.getElem?_eq_some_iff.1 k2).1
      have hgo := run_getObj (P := P) k2 (fun _ _ _ h => by cases h)
      have hck := key_ok (empty := false) (w := C.w) hk1 hg heq hx
      have hst : ∀ kvs', STr (Entry.map kvs).shp (Entry.map kvs').shp (C.β j) (some (b, c)) := fun kvs' => by rw [hb]; simp [Entry.shp, STr]
      unfold mputP at hk
      split at hk
      · rename_i p hp
        have hf := findKey_run (w := C.w) hk1 hg hx k3 hp
        have hlt2 := ((find_run (w := C.w) hk1 hg hx 0 k3 hp).2 p rfl).1
        obtain ⟨kx, hkx, heq2⟩ := kpos_eq hp
        have hep : es.toList[p]? = some es.toList[p] := List.getElem?_eq_getElem hlt2
        obtain ⟨kx', hkx', hkr⟩ := MRep_key p _ k3 hep
        rw [hkx] at hkx'
        cases hkx'
        have hks := (key_same (P := P) (w := C.w) heq2 hx hkr).2
        have hs := run_setObj (P := P) (o' := .map (es.modify p fun e => { e with key := u, val := z }) clock) k2 (fun _ _ _ h => by cases h)
        have ht : Turns C { C.w with heap := C.w.heap.setIfInBounds b (.map (es.modify p fun e => { e with key := u, val := z }) clock) } j (some (b, c)) (.map kvs) (.map (kvs.set p (x, y))) := obj_turns he rfl hb hlt (hst _)
        have hrep := turn_rep hC ht ⟨b, c, es.modify p fun e => { e with key := u, val := z }, clock, turn_beta_new, by simp [Ctx.turn, hlt], by
          have e1 : (es.modify p fun e => { e with key := u, val := z }).toList = es.toList.set p { es.toList[p] with key := u, val := z } := by
            rw [Array.toList_modify]
            exact modify_set _ _ hep
          rw [e1]
          exact MRep_set (VRep_tr (turn_tr hC ht).R _ _ hx) (VRep_tr (turn_tr hC ht).R _ _ hy) p (MRep_tr (turn_tr hC ht).R _ _ k3)⟩
        refine ⟨_, ?_, turn_tr hC ht, hrep, hk⟩
        have hgk : ((es[p]?).map (·.key)).getD u = es.toList[p].key := by
          rw [← Array.getElem?_toList, hep]; rfl
        simp only [Instr.mapUpdate, Sem.run_bind, run_underlying' hu, Result.andThen_ok, hgo, hck, hf, hit, Nat.zero_add, hgk, hks]
        rw [hs]
        rfl
      · rename_i hp
        have hf := findKey_run (w := C.w) hk1 hg hx k3 hp
        have hs := run_setObj (P := P) (o' := .map (es.push { key := u, val := z, born := clock }) (clock + 1)) k2 (fun _ _ _ h => by cases h)
        have ht : Turns C { C.w with heap := C.w.heap.setIfInBounds b (.map (es.push { key := u, val := z, born := clock }) (clock + 1)) } j (some (b, c)) (.map kvs) (.map (kvs ++ [(x, y)])) := obj_turns he rfl hb hlt (hst _)
        have hrep := turn_rep hC ht ⟨b, c, es.push { key := u, val := z, born := clock }, clock + 1, turn_beta_new, by simp [Ctx.turn, hlt], by
          rw [Array.toList_push]
          exact MRep_push (e := { key := u, val := z, born := clock }) (VRep_tr (turn_tr hC ht).R _ _ hx) (VRep_tr (turn_tr hC ht).R _ _ hy) (MRep_tr (turn_tr hC ht).R _ _ k3)⟩
        refine ⟨_, ?_, turn_tr hC ht, hrep, hk⟩
        simp only [Instr.mapUpdate, Sem.run_bind, run_underlying' hu, Result.andThen_ok, hgo, hck, hf, hit]
        rw [hs]
        rfl
      · exact hk.elim
    · exact hk.elim
  · exact hk.elim
end
end Go.Av
