/- A part of a way to reckon what a Go program does without its memory (AvV). -/
import Derived.Test.YtgeiicchkfpanaaAvP
import Derived.Scope
namespace Go.Av
open Go Go.RowKit
set_option autoImplicit false
set_option linter.all false
section
variable {P : Program} {C : Ctx} {K : KV}
/-! ### Maps -/
/-- What a value that can be held against itself is. -/
theorem valEq_shape {g : Bool} {ks : List Nat} {x y : V} {b : Bool} (h : valEq g ks x y = some b) : (g = true ∧ ∃ a c, x = .agg a ∧ y = .agg c ∧ cellsEq ks a c = some b) ∨ (g = false ∧ cellsEq ks [x] [y] = some b) := by
  unfold valEq at h
  split at h
  · exact .inl ⟨rfl, _, _, rfl, rfl, h⟩
  · exact .inr ⟨rfl, h⟩
  · cases h
def CkOk (P : Program) (R : Rd) (empty : Bool) (f : TypeId → Option (List Nat)) (D : Nat) : Prop :=
  ∀ (t : TypeId) (ks : List Nat) (off : Nat) (cs : List V) (vs : List Value) (w : World), f t = some ks → CRep R cs vs → off + ks.length ≤ cs.length →
    (do let x ← Go.part t vs.toArray off; Instr.checkKey empty D t x : Sem Unit).run P w = .ok () w
theorem ck_fields {R : Rd} {empty : Bool} {f : TypeId → Option (List Nat)} {D : Nat} (hf : CkOk P R empty f D) (cs : List V) (vs : List Value) (hr : CRep R cs vs) : ∀ (fs : List Field) (acc ks : List Nat) (w : World),
    flatF f acc fs = some ks → ks.length ≤ cs.length →
    (forIn fs PUnit.unit (fun x _ => if x.name ≠ "_" then (do let p ← Go.part x.type vs.toArray x.offset; Instr.checkKey empty D x.type p; Pure.pure (ForInStep.yield PUnit.unit)) else Pure.pure (ForInStep.yield PUnit.unit)) : Sem PUnit).run P w = .ok PUnit.unit w
  | [], acc, ks, w, _, _ => by simp
  | x :: fs, acc, ks, w, h, hl => by
    simp only [flatF] at h
    split at h
    · rename_i hx
      split at h
      · rename_i l hl2
        obtain ⟨m, hm⟩ := flatF_ext h
        have hp := hf x.type l x.offset cs vs w hl2 hr (by rw [hx.1]; have := congrArg List.length hm; simp only [List.length_append] at this; omega)
        have ih := ck_fields hf cs vs hr fs (acc ++ l) ks w h hl
        simp only [List.forIn_cons, ne_eq, hx.2, not_false_eq_true, if_true, Sem.run_bind] at hp ⊢
        generalize (Go.part x.type vs.toArray x.offset).run P w = r1 at hp ⊢
        cases r1 with
        | halt _ _ => cases hp
        | ok p w1 =>
          simp only [Result.andThen_ok] at hp ⊢
          rw [hp]
          simpa using ih
      · cases h
    · cases h
theorem ck_array {R : Rd} {empty : Bool} {f : TypeId → Option (List Nat)} {D : Nat} (hf : CkOk P R empty f D) {e : TypeId} {l : List Nat} (hl : f e = some l) (cs : List V) (vs : List Value) (hr : CRep R cs vs) (hse : sizeT P e = some l.length) :
    ∀ (m i : Nat) (w : World), (i + m) * l.length ≤ cs.length →
      (forIn (List.range' i m) PUnit.unit (fun j _ => do let s ← sizeOf e; let p ← Go.part e vs.toArray (j * s); Instr.checkKey empty D e p; Pure.pure (ForInStep.yield PUnit.unit)) : Sem PUnit).run P w = .ok PUnit.unit w
  | 0, i, w, _ => by simp
  | m + 1, i, w, h => by
    have hfit : i * l.length + l.length ≤ cs.length := by
      refine Nat.le_trans ?_ h
      rw [show i * l.length + l.length = (i + 1) * l.length by rw [Nat.add_mul, Nat.one_mul]]
      exact Nat.mul_le_mul_right _ (by omega)
    have hp := hf e l (i * l.length) cs vs w hl hr hfit
    have ih := ck_array hf hl cs vs hr hse m (i + 1) w (by rw [show i + 1 + m = i + (m + 1) by omega]; exact h)
    simp only [List.range'_succ, List.forIn_cons, Sem.run_bind, run_sizeOf hse, Result.andThen_ok] at hp ⊢
    generalize (Go.part e vs.toArray (i * l.length)).run P w = r1 at hp ⊢
    cases r1 with
    | halt _ _ => cases hp
    | ok p w1 =>
      simp only [Result.andThen_ok] at hp ⊢
      rw [hp]
      simpa using ih
theorem ckOk {R : Rd} {empty : Bool} : ∀ (d D : Nat), d ≤ D → CkOk P R empty (flatK P d) D
  | 0, D, _ => fun t ks off cs vs w h => by simp [flatK] at h
  | d + 1, D, hD => fun t ks off cs vs w h hr hfit => by
    obtain ⟨D, rfl⟩ : ∃ D', D = D' + 1 := ⟨D - 1, by omega⟩
    have ih : CkOk P R empty (flatK P d) D := ckOk d D (by omega)
    have hlv := CRep_length hr
    have atom : ks.length = 1 → sizeT P t = some 1 → (∃ dd, P.underlying t = some dd ∧ (dd = .bool ∨ dd = .string ∨ ∃ q, dd = .int q)) → (do let x ← Go.part t vs.toArray off; Instr.checkKey empty (D + 1) t x : Sem Unit).run P w = .ok () w := by
      intro hk hs ⟨dd, hu, hdd⟩
      have hg : isAggT P t = false := by rcases hdd with rfl | rfl | ⟨q, rfl⟩ <;> simp [isAggT, hu]
      have k1 := part_atom_run (w := w) (off := off) (ds := vs) hs (by simp [hu]) hg (by omega)
      simp only [Sem.run_bind, k1, Result.andThen_ok, Instr.checkKey, run_underlying' hu]
      rcases hdd with rfl | rfl | ⟨q, rfl⟩ <;> rfl
    unfold flatK at h
    split at h
    · rename_i h1 h2; cases h; exact atom rfl h2 ⟨_, h1, .inl rfl⟩
    · rename_i q h1 h2; cases h; exact atom rfl h2 ⟨_, h1, .inr (.inr ⟨q, rfl⟩)⟩
    · rename_i h1 h2; cases h; exact atom rfl h2 ⟨_, h1, .inr (.inl rfl)⟩
    · rename_i fs n hu hs
      split at h
      · cases h
      · split at h
        · rename_i l hl
          split at h
          · rename_i hn
            cases h
            have hg : isAggT P t = true := by simp [isAggT, hu]
            have k1 := part_agg_run (w := w) (off := off) (ds := vs) hs (by simp [hu]) hg
            rw [← hn] at k1
            have := ck_fields ih ((cs.drop off).take ks.length) ((vs.drop off).take ks.length) (CRep_take _ (CRep_drop _ hr)) fs.toList [] ks w hl (by simp; omega)
            simp only [Sem.run_bind, k1, Result.andThen_ok, Instr.checkKey, run_underlying' hu]
            rw [← Array.forIn_toList, this]
            rfl
          · cases h
        · cases h
    · rename_i len e n hu hs
      split at h
      · rename_i l hl
        split at h
        · rename_i hn
          cases h
          have hg : isAggT P t = true := by simp [isAggT, hu]
          have hkl : (List.replicate len l).flatten.length = n := by simp [hn]
          rw [hkl] at hfit
          have k1 := part_agg_run (w := w) (off := off) (ds := vs) hs (by simp [hu]) hg
          have hse : sizeT P e = some l.length := flatK_size hl
          have := ck_array ih hl _ _ (CRep_take n (CRep_drop off hr)) hse len 0 w (by simp [hn]; omega)
          simp only [Sem.run_bind, k1, Result.andThen_ok, Instr.checkKey, run_underlying' hu, Std.Legacy.Range.forIn_eq_forIn_range', Std.Legacy.Range.size, Nat.sub_zero, Nat.add_sub_cancel, Nat.div_one]
          rw [this]
          rfl
        · cases h
      · cases h
    · cases h
/-- A key that is one. -/
theorem key_ok {g : Bool} {ks : List Nat} {t : TypeId} {x : V} {v : Value} {empty : Bool} {w : World} (hk : flatK P 20 t = some ks) (hg : isAggT P t = g) (hx : valEq g ks x x = some true) (hv : VRep C.R x v) : (Instr.checkKey empty 10000 t v).run P w = .ok () w := by
  have hs := flatK_size hk
  have hun : (P.underlying t).isSome = true := by
    have : flatK P (19 + 1) t = some ks := hk
    unfold flatK at this
    split at this <;> simp_all
  rcases valEq_shape hx with ⟨rfl, a, c, rfl, h2, h3⟩ | ⟨rfl, h3⟩
  · cases h2
    simp only [VRep] at hv
    obtain ⟨ds, rfl, hr⟩ := hv
    have hl := cellsEq_len h3
    have hld := CRep_length hr
    have := ckOk (P := P) (R := C.R) (empty := empty) 20 10000 (by omega) t ks 0 a ds w hk hr (by omega)
    have p1 := part_agg_run (w := w) (off := 0) (ds := ds) hs hun hg
    rw [List.drop_zero, List.take_of_length_le (by omega)] at p1
    simp only [Sem.run_bind, p1, Result.andThen_ok] at this
    exact this
  · have hl := cellsEq_len h3
    simp only [List.length_singleton] at hl
    have := ckOk (P := P) (R := C.R) (empty := empty) 20 10000 (by omega) t ks 0 [x] [v] w hk (CRep_cons hv CRep_nil) (by simp; omega)
    have hs1 : sizeT P t = some 1 := by rw [hs, ← hl.1]
    have p1 := part_atom_run (w := w) (off := 0) (ds := [v]) hs1 hun hg (by simp)
    simp only [Sem.run_bind, p1, Result.andThen_ok, List.getElem_cons_zero] at this
    exact this
/-- Two keys held against one another. -/
theorem key_eq {R : Rd} {g : Bool} {ks : List Nat} {t : TypeId} {x y : V} {v u : Value} {b : Bool} {w : World} (hk : flatK P 20 t = some ks) (hg : isAggT P t = g) (hx : valEq g ks x y = some b) (hv : VRep R x v) (hu : VRep R y u) : (Op.equal t v u).run P w = .ok b w := by
  have hs := flatK_size hk
  have hun : (P.underlying t).isSome = true := by
    have : flatK P (19 + 1) t = some ks := hk
    unfold flatK at this
    split at this <;> simp_all
  have key := eqOk (P := P) (R := R) 20 10000 (by omega)
  rcases valEq_shape hx with ⟨rfl, a, c, rfl, rfl, h3⟩ | ⟨rfl, h3⟩
  · simp only [VRep] at hv hu
    obtain ⟨ds, rfl, hr⟩ := hv
    obtain ⟨us, rfl, hr2⟩ := hu
    have hl := cellsEq_len h3
    have hld := CRep_length hr
    have hlu := CRep_length hr2
    have := key t ks 0 a c ds us b w hk hr hr2 (by rw [List.drop_zero, List.drop_zero, List.take_of_length_le (by omega), List.take_of_length_le (by omega)]; exact h3)
    have p1 := part_agg_run (w := w) (off := 0) (ds := ds) hs hun hg
    have p2 := part_agg_run (w := w) (off := 0) (ds := us) hs hun hg
    rw [List.drop_zero, List.take_of_length_le (by omega)] at p1 p2
    simp only [partEq, Sem.run_bind, p1, p2, Result.andThen_ok] at this
    exact this
  · have hl := cellsEq_len h3
    simp only [List.length_singleton] at hl
    have := key t ks 0 [x] [y] [v] [u] b w hk (CRep_cons hv CRep_nil) (CRep_cons hu CRep_nil) (by rw [List.drop_zero, List.drop_zero, List.take_of_length_le (by simp; omega), List.take_of_length_le (by simp; omega)]; exact h3)
    have hs1 : sizeT P t = some 1 := by rw [hs, ← hl.1]
    have p1 := part_atom_run (w := w) (off := 0) (ds := [v]) hs1 hun hg (by simp)
    have p2 := part_atom_run (w := w) (off := 0) (ds := [u]) hs1 hun hg (by simp)
    simp only [partEq, Sem.run_bind, p1, p2, Result.andThen_ok, List.getElem_cons_zero] at this
    exact this
theorem atomEq_same {R : Rd} {k : Nat} {x y : V} {v u : Value} (h : atomEq k x y = some true) (hv : VRep R x v) (hu : VRep R y u) : v = u ∧ x = y ∧ ∀ n, Instr.sameBits n v u = true := by
  unfold atomEq at h
  split at h
  · rw [VRep_bool] at hv hu
    subst hv hu; simp at h; subst h; refine ⟨rfl, rfl, fun n => ?_⟩; cases n <;> simp [Instr.sameBits]
  · rw [VRep_int] at hv hu
    subst hv hu
    split at h
    · rename_i hpq; subst hpq; simp at h; subst h; refine ⟨rfl, rfl, fun n => ?_⟩; cases n <;> simp [Instr.sameBits]
    · cases h
  · rw [VRep_str] at hv hu
    subst hv hu; simp at h; subst h; refine ⟨rfl, rfl, fun n => ?_⟩; cases n <;> simp [Instr.sameBits, beq_toListBytes]
  · cases h
theorem cellsEq_same {R : Rd} : ∀ {ks : List Nat} {a b : List V} {vs us : List Value}, cellsEq ks a b = some true → CRep R a vs → CRep R b us → vs = us ∧ a = b ∧ ∀ n, (vs.zip us).all (fun (x, y) => Instr.sameBits n x y) = true
  | [], [], [], vs, us, _, h1, h2 => by simp only [CRep] at h1 h2; subst h1 h2; simp
  | [], [], _ :: _, _, _, h, _, _ => by simp [cellsEq] at h
  | [], _ :: _, _, _, _, h, _, _ => by simp [cellsEq] at h
  | _ :: _, [], _, _, _, h, _, _ => by simp [cellsEq] at h
  | _ :: _, _ :: _, [], _, _, h, _, _ => by simp [cellsEq] at h
  | k :: ks, x :: a, y :: b, vs, us, h, h1, h2 => by
    simp only [cellsEq] at h
    split at h
    · rename_i p q hp hq
      simp only [Option.some.injEq, Bool.and_eq_true] at h
      obtain ⟨rfl, rfl⟩ := h
      simp only [CRep] at h1 h2
      obtain ⟨d, r, rfl, g1, g2⟩ := h1
      obtain ⟨d', r', rfl, g3, g4⟩ := h2
      obtain ⟨rfl, rfl, k1⟩ := atomEq_same hp g1 g3
      obtain ⟨rfl, rfl, k2⟩ := cellsEq_same hq g2 g4
      exact ⟨rfl, rfl, fun n => by simp only [List.zip_cons_cons, List.all_cons, k1 n, k2 n, Bool.and_self]⟩
    · cases h
theorem key_same {R : Rd} {g : Bool} {ks : List Nat} {x y : V} {v u : Value} {w : World} (h : valEq g ks x y = some true) (hv : VRep R x v) (hu : VRep R y u) : x = y ∧ (Instr.keyThatStays u v).run P w = .ok v w := by
  have fin : ∀ n, Instr.sameBits (n + 1) v v = true → (Instr.keyThatStays v v).run P w = .ok v w → True := fun _ _ _ => trivial
  rcases valEq_shape h with ⟨rfl, a, c, rfl, rfl, h3⟩ | ⟨rfl, h3⟩
  · simp only [VRep] at hv hu
    obtain ⟨ds, rfl, hr⟩ := hv
    obtain ⟨us, rfl, hr2⟩ := hu
    obtain ⟨rfl, rfl, k⟩ := cellsEq_same h3 hr hr2
    refine ⟨rfl, ?_⟩
    have h4 : ∀ n, Instr.sameBits (n + 1) (.agg ds.toArray) (.agg ds.toArray) = true := fun n => by
      simp only [Instr.sameBits, beq_self_eq_true, Bool.true_and]
      exact k n
    have h5 : Instr.sameBits 10000 (.agg ds.toArray) (.agg ds.toArray) = true := h4 9999
    simp [Instr.keyThatStays, h5]
  · obtain ⟨h1, h2, k⟩ := cellsEq_same h3 (CRep_cons hv CRep_nil) (CRep_cons hu CRep_nil)
    simp only [List.cons.injEq, and_true] at h1 h2
    subst h1 h2
    refine ⟨rfl, ?_⟩
    have h5 : Instr.sameBits 10000 v v = true := by simpa using k 10000
    simp [Instr.keyThatStays, h5]
def hit (es : List MapEntry) (i : Nat) : Option Nat → Option (Nat × Value)
  | some j => some (i + j, ((es[j]?).map (·.val)).getD undef)
  | none => none
/-- A key is looked for. -/
theorem find_run {g : Bool} {ks : List Nat} {t : TypeId} {x : V} {v : Value} {w : World} (hk : flatK P 20 t = some ks) (hg : isAggT P t = g) (hv : VRep C.R x v) : ∀ {kvs : List (V × V)} {es : List MapEntry} {r : Option Nat} (i : Nat), MRep C.R kvs es → kpos g ks x kvs = some r →
    (Instr.findAsking t v es i).run P w = .ok (hit es i r) w ∧ (∀ j, r = some j → j < es.length ∧ j < kvs.length)
  | [], es, r, i, hm, hr => by
    simp only [MRep] at hm
    subst hm
    simp only [kpos, Option.some.injEq] at hr
    subst hr
    exact ⟨by simp [Instr.findAsking, hit], fun j h => by cases h⟩
  | (a, y) :: kvs, es, r, i, hm, hr => by
    obtain ⟨e, rest, rfl, h1, h2, h3⟩ := hm
    simp only [kpos] at hr
    split at hr
    · rename_i he
      cases hr
      have := key_eq (w := w) hk hg he hv h1
      exact ⟨by simp [Instr.findAsking, this, hit], fun j h => by cases h; simp⟩
    · rename_i he
      have := key_eq (w := w) hk hg he hv h1
      simp only [Option.map_eq_some_iff] at hr
      obtain ⟨r', hr', rfl⟩ := hr
      obtain ⟨k1, k2⟩ := find_run (w := w) hk hg hv (i + 1) h3 hr'
      refine ⟨?_, fun j h => ?_⟩
      · simp only [Instr.findAsking, Sem.run_bind, this, Result.andThen_ok, Bool.false_eq_true, if_false, k1]
        cases r' with
        | none => simp [hit]
        | some j => simp [hit]; omega
      · cases r' with
        | none => cases h
        | some j' =>
          simp only [Option.map_some, Option.some.injEq] at h
          obtain ⟨q1, q2⟩ := k2 j' rfl
          subst h
          simp; omega
    · cases hr
theorem now_eq {R : Rd} {g : Bool} {ks : List Nat} {x y : V} {v u : Value} {d : TypeDesc} {b b' : Bool} (h : valEq g ks x y = some b) (hv : VRep R x v) (hu : VRep R y u) (hn : Instr.sameNow d v u = some b') : b' = b := by
  rcases valEq_shape h with ⟨rfl, a, c, rfl, rfl, h3⟩ | ⟨rfl, h3⟩
  · simp only [VRep] at hv hu
    obtain ⟨ds, rfl, hr⟩ := hv
    obtain ⟨us, rfl, hr2⟩ := hu
    simp [Instr.sameNow] at hn
  · have hl := cellsEq_len h3
    match ks, hl with
    | [k], _ =>
      simp only [cellsEq] at h3
      split at h3
      · rename_i p q h1 h2
        cases h2
        simp only [Bool.and_true, Option.some.injEq] at h3
        subst h3
        unfold atomEq at h1
        split at h1
        · rw [VRep_bool] at hv hu
          subst hv hu
          unfold Instr.sameNow at hn
          split at hn <;> simp_all
        · rw [VRep_int] at hv hu
          subst hv hu
          unfold Instr.sameNow at hn
          split at hn <;> simp_all
        · rw [VRep_str] at hv hu
          subst hv hu
          unfold Instr.sameNow at hn
          split at hn <;> simp_all [beq_toListBytes]
          rename_i e1 e2
          subst e1 e2
          simpa using hn.symm.trans (by simpa using h1)
        · cases h1
      · cases h3
theorem now_run {g : Bool} {ks : List Nat} {x : V} {v : Value} {d : TypeDesc} (hv : VRep C.R x v) : ∀ {kvs : List (V × V)} {es : List MapEntry} {r : Option Nat} {q : Option (Nat × Value)} (i : Nat), MRep C.R kvs es → kpos g ks x kvs = some r →
    Instr.findNow d v es i = some q → q = (hit es i r)
  | [], es, r, q, i, hm, hr, hq => by
    simp only [MRep] at hm
    subst hm
    simp only [kpos, Option.some.injEq] at hr
    subst hr
    simpa [Instr.findNow, hit] using hq.symm
  | (a, y) :: kvs, es, r, q, i, hm, hr, hq => by
    obtain ⟨e, rest, rfl, h1, h2, h3⟩ := hm
    simp only [kpos] at hr
    simp only [Instr.findNow] at hq
    split at hr
    · rename_i he
      cases hr
      split at hq
      · simpa [hit] using hq.symm
      · rename_i hn; have := now_eq he hv h1 hn; cases this
      · cases hq
    · rename_i he
      simp only [Option.map_eq_some_iff] at hr
      obtain ⟨r', hr', rfl⟩ := hr
      split at hq
      · rename_i hn; have := now_eq he hv h1 hn; cases this
      · have := now_run hv (i + 1) h3 hr' hq
        rw [this]
        cases r' with
        | none => rfl
        | some j => simp [hit]; omega
      · cases hq
    · cases hr
theorem findKey_run {g : Bool} {ks : List Nat} {t : TypeId} {x : V} {v : Value} {w : World} (hk : flatK P 20 t = some ks) (hg : isAggT P t = g) (hv : VRep C.R x v) {kvs : List (V × V)} {es : List MapEntry} {r : Option Nat} (hm : MRep C.R kvs es) (hr : kpos g ks x kvs = some r) :
    (Instr.findKey t v es).run P w = .ok (hit es 0 r) w := by
  have hun : ∃ d, P.underlying t = some d := by
    have : flatK P (19 + 1) t = some ks := hk
    unfold flatK at this
    split at this <;> first | exact ⟨_, by assumption⟩ | cases this
  obtain ⟨d, hd⟩ := hun
  have h1 := (find_run (w := w) hk hg hv 0 hm hr).1
  unfold Instr.findKey
  simp only [Sem.run_bind, run_underlying' hd, Result.andThen_ok]
  split
  · rename_i q hq
    have := now_run hv 0 hm hr hq
    rw [this]
    rfl
  · exact h1
theorem MRep_val {R : Rd} : ∀ {kvs : List (V × V)} {es : List MapEntry} (j : Nat), MRep R kvs es → j < es.length → VRep R (kval kvs j) (((es[j]?).map (·.val)).getD undef)
  | [], es, j, h, hj => by simp only [MRep] at h; subst h; simp at hj
  | (k, x) :: l, es, 0, h, hj => by
    obtain ⟨e, r, rfl, h1, h2, h3⟩ := h
    simpa [kval] using h2
  | (k, x) :: l, es, j + 1, h, hj => by
    obtain ⟨e, r, rfl, h1, h2, h3⟩ := h
    simpa [kval] using MRep_val j h3 (by simpa using hj)
theorem MRep_push {R : Rd} {k x : V} {e : MapEntry} (h1 : VRep R k e.key) (h2 : VRep R x e.val) : ∀ {kvs : List (V × V)} {es : List MapEntry}, MRep R kvs es → MRep R (kvs ++ [(k, x)]) (es ++ [e])
  | [], es, h => by simp only [MRep] at h; subst h; exact ⟨e, [], rfl, h1, h2, rfl⟩
  | (k', x') :: l, es, h => by
    obtain ⟨e', r, rfl, g1, g2, g3⟩ := h
    exact ⟨e', _, rfl, g1, g2, MRep_push h1 h2 g3⟩
theorem MRep_set {R : Rd} {k x : V} {e : MapEntry} (h1 : VRep R k e.key) (h2 : VRep R x e.val) : ∀ {kvs : List (V × V)} {es : List MapEntry} (j : Nat), MRep R kvs es → MRep R (kvs.set j (k, x)) (es.set j e)
  | [], es, j, h => by simp only [MRep] at h; subst h; simp [MRep]
  | (k', x') :: l, es, 0, h => by
    obtain ⟨e', r, rfl, g1, g2, g3⟩ := h
    exact ⟨e, r, rfl, h1, h2, g3⟩
  | (k', x') :: l, es, j + 1, h => by
    obtain ⟨e', r, rfl, g1, g2, g3⟩ := h
    exact ⟨e', _, rfl, g1, g2, MRep_set h1 h2 j g3⟩
theorem MRep_key {R : Rd} : ∀ {kvs : List (V × V)} {es : List MapEntry} (j : Nat) (e : MapEntry), MRep R kvs es → es[j]? = some e → ∃ kx, kvs[j]? = some kx ∧ VRep R kx.1 e.key
  | [], es, j, e, h, hj => by simp only [MRep] at h; subst h; simp at hj
  | (k, x) :: l, es, 0, e, h, hj => by
    obtain ⟨e', r, rfl, h1, h2, h3⟩ := h
    simp at hj; subst hj
    exact ⟨_, rfl, h1⟩
  | (k, x) :: l, es, j + 1, e, h, hj => by
    obtain ⟨e', r, rfl, h1, h2, h3⟩ := h
    simpa using MRep_key j e h3 (by simpa using hj)
theorem kpos_eq {g : Bool} {ks : List Nat} {x : V} : ∀ {kvs : List (V × V)} {j : Nat}, kpos g ks x kvs = some (some j) → ∃ kx, kvs[j]? = some kx ∧ valEq g ks x kx.1 = some true
  | [], j, h => by simp [kpos] at h
  | (a, y) :: kvs, j, h => by
    simp only [kpos] at h
    split at h
    · rename_i he
      cases h
      exact ⟨_, rfl, he⟩
    · simp only [Option.map_eq_some_iff] at h
      obtain ⟨r', hr', h2⟩ := h
      obtain ⟨j', rfl, rfl⟩ := h2
      simpa using kpos_eq hr'
    · cases h
theorem mget_does {g : Bool} {ks : List Nat} {t kt et : TypeId} {z : V} {ok : Bool} {m x : V} {v u : Value} (hu : P.underlying t = some (.map kt et)) (hk1 : flatK P 20 kt = some ks) (hg : isAggT P kt = g) (hz : zeroT P et = some z) (hC : HRep C) (hv : VRep C.R m v) (hx : VRep C.R x u)
    (hk : mgetK g ks z ok m x C.H K) : Does P (Instr.lookup t v u ok) C K := by
  obtain ⟨i, zv, hi, hzv, hzr, _, _⟩ := zero_rep (R := C.R) hz
  have hzero : (zeroValue et).run P C.w = .ok zv C.w := by simp [zeroValue, typeInfo, hi, hzv]
  have fin : ∀ (y : V) (yv : Value) (b : Bool), VRep C.R y yv → VRep C.R (bif ok then .tup [y, .bool b] else y) (if ok then .tuple #[yv, .bool b] else yv) := by
    intro y yv b hy
    cases ok
    · exact hy
    · simp only [cond_true, if_true, VRep]
      exact ⟨[yv, .bool b], rfl, CRep_cons hy (CRep_cons (VRep_bool.2 rfl) CRep_nil)⟩
  unfold mgetK at hk
  split at hk
  · rename_i j
    unfold mgetE at hk
    split at hk
    · rename_i kvs heq he
      obtain ⟨b, c, hb, rfl⟩ := map_at hv he rfl
      obtain ⟨b', c', es, clock, k1, k2, k3⟩ := hC.ent j _ he
      rw [hb] at k1
      obtain ⟨rfl, rfl⟩ : b = b' ∧ c = c' := by simpa using k1
      have hgo := run_getObj (P := P) k2 (fun _ _ _ h => by cases h)
      have hck := key_ok (empty := es.isEmpty) (w := C.w) hk1 hg heq hx
      unfold mgetP at hk
      split at hk
      · rename_i p hp
        have hf := findKey_run (w := C.w) hk1 hg hx k3 hp
        have hlt := ((find_run (w := C.w) hk1 hg hx 0 k3 hp).2 p rfl).1
        refine Does.pure hC ?_ (fin _ _ true (MRep_val p k3 hlt)) hk
        simp only [Instr.lookup, Sem.run_bind, run_underlying' hu, Result.andThen_ok, hgo, Sem.run_pure, hck, hf, hit, Nat.zero_add]
      · rename_i hp
        have hf := findKey_run (w := C.w) hk1 hg hx k3 hp
        refine Does.pure hC ?_ (fin _ _ false hzr) hk
        simp only [Instr.lookup, Sem.run_bind, run_underlying' hu, Result.andThen_ok, hgo, Sem.run_pure, hck, hf, hit, hzero]
      · exact hk.elim
    · exact hk.elim
  · unfold mgetN at hk
    split at hk
    · rename_i heq
      simp only [VRep] at hv
      subst hv
      have hck := key_ok (empty := (#[] : Array MapEntry).isEmpty) (w := C.w) hk1 hg heq hx
      have hf := findKey_run (C := C) (w := C.w) hk1 hg hx (kvs := []) (es := []) (r := none) rfl rfl
      refine Does.pure hC ?_ (fin _ _ false hzr) hk
      simp only [Instr.lookup, Sem.run_bind, run_underlying' hu, Result.andThen_ok, Sem.run_pure, hck, hf, hit, hzero]
    · exact hk.elim
  · exact hk.elim
theorem modify_set {α : Type} (f : α → α) : ∀ {l : List α} (p : Nat) {e : α}, l[p]? = some e → l.modify p f = l.set p (f e)
  | [], p, e, h => by simp at h
  | a :: l, 0, e, h => by simp at h; simp [h]
  | a :: l, p + 1, e, h => by simp only [List.getElem?_cons_succ] at h; simp [modify_set f p h]
theorem mput_does {g : Bool} {ks : List Nat} {t kt et : TypeId} {m x y : V} {v u z : Value} (hu : P.underlying t = some (.map kt et)) (hk1 : flatK P 20 kt = some ks) (hg : isAggT P kt = g) (hC : HRep C) (hv : VRep C.R m v) (hx : VRep C.R x u) (hy : VRep C.R y z)
    (hk : mputK g ks m x y C.H K) : DoesU P (Instr.mapUpdate t v u z) C K := by
  unfold mputK at hk
  split at hk
  · rename_i j
    unfold mputE at hk
    split at hk
    · rename_i kvs heq he
      obtain ⟨b, c, hb, rfl⟩ := map_at hv he rfl
      obtain ⟨b', c', es, clock, k1, k2, k3⟩ := hC.ent j _ he
      rw [hb] at k1
      obtain ⟨rfl, rfl⟩ : b = b' ∧ c = c' := by simpa using k1
      have hlt := (Array.getElem?_eq_some_iff.1 k2).1
      have hgo := run_getObj (P := P) k2 (fun _ _ _ h => by cases h)
      have hck := key_ok (empty := false) (w := C.w) hk1 hg heq hx
      have hst : ∀ kvs', STr (Entry.map kvs).shp (Entry.map kvs').shp (C.β j) (some (b, c)) := fun kvs' => by rw [hb]; simp [Entry.shp, STr]
      unfold mputP at hk
      split at hk
      · rename_i p hp
        have hf := findKey_run (w := C.w) hk1 hg hx k3 hp
        have hlt2 := ((find_run (w := C.w) hk1 hg hx 0 k3 hp).2 p rfl).1
        obtain ⟨kx, hkx, heq2⟩ := kpos_eq hp
        have hep : es.toList[p]? = some es.toList[p] := List.getElem?_eq_getElem hlt2
        obtain ⟨kx', hkx', hkr⟩ := MRep_key p _ k3 hep
        rw [hkx] at hkx'
        cases hkx'
        have hks := (key_same (P := P) (w := C.w) heq2 hx hkr).2
        have hs := run_setObj (P := P) (o' := .map (es.modify p fun e => { e with key := u, val := z }) clock) k2 (fun _ _ _ h => by cases h)
        have ht : Turns C { C.w with heap := C.w.heap.setIfInBounds b (.map (es.modify p fun e => { e with key := u, val := z }) clock) } j (some (b, c)) (.map kvs) (.map (kvs.set p (x, y))) := obj_turns he rfl hb hlt (hst _)
        have hrep := turn_rep hC ht ⟨b, c, es.modify p fun e => { e with key := u, val := z }, clock, turn_beta_new, by simp [Ctx.turn, hlt], by
          have e1 : (es.modify p fun e => { e with key := u, val := z }).toList = es.toList.set p { es.toList[p] with key := u, val := z } := by
            rw [Array.toList_modify]
            exact modify_set _ _ hep
          rw [e1]
          exact MRep_set (VRep_tr (turn_tr hC ht).R _ _ hx) (VRep_tr (turn_tr hC ht).R _ _ hy) p (MRep_tr (turn_tr hC ht).R _ _ k3)⟩
        refine ⟨_, ?_, turn_tr hC ht, hrep, hk⟩
        have hgk : ((es[p]?).map (·.key)).getD u = es.toList[p].key := by
          rw [← Array.getElem?_toList, hep]; rfl
        simp only [Instr.mapUpdate, Sem.run_bind, run_underlying' hu, Result.andThen_ok, hgo, hck, hf, hit, Nat.zero_add, hgk, hks]
        rw [hs]
        rfl
      · rename_i hp
        have hf := findKey_run (w := C.w) hk1 hg hx k3 hp
        have hs := run_setObj (P := P) (o' := .map (es.push { key := u, val := z, born := clock }) (clock + 1)) k2 (fun _ _ _ h => by cases h)
        have ht : Turns C { C.w with heap := C.w.heap.setIfInBounds b (.map (es.push { key := u, val := z, born := clock }) (clock + 1)) } j (some (b, c)) (.map kvs) (.map (kvs ++ [(x, y)])) := obj_turns he rfl hb hlt (hst _)
        have hrep := turn_rep hC ht ⟨b, c, es.push { key := u, val := z, born := clock }, clock + 1, turn_beta_new, by simp [Ctx.turn, hlt], by
          rw [Array.toList_push]
          exact MRep_push (e := { key := u, val := z, born := clock }) (VRep_tr (turn_tr hC ht).R _ _ hx) (VRep_tr (turn_tr hC ht).R _ _ hy) (MRep_tr (turn_tr hC ht).R _ _ k3)⟩
        refine ⟨_, ?_, turn_tr hC ht, hrep, hk⟩
        simp only [Instr.mapUpdate, Sem.run_bind, run_underlying' hu, Result.andThen_ok, hgo, hck, hf, hit]
        rw [hs]
        rfl
      · exact hk.elim
    · exact hk.elim
  · exact hk.elim
end
end Go.Av
namespace Go.Av
open Go Go.RowKit
set_option autoImplicit false
set_option linter.all false
section
variable {P : Program} {C : Ctx} {K : KV} {o : Oper} {a : Act} {next : Act → World → Prop} {Q : Exit → Act → World → Prop}
theorem wp_does {s : Sem Value} (he : execOp a.eval o = (do Pure.pure (.value (← s)))) (h : Does P s C K) (hn : ∀ (C' : Ctx) (x : V) (v : Value), Tr C C' → HRep C' → VRep C'.R x v → K x C'.H → next (a.put o.dst v) C'.w) : o.wp P a C.w next Q := by
  obtain ⟨C', x, v, h1, h2, h3, h4, h5⟩ := h
  unfold Oper.wp
  rw [he]
  simp only [Sem.run_bind, h1, Result.andThen_ok, Sem.run_pure, Oper.upon]
  exact hn C' x v h2 h3 h4 h5
theorem wp_pure {v : Value} (he : execOp a.eval o = Pure.pure (.value v)) {x : V} (hC : HRep C) (hv : VRep C.R x v) (hk : K x C.H) (hn : ∀ (C' : Ctx) (x : V) (v : Value), Tr C C' → HRep C' → VRep C'.R x v → K x C'.H → next (a.put o.dst v) C'.w) : o.wp P a C.w next Q := by
  unfold Oper.wp
  rw [he]
  simp only [Sem.run_pure, Oper.upon]
  exact hn C x v (Tr.refl C) hC hv hk
theorem wp_doesU {s : Sem Unit} (he : execOp a.eval o = (do s; Pure.pure .skip)) (h : DoesU P s C K) (hn : ∀ (C' : Ctx) (x : V) (v : Value), Tr C C' → HRep C' → VRep C'.R x v → K x C'.H → next (a.put o.dst v) C'.w) : o.wp P a C.w next Q := by
  obtain ⟨C', h1, h2, h3, h5⟩ := h
  unfold Oper.wp
  rw [he]
  simp only [Sem.run_bind, h1, Result.andThen_ok, Sem.run_pure, Oper.upon]
  exact hn C' undefV undef h2 h3 VRep_undef h5
theorem call_wp {f : V} {args : List V} {fo : Operand} {ops : Array Operand} {ats : Array TypeId} (ho : o.op = .call { callee := .value fo, args := ops, argTypes := ats }) (hC : HRep C) (hf : VRep C.R f (a.eval fo)) (ha : CRep C.R args (ops.toList.map a.eval))
    (hk : callK P f args C.H K) (hn : ∀ (C' : Ctx) (x : V) (v : Value), Tr C C' → HRep C' → VRep C'.R x v → K x C'.H → next (a.put o.dst v) C'.w) : o.wp P a C.w next Q := by
  unfold callK at hk
  split at hk
  · rename_i g x y
    obtain ⟨hb, hk⟩ := hk
    simp only [VRep] at hf
    obtain ⟨fs, cs, hfe, h1, h2⟩ := hf
    have hcall := hk C _ rfl hC (CRep_append h1 (CRep_append ha h2))
    unfold Oper.wp
    have hb2 := hb
    unfold hasBody at hb2
    split at hb2
    · rename_i fn hfn
      simp only [Bool.and_eq_true, bne_iff_ne, ne_eq] at hb2
      have hrun : (execOp a.eval o).run P C.w = .ok (.enter g (fs ++ (ops.toList.map a.eval ++ cs)).toArray) C.w := by
        unfold execOp
        rw [ho]
        have hbn : ¬ fn.body = none := by intro h; rw [h] at hb2; cases hb2.2
        have e1 : fs.toArray ++ (ops.map a.eval ++ cs.toArray) = (fs ++ (ops.toList.map a.eval ++ cs)).toArray := by
          apply Array.ext'
          simp
        simp [resolve, Deferred.ofValue, hfe, invoke, callFunc, hfn, hb2.1, hbn]
      rw [hrun]
      simp only [Oper.upon]
      refine Calls.mono hcall ?_
      rintro e w' ⟨C', x', v, rfl, rfl, k1, k2, k3, k4⟩
      exact hn C' x' v k1 k2 k3 k4
    · cases hb2
  · exact hk.elim
theorem nck_sound {x : Operand} {y : V} (ho : o.op = .nilCheck x) (hC : HRep C) (hv : VRep C.R y (a.eval x)) (hk : nckK y C.H K)
    (hn : ∀ (C' : Ctx) (x : V) (v : Value), Tr C C' → HRep C' → VRep C'.R x v → K x C'.H → next (a.put o.dst v) C'.w) : o.wp P a C.w next Q := by
  unfold nckK at hk
  split at hk
  · have hv' := hv
    simp only [VRep] at hv
    obtain ⟨b, o', cells, he, _⟩ := hv
    exact wp_pure (v := a.eval x) (by unfold execOp; rw [ho]; simp only [he]) hC hv' hk hn
  · obtain ⟨b, c, hb, he, hsh, hk⟩ := box_at hv hk
    exact wp_pure (v := a.eval x) (by unfold execOp; rw [ho]; simp only [he]) hC hv hk hn
  · have hv' := hv
    simp only [VRep] at hv
    obtain ⟨p, q, he, _⟩ := hv
    exact wp_pure (v := a.eval x) (by unfold execOp; rw [ho]; simp only [he]) hC hv' hk hn
  · exact hk.elim
theorem cvs_does {s t : TypeId} {x : V} {v : Value} (hs : P.underlying s = some .string) (ht : P.underlying t = some .string) (hC : HRep C) (hv : VRep C.R x v) (hk : cvsK x C.H K) : Does P (convert s t v) C K := by
  unfold cvsK at hk
  split at hk
  · have hv' := hv
    rw [VRep_str] at hv
    subst hv
    exact Does.pure hC (by simp [convert, run_underlying' hs, run_underlying' ht]) hv' hk
  · exact hk.elim
set_option maxHeartbeats 2000000 in
theorem op_sound {ao : AOp} {e : List V} (hc : cOp P o = some ao) (hC : HRep C) (hE : CRep C.R e a.tmps.toList) (hk : step P ao e C.H K)
    (hn : ∀ (C' : Ctx) (x : V) (v : Value), Tr C C' → HRep C' → VRep C'.R x v → K x C'.H → next (a.put o.dst v) C'.w) : o.wp P a C.w next Q := by
  have one : ∀ {x : Operand} {y : Opd}, cOpd x = some y → VRep C.R (ev e y) (a.eval x) := fun h => opd_rep h hE
  unfold cOp at hc
  split at hc
  · rename_i x ho
    obtain ⟨y, hy, rfl⟩ := Option.map_eq_some_iff.1 hc
    exact wp_pure (by unfold execOp; rw [ho]) hC (one hy) hk hn
  · rename_i x ho
    obtain ⟨y, hy, rfl⟩ := Option.map_eq_some_iff.1 hc
    exact wp_pure (by unfold execOp; rw [ho]) hC (one hy) hk hn
  · rename_i x ho
    obtain ⟨y, hy, rfl⟩ := Option.map_eq_some_iff.1 hc
    exact nck_sound ho hC (one hy) hk hn
  · rename_i c x y ho
    split at hc
    · rename_i c' x' y' h1 h2 h3
      cases hc
      simp only [step, pickK] at hk
      have hcv := one h1
      split at hk
      · rename_i t ht
        rw [ht, VRep_bool] at hcv
        refine wp_does (s := (do Pure.pure (if ← asBool (a.eval c) then a.eval x else a.eval y))) (by unfold execOp; rw [ho]; simp) ?_ hn
        rw [hcv]
        cases t
        · exact Does.pure hC (by simp [asBool]) (one h3) hk
        · exact Does.pure hC (by simp [asBool]) (one h2) hk
      · exact hk.elim
    · cases hc
  · rename_i t x ho
    obtain ⟨y, hy, rfl⟩ := Option.map_eq_some_iff.1 hc
    simp only [step, boxK] at hk
    split at hk
    · rename_i cs hcs
      exact wp_does (s := Instr.box t (a.eval x)) (by unfold execOp; rw [ho]) (newVar_does hC (cellsO_rep (one hy) hcs) hk) hn
    · exact hk.elim
  · rename_i t ho
    obtain ⟨z, hz, rfl⟩ := Option.map_eq_some_iff.1 hc
    obtain ⟨i, zv, hi, hzv, _, _, hzr⟩ := zero_rep (R := C.R) hz
    refine wp_does (s := Instr.alloc t true (.tuple #[])) (by unfold execOp; rw [ho]) ?_ hn
    have := newVar_does (P := P) (t := t) (v := zv) hC hzr hk
    obtain ⟨C', x, v, h1, h2⟩ := this
    refine ⟨C', x, v, ?_, h2⟩
    simp only [Instr.alloc, Sem.run_bind, zeroValue, typeInfo, run_program, Result.andThen_ok, hi, hzv, Sem.run_pure] at h1 ⊢
    exact h1
  · rename_i t parts ho
    have hex : execOp a.eval o = (do Pure.pure (.value (← Instr.build t (parts.map fun (i, x) => (i, a.eval x))))) := by unfold execOp; rw [ho]
    split at hc
    · rename_i fs z hu hz
      split at hc
      · rename_i hfs
        obtain ⟨ps, hps, rfl⟩ := Option.map_eq_some_iff.1 hc
        exact wp_does hex (build_struct_does hu hz hfs hps hC hE hk) hn
      · cases hc
    · rename_i len el z hu hz
      split at hc
      · rename_i n hn2
        obtain ⟨ps, hps, rfl⟩ := Option.map_eq_some_iff.1 hc
        exact wp_does hex (build_array_does hu hz hn2 hps hC hE hk) hn
      · cases hc
    · cases hc
  · rename_i t len parts ho
    split at hc
    · rename_i el hu
      split at hc
      · rename_i n l hn2 hl
        split at hc
        · rename_i hcond
          obtain ⟨q1, q2, q3, q4, q5⟩ := hcond
          cases hc
          have hk2 : bslF n (isAggT P el) (noids (evs e l)) (evs e l) C.H K := by simpa only [step] using hk
          have hd := bsl_does hu hn2 hl q1 q2 q5 hC hE hk2
          exact wp_does (s := Instr.buildSlice t len (parts.map fun (i, x) => (i, a.eval x))) (by unfold execOp; rw [ho]) hd hn
        · cases hc
      · cases hc
    · cases hc
  · rename_i t l c ho
    split at hc
    · rename_i el hu
      split at hc
      · rename_i i z l' c' hi hz h1 h2
        split at hc
        · rename_i hcond
          cases hc
          have hk2 : mksK el i.size (isAggT P el) z.cells i.bytes (ev e l') (ev e c') C.H K := by simpa only [step] using hk
          have hd := mks_does hu hi hz hcond.1 hcond.2.1 hcond.2.2 hC (one h1) (one h2) hk2
          exact wp_does (s := Instr.makeSlice t (a.eval l) (a.eval c)) (by unfold execOp; rw [ho]) hd hn
        · cases hc
      · cases hc
    · cases hc
  · rename_i t x ho
    split at hc
    · rename_i n x' hs h1
      split at hc
      · rename_i ht
        cases hc
        exact wp_does (s := Instr.loadAt t (a.eval x)) (by unfold execOp; rw [ho]) (load_does hs ht hC (one h1) hk) hn
      · cases hc
    · cases hc
  · rename_i t x y ho
    split at hc
    · rename_i n x' y' hs h1 h2
      cases hc
      exact wp_doesU (s := Instr.storeAt t (a.eval x) (a.eval y)) (by unfold execOp; rw [ho]) (store_does hs hC (one h1) (one h2) hk) hn
    · cases hc
  · rename_i op t x y yt ho
    have hex : execOp a.eval o = (do Pure.pure (.value (← (do eqGuard op t x y (a.eval x) (a.eval y); binOp op t (a.eval x) (a.eval y))))) := by unfold execOp; rw [ho]
    split at hc
    · rename_i x' y' h1 h2
      have agg : ∀ {neg : Bool} {ks : List Nat}, op = (if neg then .neq else .eql) → isAggT P t = true → P.eqGuardType P.depth t = false → flatK P 20 t = some ks → eqaK neg (eqaO ks (ev e x') (ev e y')) C.H K → o.wp P a C.w next Q := by
        intro neg ks hop hag hg hfk hk
        subst hop
        exact wp_does hex (eqa_does hg hfk hag hC (one h1) (one h2) hk) hn
      have nl : ∀ {neg : Bool} {kind : Nat}, op = (if neg then .neq else .eql) → kindOk kind (P.underlying t) = true → cnilK kind neg (ev e x') (ev e y') C.H K → o.wp P a C.w next Q := by
        intro neg kind hop hkd hk
        subst hop
        exact wp_does hex (cnil_any hkd hC (one h1) (one h2) hk) hn
      split at hc
      · rename_i fs hu
        split at hc
        · cases hc
        · rename_i hg
          have hg2 : P.eqGuardType P.depth t = false := by simpa using hg
          have hag : isAggT P t = true := by simp [isAggT, hu]
          split at hc
          · rename_i hfk; cases hc; exact agg (neg := false) rfl hag hg2 hfk hk
          · rename_i hfk; cases hc; exact agg (neg := true) rfl hag hg2 hfk hk
          · cases hc
      · rename_i n el hu
        split at hc
        · cases hc
        · rename_i hg
          have hg2 : P.eqGuardType P.depth t = false := by simpa using hg
          have hag : isAggT P t = true := by simp [isAggT, hu]
          split at hc
          · rename_i hfk; cases hc; exact agg (neg := false) rfl hag hg2 hfk hk
          · rename_i hfk; cases hc; exact agg (neg := true) rfl hag hg2 hfk hk
          · cases hc
      · cases hc
        exact wp_does hex (bin_does hC (one h1) (one h2) hk) hn
      · cases hc
        exact wp_does hex (bin_does hC (one h1) (one h2) hk) hn
      · rename_i hu
        split at hc
        · cases hc; exact wp_does hex (binb_does (neg := false) hu hC (one h1) (one h2) hk) hn
        · cases hc; exact wp_does hex (binb_does (neg := true) hu hC (one h1) (one h2) hk) hn
        · cases hc
      · rename_i el hu
        split at hc
        · cases hc; exact nl (neg := false) rfl (by rw [hu]; rfl) hk
        · cases hc; exact nl (neg := true) rfl (by rw [hu]; rfl) hk
        · cases hc
      · rename_i el hu
        split at hc
        · cases hc; exact nl (neg := false) rfl (by rw [hu]; rfl) hk
        · cases hc; exact nl (neg := true) rfl (by rw [hu]; rfl) hk
        · cases hc
      · rename_i k el hu
        split at hc
        · cases hc; exact nl (neg := false) rfl (by rw [hu]; rfl) hk
        · cases hc; exact nl (neg := true) rfl (by rw [hu]; rfl) hk
        · cases hc
      · rename_i p q r hu
        split at hc
        · cases hc; exact nl (neg := false) rfl (by rw [hu]; rfl) hk
        · cases hc; exact nl (neg := true) rfl (by rw [hu]; rfl) hk
        · cases hc
      · cases hc
    · cases hc
  · rename_i op t x ho
    obtain ⟨y, hy, rfl⟩ := Option.map_eq_some_iff.1 hc
    exact wp_does (s := Op.unary op (a.eval x)) (by unfold execOp; rw [ho]) (un_does hC (one hy) hk) hn
  · rename_i src dst x ho
    have hex : execOp a.eval o = (do Pure.pure (.value (← convert src dst (a.eval x)))) := by unfold execOp; rw [ho]
    split at hc
    · rename_i y q k h1 h2 h3
      cases hc
      exact wp_does hex (cvi_does h2 h3 hC (one h1) hk) hn
    · rename_i y h1 h2 h3
      cases hc
      exact wp_does hex (cvs_does h2 h3 hC (one h1) hk) hn
    · rename_i y el h1 h2 h3
      split at hc
      · rename_i h4
        cases hc
        exact wp_does hex (b2s_does h2 h4 h3 hC (one h1) hk) hn
      · cases hc
    · cases hc
  · rename_i f first caps ho
    split at hc
    · rename_i p q h1 h2
      cases hc
      refine wp_does (s := Instr.makeFunc (.func f) (first.map a.eval) (caps.map a.eval)) (by unfold execOp; rw [ho]) (Does.pure hC rfl ?_ hk) hn
      simp only [VRep]
      exact ⟨first.toList.map a.eval, caps.toList.map a.eval, by rw [← Array.toList_map, ← Array.toList_map], opds_rep h1 hE, opds_rep h2 hE⟩
    · cases hc
  · rename_i t ho
    split at hc
    · rename_i p q hu
      cases hc
      exact wp_does (s := Instr.makeMap t none) (by unfold execOp; rw [ho]; rfl) (mkm_does hu hC hk) hn
    · cases hc
  · rename_i t x lo hi mx ho
    have hex : execOp a.eval o = (do Pure.pure (.value (← Instr.sliceAt t (a.eval x) (lo.map a.eval) (hi.map a.eval) (mx.map a.eval)))) := by unfold execOp; rw [ho]
    split at hc
    · rename_i y lo' hi' hu h1 h2 h3 h4
      cases hc
      have hmx : mx = none := by cases mx <;> simp [cOpt] at h4 ⊢
      subst hmx
      exact wp_does hex (sls_does hu hC (one h1) (opt_rep h2 hE) (opt_rep h3 hE) hk) hn
    · rename_i el y lo' hi' mx' hu h1 h2 h3 h4
      obtain ⟨n, hn2, rfl⟩ := Option.map_eq_some_iff.1 hc
      exact wp_does hex (slc_does hu hn2 hC (one h1) (opt_rep h2 hE) (opt_rep h3 hE) (opt_rep h4 hE) hk) hn
    · cases hc
  · rename_i t x f ho
    split at hc
    · rename_i fs y hu h1
      split at hc
      · rename_i g hg
        split at hc
        · rename_i n hn2
          cases hc
          exact wp_does (s := Instr.fieldAt t (a.eval x) f) (by unfold execOp; rw [ho]) (fad_does hu hg hn2 hC (one h1) hk) hn
        · cases hc
      · cases hc
    · cases hc
  · rename_i t x f ho
    split at hc
    · rename_i fs y hu h1
      split at hc
      · rename_i g hg
        split at hc
        · rename_i n hn2
          split at hc
          · rename_i ht
            cases hc
            exact wp_does (s := Instr.field t (a.eval x) f) (by unfold execOp; rw [ho]) (fld_does hu hg hn2 ht hC (one h1) hk) hn
          · cases hc
        · cases hc
      · cases hc
    · cases hc
  · rename_i t x i ho
    have hex : execOp a.eval o = (do Pure.pure (.value (← Instr.indexAt t (a.eval x) (a.eval i)))) := by unfold execOp; rw [ho]
    split at hc
    · rename_i el y j hu h1 h2
      split at hc
      · rename_i n hn2
        split at hc
        · cases hc
          exact wp_does hex (iad_does hu hn2 hC (one h1) (one h2) hk) hn
        · cases hc
      · cases hc
    · rename_i len el y j hu h1 h2
      split at hc
      · rename_i n hn2
        cases hc
        exact wp_does hex (iaa_does hu hn2 hC (one h1) (one h2) hk) hn
      · cases hc
    · cases hc
  · rename_i t x i ho
    have hex : execOp a.eval o = (do Pure.pure (.value (← Instr.index t (a.eval x) (a.eval i)))) := by unfold execOp; rw [ho]
    split at hc
    · rename_i y j hu h1 h2
      cases hc
      exact wp_does hex (ixs_does hu hC (one h1) (one h2) hk) hn
    · rename_i len el y j hu h1 h2
      split at hc
      · rename_i n hn2
        split at hc
        · rename_i ht
          cases hc
          exact wp_does hex (ixa_does hu hn2 ht hC (one h1) (one h2) hk) hn
        · cases hc
      · cases hc
    · cases hc
  · rename_i t x i ok ho
    split at hc
    · rename_i kt et y j hu h1 h2
      split at hc
      · rename_i ks z hks hz
        cases hc
        exact wp_does (s := Instr.lookup t (a.eval x) (a.eval i) ok) (by unfold execOp; rw [ho]) (mget_does hu hks rfl hz hC (one h1) (one h2) hk) hn
      · cases hc
    · cases hc
  · rename_i t m k x ho
    split at hc
    · rename_i kt et m' k' x' hu h1 h2 h3
      split at hc
      · rename_i ks hks
        cases hc
        exact wp_doesU (s := Instr.mapUpdate t (a.eval m) (a.eval k) (a.eval x)) (by unfold execOp; rw [ho]) (mput_does hu hks rfl hC (one h1) (one h2) (one h3) hk) hn
      · cases hc
    · cases hc
  · rename_i t m k x ho
    split at hc
    · rename_i kt et m' k' x' hu h1 h2 h3
      split at hc
      · rename_i ks hks
        cases hc
        exact wp_doesU (s := Instr.mapUpdate t (a.eval m) (a.eval k) (a.eval x)) (by unfold execOp; rw [ho]) (mput_does hu hks rfl hC (one h1) (one h2) (one h3) hk) hn
      · cases hc
    · cases hc
  · rename_i t x ho
    have hex : execOp a.eval o = (do Pure.pure (.value (← Instr.range t (a.eval x)))) := by unfold execOp; rw [ho]
    split at hc
    · rename_i y hu h1
      cases hc
      exact wp_does hex (rng_does hu hC (one h1) hk) hn
    · cases hc
  · rename_i it s ho
    obtain ⟨y, hy, rfl⟩ := Option.map_eq_some_iff.1 hc
    exact wp_does (s := Instr.next (a.eval it) s o.type) (by unfold execOp; rw [ho]) (nxt_does hC (one hy) hk) hn
  · rename_i t i ho
    obtain ⟨y, hy, rfl⟩ := Option.map_eq_some_iff.1 hc
    exact wp_does (s := Instr.extract (a.eval t) i) (by unfold execOp; rw [ho]) (ext_does hC (one hy) hk) hn
  · rename_i b args ats ho
    have res : (resolve a.eval { callee := .builtin b, args := args, argTypes := ats } o.type) = Pure.pure { target := .builtin b ats o.type (args.map fun | .const _ => true | _ => false), args := args.map a.eval } := rfl
    have hex : ∀ (s : Sem Value), builtin b ats o.type (args.map fun | .const _ => true | _ => false) (args.map a.eval) = (do Pure.pure (.value (← s))) → execOp a.eval o = (do Pure.pure (.value (← s))) := by
      intro s hs
      unfold execOp
      rw [ho]
      show (do let d ← resolve a.eval { callee := .builtin b, args := args, argTypes := ats } o.type; invoke d.target d.args) = _
      rw [res]
      exact hs
    split at hc
    · cases hc
    · rename_i l hl
      have hr := opds_rep hl hE
      have hargs : args.map a.eval = (args.toList.map a.eval).toArray := by rw [← Array.toList_map]
      split at hc
      · rename_i x t ht
        have hats : ats = #[t] := by rw [← Array.toArray_toList (xs := ats), ht]
        obtain ⟨v, hv, hvr⟩ : ∃ v, args.map a.eval = #[v] ∧ VRep C.R (ev e x) v := by
          simp only [evs, CRep] at hr
          obtain ⟨d, r, h1, h2, rfl⟩ := hr
          exact ⟨d, by rw [hargs, h1], h2⟩
        have he := hex (Builtin.len_ ats o.type (args.map a.eval)) rfl
        rw [hv, hats] at he
        split at hc
        · rename_i hu; cases hc; exact wp_does he (len_does (by rw [hu]; rfl) hC hvr hk) hn
        · rename_i hu; cases hc; exact wp_does he (len_does (by rw [hu]; rfl) hC hvr hk) hn
        · rename_i hu; cases hc; exact wp_does he (len_does (by rw [hu]; rfl) hC hvr hk) hn
        · cases hc
      · rename_i x y s t ht
        have hats : ats = #[s, t] := by rw [← Array.toArray_toList (xs := ats), ht]
        obtain ⟨v, u, hv, hvr, hur⟩ : ∃ v u, args.map a.eval = #[v, u] ∧ VRep C.R (ev e x) v ∧ VRep C.R (ev e y) u := by
          simp only [evs, CRep] at hr
          obtain ⟨d, r, h1, h2, d2, r2, rfl, h3, rfl⟩ := hr
          exact ⟨d, d2, by rw [hargs, h1], h2, h3⟩
        have he := hex (Builtin.append_ ats o.type (args.map a.eval)) rfl
        rw [hv, hats] at he
        split at hc
        · rename_i el hu
          split at hc
          · rename_i i z el2 hi hz hu2
            split at hc
            · rename_i hcond
              cases hc
              obtain ⟨q1, q2, q3, q4⟩ := hcond
              subst q3
              have hz2 : i.zero = some z := by simpa [hi] using hz
              exact wp_does he (app_does hu hi hz2 q1 q2 hC hvr hur hk) hn
            · cases hc
          · rename_i i z hi hz hu2
            split at hc
            · rename_i hcond
              cases hc
              obtain ⟨q1, q2⟩ := hcond
              have hz2 : i.zero = some z := by simpa [hi] using hz
              exact wp_does he (apps_does hu hu2 hi hz2 q1 q2 hC hvr hur hk) hn
            · cases hc
          · cases hc
        · cases hc
      · rename_i x y s t ht
        have hats : ats = #[s, t] := by rw [← Array.toArray_toList (xs := ats), ht]
        obtain ⟨v, u, hv, hvr, hur⟩ : ∃ v u, args.map a.eval = #[v, u] ∧ VRep C.R (ev e x) v ∧ VRep C.R (ev e y) u := by
          simp only [evs, CRep] at hr
          obtain ⟨d, r, h1, h2, d2, r2, rfl, h3, rfl⟩ := hr
          exact ⟨d, d2, by rw [hargs, h1], h2, h3⟩
        have he := hex (Builtin.copy_ ats o.type (args.map a.eval)) rfl
        rw [hv, hats] at he
        split at hc
        · rename_i el hu
          obtain ⟨n, hn2, rfl⟩ := Option.map_eq_some_iff.1 hc
          exact wp_does he (copy_does hu hn2 hC hvr hur hk) hn
        · cases hc
      · rename_i x y s t ht
        split at hc
        · split at hc
          · cases hc; exact hk.elim
          · cases hc
        · cases hc
      · rename_i t ts ht
        split at hc
        · cases hc
          have he := hex (Builtin.min_ ats o.type (args.map a.eval)) rfl
          rw [hargs] at he
          exact wp_does he (mnx_does (m := true) (ts := ats) (t := o.type) hC hr hk) hn
        · cases hc
      · rename_i t ts ht
        split at hc
        · cases hc
          have he := hex (Builtin.max_ ats o.type (args.map a.eval)) rfl
          rw [hargs] at he
          exact wp_does he (mnx_does (m := false) (ts := ats) (t := o.type) hC hr hk) hn
        · cases hc
      · cases hc
  · rename_i f args ats ho
    split at hc
    · rename_i f' l h1 h2
      cases hc
      exact call_wp ho hC (one h1) (opds_rep h2 hE) hk hn
    · cases hc
  · cases hc
end
end Go.Av
namespace Go.Av
open Go Go.RowKit
set_option autoImplicit false
set_option linter.all false

/-! ### Code -/
def putD (e : List V) (d : Option Nat) (v : V) : List V := match d with | some i => setAt e i v | none => e
mutual
def idsLt (m : Nat) : V → Bool
  | .agg cs => idsLts m cs
  | .tup cs => idsLts m cs
  | .fn _ a b => idsLts m a && idsLts m b
  | .own g _ => decide (g < m)
  | .ptr g _ => decide (g < m)
  | .eptr g _ _ _ => decide (g < m)
  | .cut g _ _ _ => decide (g < m)
  | .map g => decide (g < m)
  | .it g => decide (g < m)
  | _ => true
def idsLts (m : Nat) : List V → Bool
  | [] => true
  | x :: l => idsLt m x && idsLts m l
end
def idsLtM (m : Nat) : List (V × V) → Bool
  | [] => true
  | (k, x) :: l => idsLt m k && (idsLt m x && idsLtM m l)
def idsLtE (m : Nat) : Entry → Bool
  | .box cs => idsLts m cs
  | .map kvs => idsLtM m kvs
  | _ => true
def eLe (m : Nat) : List V → List V → Prop
  | [], [] => True
  | a :: l, b :: l' => (b = .junk ∨ (b = a ∧ idsLt m b = true)) ∧ eLe m l l'
  | _, _ => False
/-- The first entries are the same, or given up. -/
def hLe (m : Nat) : List Entry → List Entry → Prop
  | _, [] => True
  | a :: l, b :: l' => (b = .gone ∨ (b = a ∧ idsLtE m b = true)) ∧ hLe m l l'
  | [], _ :: _ => False
/-! Less is known of a value -/
mutual
inductive Less : V → V → Prop
  | refl (x : V) : Less x x
  | nil (n : Nat) : Less .nilsl (.sl n [])
  | slx (n : Nat) (xs : List V) : Less (.slx n xs) (.sl n xs)
  | agg {l m : List V} (h : Lesses l m) : Less (.agg l) (.agg m)
  | tup {l m : List V} (h : Lesses l m) : Less (.tup l) (.tup m)
inductive Lesses : List V → List V → Prop
  | nil : Lesses [] []
  | cons {x y : V} {l m : List V} (h : Less x y) (k : Lesses l m) : Lesses (x :: l) (y :: m)
end
mutual
theorem Less.rep {R : Rd} : ∀ {x y : V} {v : Value}, Less x y → VRep R x v → VRep R y v
  | _, _, _, .refl _, hv => hv
  | _, _, _, .nil n, hv => by
    simp only [VRep] at hv ⊢
    exact .inl ⟨trivial, none, 0, hv⟩
  | _, _, _, .slx n xs, hv => by
    simp only [VRep] at hv ⊢
    rcases hv with ⟨h1, a, h2⟩ | ⟨b, o, cells, h1, h2, h3, h4, h5⟩
    · exact .inl ⟨h1, a, 0, h2⟩
    · exact .inr ⟨b, o, _, cells, h1, Nat.le_refl _, h2, h3, h4, h5⟩
  | _, _, _, .agg h, hv => by
    simp only [VRep] at hv ⊢
    obtain ⟨ds, rfl, hc⟩ := hv
    exact ⟨ds, rfl, Lesses.rep h hc⟩
  | _, _, _, .tup h, hv => by
    simp only [VRep] at hv ⊢
    obtain ⟨ds, rfl, hc⟩ := hv
    exact ⟨ds, rfl, Lesses.rep h hc⟩
theorem Lesses.rep {R : Rd} : ∀ {l m : List V} {vs : List Value}, Lesses l m → CRep R l vs → CRep R m vs
  | _, _, vs, .nil, h => h
  | _, _, vs, .cons h k, hv => by
    simp only [CRep] at hv ⊢
    obtain ⟨d, r, rfl, h1, h2⟩ := hv
    exact ⟨d, r, rfl, Less.rep h h1, Lesses.rep k h2⟩
end
/-- What is known may be less. -/
inductive Wk (n0 : Nat) : List V → List Entry → List V → List Entry → Prop
  | refl {e : List V} {H : List Entry} : Wk n0 e H e H
  | trans {e e1 e2 : List V} {H H1 H2 : List Entry} (h : Wk n0 e H e1 H1) (k : Wk n0 e1 H1 e2 H2) : Wk n0 e H e2 H2
  | drop {e e' : List V} {H H' : List Entry} (hn : n0 ≤ H'.length) (he : eLe H'.length e e') (hh : hLe H'.length H H') : Wk n0 e H e' H'
  | adopt {e : List V} {H : List Entry} (i E n : Nat) (h : nth e i = .nilsl) : Wk n0 e H (setAt e i (.own H.length 0)) (H ++ [.row E n []])
  | frz {e : List V} {H : List Entry} (i : Nat) : Wk n0 e H (setAt e i (fz 8 H (nth e i)).1) (fz 8 H (nth e i)).2
  | less {e e' : List V} {H : List Entry} (h : Lesses e e') : Wk n0 e H e' H
  | lessB {e : List V} {H : List Entry} {cs cs' : List V} (g : Nat) (hg : H[g]? = some (.box cs)) (h : Lesses cs cs') : Wk n0 e H e (H.set g (.box cs'))
  | frzB {e : List V} {H : List Entry} {cs : List V} (g : Nat) (hg : H[g]? = some (.box cs)) (hk : (fzsW (fz 8) H cs).2[g]? = some (.box cs)) : Wk n0 e H e ((fzsW (fz 8) H cs).2.set g (.box (fzsW (fz 8) H cs).1))
  | adoptB {e : List V} {H : List Entry} {cs : List V} (g j E n : Nat) (hg : H[g]? = some (.box cs)) (hj : nth cs j = .nilsl) : Wk n0 e H e (H.set g (.box (setAt cs j (.own H.length 0))) ++ [.row E n []])

/-- One operation, wanted or not. -/
def opK (P : Program) (o : AO) (K : KV) (e : List V) (H : List Entry) : Prop :=
  match o.guard with
  | none => step P o.op e H K
  | some (t, b) => match nth e t with
    | .bool c => bif c == b then step P o.op e H K else K undefV H
    | .tup _ => K undefV H
    | _ => False
def ops (P : Program) : List AO → K1 → List V → List Entry → Prop
  | [], K, e, H => K e H
  | o :: l, K, e, H => opK P o (fun v H' => ops P l K (putD e o.dst v) H') e H
def putK (P : Program) (d : Option Nat) (l : List AO) (K : K1) (e : List V) : KV := fun v H' => ops P l K (putD e d v) H'
def gdK (P : Program) (v : V) (b : Bool) (o : AOp) (K : KV) (e : List V) (H : List Entry) : Prop :=
  match v with
  | .bool c => bif c == b then step P o e H K else K undefV H
  | .tup _ => K undefV H
  | _ => False
/-- What is to be shown at a round's end. -/
def roundK (n0 : Nat) (I : Nat → K1) (n : Nat) (Q : KQ) : KQ
  | .norm, e, H => ∃ m e' H', m < n ∧ Wk n0 e H e' H' ∧ I m e' H'
  | x, e, H => Q x e H
def LoopP (n0 : Nat) (f : KQ → K1) (Q : KQ) (e : List V) (H : List Entry) : Prop :=
  ∃ I : Nat → K1, (∃ n e' H', Wk n0 e H e' H' ∧ I n e' H') ∧ ∀ n e H, I n e H → f (roundK n0 I n Q) e H
def seqK (k : K1) (Q : KQ) : KQ
  | .norm, e, H => k e H
  | x, e, H => Q x e H
def blockK (id : Nat) (Q : KQ) : KQ
  | .exit i, e, H => bif i == id then Q .norm e H else Q (.exit i) e H
  | x, e, H => Q x e H
def condK (v : V) (a b : K1) (e : List V) (H : List Entry) : Prop :=
  match v with
  | .bool c => bif c then a e H else b e H
  | _ => False
/-- New variables' numbers are told ahead. -/
def rsvO (n : Nat) (o : AOp) : AOp := match o with | .alcR j _ => .mv (.c (.ptr (n + j) 0)) | o => o
def rsvL (n : Nat) : List AO → List AO
  | [] => []
  | o :: l => ⟨o.dst, rsvO n o.op, o.guard⟩ :: rsvL n l
def sepN : Option Nat → Option Nat → Bool
  | some g, some h => !Nat.beq g h
  | _, _ => true
def sepV (a b : V) : Bool := sepN (gid a) (gid b)
def sepAll (e : List V) : List (Nat × Nat) → Prop
  | [] => True
  | (t, u) :: l => sepV (nth e t) (nth e u) = true ∧ sepAll e l
def sepK (ps : List (Nat × Nat)) (K : K1) : K1 := fun e H => sepAll e ps ∧ K e H
def drawP (P : Program) (bx : List (List V)) (ps : List (Nat × Nat)) (l : List AO) (K : K1) (e : List V) (H : List Entry) : Prop :=
  match bx with
  | [] => ops P l (sepK ps K) e H
  | b :: bs => ops P (rsvL H.length l) (sepK ps K) e (H ++ .box b :: bs.map .box)
def WkP (n0 : Nat) (f : K1) (e : List V) (H : List Entry) : Prop := ∃ e' H', Wk n0 e H e' H' ∧ f e' H'
def awp (P : Program) (n0 : Nat) : AC → KQ → List V → List Entry → Prop
  | .skip, Q, e, H => Q .norm e H
  | .ops l, Q, e, H => ops P l (Q .norm) e H
  | .draw l, Q, e, H => ops P l (Q .norm) e H
  | .drawX bx ps l, Q, e, H => drawP P bx ps l (Q .norm) e H
  | .seq a b, Q, e, H => awp P n0 a (seqK (awp P n0 b Q) Q) e H
  | .cond x a b, Q, e, H => condK (ev e x) (awp P n0 a Q) (awp P n0 b Q) e H
  | .block id a, Q, e, H => awp P n0 a (blockK id Q) e H
  | .loop a, Q, e, H => LoopP n0 (awp P n0 a) Q e H
  | .exit id, Q, e, H => Q (.exit id) e H
  | .scope a, Q, e, H => awp P n0 a Q e H
  | .ret, Q, e, H => Q .ret e H
  | .wk a, Q, e, H => WkP n0 (awp P n0 a Q) e H
  | .bad, _, _, _ => False
/-- The code without the places where less may be known. -/
def strip : AC → AC
  | .seq a b => .seq (strip a) (strip b)
  | .cond x a b => .cond x (strip a) (strip b)
  | .block id a => .block id (strip a)
  | .loop a => .loop (strip a)
  | .scope a => .scope (strip a)
  | .wk a => strip a
  | a => a

/-! ### What is known may be less: soundness -/
theorem Quiet.rep' {C C' : Ctx} {H' : List Entry} (h : Quiet C C' H') {e : List V} {l : List Value} (hE : CRep C.R e l) : CRep C'.R e l := CRep_tr h.tr.R _ _ hE
theorem CRep_setAt : ∀ {R : Rd} {e : List V} {ds : List Value} (i : Nat) {x : V}, CRep R e ds → (∀ v, ds[i]? = some v → VRep R x v) → CRep R (setAt e i x) ds
  | _, [], _, _, _, h, _ => h
  | _, c :: cs, ds, 0, x, h, hv => by
    simp only [CRep] at h
    obtain ⟨d, r, rfl, h1, h2⟩ := h
    exact CRep_cons (hv d rfl) h2
  | R, c :: cs, ds, i + 1, x, h, hv => by
    simp only [CRep] at h
    obtain ⟨d, r, rfl, h1, h2⟩ := h
    exact CRep_cons h1 (CRep_setAt i h2 (fun v hv' => hv v (by simpa using hv')))

theorem deep_less {R R' : Rd} (hw : R'.w = R.w) (ha : ∀ b, R'.av b → R.av b) : RTr R.deep R'.deep :=
  ⟨by show R.w.heap.size ≤ R'.w.heap.size; rw [hw]; exact Nat.le_refl _, fun b _ hn => ⟨by show R'.w.heap[b]? = R.w.heap[b]?; rw [hw], fun k => hn (ha b k)⟩, fun g s hs => by cases hs⟩
mutual
/-- With fewer numbers, and fewer blocks of one's own. -/
theorem VRep_less {R R' : Rd} {m : Nat} (hw : R'.w = R.w) (ha : ∀ b, R'.av b → R.av b) (hb : R'.β = R.β) (hs : ∀ g, g < m → R'.sh g = R.sh g ∨ (R.sh g ≠ none ∧ R'.sh g = some .gone)) : ∀ (x : V) (v : Value), idsLt m x = true → VRep R x v → VRep R' x v
  | .bool _, _, _, hv => by simpa only [VRep] using hv
  | .int _ _, _, _, hv => by simpa only [VRep] using hv
  | .str _, _, _, hv => by simpa only [VRep] using hv
  | .agg cs, _, hn, hv => by
    simp only [VRep] at hv ⊢
    obtain ⟨ds, rfl, hc⟩ := hv
    exact ⟨ds, rfl, CRep_less hw ha hb hs cs ds (by simpa only [idsLt] using hn) hc⟩
  | .tup cs, _, hn, hv => by
    simp only [VRep] at hv ⊢
    obtain ⟨ds, rfl, hc⟩ := hv
    exact ⟨ds, rfl, CRep_less hw ha hb hs cs ds (by simpa only [idsLt] using hn) hc⟩
  | .nilsl, _, _, hv => by simpa only [VRep] using hv
  | .sl n xs, v, _, hv => by
    have h2 : VRep R.deep (.sl n xs) v := by simp only [VRep] at hv ⊢; exact hv
    have h3 := VRep_tr (deep_less hw ha) _ v h2
    simp only [VRep] at h3 ⊢; exact h3
  | .slx n xs, v, _, hv => by
    have h2 : VRep R.deep (.slx n xs) v := by simp only [VRep] at hv ⊢; exact hv
    have h3 := VRep_tr (deep_less hw ha) _ v h2
    simp only [VRep] at h3 ⊢; exact h3
  | .own g len, v, hn, hv => by
    have hg : g < m := by simpa only [idsLt, decide_eq_true_eq] using hn
    simp only [VRep] at hv ⊢
    rcases hs g hg with h | ⟨_, h⟩
    · rw [h, hb]; exact hv
    · rw [h]; exact ⟨hv.1, trivial⟩
  | .nilp, _, _, hv => by simpa only [VRep] using hv
  | .ref cs, v, _, hv => by
    have h2 : VRep R.deep (.ref cs) v := by simp only [VRep] at hv ⊢; exact hv
    have h3 := VRep_tr (deep_less hw ha) _ v h2
    simp only [VRep] at h3 ⊢; exact h3
  | .ptr g off, v, hn, hv => by
    have hg : g < m := by simpa only [idsLt, decide_eq_true_eq] using hn
    simp only [VRep] at hv ⊢
    rcases hs g hg with h | ⟨_, h⟩
    · rw [h, hb]; exact hv
    · rw [h]; exact ⟨hv.1, trivial⟩
  | .eptr g len i off, v, hn, hv => by
    have hg : g < m := by simpa only [idsLt, decide_eq_true_eq] using hn
    simp only [VRep] at hv ⊢
    rcases hs g hg with h | ⟨_, h⟩
    · rw [h, hb]; exact hv
    · rw [h]; exact ⟨hv.1, trivial⟩
  | .cut g len i j, v, hn, hv => by
    have hg : g < m := by simpa only [idsLt, decide_eq_true_eq] using hn
    simp only [VRep] at hv ⊢
    rcases hs g hg with h | ⟨_, h⟩
    · rw [h, hb]; exact hv
    · rw [h]; exact ⟨hv.1, trivial⟩
  | .nilfn, _, _, hv => by simpa only [VRep] using hv
  | .fn f a b, _, hn, hv => by
    simp only [idsLt, Bool.and_eq_true] at hn
    simp only [VRep] at hv ⊢
    obtain ⟨x, y, rfl, h1, h2⟩ := hv
    exact ⟨x, y, rfl, CRep_less hw ha hb hs a x hn.1 h1, CRep_less hw ha hb hs b y hn.2 h2⟩
  | .nilmap, _, _, hv => by simpa only [VRep] using hv
  | .map g, v, hn, hv => by
    have hg : g < m := by simpa only [idsLt, decide_eq_true_eq] using hn
    simp only [VRep] at hv ⊢
    rcases hs g hg with h | ⟨_, h⟩
    · rw [h, hb]; exact hv
    · rw [h]; exact ⟨hv.1, trivial⟩
  | .it g, v, hn, hv => by
    have hg : g < m := by simpa only [idsLt, decide_eq_true_eq] using hn
    simp only [VRep] at hv ⊢
    rcases hs g hg with h | ⟨_, h⟩
    · rw [h, hb]; exact hv
    · rw [h]; exact ⟨hv.1, trivial⟩
  | .junk, _, _, _ => by simp only [VRep]
theorem CRep_less {R R' : Rd} {m : Nat} (hw : R'.w = R.w) (ha : ∀ b, R'.av b → R.av b) (hb : R'.β = R.β) (hs : ∀ g, g < m → R'.sh g = R.sh g ∨ (R.sh g ≠ none ∧ R'.sh g = some .gone)) : ∀ (cs : List V) (ds : List Value), idsLts m cs = true → CRep R cs ds → CRep R' cs ds
  | [], _, _, hv => by simpa only [CRep] using hv
  | c :: cs, ds, hn, hv => by
    simp only [idsLts, Bool.and_eq_true] at hn
    simp only [CRep] at hv ⊢
    obtain ⟨d, r, rfl, h1, h2⟩ := hv
    exact ⟨d, r, rfl, VRep_less hw ha hb hs c d hn.1 h1, CRep_less hw ha hb hs cs r hn.2 h2⟩
end

theorem nth_ids {m : Nat} : ∀ {e e' : List V} {R R' : Rd} {ds : List Value}, eLe m e e' → (∀ (x : V) (v : Value), idsLt m x = true → VRep R x v → VRep R' x v) → CRep R e ds → CRep R' e' ds
  | [], [], _, _, _, _, _, hr => by simpa only [CRep] using hr
  | [], _ :: _, _, _, _, h, _, _ => by simp [eLe] at h
  | _ :: _, [], _, _, _, h, _, _ => by simp [eLe] at h
  | a :: l, b :: l', R, R', ds, h, hs, hr => by
    simp only [eLe] at h
    simp only [CRep] at hr ⊢
    obtain ⟨d, r, rfl, h1, h2⟩ := hr
    refine ⟨d, r, rfl, ?_, nth_ids h.2 hs h2⟩
    rcases h.1 with rfl | ⟨rfl, hi⟩
    · exact VRep_junk
    · exact hs _ _ hi h1
theorem hLe_get {m : Nat} : ∀ {H H' : List Entry} {g : Nat} {e' : Entry}, hLe m H H' → H'[g]? = some e' → ∃ e, H[g]? = some e ∧ (e' = .gone ∨ (e' = e ∧ idsLtE m e' = true))
  | _, [], g, e', _, he => by simp at he
  | [], _ :: _, _, _, h, _ => by simp [hLe] at h
  | a :: l, b :: l', 0, e', h, he => by
    simp only [hLe] at h
    simp at he; subst he
    exact ⟨a, rfl, h.1⟩
  | a :: l, b :: l', g + 1, e', h, he => by
    simp only [hLe] at h
    simpa using hLe_get h.2 (by simpa using he)
/-- Fewer numbers. -/
def Ctx.less (C : Ctx) (H' : List Entry) : Ctx := ⟨C.w, C.β, H', C.F⟩
section less
variable {C C0 : Ctx} {H' : List Entry}
theorem less_own (hh : hLe H'.length C.H H') {b : Nat} (h : (C.less H').own b) : C.own b := by
  obtain ⟨g, e, c, h1, h2, h3⟩ := h
  obtain ⟨e0, k1, k2⟩ := hLe_get hh h1
  rcases k2 with rfl | ⟨rfl, _⟩
  · cases h2
  · exact ⟨g, e, c, k1, h2, h3⟩
theorem less_av (hh : hLe H'.length C.H H') (b : Nat) (h : (C.less H').av b) : C.av b := h.imp (less_own hh) id
theorem less_sh (hh : hLe H'.length C.H H') (g : Nat) (hg : g < H'.length) : (C.less H').R.sh g = C.R.sh g ∨ (C.R.sh g ≠ none ∧ (C.less H').R.sh g = some .gone) := by
  have h1 : H'[g]? = some H'[g] := List.getElem?_eq_getElem hg
  obtain ⟨e0, k1, k2⟩ := hLe_get hh h1
  have s1 : C.R.sh g = some e0.shp := by simp [Ctx.R, Ctx.sh, k1]
  have s2 : (C.less H').R.sh g = some H'[g].shp := by simp [Ctx.R, Ctx.sh, Ctx.less, h1]
  rcases k2 with k2 | ⟨k2, _⟩
  · right; rw [s1, s2, k2]; simp [Entry.shp]
  · left; rw [s1, s2, k2]
theorem less_V (hh : hLe H'.length C.H H') (x : V) (v : Value) (hi : idsLt H'.length x = true) (h : VRep C.R x v) : VRep (C.less H').R x v :=
  VRep_less (R := C.R) (R' := (C.less H').R) rfl (less_av hh) rfl (less_sh hh) x v hi h
theorem less_C (hh : hLe H'.length C.H H') (x : List V) (v : List Value) (hi : idsLts H'.length x = true) (h : CRep C.R x v) : CRep (C.less H').R x v :=
  CRep_less (R := C.R) (R' := (C.less H').R) rfl (less_av hh) rfl (less_sh hh) x v hi h
theorem less_M (hh : hLe H'.length C.H H') : ∀ (kvs : List (V × V)) (es : List MapEntry), idsLtM H'.length kvs = true → MRep C.R kvs es → MRep (C.less H').R kvs es
  | [], _, _, h => h
  | (k, x) :: l, es, hi, h => by
    simp only [idsLtM, Bool.and_eq_true] at hi
    obtain ⟨e, r, rfl, h1, h2, h3⟩ := h
    exact ⟨e, r, rfl, less_V hh _ _ hi.1 h1, less_V hh _ _ hi.2.1 h2, less_M hh l r hi.2.2 h3⟩
theorem less_deepE (hh : hLe H'.length C.H H') {n : Nat} {xs : List V} {cells : List Value} (h : ERep C.R.deep n xs cells) : ERep (C.less H').R.deep n xs cells :=
  ERep_tr (deep_less (R := C.R) (R' := (C.less H').R) rfl (less_av hh)) n xs cells h
theorem less_deepC (hh : hLe H'.length C.H H') {xs : List V} {cells : List Value} (h : CRep C.R.deep xs cells) : CRep (C.less H').R.deep xs cells :=
  CRep_tr (deep_less (R := C.R) (R' := (C.less H').R) rfl (less_av hh)) xs cells h
theorem less_rep (hC : HRep C) (hh : hLe H'.length C.H H') : HRep (C.less H') := by
  refine ⟨fun g e he => ?_, ?_, fun b hb => hC.nF b (less_own hh hb), hC.ltF⟩
  · obtain ⟨e0, k1, k2⟩ := hLe_get hh he
    rcases k2 with rfl | ⟨rfl, hi⟩
    · trivial
    · have h0 := hC.ent g e k1
      cases e with
      | box cs =>
        obtain ⟨b, c, cur, E, h1, h2, h3⟩ := h0
        exact ⟨b, c, cur, E, h1, h2, less_C hh _ _ hi h3⟩
      | ibox cs =>
        obtain ⟨b, c, cells, h1, h2, h3, h4, h5⟩ := h0
        exact ⟨b, c, cells, h1, fun k => h2 (less_av hh b k), h3, h4, less_deepC hh h5⟩
      | row E n xs =>
        rcases h0 with h0 | ⟨b, cap, cur, cells, h1, h2, h3, h4, h5, h6, h7⟩
        · exact .inl h0
        · exact .inr ⟨b, cap, cur, cells, h1, h2, h3, h4, h5, h6, less_deepE hh h7⟩
      | irow n xs =>
        rcases h0 with h0 | ⟨b, cap, cells, h1, h2, h3, h4, h5, h6⟩
        · exact .inl h0
        · exact .inr ⟨b, cap, cells, h1, fun k => h2 (less_av hh b k), h3, h4, h5, less_deepE hh h6⟩
      | map kvs =>
        obtain ⟨b, c, es, clock, h1, h2, h3⟩ := h0
        exact ⟨b, c, es, clock, h1, h2, less_M hh _ _ hi h3⟩
      | siter s pos => exact h0
      | resv => trivial
      | gone => trivial
  · intro g g' e e' b c c' h1 h2 o1 o2 b1 b2
    obtain ⟨e0, k1, k2⟩ := hLe_get hh h1
    obtain ⟨e0', m1, m2⟩ := hLe_get hh h2
    rcases k2 with rfl | ⟨rfl, _⟩
    · cases o1
    rcases m2 with rfl | ⟨rfl, _⟩
    · cases o2
    exact hC.inj g g' _ _ b c c' k1 m1 o1 o2 b1 b2
theorem less_tr (ht : Tr C0 C) (hn : C0.H.length ≤ H'.length) (hh : hLe H'.length C.H H') : Tr C0 (C.less H') := by
  refine ⟨ht.os, ht.tape, ht.output, ht.size, ht.F, fun b hb hn => ?_, fun g s hs => ?_⟩
  · obtain ⟨k1, k2⟩ := ht.keep b hb hn
    exact ⟨k1, fun k => k2 (less_own hh k)⟩
  · obtain ⟨s', h1, h2⟩ := ht.ids g s hs
    have hg : g < C0.H.length := by
      rcases Nat.lt_or_ge g C0.H.length with h | h
      · exact h
      · simp [Ctx.sh, List.getElem?_eq_none h] at hs
    have h3 : H'[g]? = some (H'[g]'(by omega)) := List.getElem?_eq_getElem (by omega)
    obtain ⟨e0, k1, k2⟩ := hLe_get hh h3
    have s1 : C.sh g = some e0.shp := by simp [Ctx.sh, k1]
    have s2 : (C.less H').sh g = some (H'[g]'(by omega)).shp := by simp [Ctx.sh, Ctx.less, h3]
    rw [s1] at h1; cases h1
    rcases k2 with k2 | ⟨k2, _⟩
    · refine ⟨_, s2, ?_⟩
      rw [k2]
      cases s <;> simp [STr, Entry.shp]
    · refine ⟨_, s2, ?_⟩
      rw [k2]; exact h2
end less
theorem box_turns {C : Ctx} {g : Nat} {cs cs' : List V} (he : C.H[g]? = some (.box cs)) : Turns C C.w g (C.β g) (.box cs) (.box cs') :=
  ⟨he, rfl, rfl, rfl, Nat.le_refl _, fun _ _ _ => rfl, .inl ⟨rfl, rfl⟩, fun _ b c hx => .inl ⟨rfl, c, hx⟩⟩
theorem box_less {C : Ctx} {g : Nat} {cs cs' : List V} (hC : HRep C) (he : C.H[g]? = some (.box cs)) (h : ∀ ds, CRep C.R cs ds → CRep C.R cs' ds) :
    Tr C (C.turn C.w g (C.β g) (.box cs')) ∧ HRep (C.turn C.w g (C.β g) (.box cs')) := by
  have ht := box_turns (cs' := cs') he
  refine ⟨turn_tr hC ht, turn_rep hC ht ?_⟩
  obtain ⟨b, c, cur, E, h1, h2, h3⟩ := hC.ent g _ he
  exact ⟨b, c, cur, E, by rw [turn_beta_new]; exact h1, h2, CRep_tr (turn_tr hC ht).R _ _ (h _ h3)⟩
/-- Less is known: nothing is done. -/
theorem Wk_sound {n0 : Nat} {e e' : List V} {H H' : List Entry} (h : Wk n0 e H e' H') : ∀ (C0 C : Ctx) (l : List Value), C0.H.length = n0 → C.H = H → Tr C0 C → HRep C → CRep C.R e l →
    ∃ C', C'.w = C.w ∧ C'.H = H' ∧ Tr C0 C' ∧ HRep C' ∧ CRep C'.R e' l := by
  induction h with
  | refl => exact fun C0 C l _ h1 h2 h3 h4 => ⟨C, rfl, h1, h2, h3, h4⟩
  | trans _ _ ih1 ih2 =>
    intro C0 C l hn h1 h2 h3 h4
    obtain ⟨C1, w1, k1, k2, k3, k4⟩ := ih1 C0 C l hn h1 h2 h3 h4
    obtain ⟨C2, w2, m1, m2, m3, m4⟩ := ih2 C0 C1 l hn k1 k2 k3 k4
    exact ⟨C2, w2.trans w1, m1, m2, m3, m4⟩
  | @drop e e' H H' hn he hh =>
    intro C0 C l hn0 h1 h2 h3 h4
    subst h1
    exact ⟨C.less H', rfl, rfl, less_tr h2 (by omega) hh, less_rep h3 hh, nth_ids he (less_V hh) h4⟩
  | @adopt e H i E n hi =>
    intro C0 C l hn0 h1 h2 h3 h4
    subst h1
    refine ⟨C.more (.row E n []), rfl, rfl, h2.trans more_tr, more_rep h3 (.inl ⟨more_beta_new, rfl⟩), CRep_setAt i (CRep_tr more_tr.R _ _ h4) fun v hv => ?_⟩
    have := CRep_get i v h4 hv
    rw [hi] at this
    simp only [VRep] at this
    subst this
    have hsh : (C.more (.row E n [])).R.sh C.H.length = some (.row n 0) := by simp [Ctx.R, Ctx.sh, more_get_new, Entry.shp]
    simp only [VRep, hsh]
    exact ⟨rfl, Nat.le_refl _, fun _ => .inl ⟨more_beta_new (e := .row E n []), none, rfl⟩⟩
  | @frz e H i =>
    intro C0 C l hn0 h1 h2 h3 h4
    subst h1
    by_cases hi : i < l.length
    · have hv : l[i]? = some l[i] := List.getElem?_eq_getElem hi
      obtain ⟨C1, q1, r1⟩ := fz_ok 8 C (nth e i) _ h3 (CRep_get i _ h4 hv)
      refine ⟨C1, q1.w, q1.h, h2.trans q1.tr, q1.rep, CRep_setAt i (q1.rep' h4) fun v hv' => ?_⟩
      rw [hv] at hv'; cases hv'
      exact r1
    · have hj : nth e i = .junk := nth_out (by rw [CRep_length h4]; omega)
      have hf : fz 8 C.H (nth e i) = (.junk, C.H) := by rw [hj]; rfl
      rw [hf]
      exact ⟨C, rfl, rfl, h2, h3, CRep_setAt i h4 fun v _ => VRep_junk⟩
  | less h => exact fun C0 C l _ h1 h2 h3 h4 => ⟨C, rfl, h1, h2, h3, h.rep h4⟩
  | @lessB e H cs cs' g hg h =>
    intro C0 C l hn0 h1 h2 h3 h4
    subst h1
    obtain ⟨k1, k2⟩ := box_less (cs' := cs') h3 hg fun ds hd => h.rep hd
    exact ⟨C.turn C.w g (C.β g) (.box cs'), rfl, rfl, h2.trans k1, k2, CRep_tr k1.R _ _ h4⟩
  | @frzB e H cs g hg hk =>
    intro C0 C l hn0 h1 h2 h3 h4
    subst h1
    obtain ⟨b, c, cur, E, k1, k2, k3⟩ := h3.ent g _ hg
    obtain ⟨C1, q1, r1⟩ := fzsW_ok (fz_ok 8) C cs _ h3 k3
    have hk' : C1.H[g]? = some (.box cs) := by rw [q1.h]; exact hk
    have hβ : C1.β g = C.β g := by
      obtain ⟨s', hs', ht⟩ := q1.tr.ids g .box (by simp [Ctx.sh, hg, Entry.shp])
      have : s' = .box := by simpa [Ctx.sh, hk', Entry.shp] using hs'.symm
      subst this
      simpa [STr] using ht
    have ht := box_turns (cs' := (fzsW (fz 8) C.H cs).1) hk'
    have t2 := q1.tr.trans (turn_tr q1.rep ht)
    exact ⟨C1.turn C1.w g (C1.β g) (.box (fzsW (fz 8) C.H cs).1), q1.w, by simp only [Ctx.turn, q1.h], h2.trans t2, turn_rep q1.rep ht ⟨b, c, cur, E, by rw [turn_beta_new, hβ]; exact k1, by show C1.w.heap[b]? = _; rw [q1.w]; exact k2, CRep_tr (turn_tr q1.rep ht).R _ _ r1⟩, CRep_tr t2.R _ _ h4⟩
  | @adoptB e H cs g j E n hg hj =>
    intro C0 C l hn0 h1 h2 h3 h4
    subst h1
    have hlt : g < C.H.length := (List.getElem?_eq_some_iff.1 hg).1
    have m1 : Tr C (C.more (.row E n [])) := more_tr
    have m2 := more_rep (e := .row E n []) h3 (.inl ⟨more_beta_new, rfl⟩)
    have hg' : (C.more (.row E n [])).H[g]? = some (.box cs) := by
      simp only [Ctx.more]
      rw [List.getElem?_append_left hlt]; exact hg
    obtain ⟨k1, k2⟩ := box_less (cs' := setAt cs j (.own C.H.length 0)) m2 hg' fun ds hd => CRep_setAt j hd fun v hv => by
      have := CRep_get j v hd hv
      rw [hj] at this
      simp only [VRep] at this
      subst this
      have hsh : (C.more (.row E n [])).R.sh C.H.length = some (.row n 0) := by simp [Ctx.R, Ctx.sh, more_get_new, Entry.shp]
      simp only [VRep, hsh]
      exact ⟨rfl, Nat.le_refl _, fun _ => .inl ⟨more_beta_new (e := .row E n []), none, rfl⟩⟩
    refine ⟨(C.more (.row E n [])).turn (C.more (.row E n [])).w g ((C.more (.row E n [])).β g) (.box (setAt cs j (.own C.H.length 0))), rfl, ?_, (h2.trans m1).trans k1, k2, CRep_tr (m1.trans k1).R _ _ h4⟩
    simp only [Ctx.turn, Ctx.more]
    rw [List.set_append_left _ _ hlt]
end Go.Av
namespace Go.Av
open Go Go.RowKit
set_option autoImplicit false
set_option linter.all false
section
variable {P : Program}
theorem put_rep {R : Rd} {e : List V} {a : Act} {d : Option Nat} {x : V} {v : Value} (hE : CRep R e a.tmps.toList) (hv : VRep R x v) : CRep R (putD e d x) (a.put d v).tmps.toList := by
  cases d with
  | none => exact hE
  | some i =>
    simp only [putD, Act.put, Array.toList_setIfInBounds]
    exact CRep_set i hE hv
theorem put_defers {a : Act} {d : Option Nat} {v : Value} : (a.put d v).defers = a.defers := by cases d <;> rfl
theorem guard_sound {ops : Array Oper} {R : Rd} {a : Act} {e : List V} {j t : Nat} {b c : Bool} (hg : (ops[j]?).bind (·.dst) = some t) (hE : CRep R e a.tmps.toList) (hv : nth e t = .bool c) : (yielded ops a.tmps j == some b) = (c == b) := by
  unfold yielded
  rw [hg]
  simp only [Option.bind_some]
  rcases Nat.lt_or_ge t a.tmps.size with h | h
  · have h1 : a.tmps.toList[t]? = some a.tmps[t] := by simp [h]
    have h2 := CRep_get t _ hE h1
    rw [hv, VRep_bool] at h2
    simp [h, h2]
  · have : nth e t = .junk := nth_out (by rw [CRep_length hE]; simpa using h)
    rw [this] at hv; cases hv
theorem guard_sound_tup {ops : Array Oper} {R : Rd} {a : Act} {e : List V} {j t : Nat} {b : Bool} {vs : List V} (hg : (ops[j]?).bind (·.dst) = some t) (hE : CRep R e a.tmps.toList) (hv : nth e t = .tup vs) : (yielded ops a.tmps j == some b) = false := by
  unfold yielded
  rw [hg]
  simp only [Option.bind_some]
  rcases Nat.lt_or_ge t a.tmps.size with h | h
  · have h1 : a.tmps.toList[t]? = some a.tmps[t] := by simp [h]
    have h2 := CRep_get t _ hE h1
    rw [hv] at h2
    simp only [VRep] at h2
    obtain ⟨ds, h2, _⟩ := h2
    simp [h, h2]
  · have : nth e t = .junk := nth_out (by rw [CRep_length hE]; simpa using h)
    rw [this] at hv; cases hv
theorem cGuard_some {ops : Array Oper} {j : Nat} {b : Bool} {g : Option (Nat × Bool)} (h : cGuard ops (some (j, b)) = some g) : ∃ t, (ops[j]?).bind (·.dst) = some t ∧ g = some (t, b) := by
  unfold cGuard at h
  split at h
  · rename_i h0; cases h0
  · rename_i j' b' h0
    cases h0
    split at h
    · rename_i d hd
      cases h
      exact ⟨d, hd, rfl⟩
    · cases h
theorem ops_cons (o : AO) (l : List AO) (K : K1) (e : List V) (H : List Entry) : ops P (o :: l) K e H = opK P o (putK P o.dst l K e) e H := rfl
theorem opK_sound {ops : Array Oper} {o : Oper} {ao : AOp} {g : Option (Nat × Bool)} {C : Ctx} {a : Act} {e : List V} {K : KV} {i : Nat} {Q : Exit → Act → World → Prop} {next : Act → World → Prop} (hi : ops[i]? = some o) (hc : cOp P o = some ao) (hg : cGuard ops o.guard = some g)
    (hC : HRep C) (hE : CRep C.R e a.tmps.toList) (hk : opK P ⟨o.dst, ao, g⟩ K e C.H)
    (hn : ∀ (C' : Ctx) (x : V) (v : Value), Tr C C' → HRep C' → VRep C'.R x v → K x C'.H → next (a.put o.dst v) C'.w) : wpOp P ops Q i next a C.w := by
  unfold wpOp
  simp only [hi]
  unfold opK at hk
  cases hog : o.guard with
  | none =>
    rw [hog] at hg
    simp only [cGuard, Option.some.injEq] at hg
    subst hg
    simp only [Region.wanted, hog, if_true]
    exact .inl (op_sound hc hC hE hk hn)
  | some jb =>
    obtain ⟨j, b⟩ := jb
    rw [hog] at hg
    obtain ⟨t, ht, rfl⟩ := cGuard_some hg
    simp only [Region.wanted, hog] at hk ⊢
    split at hk
    · rename_i c hv
      rw [guard_sound ht hE hv]
      cases hcb : (c == b) with
      | true =>
        rw [hcb] at hk
        simp only [if_true]
        exact .inl (op_sound hc hC hE hk hn)
      | false =>
        rw [hcb] at hk
        simp only [Bool.false_eq_true, if_false]
        exact hn C _ undef (Tr.refl C) hC VRep_undef hk
    · rename_i vs hv
      rw [guard_sound_tup ht hE hv]
      simp only [Bool.false_eq_true, if_false]
      exact hn C _ undef (Tr.refl C) hC VRep_undef hk
    · exact hk.elim
theorem cOps_cons {ops : Array Oper} {o : Oper} {l : List Oper} {aos : List AO} (h : cOps P ops (o :: l) = some aos) : ∃ ao g r, cOp P o = some ao ∧ cGuard ops o.guard = some g ∧ cOps P ops l = some r ∧ aos = ⟨o.dst, ao, g⟩ :: r := by
  simp only [cOps] at h
  split at h
  · rename_i a g r h1 h2 h3
    cases h
    exact ⟨a, g, r, h1, h2, h3, rfl⟩
  · cases h
theorem ops_sound {ops : Array Oper} {Q : Exit → Act → World → Prop} {K : K1} : ∀ (l : List Oper) (i : Nat) (aos : List AO), cOps P ops l = some aos → (∀ k o, l[k]? = some o → ops[i + k]? = some o) →
    ∀ (C : Ctx) (a : Act) (e : List V), HRep C → CRep C.R e a.tmps.toList → Av.ops P aos K e C.H →
    (∀ (C' : Ctx) (a' : Act) (e' : List V), Tr C C' → HRep C' → CRep C'.R e' a'.tmps.toList → a'.defers = a.defers → K e' C'.H → Q .normal a' C'.w) → wpOps P ops Q (List.range' i l.length) a C.w
  | [], i, aos, h, _, C, a, e, hC, hE, hk, hn => by
    simp only [cOps, Option.some.injEq] at h
    subst h
    simp only [List.length_nil, List.range'_zero, wpOps]
    exact hn C a e (Tr.refl C) hC hE rfl hk
  | o :: l, i, aos, h, hl, C, a, e, hC, hE, hk, hn => by
    obtain ⟨ao, g, r, h1, h2, h3, rfl⟩ := cOps_cons h
    have hi : ops[i]? = some o := hl 0 o rfl
    rw [ops_cons] at hk
    rw [List.length_cons, List.range'_succ, wpOps_cons]
    refine opK_sound hi h1 h2 hC hE hk fun C' x v ht hC' hv hK => ?_
    refine ops_sound l (i + 1) r h3 (fun k o' hk' => by rw [show i + 1 + k = i + (k + 1) by omega]; exact hl (k + 1) o' (by simpa using hk')) C' (a.put o.dst v) (putD e o.dst x) hC' (put_rep (CRep_tr ht.R _ _ hE) hv) hK ?_
    intro C2 a2 e2 t2 r2 c2 d2 k2
    exact hn C2 a2 e2 (ht.trans t2) r2 c2 (d2.trans put_defers) k2
theorem region_sound {ops : Array Oper} {Q : Exit → Act → World → Prop} {K : K1} {id : Nat} {aos : List AO} (h : cOps P ops ops.toList = some aos) (C : Ctx) (a : Act) (e : List V) (hC : HRep C) (hE : CRep C.R e a.tmps.toList) (hk : Av.ops P aos K e C.H)
    (hn : ∀ (C' : Ctx) (a' : Act) (e' : List V), Tr C C' → HRep C' → CRep C'.R e' a'.tmps.toList → a'.defers = a.defers → K e' C'.H → Q .normal a' C'.w) : (Code.region id ops false).wp P Q a C.w := by
  apply wp_region
  have := ops_sound (Q := Q) ops.toList 0 aos h (fun k o hk => by simpa using hk) C a e hC hE hk hn
  rw [List.range_eq_range']
  simpa using this
end
end Go.Av
namespace Go.Av
open Go Go.RowKit
set_option autoImplicit false
set_option linter.all false
section
variable {P : Program}
/-! ### What is done in any order -/
theorem evs_map (e : List V) : ∀ l : List Opd, evs e l = l.map (ev e)
  | [] => rfl
  | x :: l => by simp [evs, evs_map e l]
theorem evp_congr {e e' : List V} : ∀ {l : List (Nat × Nat × Opd)}, (∀ x ∈ l.map (·.2.2), ev e x = ev e' x) → evp e l = evp e' l
  | [], _ => rfl
  | (a, n, x) :: l, h => by
    simp only [evp]
    rw [h x (by simp), evp_congr (l := l) fun y hy => h y (by simp at hy ⊢; exact .inr hy)]
theorem evs_congr {e e' : List V} : ∀ {l : List Opd}, (∀ x ∈ l, ev e x = ev e' x) → evs e l = evs e' l
  | [], _ => rfl
  | x :: l, h => by
    simp only [evs]
    rw [h x (by simp), evs_congr (l := l) fun y hy => h y (by simp [hy])]
theorem evo_congr {e e' : List V} : ∀ {x : Option Opd}, (∀ y ∈ optL x, ev e y = ev e' y) → evo e x = evo e' x
  | none, _ => rfl
  | some x, h => by simp only [evo]; rw [h x (by simp [optL])]
theorem step_reads {o : AOp} {e e' : List V} {H : List Entry} {k : KV} (hc : o.cls ≠ 0) (h : ∀ x ∈ o.opds, ev e x = ev e' x) : step P o e H k = step P o e' H k := by
  cases o <;> simp only [AOp.opds] at h <;> simp only [step] <;> simp only [AOp.cls, ne_eq, not_true_eq_false] at hc
  case build cs ps => rw [evp_congr h]
  case bslm n g l => rw [evs_congr h]
  case mnx m l => rw [evs_congr h]
  case mkfn f a b => rw [evs_congr fun x hx => h x (by simp [hx]), evs_congr (l := b) fun x hx => h x (by simp [hx])]
  case dcall f l => rw [h f (by simp), evs_congr fun x hx => h x (by simp [hx])]
  case mcall f x l => rw [h f (by simp), h x (by simp), evs_congr fun y hy => h y (by simp [hy])]
  case pcall f l => rw [h f (by simp), evs_congr fun x hx => h x (by simp [hx])]
  case slcm n x a b c => rw [h x (by simp), evo_congr (x := a) fun y hy => h y (by simp [hy]), evo_congr (x := b) fun y hy => h y (by simp [hy]), evo_congr (x := c) fun y hy => h y (by simp [hy])]
  case sls x a b => rw [h x (by simp), evo_congr (x := a) fun y hy => h y (by simp [hy]), evo_congr (x := b) fun y hy => h y (by simp [hy])]
  all_goals (try simp only [List.mem_cons, List.not_mem_nil, or_false, forall_eq, forall_eq_or_imp] at h)
  all_goals (first | rfl | (simp only [h]; done) | (obtain ⟨h1, h2⟩ := h; rw [h1, h2]; done) | (obtain ⟨h1, h2, h3⟩ := h; rw [h1, h2, h3]; done))

/-- What there is at a place is there still. -/
def Keep (H H' : List Entry) (g : Nat) : Prop := ∀ z, H[g]? = some z → H'[g]? = some z
structure Agree (H H' : List Entry) : Prop where
theorem Agree.get {H H' : List Entry} (_ : Agree H H') {g : Nat} {x : Entry} (hx : H[g]? = some x) (hg : Keep H H' g) : H'[g]? = some x := hg x hx
/-- What is had, and again with the same there. -/
def Again (S : List Entry → KV → Prop) (x : List V) (H : List Entry) (k : KV) : Prop :=
  ∃ v, k v H ∧ ∀ (H' : List Entry) (k' : KV), Agree H H' → (∀ y ∈ x, ∀ g, gid y = some g → Keep H H' g) → k' v H' → S H' k'
section again
variable {H : List Entry} {k : KV}
theorem Again.val {S : List Entry → KV → Prop} {x : List V} (v : V) (hk : k v H) (h : ∀ (H' : List Entry) (k' : KV), k' v H' → S H' k') : Again S x H k := ⟨v, hk, fun H' k' _ _ hk' => h H' k' hk'⟩
theorem nckB_again {b : Bool} {x : V} (h : nckB b x H k) : b = true ∧ k x H := by
  cases b
  · exact h.elim
  · exact ⟨rfl, h⟩
theorem some_of_isBox {e : Option Entry} (h : isBox e = true) : ∃ x, e = some x := by
  cases e
  · cases h
  · exact ⟨_, rfl⟩
theorem isRow_some {len : Nat} {e : Option Entry} {A : Prop} (h : isRow len e A) : (∃ x, e = some x) ∧ A ∧ ∀ B : Prop, B → isRow len e B := by
  unfold isRow at h ⊢
  split at h
  · exact ⟨⟨_, rfl⟩, h.2, fun B hB => ⟨h.1, hB⟩⟩
  · exact ⟨⟨_, rfl⟩, h.2, fun B hB => ⟨h.1, hB⟩⟩
  · exact h.elim
theorem nck_again {x : V} (h : nckK x H k) : Again (nckK x) [x] H k := by
  unfold nckK at h
  split at h
  · exact .val _ h fun _ _ h => h
  · rename_i g o
    obtain ⟨h1, h2⟩ := nckB_again h
    obtain ⟨y, hy⟩ := some_of_isBox h1
    refine ⟨_, h2, fun H' k' ha hr hk => ?_⟩
    have e1 := ha.get hy (hr _ List.mem_cons_self g rfl)
    simp only [nckK]
    rw [e1]
    rw [← hy, h1]; exact hk
  · exact .val _ h fun _ _ h => h
  · exact h.elim
theorem fad_again {off : Nat} {x : V} (h : fadK off x H k) : Again (fadK off x) [x] H k := by
  unfold fadK at h
  split at h
  · exact .val _ h fun _ _ h => h
  · rename_i g o
    obtain ⟨h1, h2⟩ := nckB_again h
    obtain ⟨y, hy⟩ := some_of_isBox h1
    refine ⟨_, h2, fun H' k' ha hr hk => ?_⟩
    have e1 := ha.get hy (hr _ List.mem_cons_self g rfl)
    simp only [fadK]
    rw [e1]
    rw [← hy, h1]; exact hk
  · rename_i g l i o
    obtain ⟨⟨y, hy⟩, h2, h3⟩ := isRow_some h
    refine ⟨_, h2, fun H' k' ha hr hk => ?_⟩
    have e1 := ha.get hy (hr _ List.mem_cons_self g rfl)
    simp only [fadK]
    rw [e1]
    rw [← hy]; exact h3 _ hk
  · exact h.elim
theorem iad_again {n : Nat} {x i : V} (h : iadK n x i H k) : Again (iadK n x i) [x, i] H k := by
  unfold iadK at h
  split at h
  · exact .val _ h.2 fun _ _ hk => ⟨h.1, hk⟩
  · exact .val _ h.2 fun _ _ hk => ⟨h.1, hk⟩
  · rename_i g len q j
    obtain ⟨h0, h⟩ := h
    obtain ⟨⟨y, hy⟩, ⟨h1, h2⟩, h3⟩ := isRow_some h
    refine ⟨_, h2, fun H' k' ha hr hk => ?_⟩
    have e1 := ha.get hy (hr _ List.mem_cons_self g rfl)
    simp only [iadK]
    rw [e1]
    rw [← hy]; exact ⟨h0, h3 _ ⟨h1, hk⟩⟩
  · rename_i g len a b q j
    obtain ⟨h0, h⟩ := h
    obtain ⟨⟨y, hy⟩, ⟨h1, h2⟩, h3⟩ := isRow_some h
    refine ⟨_, h2, fun H' k' ha hr hk => ?_⟩
    have e1 := ha.get hy (hr _ List.mem_cons_self g rfl)
    simp only [iadK]
    rw [e1]
    rw [← hy]; exact ⟨h0, h3 _ ⟨h1, hk⟩⟩
  · exact h.elim
theorem iaa_again {len n : Nat} {x i : V} (h : iaaK len n x i H k) : Again (iaaK len n x i) [x, i] H k := by
  unfold iaaK at h
  split at h
  · exact .val _ h.2 fun _ _ hk => ⟨h.1, hk⟩
  · rename_i g o q j
    obtain ⟨h0, h⟩ := h
    obtain ⟨h1, h2⟩ := nckB_again h
    obtain ⟨y, hy⟩ := some_of_isBox h1
    refine ⟨_, h2, fun H' k' ha hr hk => ?_⟩
    have e1 := ha.get hy (hr _ List.mem_cons_self g rfl)
    simp only [iaaK]
    rw [e1]
    rw [← hy, h1]; exact ⟨h0, hk⟩
  · exact h.elim
theorem load_again {n : Nat} {ag : Bool} {x : V} (h : loadK n ag x H k) : Again (loadK n ag x) [x] H k := by
  unfold loadK at h
  split at h
  · exact .val _ h.2 fun _ _ hk => ⟨h.1, hk⟩
  · rename_i j off
    unfold loadH at h
    split at h
    · rename_i cs hy
      refine ⟨_, h.2, fun H' k' ha hr hk => ?_⟩
      have e1 := ha.get hy (hr _ List.mem_cons_self j rfl)
      simp only [loadK, loadH]
      rw [e1]
      exact ⟨h.1, hk⟩
    · rename_i cs hy
      refine ⟨_, h.2, fun H' k' ha hr hk => ?_⟩
      have e1 := ha.get hy (hr _ List.mem_cons_self j rfl)
      simp only [loadK, loadH]
      rw [e1]
      exact ⟨h.1, hk⟩
    · exact h.elim
  · rename_i j len i off
    unfold loadE at h
    split at h
    · rename_i E m xs hy
      refine ⟨_, h.2, fun H' k' ha hr hk => ?_⟩
      have e1 := ha.get hy (hr _ List.mem_cons_self j rfl)
      simp only [loadK, loadE]
      rw [e1]
      exact ⟨h.1, hk⟩
    · rename_i m xs hy
      refine ⟨_, h.2, fun H' k' ha hr hk => ?_⟩
      have e1 := ha.get hy (hr _ List.mem_cons_self j rfl)
      simp only [loadK, loadE]
      rw [e1]
      exact ⟨h.1, hk⟩
    · exact h.elim
  · exact h.elim
theorem listOf_again {n : Nat} {x : V} {xs : List V} (h : listOf n H x = some xs) : ∀ H', Agree H H' → (∀ g, gid x = some g → Keep H H' g) → listOf n H' x = some xs := by
  intro H' ha hr
  unfold listOf at h ⊢
  cases x <;> simp only at h ⊢ <;> try exact h
  · rename_i g len
    cases hy : H[g]? with
    | none => rw [hy] at h; cases h
    | some y => rw [hy] at h; rw [ha.get hy (hr g rfl)]; exact h
  · rename_i g len i j
    cases hy : H[g]? with
    | none => rw [hy] at h; cases h
    | some y => rw [hy] at h; rw [ha.get hy (hr g rfl)]; exact h
theorem b2s_again {n : Nat} {x : V} (h : b2sK (listOf n H x) H k) : Again (fun H k => b2sK (listOf n H x) H k) [x] H k := by
  unfold b2sK at h
  split at h
  · rename_i xs hy
    refine ⟨_, h.2, fun H' k' ha hr hk => ?_⟩
    simp only [b2sK, listOf_again hy H' ha (hr x (by simp))]
    exact ⟨h.1, hk⟩
  · exact h.elim
theorem len_again {kind : Nat} {x : V} (h : lenK kind x H k) : Again (lenK kind x) [x] H k := by
  unfold lenK at h
  split at h
  · exact .val _ h fun _ _ h => h
  · exact .val _ h fun _ _ h => h
  · exact .val _ h fun _ _ h => h
  · exact .val _ h fun _ _ h => h
  · rename_i g n
    obtain ⟨⟨y, hy⟩, h2, h3⟩ := isRow_some h
    refine ⟨_, h2, fun H' k' ha hr hk => ?_⟩
    have e1 := ha.get hy (hr _ List.mem_cons_self g rfl)
    simp only [lenK]
    rw [e1]
    rw [← hy]; exact h3 _ hk
  · rename_i g n i j
    obtain ⟨⟨y, hy⟩, h2, h3⟩ := isRow_some h
    refine ⟨_, h2, fun H' k' ha hr hk => ?_⟩
    have e1 := ha.get hy (hr _ List.mem_cons_self g rfl)
    simp only [lenK]
    rw [e1]
    rw [← hy]; exact h3 _ hk
  · exact .val _ h fun _ _ h => h
  · rename_i j
    unfold lenH at h
    split at h
    · rename_i kvs hy
      refine ⟨_, h, fun H' k' ha hr hk => ?_⟩
      have e1 := ha.get hy (hr _ List.mem_cons_self j rfl)
      simp only [lenK, lenH]
      rw [e1]
      exact hk
    · exact h.elim
  · exact h.elim
theorem mget_again {g : Bool} {ks : List Nat} {z : V} {ok : Bool} {m key : V} (h : mgetK g ks z ok m key H k) : Again (mgetK g ks z ok m key) [m, key] H k := by
  unfold mgetK at h
  split at h
  · rename_i j
    unfold mgetE at h
    split at h
    · rename_i kvs hq hy
      unfold mgetP at h
      split at h
      · rename_i i hp
        refine ⟨_, h, fun H' k' ha hr hk => ?_⟩
        have e1 := ha.get hy (hr _ List.mem_cons_self j rfl)
        simp only [mgetK, mgetE, mgetP, hq]
        rw [e1]
        simp only [hp]
        exact hk
      · rename_i hp
        refine ⟨_, h, fun H' k' ha hr hk => ?_⟩
        have e1 := ha.get hy (hr _ List.mem_cons_self j rfl)
        simp only [mgetK, mgetE, mgetP, hq]
        rw [e1]
        simp only [hp]
        exact hk
      · exact h.elim
    · exact h.elim
  · unfold mgetN at h
    split at h
    · rename_i hq
      refine .val _ h fun H' k' hk => ?_
      simp only [mgetK, mgetN, hq]
      exact hk
    · exact h.elim
  · exact h.elim
theorem cut_again {mk : List V → V} {xs : List V} {lo hi : Option Int} (h : cutK mk xs lo hi H k) : ∃ v, k v H ∧ ∀ (H' : List Entry) (k' : KV), k' v H' → cutK mk xs lo hi H' k' := by
  unfold cutK at h
  split at h
  · exact ⟨_, h.2, fun H' k' hk => ⟨h.1, hk⟩⟩
  · exact h.elim
theorem cutX_again {n : Nat} {xs : List V} {lo hi mx : Option Int} (h : cutX n xs lo hi mx H k) : ∃ v, k v H ∧ ∀ (H' : List Entry) (k' : KV), k' v H' → cutX n xs lo hi mx H' k' := by
  unfold cutX at h
  split at h
  · exact ⟨_, h.2, fun H' k' hk => ⟨h.1, hk⟩⟩
  · exact h.elim
theorem slcM_again {n : Nat} {x : V} {lo hi mx : Option V} {l : List V} (hl : x ∈ l) (h : slcM n x lo hi mx H k) : Again (slcM n x lo hi mx) l H k := by
  unfold slcM at h
  split at h
  · rename_i g len
    unfold cutM at h
    split at h
    · rename_i E m xs hy
      obtain ⟨h0, h⟩ := h
      unfold cutC at h
      split at h
      · rename_i a b q1 q2
        refine ⟨_, h.2, fun H' k' ha hr hk => ?_⟩
        have e1 := ha.get hy (hr _ hl g rfl)
        simp only [slcM, cutM, cutC, q1, q2]
        rw [e1]
        exact ⟨h0, h.1, hk⟩
      · exact h.elim
    · rename_i m xs hy
      obtain ⟨h0, h⟩ := h
      obtain ⟨v, h1, h2⟩ := cut_again h
      refine ⟨v, h1, fun H' k' ha hr hk => ?_⟩
      have e1 := ha.get hy (hr _ hl g rfl)
      simp only [slcM, cutM]
      rw [e1]
      exact ⟨h0, h2 _ _ hk⟩
    · exact h.elim
  · exact h.elim
  · rename_i hne1 hne2
    have key : ∀ (H' : List Entry) (k' : KV), slcK n x lo hi mx H' k' → slcM n x lo hi mx H' k' := by
      intro H' k' h'
      unfold slcM
      split
      · exact absurd rfl (hne1 _ _ rfl)
      · exact absurd rfl (hne2 _ _ _ rfl)
      · exact h'
    unfold slcK at h
    split at h
    · obtain ⟨h0, h⟩ := h
      obtain ⟨v, h1, h2⟩ := cut_again h
      exact ⟨v, h1, fun H' k' _ _ hk => key H' k' ⟨h0, h2 _ _ hk⟩⟩
    · obtain ⟨h0, h⟩ := h
      obtain ⟨v, h1, h2⟩ := cut_again h
      exact ⟨v, h1, fun H' k' _ _ hk => key H' k' ⟨h0, h2 _ _ hk⟩⟩
    · obtain ⟨h0, h⟩ := h
      obtain ⟨v, h1, h2⟩ := cutX_again h
      exact ⟨v, h1, fun H' k' _ _ hk => key H' k' ⟨h0, h2 _ _ hk⟩⟩
    · obtain ⟨h0, h⟩ := h
      obtain ⟨v, h1, h2⟩ := cutX_again h
      exact ⟨v, h1, fun H' k' _ _ hk => key H' k' ⟨h0, h2 _ _ hk⟩⟩
    · exact ⟨_, h.2, fun H' k' _ _ hk => key H' k' ⟨h.1, hk⟩⟩
    · exact absurd rfl (hne1 _ _ rfl)
    · exact h.elim
end again
end
end Go.Av
