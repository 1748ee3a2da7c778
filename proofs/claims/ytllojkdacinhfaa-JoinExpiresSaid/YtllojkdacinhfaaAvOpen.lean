/- A part of a way to reckon what a Go program does without its memory (AvOpen). -/
import Derived.Test.YtllojkdacinhfaaAvFun
import Derived.OpenShut
import Derived.WideShapes
import Derived.Laws.World
import Derived.ChangeArms
namespace Go.Av
open Go Go.RowKit Go.WideShapes
set_option autoImplicit false
set_option linter.all false
/-! ### What comes in from outside -/
/-- What a cell of a type is. -/
inductive Sh where
  | bool | int (k : IntKind) | str | sl (n : Nat) (g : Bool) (l : List Sh)
def shF (P : Program) (f : TypeId → Option (List Sh)) : List Sh → List Field → Option (List Sh)
  | acc, [] => some acc
  | acc, x :: fs => match f x.type with
    | some l => if x.offset = acc.length ∧ P.cellsOf x.type = l.length then shF P f (acc ++ l) fs else none
    | none => none
def shC (P : Program) : Nat → TypeId → Option (List Sh)
  | 0, _ => none
  | d + 1, t =>
    match P.underlying t with
    | some .bool => some [.bool]
    | some (.int k) => some [.int k]
    | some .string => some [.str]
    | some (.struct fs) => match shF P (shC P d) [] fs.toList with | some l => if l.length = P.cellsOf t then some l else none | none => none
    | some (.slice e) => match shC P d e with | some l => if l.length = P.cellsOf e ∧ 0 < l.length ∧ (isAggT P e || l.length == 1) = true then some [.sl l.length (isAggT P e) l] else none | none => none
    | _ => none
mutual
def FitC : Sh → V → Prop
  | .bool, x => ∃ b, x = .bool b
  | .int k, x => ∃ n, x = .int k n ∧ k.min ≤ n ∧ n ≤ k.max
  | .str, x => ∃ s, x = .str s ∧ s.length ≤ maxLen
  | .sl n g l, x => ∃ xs, x = .sl n xs ∧ xs.length ≤ maxLen ∧ ∀ y ∈ xs, (g = true ∧ ∃ ys, y = .agg ys ∧ FitL l ys) ∨ (g = false ∧ FitL l [y])
def FitL : List Sh → List V → Prop
  | [], ys => ys = []
  | s :: l, ys => ∃ y r, ys = y :: r ∧ FitC s y ∧ FitL l r
end
/-- What a value of a type is. -/
def FitV (g : Bool) (l : List Sh) (x : V) : Prop := (g = true ∧ ∃ ys, x = .agg ys ∧ FitL l ys) ∨ (g = false ∧ FitL l [x])
theorem FitL_length : ∀ {l : List Sh} {ys : List V}, FitL l ys → ys.length = l.length
  | [], ys, h => by simp only [FitL] at h; subst h; rfl
  | s :: l, ys, h => by
    simp only [FitL] at h
    obtain ⟨y, r, rfl, _, h2⟩ := h
    simp [FitL_length h2]
theorem FitL_append : ∀ {l l' : List Sh} {ys zs : List V}, FitL l ys → FitL l' zs → FitL (l ++ l') (ys ++ zs)
  | [], l', ys, zs, h, k => by simp only [FitL] at h; subst h; exact k
  | s :: l, l', ys, zs, h, k => by
    simp only [FitL] at h
    obtain ⟨y, r, rfl, h1, h2⟩ := h
    simp only [List.cons_append, FitL]
    exact ⟨y, r ++ zs, rfl, h1, FitL_append h2 k⟩
/-- Nothing is the call's own. -/
def Rd0 (w : World) : Rd := ⟨w, fun _ => False, fun _ => none, fun _ => none⟩
theorem Rd0_deep (w : World) : (Rd0 w).deep = Rd0 w := rfl
theorem one_of_fit {w : World} : ∀ {s : Sh} {x : V} {v : Value}, FitC s x → VRep (Rd0 w) x v → v.oneCell' = true ∧ x ≠ .junk ∧ v.cells = #[v] := by
  intro s x v h hv
  cases s with
  | bool =>
    simp only [FitC] at h
    obtain ⟨b, rfl⟩ := h
    simp only [VRep] at hv
    subst hv; exact ⟨rfl, by simp, rfl⟩
  | int k =>
    simp only [FitC] at h
    obtain ⟨n, rfl, _⟩ := h
    simp only [VRep] at hv
    subst hv; exact ⟨rfl, by simp, rfl⟩
  | str =>
    simp only [FitC] at h
    obtain ⟨n, rfl, _⟩ := h
    simp only [VRep] at hv
    subst hv; exact ⟨rfl, by simp, rfl⟩
  | sl n g l =>
    simp only [FitC] at h
    obtain ⟨xs, rfl, _⟩ := h
    simp only [VRep] at hv
    rcases hv with ⟨_, a, cap, rfl⟩ | ⟨b, o, cap, cells, rfl, _⟩ <;> exact ⟨rfl, by simp, rfl⟩
theorem all_one {w : World} : ∀ {l : List Sh} {ys : List V} {cs : List Value}, FitL l ys → CRep (Rd0 w) ys cs → ∀ u ∈ cs, u.oneCell' = true
  | [], ys, cs, h, hc, u, hu => by
    simp only [FitL] at h
    subst h
    simp only [CRep] at hc
    subst hc
    cases hu
  | s :: l, ys, cs, h, hc, u, hu => by
    simp only [FitL] at h
    obtain ⟨y, r, rfl, h1, h2⟩ := h
    simp only [CRep] at hc
    obtain ⟨d, r', rfl, k1, k2⟩ := hc
    rcases List.mem_cons.1 hu with rfl | k
    · exact (one_of_fit h1 k1).1
    · exact all_one h2 k2 u k
section
variable {H : Type} {enc : TypeId × Value → H} {P : Program} {w : World} {spare : Nat → Bool} {held : Bool}
def Opens (enc : TypeId × Value → H) (P : Program) (w : World) (spare : Nat → Bool) (held : Bool) (fuel : Nat) : Prop :=
  ∀ (d : Nat) (t : TypeId) (cs : List Value) (x : DataW H × List MemPlace) (shs : List Sh), DataW.trod enc P w 0 spare held fuel t cs = some x → shC P d t = some shs → ∃ ys, FitL shs ys ∧ CRep (Rd0 w) ys cs
theorem open_fields {n d : Nat} (ih : Opens enc P w spare held n) {cs : List Value} : ∀ (fs : List Field) (acc l : List Sh) (ya : List V), shF P (shC P d) acc fs = some l → (∀ f ∈ fs, ∃ y, DataW.trod enc P w 0 spare held n f.type ((cs.drop f.offset).take (P.cellsOf f.type)) = some y) →
    FitL acc ya → CRep (Rd0 w) ya (cs.take acc.length) → ∃ ys, FitL l ys ∧ CRep (Rd0 w) ys (cs.take l.length)
  | [], acc, l, ya, h, _, h1, h2 => by
    simp only [shF, Option.some.injEq] at h
    subst h
    exact ⟨ya, h1, h2⟩
  | f :: fs, acc, l, ya, h, hf, h1, h2 => by
    simp only [shF] at h
    split at h
    · rename_i lf hlf
      split at h
      · rename_i hh
        obtain ⟨y, hy⟩ := hf f (by simp)
        obtain ⟨ys, k1, k2⟩ := ih d f.type _ y lf hy hlf
        refine open_fields ih fs (acc ++ lf) l (ya ++ ys) h (fun g hg => hf g (by simp [hg])) (FitL_append h1 k1) ?_
        rw [List.length_append, List.take_add]
        refine CRep_append h2 ?_
        rw [hh.1, hh.2] at k2
        exact k2
      · cases h
    · cases h
theorem ERep_of {n : Nat} {g : Bool} {shs : List Sh} (hg : (g || shs.length == 1) = true) (hn : shs.length = n) {w : World} : ∀ (m : Nat) (c : Nat → List Value) (y : Nat → List V), (∀ i, i < m → FitL shs (y i) ∧ CRep (Rd0 w) (y i) (c i)) →
    ∃ xs, xs.length = m ∧ ERep (Rd0 w) n xs ((List.range m).flatMap c) ∧ ∀ x ∈ xs, (g = true ∧ ∃ ys, x = .agg ys ∧ FitL shs ys) ∨ (g = false ∧ FitL shs [x]) := by
  intro m
  induction m with
  | zero => intro c y _; exact ⟨[], rfl, by simp [ERep], fun x hx => by cases hx⟩
  | succ m ih =>
    intro c y h
    obtain ⟨xs, h1, h2, h3⟩ := ih (fun i => c (i + 1)) (fun i => y (i + 1)) (fun i hi => h (i + 1) (by omega))
    obtain ⟨k1, k2⟩ := h 0 (by omega)
    have hlen : (c 0).length = n := by rw [← CRep_length k2, FitL_length k1, hn]
    have hone := all_one k1 k2
    have hr : (List.range (m + 1)).flatMap c = c 0 ++ (List.range m).flatMap fun i => c (i + 1) := by
      rw [List.range_succ_eq_map, List.flatMap_cons, List.flatMap_map]
    rw [hr]
    cases g with
    | true =>
      refine ⟨.agg (y 0) :: xs, by simp [h1], ?_, fun x hx => ?_⟩
      · simp only [ERep]
        refine ⟨.agg (c 0).toArray, _, rfl, by simpa [Value.cells] using hlen, ⟨by simp, fun u hu => hone u (by simpa [Value.cells] using hu)⟩, ?_, h2⟩
        simp only [VRep]
        exact ⟨c 0, rfl, k2⟩
      · rcases List.mem_cons.1 hx with rfl | hx
        · exact .inl ⟨rfl, _, rfl, k1⟩
        · exact h3 x hx
    | false =>
      simp only [Bool.false_or, beq_iff_eq] at hg
      match shs, hg, k1 with
      | [s], _, k1 =>
        have k1' := k1
        simp only [FitL] at k1
        obtain ⟨z, r, hz, hs, rfl⟩ := k1
        rw [hz] at k2 k1'
        simp only [CRep] at k2
        obtain ⟨v, r', hc0, hv, rfl⟩ := k2
        obtain ⟨o1, o2, o3⟩ := one_of_fit hs hv
        refine ⟨z :: xs, by simp [h1], ?_, fun x hx => ?_⟩
        · simp only [ERep]
          refine ⟨v, _, by rw [o3, hc0], by rw [o3]; simpa using hn, ⟨o2, fun u hu => ?_⟩, hv, h2⟩
          rw [o3] at hu
          simp at hu
          subst hu; exact o1
        · rcases List.mem_cons.1 hx with rfl | hx
          · exact .inr ⟨rfl, k1'⟩
          · exact h3 x hx
theorem open_cells : ∀ (fuel : Nat), Opens enc P w spare held fuel := by
  intro fuel
  induction fuel with
  | zero => intro d t cs x shs h; simp [DataW.trod] at h
  | succ n ih =>
    intro d t cs x shs h hs
    cases d with
    | zero => simp [shC] at hs
    | succ d =>
      simp only [shC] at hs
      cases hu : P.underlying t with
      | none => rw [hu] at hs; cases hs
      | some u =>
        rw [hu] at hs
        cases u with
        | bool =>
          simp only [Option.some.injEq] at hs
          subst hs
          obtain ⟨b, rfl, _⟩ := DataW.trod_bool hu h
          exact ⟨[.bool b], ⟨_, [], rfl, ⟨b, rfl⟩, rfl⟩, ⟨_, [], rfl, by simp [VRep], by simp [CRep]⟩⟩
        | int k =>
          simp only [Option.some.injEq] at hs
          subst hs
          obtain ⟨a, rfl, _, hw⟩ := DataW.trod_int hu h
          simp only [Lit.wf, Bool.and_eq_true, decide_eq_true_eq] at hw
          exact ⟨[.int k a], ⟨_, [], rfl, ⟨a, rfl, hw⟩, rfl⟩, ⟨_, [], rfl, by simp [VRep], by simp [CRep]⟩⟩
        | string =>
          simp only [Option.some.injEq] at hs
          subst hs
          obtain ⟨s, rfl, _, hw⟩ := DataW.trod_string hu h
          refine ⟨[.str s.data.toList], ⟨_, [], rfl, ⟨_, rfl, ?_⟩, rfl⟩, ⟨_, [], rfl, ?_, by simp [CRep]⟩⟩
          · simpa using hw
          · simp [VRep]
        | struct fs =>
          simp only at hs
          split at hs
          · rename_i l hl
            split at hs
            · rename_i hlen
              cases hs
              obtain ⟨xs, n', hn', _, hcl, hxl, hf⟩ := DataW.trod_struct hu h
              have hn2 : n = n' := by omega
              subst hn2
              obtain ⟨ys, k1, k2⟩ := open_fields (d := d) (cs := cs) ih fs.toList [] _ [] hl (fun f hm => by
                obtain ⟨i, hi⟩ := List.mem_iff_getElem?.1 hm
                have hi' : fs[i]? = some f := by simpa using hi
                have hlt : i < fs.size := (Array.getElem?_eq_some_iff.1 hi').1
                have := hf i f hi'
                rw [List.getElem?_eq_getElem (by omega)] at this
                exact ⟨_, this⟩) rfl (by simp [CRep])
              refine ⟨ys, k1, ?_⟩
              rwa [List.take_of_length_le (by omega)] at k2
            · cases hs
          · cases hs
        | slice e =>
          simp only at hs
          split at hs
          · rename_i l hl
            split at hs
            · rename_i hh
              cases hs
              obtain ⟨hlc, hpos, hagg⟩ := hh
              rcases DataW.trod_slice hu h with ⟨rfl, _⟩ | ⟨a, len, cap, elems, rest, n', hn', rfl, _, hb, hle, hcap, hel, hat, _⟩
              · refine ⟨[.sl l.length []], ⟨_, [], rfl, ?_, rfl⟩, ⟨_, [], rfl, ?_, by simp [CRep]⟩⟩
                · simp only [FitC]; exact ⟨[], rfl, by simp, fun y hy => by cases hy⟩
                · simp only [VRep]; exact .inl ⟨trivial, none, 0, rfl⟩
              · have hn2 : n = n' := by omega
                subst hn2
                have key : ∀ i, i < len → ∃ (c : List Value) (y : List V), w.cells? 0 (a.add (i * P.cellsOf e)) (P.cellsOf e) = some c ∧ FitL l y ∧ CRep (Rd0 w) y c := by
                  intro i hi
                  have h0 := hat i hi
                  rw [List.getElem?_eq_getElem (by omega)] at h0
                  obtain ⟨c, hc, ht⟩ := Option.bind_eq_some_iff.1 h0
                  obtain ⟨y, k1, k2⟩ := ih d e c _ l ht hl
                  exact ⟨c, y, hc, k1, k2⟩
                rcases Nat.eq_zero_or_pos len with h0 | h0
                · subst h0
                  refine ⟨[.sl l.length []], ⟨_, [], rfl, ?_, rfl⟩, ⟨_, [], rfl, ?_, by simp [CRep]⟩⟩
                  · simp only [FitC]; exact ⟨[], rfl, by simp, fun y hy => by cases hy⟩
                  · simp only [VRep]; exact .inl ⟨trivial, _, _, rfl⟩
                · obtain ⟨c, hc⟩ : ∃ c : Nat → List Value, ∀ i, i < len → ∃ y : List V, w.cells? 0 (a.add (i * P.cellsOf e)) (P.cellsOf e) = some (c i) ∧ FitL l y ∧ CRep (Rd0 w) y (c i) :=
                    ⟨fun i => if h : i < len then Classical.choose (key i h) else [], fun i h => by simp only [dif_pos h]; exact Classical.choose_spec (key i h)⟩
                  obtain ⟨y, hy⟩ : ∃ y : Nat → List V, ∀ i, i < len → w.cells? 0 (a.add (i * P.cellsOf e)) (P.cellsOf e) = some (c i) ∧ FitL l (y i) ∧ CRep (Rd0 w) (y i) (c i) :=
                    ⟨fun i => if h : i < len then Classical.choose (hc i h) else [], fun i h => by simp only [dif_pos h]; exact Classical.choose_spec (hc i h)⟩
                  clear key hc
                  obtain ⟨xs, x1, x2, x3⟩ := ERep_of (g := isAggT P e) (shs := l) hagg rfl (w := w) len c y fun i hi => (hy i hi).2
                  have hcell : ∀ i, i < len → (c i).length = l.length ∧ ∀ j, j < l.length → w.cell? ((a.add (i * l.length)).add j) = (c i)[j]? := by
                    intro i hi
                    obtain ⟨_, e1, e2⟩ := World.cells?_some (hy i hi).1
                    rw [← hlc] at e1 e2
                    exact ⟨e1, e2⟩
                  have hspot : a.spot = none := by
                    have h1 := (hcell 0 h0).2 0 hpos
                    rw [List.getElem?_eq_getElem (by rw [(hcell 0 h0).1]; exact hpos)] at h1
                    simpa [Addr.add] using World.cell?_spot h1
                  have hblk : a.block < w.heap.size := by
                    have h1 := (hcell 0 h0).2 0 hpos
                    rw [List.getElem?_eq_getElem (by rw [(hcell 0 h0).1]; exact hpos)] at h1
                    simpa [Addr.add] using World.block_lt_of_cell? w _ h1
                  obtain ⟨b, o, spot⟩ := a
                  simp only at hspot hblk
                  subst hspot
                  have hadd : ∀ i j, ((Addr.mk b o none).add i).add j = ⟨b, o + i + j, none⟩ := by
                    intro i j
                    unfold Addr.add
                    split <;> split <;> simp_all
                  refine ⟨[.sl l.length xs], ⟨_, [], rfl, ?_, rfl⟩, ⟨_, [], rfl, ?_, by simp [CRep]⟩⟩
                  · simp only [FitC]
                    exact ⟨xs, rfl, by omega, x3⟩
                  · simp only [VRep]
                    refine .inr ⟨b, o, cap, _, by rw [x1], by omega, fun h => h, hblk, ?_, x2⟩
                    intro k v hk
                    have key2 : ∀ (m : Nat) (base : Nat), (∀ i, i < m → (c (base + i)).length = l.length) → ∀ k v, ((List.range m).flatMap fun i => c (base + i))[k]? = some v → ∃ i j, i < m ∧ j < l.length ∧ k = i * l.length + j ∧ (c (base + i))[j]? = some v := by
                      intro m
                      induction m with
                      | zero => intro base _ k v hk; simp at hk
                      | succ m ihm =>
                        intro base hl0 k v hk
                        rw [List.range_succ_eq_map, List.flatMap_cons, List.flatMap_map] at hk
                        have h00 := hl0 0 (by omega)
                        rw [Nat.add_zero] at h00 hk
                        rcases Nat.lt_or_ge k l.length with hkl | hkl
                        · rw [List.getElem?_append_left (by rw [h00]; exact hkl)] at hk
                          exact ⟨0, k, by omega, hkl, by omega, by simpa using hk⟩
                        · rw [List.getElem?_append_right (by rw [h00]; exact hkl), h00] at hk
                          have hk' : ((List.range m).flatMap fun i => c (base + 1 + i))[k - l.length]? = some v := by
                            rw [← hk]; congr 2; funext i; congr 1; omega
                          obtain ⟨i, j, a1, a2, a3, a4⟩ := ihm (base + 1) (fun i hi => by have := hl0 (i + 1) (by omega); rw [← this]; congr 2; omega) (k - l.length) v hk'
                          refine ⟨i + 1, j, by omega, a2, ?_, by rw [← a4]; congr 2; omega⟩
                          rw [Nat.add_mul, Nat.one_mul]; omega
                    obtain ⟨i, j, a1, a2, rfl, a4⟩ := key2 len 0 (fun i hi => by rw [Nat.zero_add]; exact (hcell i hi).1) k v (by simpa using hk)
                    rw [Nat.zero_add] at a4
                    have := (hcell i a1).2 j a2
                    rw [hadd] at this
                    show w.cell? ⟨b, o + (i * l.length + j), none⟩ = _
                    rw [← Nat.add_assoc, this]; exact a4
            · cases hs
          · cases hs
        | _ => cases hs
theorem isAgg_false {t : TypeId} {u : TypeDesc} (h : P.underlying t = some u) (h1 : ∀ fs, u ≠ .struct fs) (h2 : ∀ n e, u ≠ .array n e) : isAggT P t = false := by
  unfold isAggT
  rw [h]
  cases u <;> simp_all
theorem open_one {t : TypeId} {v : Value} {shs : List Sh} {ys : List V} (ha : isAggT P t = false) (hc : v.cells.toList = [v]) (k1 : FitL shs ys) (k2 : CRep (Rd0 w) ys v.cells.toList) : ∃ x, FitV (isAggT P t) shs x ∧ VRep (Rd0 w) x v := by
  rw [hc] at k2
  cases ys with
  | nil => simp [CRep] at k2
  | cons y ys =>
    simp only [CRep] at k2
    obtain ⟨u, r, he, hv, hr⟩ := k2
    simp only [List.cons.injEq] at he
    obtain ⟨rfl, rfl⟩ := he
    cases ys with
    | nil => exact ⟨y, .inr ⟨ha, k1⟩, hv⟩
    | cons z zs => simp [CRep] at hr
/-- An argument of a law: what it is, with no memory. -/
theorem open_arg {r : Reach} {b0 : Nat} {t : TypeId} {v : Value} {d : DataW H} {ps : List MemPlace} {shs : List Sh} {dep : Nat} (hval : Value.okWide P w r b0 t v) (h : DataW.Trod enc P w 0 spare held t v d ps) (hs : shC P (dep + 1) t = some shs) :
    ∃ x, FitV (isAggT P t) shs x ∧ VRep (Rd0 w) x v := by
  obtain ⟨fuel, h⟩ := h
  obtain ⟨ys, k1, k2⟩ := open_cells fuel (dep + 1) t _ _ shs h hs
  simp only [shC] at hs
  cases hu : P.underlying t with
  | none => rw [hu] at hs; cases hs
  | some u =>
    rw [hu] at hs
    cases u with
    | bool =>
      obtain ⟨b, rfl⟩ := okWide_bool hu hval
      exact open_one (isAgg_false hu (fun _ h => by cases h) (fun _ _ h => by cases h)) (by rfl) k1 k2
    | int k =>
      obtain ⟨b, rfl⟩ := okWide_int hu hval
      exact open_one (isAgg_false hu (fun _ h => by cases h) (fun _ _ h => by cases h)) (by rfl) k1 k2
    | string =>
      obtain ⟨b, rfl⟩ := okWide_string hu hval
      exact open_one (isAgg_false hu (fun _ h => by cases h) (fun _ _ h => by cases h)) (by rfl) k1 k2
    | slice e =>
      obtain ⟨a, l, c, rfl⟩ := okWide_slice hu hval
      exact open_one (isAgg_false hu (fun _ h => by cases h) (fun _ _ h => by cases h)) (by rfl) k1 k2
    | struct fs =>
      obtain ⟨cs, rfl, _⟩ := okWide_struct hu hval
      have ha : isAggT P t = true := by unfold isAggT; rw [hu]
      refine ⟨.agg ys, .inl ⟨ha, ys, rfl, k1⟩, ?_⟩
      simp only [VRep]
      exact ⟨cs.toList, by simp, k2⟩
    | _ => cases hs
/-! ### A law -/
theorem law_of {f : FuncId} {args : List V} {vals : List Value} {r : V} {b : Bool} (h : BCall P f args [] (fun x _ => x = .bool b)) (hv : CRep (Rd0 w) args vals) :
    Calls P f vals.toArray w fun e w' => e = .returned (.bool b) ∧ Below w.heap.size w w' := by
  have hC : HRep ⟨w, fun _ => none, [], fun _ => False⟩ :=
    ⟨fun g e hg => by simp at hg, fun g g' e e' b c c' hg => by simp at hg, fun b hb => (by obtain ⟨g, e, c, h1, _⟩ := hb; simp at h1), fun b hb => hb.elim⟩
  have hR : (Ctx.mk w (fun _ => none) [] (fun _ => False)).R = Rd0 w := by
    have h1 : (Ctx.mk w (fun _ => none) [] (fun _ => False)).av = fun _ => False := by
      funext b
      refine propext ⟨fun k => ?_, fun k => k.elim⟩
      rcases k with ⟨g, e, c, h1, _⟩ | k
      · simp at h1
      · exact k
    have h2 : (Ctx.mk w (fun _ => none) [] (fun _ => False)).sh = fun _ => none := by funext g; simp [Ctx.sh]
    simp only [Ctx.R, Rd0, h1, h2]
  refine Calls.mono (h.2 ⟨w, fun _ => none, [], fun _ => False⟩ vals rfl hC (by rw [hR]; exact hv)) ?_
  rintro e w' ⟨C', x, v, rfl, rfl, ht, _, hx, rfl⟩
  simp only [VRep] at hx
  subst hx
  exact ⟨rfl, ht.os, ht.tape, ht.output, ht.size, fun k hk => (ht.keep k hk (by rintro ⟨g, e, c, h1, _⟩; simp at h1)).1⟩
end
end Go.Av
