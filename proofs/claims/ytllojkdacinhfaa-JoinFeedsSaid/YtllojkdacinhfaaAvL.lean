/- A part of a way to reckon what a Go program does without its memory (AvL). -/
import Derived.Test.YtllojkdacinhfaaAvJ
namespace Go.Av
open Go Go.RowKit
set_option autoImplicit false
set_option linter.all false
section
variable {P : Program} {C : Ctx} {K : KV}
theorem eqa_does {neg : Bool} {ks : List Nat} {t : TypeId} {ox oy : Operand} {x y : V} {v u : Value} (hg : P.eqGuardType P.depth t = false) (hk2 : flatK P 20 t = some ks) (hagg : isAggT P t = true) (hC : HRep C) (hv : VRep C.R x v) (hu : VRep C.R y u)
    (hk : eqaK neg (eqaO ks x y) C.H K) : Does P (do eqGuard (if neg then .neq else .eql) t ox oy v u; binOp (if neg then .neq else .eql) t v u) C K := by
  unfold eqaO at hk
  split at hk
  · rename_i a b
    unfold eqaK at hk
    split at hk
    · rename_i r hr
      simp only [VRep] at hv hu
      obtain ⟨vs, rfl, h1⟩ := hv
      obtain ⟨us, rfl, h2⟩ := hu
      have hl := cellsEq_len hr
      have hlv := CRep_length h1
      have hlu := CRep_length h2
      have hs := flatK_size hk2
      have hun : (P.underlying t).isSome = true := by unfold isAggT at hagg; split at hagg <;> simp_all
      have := eqOk (P := P) (R := C.R) 20 10000 (by omega) t ks 0 a b vs us r C.w hk2 h1 h2 (by rw [List.drop_zero, List.drop_zero, List.take_of_length_le (by omega), List.take_of_length_le (by omega)]; exact hr)
      have p1 := part_agg_run (w := C.w) (off := 0) (ds := vs) hs hun hagg
      have p2 := part_agg_run (w := C.w) (off := 0) (ds := us) hs hun hagg
      rw [List.drop_zero, List.take_of_length_le (by omega)] at p1 p2
      simp only [partEq, Sem.run_bind, p1, p2, Result.andThen_ok] at this
      refine Does.pure hC ?_ (VRep_bool.2 rfl) hk
      cases neg
      · simp [run_eqGuard_agg _ _ _ _ _ _ _ hg, run_eql_struct, this]
      · simp [run_eqGuard_agg _ _ _ _ _ _ _ hg, run_neq_struct, this]
    · exact hk.elim
  · exact hk.elim

/-! ### Structs and arrays that are made -/
theorem cellsO_rep {R : Rd} {x : V} {v : Value} {cs : List V} (h : VRep R x v) (hc : cellsO x = some cs) : CRep R cs v.cells.toList := by
  have hx : x ≠ .junk := by rintro rfl; simp [cellsO] at hc
  have : cs = x.cells := by cases x <;> simp_all [cellsO, V.cells]
  subst this
  exact cells_rep h hx
theorem putO_rep {R : Rd} {cs cs' : List V} {o n : Nat} {x : V} {v : Value} {ds : List Value} (h : putO cs o n (cellsO x) = some cs') (hr : CRep R cs ds) (hv : VRep R x v) :
    v.cells.toList.length = n ∧ o + n ≤ ds.length ∧ CRep R cs' (ds.take o ++ v.cells.toList ++ ds.drop (o + n)) := by
  unfold putO at h
  split at h
  · rename_i vs hc
    exact putC_rep h hr (cellsO_rep hv hc)
  · cases h
theorem fill_fold (cells : Array Value) (off : Nat) : ∀ (vs : List Value) (i : Nat) (cur : Array Value), off + i + vs.length ≤ cur.size →
    ((vs.zipIdx i).foldl (fun cs (c, j) => cs.setIfInBounds (off + j) c) cur).toList = cur.toList.take (off + i) ++ vs ++ cur.toList.drop (off + i + vs.length)
  | [], i, cur, h => by simp
  | v :: vs, i, cur, h => by
    simp only [List.zipIdx_cons, List.foldl_cons]
    rw [fill_fold cells off vs (i + 1) _ (by simp at h ⊢; omega)]
    simp only [Array.toList_setIfInBounds, List.length_cons]
    have e := list_seg_step cur.toList (off + i) v vs (by simp at h ⊢; omega)
    simpa [Nat.add_assoc, Nat.add_comm, Nat.add_left_comm] using e
theorem fill_rep {R : Rd} {place : Nat → Option (Nat × Nat)} : ∀ (l : List (Nat × Nat × Nat × V × Value)) (cs cs' : List V) (cur : Array Value),
    (∀ x ∈ l, place x.1 = some (x.2.1, x.2.2.1) ∧ VRep R x.2.2.2.1 x.2.2.2.2) →
    bldO cs (l.map fun x => (x.2.1, x.2.2.1, x.2.2.2.1)) = some cs' → CRep R cs cur.toList → ∃ cur' : Array Value, Instr.fill place cur (l.map fun x => (x.1, x.2.2.2.2)) = some cur' ∧ CRep R cs' cur'.toList
  | [], cs, cs', cur, _, h, hr => by
    simp only [List.map_nil, bldO, Option.some.injEq] at h
    subst h
    exact ⟨cur, rfl, hr⟩
  | (i, o, n, x, v) :: l, cs, cs', cur, hl, h, hr => by
    simp only [List.map_cons, bldO] at h
    split at h
    · rename_i cs1 hp
      obtain ⟨h1, h2⟩ := hl _ (List.mem_cons_self)
      obtain ⟨k1, k2, k3⟩ := putO_rep hp hr h2
      have hsz : v.cells.size = n := by simpa using k1
      have hfit : o + v.cells.size ≤ cur.size := by rw [hsz]; simpa using k2
      have hfold := fill_fold cur o v.cells.toList 0 cur (by simpa using hfit)
      obtain ⟨cur', k4, k5⟩ := fill_rep l cs1 cs' (v.cells.zipIdx.foldl (fun cs (c, j) => cs.setIfInBounds (o + j) c) cur) (fun x hx => hl x (List.mem_cons_of_mem _ hx)) h (by
        rw [← Array.foldl_toList, Array.toList_zipIdx, hfold]
        simpa [hsz] using k3)
      refine ⟨cur', ?_, k5⟩
      simp only [List.map_cons, Instr.fill, h1]
      rw [if_neg (by simp only [Bool.or_eq_true, decide_eq_true_eq, ne_eq]; omega)]
      exact k4
    · cases h
theorem mapM_places : ∀ (l : List Field) (w : World), (∀ f ∈ l, (sizeT P f.type).isSome = true) →
    (l.mapM (fun f => do Pure.pure (f.offset, ← sizeOf f.type) : Field → Sem (Nat × Nat))).run P w = .ok (l.map fun f => (f.offset, (sizeT P f.type).getD 0)) w
  | [], w, _ => by simp
  | f :: l, w, h => by
    have h1 := h f List.mem_cons_self
    obtain ⟨n, hn⟩ := Option.isSome_iff_exists.1 h1
    have ih := mapM_places l w (fun x hx => h x (List.mem_cons_of_mem _ hx))
    simp only [List.mapM_cons, Sem.run_bind, run_sizeOf hn, Result.andThen_ok, Sem.run_pure, ih, List.map_cons, hn, Option.getD_some]
theorem build_parts {R : Rd} {a : Act} {e : List V} (hE : CRep R e a.tmps.toList) {fs : Array Field} : ∀ {parts : List (Nat × Operand)} {ps : List (Nat × Nat × Opd)}, cParts P fs parts = some ps →
    ∃ l : List (Nat × Nat × Nat × V × Value), evp e ps = l.map (fun x => (x.2.1, x.2.2.1, x.2.2.2.1)) ∧ parts.map (fun x => (x.1, a.eval x.2)) = l.map (fun x => (x.1, x.2.2.2.2)) ∧
      ∀ x ∈ l, (∃ f, fs[x.1]? = some f ∧ f.offset = x.2.1 ∧ sizeT P f.type = some x.2.2.1) ∧ VRep R x.2.2.2.1 x.2.2.2.2
  | [], ps, h => by
    simp only [cParts, Option.some.injEq] at h
    subst h
    exact ⟨[], rfl, rfl, fun x hx => by cases hx⟩
  | (i, x) :: parts, ps, h => by
    simp only [cParts] at h
    split at h
    · rename_i f hf
      split at h
      · rename_i n o b hn ho hb
        cases h
        obtain ⟨l, h1, h2, h3⟩ := build_parts hE hb
        refine ⟨(i, f.offset, n, ev e o, a.eval x) :: l, by simp [evp, h1], by simp [h2], fun y hy => ?_⟩
        rcases List.mem_cons.1 hy with rfl | hy
        · exact ⟨⟨f, hf, rfl, hn⟩, opd_rep ho hE⟩
        · exact h3 y hy
      · cases h
    · cases h
theorem build_partsA {R : Rd} {a : Act} {e : List V} (hE : CRep R e a.tmps.toList) {n len : Nat} : ∀ {parts : List (Nat × Operand)} {ps : List (Nat × Nat × Opd)}, cPartsA n len parts = some ps →
    ∃ l : List (Nat × Nat × Nat × V × Value), evp e ps = l.map (fun x => (x.2.1, x.2.2.1, x.2.2.2.1)) ∧ parts.map (fun x => (x.1, a.eval x.2)) = l.map (fun x => (x.1, x.2.2.2.2)) ∧
      ∀ x ∈ l, (x.2.1 = x.1 * n ∧ x.2.2.1 = n) ∧ VRep R x.2.2.2.1 x.2.2.2.2
  | [], ps, h => by
    simp only [cPartsA, Option.some.injEq] at h
    subst h
    exact ⟨[], rfl, rfl, fun x hx => by cases hx⟩
  | (i, x) :: parts, ps, h => by
    simp only [cPartsA] at h
    split at h
    · split at h
      · rename_i o b ho hb
        cases h
        obtain ⟨l, h1, h2, h3⟩ := build_partsA hE hb
        refine ⟨(i, i * n, n, ev e o, a.eval x) :: l, by simp [evp, h1], by simp [h2], fun y hy => ?_⟩
        rcases List.mem_cons.1 hy with rfl | hy
        · exact ⟨⟨rfl, rfl⟩, opd_rep ho hE⟩
        · exact h3 y hy
      · cases h
    · cases h
theorem bld_does {t : TypeId} {parts : Array (Nat × Value)} {place : Nat → Option (Nat × Nat)} {l : List (Nat × Nat × Nat × V × Value)} {z : V} {zv : Value} {zs : List V} {ps : List (Nat × Nat × V)} (hC : HRep C) (hz : CRep C.R zs zv.cells.toList)
    (hl : ∀ x ∈ l, place x.1 = some (x.2.1, x.2.2.1) ∧ VRep C.R x.2.2.2.1 x.2.2.2.2) (hp : parts.toList = l.map fun x => (x.1, x.2.2.2.2)) (hps : ps = l.map fun x => (x.2.1, x.2.2.1, x.2.2.2.1))
    (hk : bldK (bldO zs ps) C.H K) : ∃ cur : Array Value, Instr.fill place zv.cells parts.toList = some cur ∧ ∃ cs, VRep C.R (.agg cs) (.agg cur) ∧ K (.agg cs) C.H := by
  unfold bldK at hk
  split at hk
  · rename_i cs hb
    subst hps
    obtain ⟨cur, h1, h2⟩ := fill_rep l zs cs zv.cells hl hb hz
    refine ⟨cur, by rw [hp]; exact h1, cs, ?_, hk⟩
    simp only [VRep]
    exact ⟨cur.toList, by simp, h2⟩
  · exact hk.elim
theorem build_struct_does {t : TypeId} {fs : Array Field} {parts : Array (Nat × Operand)} {ps : List (Nat × Nat × Opd)} {z : V} {a : Act} {e : List V} (hu : P.underlying t = some (.struct fs)) (hz : zeroT P t = some z) (hfs : fs.all (fun f => (sizeT P f.type).isSome) = true)
    (hps : cParts P fs parts.toList = some ps) (hC : HRep C) (hE : CRep C.R e a.tmps.toList) (hk : bldK (bldO z.cells (evp e ps)) C.H K) : Does P (Instr.build t (parts.map fun (i, x) => (i, a.eval x))) C K := by
  obtain ⟨i, zv, hi, hzz, _, _, hzr⟩ := zero_rep (R := C.R) hz
  obtain ⟨l, h1, h2, h3⟩ := build_parts hE hps
  have hall : ∀ f ∈ fs.toList, (sizeT P f.type).isSome = true := by
    intro f hf
    have := Array.all_eq_true_iff_forall_mem.1 hfs f (Array.mem_toList_iff.1 hf)
    exact this
  have hm : (fs.mapM (fun f => do Pure.pure (f.offset, ← sizeOf f.type) : Field → Sem (Nat × Nat))).run P C.w = .ok (fs.toList.map fun f => (f.offset, (sizeT P f.type).getD 0)).toArray C.w := by
    have := mapM_places fs.toList C.w hall
    obtain ⟨fl⟩ := fs
    rw [List.mapM_toArray]
    simp only [Sem.run_map, this, Result.andThen_ok]
  have hpl : ∀ x ∈ l, ((fs.toList.map fun f => (f.offset, (sizeT P f.type).getD 0)).toArray)[x.1]? = some (x.2.1, x.2.2.1) ∧ VRep C.R x.2.2.2.1 x.2.2.2.2 := by
    intro x hx
    obtain ⟨⟨f, k1, k2, k3⟩, k4⟩ := h3 x hx
    refine ⟨?_, k4⟩
    have : fs.toList[x.1]? = some f := by simpa using k1
    simp [k1, k2, k3]
  obtain ⟨cur, k1, cs, k2, k3⟩ := bld_does (place := fun i => ((fs.toList.map fun f => (f.offset, (sizeT P f.type).getD 0)).toArray)[i]?) (parts := parts.map fun (i, x) => (i, a.eval x)) (t := t) (z := z) hC hzr hpl (by simpa using h2) h1 hk
  refine Does.pure hC ?_ k2 k3
  unfold Instr.build
  simp only [Sem.run_bind, zeroValue, typeInfo, run_program, Result.andThen_ok, hi, hzz, Sem.run_pure, run_underlying' hu, hm]
  rw [k1]
  rfl
theorem build_array_does {t el : TypeId} {len n : Nat} {parts : Array (Nat × Operand)} {ps : List (Nat × Nat × Opd)} {z : V} {a : Act} {e : List V} (hu : P.underlying t = some (.array len el)) (hz : zeroT P t = some z) (hn : sizeT P el = some n)
    (hps : cPartsA n len parts.toList = some ps) (hC : HRep C) (hE : CRep C.R e a.tmps.toList) (hk : bldK (bldO z.cells (evp e ps)) C.H K) : Does P (Instr.build t (parts.map fun (i, x) => (i, a.eval x))) C K := by
  obtain ⟨i, zv, hi, hzz, _, _, hzr⟩ := zero_rep (R := C.R) hz
  obtain ⟨l, h1, h2, h3⟩ := build_partsA hE hps
  have hpl : ∀ x ∈ l, (some (x.1 * n, n) : Option (Nat × Nat)) = some (x.2.1, x.2.2.1) ∧ VRep C.R x.2.2.2.1 x.2.2.2.2 := by
    intro x hx
    obtain ⟨⟨k1, k2⟩, k4⟩ := h3 x hx
    exact ⟨by rw [k1, k2], k4⟩
  obtain ⟨cur, k1, cs, k2, k3⟩ := bld_does (place := fun i => some (i * n, n)) (parts := parts.map fun (i, x) => (i, a.eval x)) (t := t) (z := z) hC hzr hpl (by simpa using h2) h1 hk
  refine Does.pure hC ?_ k2 k3
  unfold Instr.build
  simp only [Sem.run_bind, zeroValue, typeInfo, run_program, Result.andThen_ok, hi, hzz, Sem.run_pure, run_underlying' hu, run_sizeOf hn]
  rw [k1]
  rfl
end
end Go.Av
