/- A part of a way to reckon what a Go program does without its memory (AvW). -/
import Derived.Test.YtllojkdacinhfaaAvV
namespace Go.Av
open Go Go.RowKit
set_option autoImplicit false
set_option linter.all false
section
variable {P : Program} {C : Ctx} {K : KV} {o : Oper} {a : Act} {next : Act → World → Prop} {Q : Exit → Act → World → Prop}
theorem wp_does {s : Sem Value} (he : execOp a.eval o = (do Pure.pure (.value (← s)))) (h : Does P s C K) (hn : ∀ (C' : Ctx) (x : V) (v : Value), Tr C C' → HRep C' → VRep C'.R x v → K x C'.H → next (a.put o.dst v) C'.w) : o.wp P a C.w next Q := by
  obtain ⟨C', x, v, h1, h2, h3, h4, h5⟩ := h
  unfold Oper.wp
  rw [he]
  simp only [Sem.run_bind, h1, Result.andThen_ok, Sem.run_pure, Oper.upon]
  exact hn C' x v h2 h3 h4 h5
theorem wp_pure {v : Value} (he : execOp a.eval o = Pure.pure (.value v)) {x : V} (hC : HRep C) (hv : VRep C.R x v) (hk : K x C.H) (hn : ∀ (C' : Ctx) (x : V) (v : Value), Tr C C' → HRep C' → VRep C'.R x v → K x C'.H → next (a.put o.dst v) C'.w) : o.wp P a C.w next Q := by
  unfold Oper.wp
  rw [he]
  simp only [Sem.run_pure, Oper.upon]
  exact hn C x v (Tr.refl C) hC hv hk
theorem wp_doesU {s : Sem Unit} (he : execOp a.eval o = (do s; Pure.pure .skip)) (h : DoesU P s C K) (hn : ∀ (C' : Ctx) (x : V) (v : Value), Tr C C' → HRep C' → VRep C'.R x v → K x C'.H → next (a.put o.dst v) C'.w) : o.wp P a C.w next Q := by
  obtain ⟨C', h1, h2, h3, h5⟩ := h
  unfold Oper.wp
  rw [he]
  simp only [Sem.run_bind, h1, Result.andThen_ok, Sem.run_pure, Oper.upon]
  exact hn C' undefV undef h2 h3 VRep_undef h5
theorem call_wp {f : V} {args : List V} {fo : Operand} {ops : Array Operand} {ats : Array TypeId} (ho : o.op = .call { callee := .value fo, args := ops, argTypes := ats }) (hC : HRep C) (hf : VRep C.R f (a.eval fo)) (ha : CRep C.R args (ops.toList.map a.eval))
    (hk : callK P f args C.H K) (hn : ∀ (C' : Ctx) (x : V) (v : Value), Tr C C' → HRep C' → VRep C'.R x v → K x C'.H → next (a.put o.dst v) C'.w) : o.wp P a C.w next Q := by
  unfold callK at hk
  split at hk
  · rename_i g x y
    obtain ⟨hb, hk⟩ := hk
    simp only [VRep] at hf
    obtain ⟨fs, cs, hfe, h1, h2⟩ := hf
    have hcall := hk C _ rfl hC (CRep_append h1 (CRep_append ha h2))
    unfold Oper.wp
    have hb2 := hb
    unfold hasBody at hb2
    split at hb2
    · rename_i fn hfn
      simp only [Bool.and_eq_true, bne_iff_ne, ne_eq] at hb2
      have hrun : (execOp a.eval o).run P C.w = .ok (.enter g (fs ++ (ops.toList.map a.eval ++ cs)).toArray) C.w := by
        unfold execOp
        rw [ho]
        have hbn : ¬ fn.body = none := by intro h; rw [h] at hb2; cases hb2.2
        have e1 : fs.toArray ++ (ops.map a.eval ++ cs.toArray) = (fs ++ (ops.toList.map a.eval ++ cs)).toArray := by
          apply Array.ext'
          simp
        simp [resolve, Deferred.ofValue, hfe, invoke, callFunc, hfn, hb2.1, hbn]
      rw [hrun]
      simp only [Oper.upon]
      refine Calls.mono hcall ?_
      rintro e w' ⟨C', x', v, rfl, rfl, k1, k2, k3, k4⟩
      exact hn C' x' v k1 k2 k3 k4
    · cases hb2
  · exact hk.elim
theorem nck_sound {x : Operand} {y : V} (ho : o.op = .nilCheck x) (hC : HRep C) (hv : VRep C.R y (a.eval x)) (hk : nckK y C.H K)
    (hn : ∀ (C' : Ctx) (x : V) (v : Value), Tr C C' → HRep C' → VRep C'.R x v → K x C'.H → next (a.put o.dst v) C'.w) : o.wp P a C.w next Q := by
  unfold nckK at hk
  split at hk
  · have hv' := hv
    simp only [VRep] at hv
    obtain ⟨b, o', cells, he, _⟩ := hv
    exact wp_pure (v := a.eval x) (by unfold execOp; rw [ho]; simp only [he]) hC hv' hk hn
  · obtain ⟨b, c, hb, he, hsh, hk⟩ := box_at hv hk
    exact wp_pure (v := a.eval x) (by unfold execOp; rw [ho]; simp only [he]) hC hv hk hn
  · have hv' := hv
    simp only [VRep] at hv
    obtain ⟨p, q, he, _⟩ := hv
    exact wp_pure (v := a.eval x) (by unfold execOp; rw [ho]; simp only [he]) hC hv' hk hn
  · exact hk.elim
theorem cvs_does {s t : TypeId} {x : V} {v : Value} (hs : P.underlying s = some .string) (ht : P.underlying t = some .string) (hC : HRep C) (hv : VRep C.R x v) (hk : cvsK x C.H K) : Does P (convert s t v) C K := by
  unfold cvsK at hk
  split at hk
  · have hv' := hv
    rw [VRep_str] at hv
    subst hv
    exact Does.pure hC (by simp [convert, run_underlying' hs, run_underlying' ht]) hv' hk
  · exact hk.elim
set_option maxHeartbeats 2000000 in
theorem op_sound {ao : AOp} {e : List V} (hc : cOp P o = some ao) (hC : HRep C) (hE : CRep C.R e a.tmps.toList) (hk : step P ao e C.H K)
    (hn : ∀ (C' : Ctx) (x : V) (v : Value), Tr C C' → HRep C' → VRep C'.R x v → K x C'.H → next (a.put o.dst v) C'.w) : o.wp P a C.w next Q := by
  have one : ∀ {x : Operand} {y : Opd}, cOpd x = some y → VRep C.R (ev e y) (a.eval x) := fun h => opd_rep h hE
  unfold cOp at hc
  split at hc
  · rename_i x ho
    obtain ⟨y, hy, rfl⟩ := Option.map_eq_some_iff.1 hc
    exact wp_pure (by unfold execOp; rw [ho]) hC (one hy) hk hn
  · rename_i x ho
    obtain ⟨y, hy, rfl⟩ := Option.map_eq_some_iff.1 hc
    exact wp_pure (by unfold execOp; rw [ho]) hC (one hy) hk hn
  · rename_i x ho
    obtain ⟨y, hy, rfl⟩ := Option.map_eq_some_iff.1 hc
    exact nck_sound ho hC (one hy) hk hn
  · rename_i c x y ho
    split at hc
    · rename_i c' x' y' h1 h2 h3
      cases hc
      simp only [step, pickK] at hk
      have hcv := one h1
      split at hk
      · rename_i t ht
        rw [ht, VRep_bool] at hcv
        refine wp_does (s := (do Pure.pure (if ← asBool (a.eval c) then a.eval x else a.eval y))) (by unfold execOp; rw [ho]; simp) ?_ hn
        rw [hcv]
        cases t
        · exact Does.pure hC (by simp [asBool]) (one h3) hk
        · exact Does.pure hC (by simp [asBool]) (one h2) hk
      · exact hk.elim
    · cases hc
  · rename_i t x ho
    obtain ⟨y, hy, rfl⟩ := Option.map_eq_some_iff.1 hc
    simp only [step, boxK] at hk
    split at hk
    · rename_i cs hcs
      exact wp_does (s := Instr.box t (a.eval x)) (by unfold execOp; rw [ho]) (newVar_does hC (cellsO_rep (one hy) hcs) hk) hn
    · exact hk.elim
  · rename_i t ho
    obtain ⟨z, hz, rfl⟩ := Option.map_eq_some_iff.1 hc
    obtain ⟨i, zv, hi, hzv, _, _, hzr⟩ := zero_rep (R := C.R) hz
    refine wp_does (s := Instr.alloc t true (.tuple #[])) (by unfold execOp; rw [ho]) ?_ hn
    have := newVar_does (P := P) (t := t) (v := zv) hC hzr hk
    obtain ⟨C', x, v, h1, h2⟩ := this
    refine ⟨C', x, v, ?_, h2⟩
    simp only [Instr.alloc, Sem.run_bind, zeroValue, typeInfo, run_program, Result.andThen_ok, hi, hzv, Sem.run_pure] at h1 ⊢
    exact h1
  · rename_i t parts ho
    have hex : execOp a.eval o = (do Pure.pure (.value (← Instr.build t (parts.map fun (i, x) => (i, a.eval x))))) := by unfold execOp; rw [ho]
    split at hc
    · rename_i fs z hu hz
      split at hc
      · rename_i hfs
        obtain ⟨ps, hps, rfl⟩ := Option.map_eq_some_iff.1 hc
        exact wp_does hex (build_struct_does hu hz hfs hps hC hE hk) hn
      · cases hc
    · rename_i len el z hu hz
      split at hc
      · rename_i n hn2
        obtain ⟨ps, hps, rfl⟩ := Option.map_eq_some_iff.1 hc
        exact wp_does hex (build_array_does hu hz hn2 hps hC hE hk) hn
      · cases hc
    · cases hc
  · rename_i t len parts ho
    split at hc
    · rename_i el hu
      split at hc
      · rename_i n l hn2 hl
        split at hc
        · rename_i hcond
          obtain ⟨q1, q2, q3, q4, q5⟩ := hcond
          cases hc
          have hk2 : bslF n (isAggT P el) (noids (evs e l)) (evs e l) C.H K := by simpa only [step] using hk
          have hd := bsl_does hu hn2 hl q1 q2 q5 hC hE hk2
          exact wp_does (s := Instr.buildSlice t len (parts.map fun (i, x) => (i, a.eval x))) (by unfold execOp; rw [ho]) hd hn
        · cases hc
      · cases hc
    · cases hc
  · rename_i t l c ho
    split at hc
    · rename_i el hu
      split at hc
      · rename_i i z l' c' hi hz h1 h2
        split at hc
        · rename_i hcond
          cases hc
          have hk2 : mksK el i.size (isAggT P el) z.cells i.bytes (ev e l') (ev e c') C.H K := by simpa only [step] using hk
          have hd := mks_does hu hi hz hcond.1 hcond.2.1 hcond.2.2 hC (one h1) (one h2) hk2
          exact wp_does (s := Instr.makeSlice t (a.eval l) (a.eval c)) (by unfold execOp; rw [ho]) hd hn
        · cases hc
      · cases hc
    · cases hc
  · rename_i t x ho
    split at hc
    · rename_i n x' hs h1
      split at hc
      · rename_i ht
        cases hc
        exact wp_does (s := Instr.loadAt t (a.eval x)) (by unfold execOp; rw [ho]) (load_does hs ht hC (one h1) hk) hn
      · cases hc
    · cases hc
  · rename_i t x y ho
    split at hc
    · rename_i n x' y' hs h1 h2
      cases hc
      exact wp_doesU (s := Instr.storeAt t (a.eval x) (a.eval y)) (by unfold execOp; rw [ho]) (store_does hs hC (one h1) (one h2) hk) hn
    · cases hc
  · rename_i op t x y yt ho
    have hex : execOp a.eval o = (do Pure.pure (.value (← (do eqGuard op t x y (a.eval x) (a.eval y); binOp op t (a.eval x) (a.eval y))))) := by unfold execOp; rw [ho]
    split at hc
    · rename_i x' y' h1 h2
      have agg : ∀ {neg : Bool} {ks : List Nat}, op = (if neg then .neq else .eql) → isAggT P t = true → P.eqGuardType P.depth t = false → flatK P 20 t = some ks → eqaK neg (eqaO ks (ev e x') (ev e y')) C.H K → o.wp P a C.w next Q := by
        intro neg ks hop hag hg hfk hk
        subst hop
        exact wp_does hex (eqa_does hg hfk hag hC (one h1) (one h2) hk) hn
      have nl : ∀ {neg : Bool} {kind : Nat}, op = (if neg then .neq else .eql) → kindOk kind (P.underlying t) = true → cnilK kind neg (ev e x') (ev e y') C.H K → o.wp P a C.w next Q := by
        intro neg kind hop hkd hk
        subst hop
        exact wp_does hex (cnil_any hkd hC (one h1) (one h2) hk) hn
      split at hc
      · rename_i fs hu
        split at hc
        · cases hc
        · rename_i hg
          have hg2 : P.eqGuardType P.depth t = false := by simpa using hg
          have hag : isAggT P t = true := by simp [isAggT, hu]
          split at hc
          · rename_i hfk; cases hc; exact agg (neg := false) rfl hag hg2 hfk hk
          · rename_i hfk; cases hc; exact agg (neg := true) rfl hag hg2 hfk hk
          · cases hc
      · rename_i n el hu
        split at hc
        · cases hc
        · rename_i hg
          have hg2 : P.eqGuardType P.depth t = false := by simpa using hg
          have hag : isAggT P t = true := by simp [isAggT, hu]
          split at hc
          · rename_i hfk; cases hc; exact agg (neg := false) rfl hag hg2 hfk hk
          · rename_i hfk; cases hc; exact agg (neg := true) rfl hag hg2 hfk hk
          · cases hc
      · cases hc
        exact wp_does hex (bin_does hC (one h1) (one h2) hk) hn
      · cases hc
        exact wp_does hex (bin_does hC (one h1) (one h2) hk) hn
      · rename_i hu
        split at hc
        · cases hc; exact wp_does hex (binb_does (neg := false) hu hC (one h1) (one h2) hk) hn
        · cases hc; exact wp_does hex (binb_does (neg := true) hu hC (one h1) (one h2) hk) hn
        · cases hc
      · rename_i el hu
        split at hc
        · cases hc; exact nl (neg := false) rfl (by rw [hu]; rfl) hk
        · cases hc; exact nl (neg := true) rfl (by rw [hu]; rfl) hk
        · cases hc
      · rename_i el hu
        split at hc
        · cases hc; exact nl (neg := false) rfl (by rw [hu]; rfl) hk
        · cases hc; exact nl (neg := true) rfl (by rw [hu]; rfl) hk
        · cases hc
      · rename_i k el hu
        split at hc
        · cases hc; exact nl (neg := false) rfl (by rw [hu]; rfl) hk
        · cases hc; exact nl (neg := true) rfl (by rw [hu]; rfl) hk
        · cases hc
      · rename_i p q r hu
        split at hc
        · cases hc; exact nl (neg := false) rfl (by rw [hu]; rfl) hk
        · cases hc; exact nl (neg := true) rfl (by rw [hu]; rfl) hk
        · cases hc
      · cases hc
    · cases hc
  · rename_i op t x ho
    obtain ⟨y, hy, rfl⟩ := Option.map_eq_some_iff.1 hc
    exact wp_does (s := Op.unary op (a.eval x)) (by unfold execOp; rw [ho]) (un_does hC (one hy) hk) hn
  · rename_i src dst x ho
    have hex : execOp a.eval o = (do Pure.pure (.value (← convert src dst (a.eval x)))) := by unfold execOp; rw [ho]
    split at hc
    · rename_i y q k h1 h2 h3
      cases hc
      exact wp_does hex (cvi_does h2 h3 hC (one h1) hk) hn
    · rename_i y h1 h2 h3
      cases hc
      exact wp_does hex (cvs_does h2 h3 hC (one h1) hk) hn
    · rename_i y el h1 h2 h3
      split at hc
      · rename_i h4
        cases hc
        exact wp_does hex (b2s_does h2 h4 h3 hC (one h1) hk) hn
      · cases hc
    · cases hc
  · rename_i f first caps ho
    split at hc
    · rename_i p q h1 h2
      cases hc
      refine wp_does (s := Instr.makeFunc (.func f) (first.map a.eval) (caps.map a.eval)) (by unfold execOp; rw [ho]) (Does.pure hC rfl ?_ hk) hn
      simp only [VRep]
      exact ⟨first.toList.map a.eval, caps.toList.map a.eval, by rw [← Array.toList_map, ← Array.toList_map], opds_rep h1 hE, opds_rep h2 hE⟩
    · cases hc
  · rename_i t ho
    split at hc
    · rename_i p q hu
      cases hc
      exact wp_does (s := Instr.makeMap t none) (by unfold execOp; rw [ho]; rfl) (mkm_does hu hC hk) hn
    · cases hc
  · rename_i t x lo hi mx ho
    have hex : execOp a.eval o = (do Pure.pure (.value (← Instr.sliceAt t (a.eval x) (lo.map a.eval) (hi.map a.eval) (mx.map a.eval)))) := by unfold execOp; rw [ho]
    split at hc
    · rename_i y lo' hi' hu h1 h2 h3 h4
      cases hc
      have hmx : mx = none := by cases mx <;> simp [cOpt] at h4 ⊢
      subst hmx
      exact wp_does hex (sls_does hu hC (one h1) (opt_rep h2 hE) (opt_rep h3 hE) hk) hn
    · rename_i el y lo' hi' mx' hu h1 h2 h3 h4
      obtain ⟨n, hn2, rfl⟩ := Option.map_eq_some_iff.1 hc
      exact wp_does hex (slc_does hu hn2 hC (one h1) (opt_rep h2 hE) (opt_rep h3 hE) (opt_rep h4 hE) hk) hn
    · cases hc
  · rename_i t x f ho
    split at hc
    · rename_i fs y hu h1
      split at hc
      · rename_i g hg
        split at hc
        · rename_i n hn2
          cases hc
          exact wp_does (s := Instr.fieldAt t (a.eval x) f) (by unfold execOp; rw [ho]) (fad_does hu hg hn2 hC (one h1) hk) hn
        · cases hc
      · cases hc
    · cases hc
  · rename_i t x f ho
    split at hc
    · rename_i fs y hu h1
      split at hc
      · rename_i g hg
        split at hc
        · rename_i n hn2
          split at hc
          · rename_i ht
            cases hc
            exact wp_does (s := Instr.field t (a.eval x) f) (by unfold execOp; rw [ho]) (fld_does hu hg hn2 ht hC (one h1) hk) hn
          · cases hc
        · cases hc
      · cases hc
    · cases hc
  · rename_i t x i ho
    have hex : execOp a.eval o = (do Pure.pure (.value (← Instr.indexAt t (a.eval x) (a.eval i)))) := by unfold execOp; rw [ho]
    split at hc
    · rename_i el y j hu h1 h2
      split at hc
      · rename_i n hn2
        split at hc
        · cases hc
          exact wp_does hex (iad_does hu hn2 hC (one h1) (one h2) hk) hn
        · cases hc
      · cases hc
    · rename_i len el y j hu h1 h2
      split at hc
      · rename_i n hn2
        cases hc
        exact wp_does hex (iaa_does hu hn2 hC (one h1) (one h2) hk) hn
      · cases hc
    · cases hc
  · rename_i t x i ho
    have hex : execOp a.eval o = (do Pure.pure (.value (← Instr.index t (a.eval x) (a.eval i)))) := by unfold execOp; rw [ho]
    split at hc
    · rename_i y j hu h1 h2
      cases hc
      exact wp_does hex (ixs_does hu hC (one h1) (one h2) hk) hn
    · rename_i len el y j hu h1 h2
      split at hc
      · rename_i n hn2
        split at hc
        · rename_i ht
          cases hc
          exact wp_does hex (ixa_does hu hn2 ht hC (one h1) (one h2) hk) hn
        · cases hc
      · cases hc
    · cases hc
  · rename_i t x i ok ho
    split at hc
    · rename_i kt et y j hu h1 h2
      split at hc
      · rename_i ks z hks hz
        cases hc
        exact wp_does (s := Instr.lookup t (a.eval x) (a.eval i) ok) (by unfold execOp; rw [ho]) (mget_does hu hks rfl hz hC (one h1) (one h2) hk) hn
      · cases hc
    · cases hc
  · rename_i t m k x ho
    split at hc
    · rename_i kt et m' k' x' hu h1 h2 h3
      split at hc
      · rename_i ks hks
        cases hc
        exact wp_doesU (s := Instr.mapUpdate t (a.eval m) (a.eval k) (a.eval x)) (by unfold execOp; rw [ho]) (mput_does hu hks rfl hC (one h1) (one h2) (one h3) hk) hn
      · cases hc
    · cases hc
  · rename_i t m k x ho
    split at hc
    · rename_i kt et m' k' x' hu h1 h2 h3
      split at hc
      · rename_i ks hks
        cases hc
        exact wp_doesU (s := Instr.mapUpdate t (a.eval m) (a.eval k) (a.eval x)) (by unfold execOp; rw [ho]) (mput_does hu hks rfl hC (one h1) (one h2) (one h3) hk) hn
      · cases hc
    · cases hc
  · rename_i t x ho
    have hex : execOp a.eval o = (do Pure.pure (.value (← Instr.range t (a.eval x)))) := by unfold execOp; rw [ho]
    split at hc
    · rename_i y hu h1
      cases hc
      exact wp_does hex (rng_does hu hC (one h1) hk) hn
    · cases hc
  · rename_i it s ho
    obtain ⟨y, hy, rfl⟩ := Option.map_eq_some_iff.1 hc
    exact wp_does (s := Instr.next (a.eval it) s o.type) (by unfold execOp; rw [ho]) (nxt_does hC (one hy) hk) hn
  · rename_i t i ho
    obtain ⟨y, hy, rfl⟩ := Option.map_eq_some_iff.1 hc
    exact wp_does (s := Instr.extract (a.eval t) i) (by unfold execOp; rw [ho]) (ext_does hC (one hy) hk) hn
  · rename_i b args ats ho
    have res : (resolve a.eval { callee := .builtin b, args := args, argTypes := ats } o.type) = Pure.pure { target := .builtin b ats o.type (args.map fun | .const _ => true | _ => false), args := args.map a.eval } := rfl
    have hex : ∀ (s : Sem Value), builtin b ats o.type (args.map fun | .const _ => true | _ => false) (args.map a.eval) = (do Pure.pure (.value (← s))) → execOp a.eval o = (do Pure.pure (.value (← s))) := by
      intro s hs
      unfold execOp
      rw [ho]
      show (do let d ← resolve a.eval { callee := .builtin b, args := args, argTypes := ats } o.type; invoke d.target d.args) = _
      rw [res]
      exact hs
    split at hc
    · cases hc
    · rename_i l hl
      have hr := opds_rep hl hE
      have hargs : args.map a.eval = (args.toList.map a.eval).toArray := by rw [← Array.toList_map]
      split at hc
      · rename_i x t ht
        have hats : ats = #[t] := by rw [← Array.toArray_toList (xs := ats), ht]
        obtain ⟨v, hv, hvr⟩ : ∃ v, args.map a.eval = #[v] ∧ VRep C.R (ev e x) v := by
          simp only [evs, CRep] at hr
          obtain ⟨d, r, h1, h2, rfl⟩ := hr
          exact ⟨d, by rw [hargs, h1], h2⟩
        have he := hex (Builtin.len_ ats o.type (args.map a.eval)) rfl
        rw [hv, hats] at he
        split at hc
        · rename_i hu; cases hc; exact wp_does he (len_does (by rw [hu]; rfl) hC hvr hk) hn
        · rename_i hu; cases hc; exact wp_does he (len_does (by rw [hu]; rfl) hC hvr hk) hn
        · rename_i hu; cases hc; exact wp_does he (len_does (by rw [hu]; rfl) hC hvr hk) hn
        · cases hc
      · rename_i x y s t ht
        have hats : ats = #[s, t] := by rw [← Array.toArray_toList (xs := ats), ht]
        obtain ⟨v, u, hv, hvr, hur⟩ : ∃ v u, args.map a.eval = #[v, u] ∧ VRep C.R (ev e x) v ∧ VRep C.R (ev e y) u := by
          simp only [evs, CRep] at hr
          obtain ⟨d, r, h1, h2, d2, r2, rfl, h3, rfl⟩ := hr
          exact ⟨d, d2, by rw [hargs, h1], h2, h3⟩
        have he := hex (Builtin.append_ ats o.type (args.map a.eval)) rfl
        rw [hv, hats] at he
        split at hc
        · rename_i el hu
          split at hc
          · rename_i i z el2 hi hz hu2
            split at hc
            · rename_i hcond
              cases hc
              obtain ⟨q1, q2, q3, q4⟩ := hcond
              subst q3
              have hz2 : i.zero = some z := by simpa [hi] using hz
              exact wp_does he (app_does hu hi hz2 q1 q2 hC hvr hur hk) hn
            · cases hc
          · rename_i i z hi hz hu2
            split at hc
            · rename_i hcond
              cases hc
              obtain ⟨q1, q2⟩ := hcond
              have hz2 : i.zero = some z := by simpa [hi] using hz
              exact wp_does he (apps_does hu hu2 hi hz2 q1 q2 hC hvr hur hk) hn
            · cases hc
          · cases hc
        · cases hc
      · rename_i x y s t ht
        have hats : ats = #[s, t] := by rw [← Array.toArray_toList (xs := ats), ht]
        obtain ⟨v, u, hv, hvr, hur⟩ : ∃ v u, args.map a.eval = #[v, u] ∧ VRep C.R (ev e x) v ∧ VRep C.R (ev e y) u := by
          simp only [evs, CRep] at hr
          obtain ⟨d, r, h1, h2, d2, r2, rfl, h3, rfl⟩ := hr
          exact ⟨d, d2, by rw [hargs, h1], h2, h3⟩
        have he := hex (Builtin.copy_ ats o.type (args.map a.eval)) rfl
        rw [hv, hats] at he
        split at hc
        · rename_i el hu
          obtain ⟨n, hn2, rfl⟩ := Option.map_eq_some_iff.1 hc
          exact wp_does he (copy_does hu hn2 hC hvr hur hk) hn
        · cases hc
      · rename_i x y s t ht
        split at hc
        · split at hc
          · cases hc; exact hk.elim
          · cases hc
        · cases hc
      · rename_i t ts ht
        split at hc
        · cases hc
          have he := hex (Builtin.min_ ats o.type (args.map a.eval)) rfl
          rw [hargs] at he
          exact wp_does he (mnx_does (m := true) (ts := ats) (t := o.type) hC hr hk) hn
        · cases hc
      · rename_i t ts ht
        split at hc
        · cases hc
          have he := hex (Builtin.max_ ats o.type (args.map a.eval)) rfl
          rw [hargs] at he
          exact wp_does he (mnx_does (m := false) (ts := ats) (t := o.type) hC hr hk) hn
        · cases hc
      · cases hc
  · rename_i f args ats ho
    split at hc
    · rename_i f' l h1 h2
      cases hc
      exact call_wp ho hC (one h1) (opds_rep h2 hE) hk hn
    · cases hc
  · cases hc
end
end Go.Av
