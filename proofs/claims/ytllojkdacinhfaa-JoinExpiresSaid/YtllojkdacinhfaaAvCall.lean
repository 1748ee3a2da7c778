/- A part of a way to reckon what a Go program does without its memory (AvCall). -/
import Derived.Test.YtllojkdacinhfaaAvAw
import Derived.Laws.Sem
namespace Go.Av
open Go Go.RowKit
set_option autoImplicit false
set_option linter.all false
section
variable {P : Program}
/-! ### Functions -/
inductive RA where
  | tmp (t : Nat)
  | cell (a n : Nat) (g : Bool)
def cRes (P : Program) : List ResultVar → Option (List RA)
  | [] => some []
  | .tmp t :: l => (cRes P l).map (.tmp t :: ·)
  | .cell a t :: l => match sizeT P t, cRes P l with | some n, some r => if tyOk P t n then some (.cell a n (isAggT P t) :: r) else none | _, _ => none
def oneV : List V → V
  | [v] => v
  | vs => .tup vs
def resK : List RA → List V → KV → List V → List Entry → Prop
  | [], acc, K, _, H => K (oneV acc) H
  | .tmp t :: l, acc, K, e, H => resK l (acc ++ [nth e t]) K e H
  | .cell a n g :: l, acc, K, e, H => loadK n g (nth e a) H (fun v H' => resK l (acc ++ [v]) K e H')
def finK (rs : List RA) (K : KV) : KQ
  | .norm, e, H => resK rs [] K e H
  | .ret, e, H => resK rs [] K e H
  | .exit _, _, _ => False
def resOne (tmps : Array Value) : ResultVar → Sem Value
  | .tmp t => pure (tmps.getD t undef)
  | .cell a t => do loadVar t (← asAddr (tmps.getD a undef))
theorem results_eq (fn : Func) (tmps : Array Value) : results fn tmps = (do let vs ← fn.results.toList.mapM (resOne tmps); pure (if vs.length = 1 then vs.headD undef else .tuple vs.toArray)) := by
  have h0 : results fn tmps = (do let vs ← fn.results.mapM (resOne tmps); pure (if h : vs.size = 1 then vs[0] else .tuple vs)) := by
    unfold results
    congr 1
  rw [h0, Array.mapM_eq_mapM_toList]
  simp only [bind_map_left]
  congr 1
  funext vs
  by_cases h : vs.length = 1
  · obtain ⟨v, rfl⟩ := List.length_eq_one_iff.1 h
    simp
  · simp [h]
theorem load_as {t : TypeId} {v u : Value} {w w' : World} (h : (Instr.loadAt t v).run P w = .ok u w') : (do loadVar t (← asAddr v)).run P w = .ok u w' := by
  unfold Instr.loadAt Instr.sureAddr at h
  unfold asAddr
  split at h
  · exact h
  · simp at h
theorem resK_sound {K : KV} : ∀ (l : List ResultVar) (rs : List RA), cRes P l = some rs → ∀ (C : Ctx) (e : List V) (tmps : Array Value) (acc : List V) (ds : List Value), HRep C → CRep C.R e tmps.toList → CRep C.R acc ds → resK rs acc K e C.H →
    ∃ (vs : List Value) (xs : List V), (l.mapM (resOne tmps)).run P C.w = .ok vs C.w ∧ CRep C.R xs (ds ++ vs) ∧ K (oneV xs) C.H
  | [], rs, h, C, e, tmps, acc, ds, hC, hE, ha, hk => by
    simp only [cRes, Option.some.injEq] at h
    subst h
    exact ⟨[], acc, by simp, by simpa using ha, hk⟩
  | .tmp t :: l, rs, h, C, e, tmps, acc, ds, hC, hE, ha, hk => by
    simp only [cRes] at h
    obtain ⟨r, hr, rfl⟩ := Option.map_eq_some_iff.1 h
    simp only [resK] at hk
    have hv : VRep C.R (nth e t) (tmps.getD t undef) := by
      have := CRep_nth t hE
      simpa using this
    obtain ⟨vs, xs, h1, h4, h5⟩ := resK_sound l r hr C e tmps (acc ++ [nth e t]) (ds ++ [tmps.getD t undef]) hC hE (CRep_append ha (CRep_cons hv CRep_nil)) hk
    refine ⟨tmps.getD t undef :: vs, xs, ?_, by simpa using h4, h5⟩
    simp only [List.mapM_cons, resOne, Sem.run_bind, Sem.run_pure, Result.andThen_ok, h1]
  | .cell a t :: l, rs, h, C, e, tmps, acc, ds, hC, hE, ha, hk => by
    simp only [cRes] at h
    split at h
    · rename_i n r hn hr
      split at h
      · rename_i hty
        cases h
        simp only [resK] at hk
        have hv : VRep C.R (nth e a) (tmps.getD a undef) := by
          have := CRep_nth a hE
          simpa using this
        obtain ⟨x, v, h1, h4, h5⟩ := load_reads (P := P) hn hty hC hv hk
        obtain ⟨vs, xs, k1, k4, k5⟩ := resK_sound l r hr C e tmps (acc ++ [x]) (ds ++ [v]) hC hE (CRep_append ha (CRep_cons h4 CRep_nil)) h5
        refine ⟨v :: vs, xs, ?_, by simpa using k4, k5⟩
        have h1' : (resOne tmps (.cell a t)).run P C.w = .ok v C.w := load_as h1
        simp only [List.mapM_cons, Sem.run_bind, h1', Sem.run_pure, Result.andThen_ok, k1]
      · cases h
    · cases h
theorem oneV_rep {R : Rd} {xs : List V} {vs : List Value} (h : CRep R xs vs) : VRep R (oneV xs) (if vs.length = 1 then vs.headD undef else .tuple vs.toArray) := by
  have hl := CRep_length h
  cases xs with
  | nil =>
    simp only [CRep] at h
    subst h
    simp only [oneV, VRep]
    exact ⟨[], rfl, by simp [CRep]⟩
  | cons x xs =>
    cases xs with
    | nil =>
      simp only [CRep] at h
      obtain ⟨d, r, rfl, h1, rfl⟩ := h
      simpa [oneV] using h1
    | cons y xs =>
      simp only [List.length_cons] at hl
      rw [if_neg (by omega)]
      simp only [oneV]
      rw [show VRep R (.tup (x :: y :: xs)) (.tuple vs.toArray) ↔ ∃ ds : List Value, Value.tuple vs.toArray = .tuple ds.toArray ∧ CRep R (x :: y :: xs) ds by simp only [VRep]]
      exact ⟨vs, rfl, h⟩
theorem undefs_rep {R : Rd} : ∀ n : Nat, CRep R (List.replicate n undefV) (List.replicate n undef)
  | 0 => CRep_nil
  | n + 1 => CRep_cons VRep_undef (undefs_rep n)
/-- A function's body, walked: that is its call. -/
theorem acall_of {f : FuncId} {fn : Func} {c : Code} {ac : AC} {rs : List RA} {args : List V} {H : List Entry} {K : KV} {nt m : Nat} (hf : P.funcs[f]? = some fn) (hb : fn.body = some c) (hc : comp P c = some (strip ac)) (hr : cRes P fn.results.toList = some rs) (hnt : fn.ntmps = nt) (hm : args.length + m = nt)
    (h : awp P H.length ac (finK rs K) (args ++ List.replicate m undefV) H) : ACall P f args H K := by
  intro C vals hH hC hv
  have hl := CRep_length hv
  refine calls_of_wp hf hb ?_
  have he : (⟨vals.toArray ++ Array.replicate (fn.ntmps - vals.toArray.size) undef, []⟩ : Act).tmps.toList = vals ++ List.replicate m undef := by
    have : fn.ntmps - vals.toArray.size = m := by simp; omega
    rw [this]; simp
  have hw := awp_sound ac c hc (finK rs K) C C ⟨vals.toArray ++ Array.replicate (fn.ntmps - vals.toArray.size) undef, []⟩ (args ++ List.replicate m undefV) (by rw [hH]) (Tr.refl C) hC (by rw [he]; exact CRep_append hv (undefs_rep m)) rfl (by rw [hH]; exact h)
  refine wp_mono hw ?_
  rintro x a w ⟨C', e, y, rfl, ht, hC', hE, hd, hx, hq⟩
  have fin : resK rs [] K e C'.H → a.defers = [] ∧ ∃ v, (results fn a.tmps).run P C'.w = .ok v C'.w ∧ ∃ (C2 : Ctx) (x : V) (u : Value), Ending.returned v = .returned u ∧ C2.w = C'.w ∧ Tr C C2 ∧ HRep C2 ∧ VRep C2.R x u ∧ K x C2.H := by
    intro hk
    obtain ⟨vs, xs, k1, k4, k5⟩ := resK_sound fn.results.toList rs hr C' e a.tmps [] [] hC' hE CRep_nil hk
    refine ⟨hd, _, ?_, C', oneV xs, _, rfl, rfl, ht, hC', oneV_rep (by simpa using k4), k5⟩
    rw [results_eq]
    simp only [Sem.run_bind, k1, Result.andThen_ok, Sem.run_pure]
  cases x <;> simp only [exOf, reduceCtorEq, Option.some.injEq] at hx <;> subst hx
  · exact fin hq
  · exact hq.elim
  · exact fin hq
end
end Go.Av
