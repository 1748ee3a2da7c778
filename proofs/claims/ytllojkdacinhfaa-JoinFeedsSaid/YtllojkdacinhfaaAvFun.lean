/- A part of a way to reckon what a Go program does without its memory (AvFun). -/
import Derived.Test.YtllojkdacinhfaaAvSim
import Derived.Laws.BitsLemmas
import Derived.IntWalk
namespace Go.Av
open Go Go.RowKit
set_option autoImplicit false
set_option linter.all false
/-! ### What stands in memory has no number that is not there -/
section wf
variable {R : Rd} {m : Nat} (hR : ∀ g, m ≤ g → R.sh g = none)
include hR
theorem lt_of_sh {g : Nat} {s : Shp} (h : R.sh g = some s) : g < m := by
  rcases Nat.lt_or_ge g m with k | k
  · exact k
  · rw [hR g k] at h; cases h
mutual
theorem idsLt_of_rep : ∀ (x : V) (v : Value), VRep R x v → idsLt m x = true
  | .bool _, _, _ => rfl
  | .int _ _, _, _ => rfl
  | .str _, _, _ => rfl
  | .agg cs, v, h => by
    simp only [VRep] at h
    obtain ⟨ds, _, hc⟩ := h
    simp only [idsLt]
    exact idsLts_of_rep cs ds hc
  | .tup cs, v, h => by
    simp only [VRep] at h
    obtain ⟨ds, _, hc⟩ := h
    simp only [idsLt]
    exact idsLts_of_rep cs ds hc
  | .nilsl, _, _ => rfl
  | .sl _ _, _, _ => rfl
  | .slx _ _, _, _ => rfl
  | .own g len, v, h => by
    simp only [VRep] at h
    simp only [idsLt, decide_eq_true_eq]
    cases hs : R.sh g with
    | none => rw [hs] at h; exact h.2.elim
    | some s => exact lt_of_sh hR hs
  | .nilp, _, _ => rfl
  | .ref _, _, _ => rfl
  | .ptr g off, v, h => by
    simp only [VRep] at h
    simp only [idsLt, decide_eq_true_eq]
    cases hs : R.sh g with
    | none => rw [hs] at h; exact h.2.elim
    | some s => exact lt_of_sh hR hs
  | .eptr g len i off, v, h => by
    simp only [VRep] at h
    simp only [idsLt, decide_eq_true_eq]
    cases hs : R.sh g with
    | none => rw [hs] at h; exact h.2.elim
    | some s => exact lt_of_sh hR hs
  | .nilfn, _, _ => rfl
  | .fn f a b, v, h => by
    simp only [VRep] at h
    obtain ⟨x, y, _, h1, h2⟩ := h
    simp only [idsLt, Bool.and_eq_true]
    exact ⟨idsLts_of_rep a x h1, idsLts_of_rep b y h2⟩
  | .nilmap, _, _ => rfl
  | .map g, v, h => by
    simp only [VRep] at h
    simp only [idsLt, decide_eq_true_eq]
    cases hs : R.sh g with
    | none => rw [hs] at h; exact h.2.elim
    | some s => exact lt_of_sh hR hs
  | .it g, v, h => by
    simp only [VRep] at h
    simp only [idsLt, decide_eq_true_eq]
    cases hs : R.sh g with
    | none => rw [hs] at h; exact h.2.elim
    | some s => exact lt_of_sh hR hs
  | .junk, _, _ => rfl
theorem idsLts_of_rep : ∀ (cs : List V) (ds : List Value), CRep R cs ds → idsLts m cs = true
  | [], _, _ => rfl
  | c :: cs, ds, h => by
    simp only [CRep] at h
    obtain ⟨d, r, rfl, h1, h2⟩ := h
    simp only [idsLts, Bool.and_eq_true]
    exact ⟨idsLt_of_rep c d h1, idsLts_of_rep cs r h2⟩
end
theorem idsLtM_of_rep : ∀ (kvs : List (V × V)) (es : List MapEntry), MRep R kvs es → idsLtM m kvs = true
  | [], _, _ => rfl
  | (k, x) :: l, es, h => by
    obtain ⟨e, r, rfl, h1, h2, h3⟩ := h
    simp only [idsLtM, Bool.and_eq_true]
    exact ⟨idsLt_of_rep hR k _ h1, idsLt_of_rep hR x _ h2, idsLtM_of_rep l r h3⟩
end wf
theorem hLe_of_all {m : Nat} : ∀ {H : List Entry}, (∀ e ∈ H, idsLtE m e = true) → hLe m H H
  | [], _ => by simp [hLe]
  | e :: H, h => by
    simp only [hLe]
    exact ⟨.inr ⟨trivial, h e (by simp)⟩, hLe_of_all fun x hx => h x (by simp [hx])⟩
/-- Well formed: no number that is not there. -/
def Wf (H : List Entry) : Prop := hLe H.length H H
theorem wf_of_rep {C : Ctx} (h : HRep C) : Wf C.H := by
  have hR : ∀ g, C.H.length ≤ g → C.R.sh g = none := fun g hg => by simp [Ctx.R, Ctx.sh, List.getElem?_eq_none hg]
  refine hLe_of_all fun e he => ?_
  obtain ⟨g, hg⟩ := List.mem_iff_getElem?.1 he
  have h0 := h.ent g e hg
  cases e with
  | box cs =>
    obtain ⟨b, c, cur, E, _, _, k⟩ := h0
    exact idsLts_of_rep hR _ _ k
  | map kvs =>
    obtain ⟨b, c, es, clock, _, _, k⟩ := h0
    exact idsLtM_of_rep hR _ _ k
  | _ => rfl
theorem wf_nil : Wf [] := by simp [Wf, hLe]
theorem hLe_drop {m : Nat} : ∀ {H t : List Entry}, hLe m H H → hLe m (H ++ t) H
  | [], t, _ => by simp [hLe]
  | e :: H, t, h => by
    simp only [List.cons_append, hLe] at h ⊢
    exact ⟨h.1, hLe_drop h.2⟩
mutual
theorem idsLt_mono {m m' : Nat} (hm : m ≤ m') : ∀ x : V, idsLt m x = true → idsLt m' x = true
  | .bool _, _ => rfl
  | .int _ _, _ => rfl
  | .str _, _ => rfl
  | .agg cs, h => by
    simp only [idsLt] at h ⊢; exact idsLts_mono hm cs h
  | .tup cs, h => by
    simp only [idsLt] at h ⊢; exact idsLts_mono hm cs h
  | .nilsl, _ => rfl
  | .sl _ _, _ => rfl
  | .slx _ _, _ => rfl
  | .own g _, h => by simp only [idsLt, decide_eq_true_eq] at h ⊢; omega
  | .nilp, _ => rfl
  | .ref _, _ => rfl
  | .ptr g _, h => by simp only [idsLt, decide_eq_true_eq] at h ⊢; omega
  | .eptr g _ _ _, h => by simp only [idsLt, decide_eq_true_eq] at h ⊢; omega
  | .nilfn, _ => rfl
  | .fn f a b, h => by
    simp only [idsLt, Bool.and_eq_true] at h ⊢
    exact ⟨idsLts_mono hm a h.1, idsLts_mono hm b h.2⟩
  | .nilmap, _ => rfl
  | .map g, h => by simp only [idsLt, decide_eq_true_eq] at h ⊢; omega
  | .it g, h => by simp only [idsLt, decide_eq_true_eq] at h ⊢; omega
  | .junk, _ => rfl
theorem idsLts_mono {m m' : Nat} (hm : m ≤ m') : ∀ l : List V, idsLts m l = true → idsLts m' l = true
  | [], _ => rfl
  | a :: l, h => by
    simp only [idsLts, Bool.and_eq_true] at h ⊢
    exact ⟨idsLt_mono hm a h.1, idsLts_mono hm l h.2⟩
end
theorem idsLtM_mono {m m' : Nat} (hm : m ≤ m') : ∀ l : List (V × V), idsLtM m l = true → idsLtM m' l = true
  | [], _ => rfl
  | (a, b) :: l, h => by
    simp only [idsLtM, Bool.and_eq_true] at h ⊢
    exact ⟨idsLt_mono hm a h.1, idsLt_mono hm b h.2.1, idsLtM_mono hm l h.2.2⟩
theorem idsLtE_mono {m m' : Nat} (hm : m ≤ m') {e : Entry} (h : idsLtE m e = true) : idsLtE m' e = true := by
  cases e with
  | box cs => exact idsLts_mono hm _ h
  | map kvs => exact idsLtM_mono hm _ h
  | _ => rfl
theorem hLe_app {m : Nat} : ∀ {H t t' : List Entry}, hLe H.length H H → H.length ≤ m → hLe m t t' → hLe m (H ++ t) (H ++ t') := by
  intro H t t' h hm ht
  have key : ∀ (A : List Entry), hLe H.length A A → hLe m (A ++ t) (A ++ t') := by
    intro A
    induction A with
    | nil => intro _; exact ht
    | cons e A ih =>
      intro hA
      simp only [List.cons_append, hLe] at hA ⊢
      exact ⟨hA.1.imp id fun k => ⟨k.1, idsLtE_mono hm k.2⟩, ih hA.2⟩
  exact key H h

@[go_sem] theorem i64w {n : Int} (h : -9223372036854775808 ≤ n ∧ n ≤ 9223372036854775807) : IntKind.i64.wrap n = n := by rw [IntKind.wrap_i64]; omega
@[go_sem] theorem u64w {n : Int} (h : 0 ≤ n ∧ n ≤ 18446744073709551615) : IntKind.u64.wrap n = n := by
  simp only [IntKind.wrap, IntKind.bits, IntKind.signed]; simp; omega
@[go_sem] theorem u32w {n : Int} (h : 0 ≤ n ∧ n ≤ 4294967295) : IntKind.u32.wrap n = n := by rw [IntKind.wrap_u32]; omega
@[go_sem] theorem u16w {n : Int} (h : 0 ≤ n ∧ n ≤ 65535) : IntKind.u16.wrap n = n := by
  simp only [IntKind.wrap, IntKind.bits, IntKind.signed]; simp; omega
@[go_sem] theorem u8w {n : Int} (h : 0 ≤ n ∧ n ≤ 255) : IntKind.u8.wrap n = n := by rw [IntKind.wrap_u8]; omega
@[go_sem] theorem i32w {n : Int} (h : -2147483648 ≤ n ∧ n ≤ 2147483647) : IntKind.i32.wrap n = n := by rw [IntKind.wrap_i32]; omega
@[go_sem] theorem nth_map {α : Type} [Inhabited α] (f : α → V) : ∀ (l : List α) (i : Nat), i < l.length → nth (l.map f) i = f (l.getD i default)
  | [], i, h => by simp at h
  | a :: l, 0, _ => rfl
  | a :: l, i + 1, h => by
    have := nth_map f l i (by simpa using h)
    simpa [nth] using this
attribute [go_sem] List.length_cons List.length_nil decide_true decide_false decide_eq_true_eq cond_true cond_false Bool.and_self Bool.and_true Bool.true_and Bool.and_false Bool.false_and Bool.or_true Bool.true_or Bool.or_false Bool.false_or Bool.not_true Bool.not_false Option.map_some Option.map_none Int.toNat_natCast List.length_map List.replicate_succ List.replicate_zero
/-! ### A function's end -/
section
variable {P : Program}
def finW (n0 : Nat) (rs : List RA) (K : KV) : KQ
  | .norm, e, H => WkP n0 (resK rs [] K) e H
  | .ret, e, H => WkP n0 (resK rs [] K) e H
  | .exit _, _, _ => False
/-- A function's body, walked: that is its call. -/
theorem call_of {f : FuncId} {fn : Func} {ac : AC} {rs : List RA} {args env : List V} {H : List Entry} {K : KV} (hf : P.funcs[f]? = some fn) (hbc : fn.body.bind (comp P) = some ac) (hs : strip ac = ac) (hr : cRes P fn.results.toList = some rs) (hn : (fn.name != "runtime.NumGoroutine") = true)
    (he0 : env = args ++ List.replicate (fn.ntmps - args.length) undefV) (h : Wf H → awp P H.length ac (finW H.length rs K) env H) : BCall P f args H K := by
  obtain ⟨c, hb, hc⟩ := Option.bind_eq_some_iff.1 hbc
  refine ⟨by simp only [hasBody, hf, hn, hb, Option.isSome_some, Bool.and_self], fun C vals hH hC hv => ?_⟩
  have hl := CRep_length hv
  refine calls_of_wp hf hb ?_
  have he : (⟨vals.toArray ++ Array.replicate (fn.ntmps - vals.toArray.size) undef, []⟩ : Act).tmps.toList = vals ++ List.replicate (fn.ntmps - args.length) undef := by
    have : fn.ntmps - vals.toArray.size = fn.ntmps - args.length := by simp; omega
    rw [this]; simp
  have hw := awp_sound ac c (by rw [hs]; exact hc) (finW H.length rs K) C C ⟨vals.toArray ++ Array.replicate (fn.ntmps - vals.toArray.size) undef, []⟩ env (by rw [hH]) (Tr.refl C) hC (by rw [he, he0]; exact CRep_append hv (undefs_rep _)) rfl (by rw [hH]; exact h (hH ▸ wf_of_rep hC))
  refine wp_mono hw ?_
  rintro x a w ⟨C', e, y, rfl, ht, hC', hE, hd, hx, hq⟩
  have fin : WkP H.length (resK rs [] K) e C'.H → a.defers = [] ∧ ∃ v, (results fn a.tmps).run P C'.w = .ok v C'.w ∧ ∃ (C2 : Ctx) (x : V) (u : Value), Ending.returned v = .returned u ∧ C2.w = C'.w ∧ Tr C C2 ∧ HRep C2 ∧ VRep C2.R x u ∧ K x C2.H := by
    rintro ⟨e', H', hwk, hk⟩
    obtain ⟨C1, w', k1, k2, k3, k4⟩ := Wk_sound hwk C C' _ (by rw [hH]) rfl ht hC' hE
    subst k1
    obtain ⟨vs, xs, m1, m4, m5⟩ := resK_sound fn.results.toList rs hr C1 e' a.tmps [] [] k3 k4 CRep_nil hk
    refine ⟨hd, _, ?_, C1, oneV xs, _, rfl, w', k2, k3, oneV_rep (by simpa using m4), m5⟩
    rw [results_eq]
    rw [w'] at m1
    simp only [Sem.run_bind, m1, Result.andThen_ok, Sem.run_pure]
  cases x <;> simp only [exOf, reduceCtorEq, Option.some.injEq] at hx <;> subst hx
  · exact fin hq
  · exact hq.elim
  · exact fin hq
/-- All slots but these are given up. -/
def only : Nat → List Nat → List V → List V
  | _, _, [] => []
  | i, l, x :: e => (if l.contains i then x else .junk) :: only (i + 1) l e
theorem only_le {m : Nat} (l : List Nat) : ∀ (e : List V) (i : Nat), (∀ j, l.contains (i + j) = true → idsLt m (nth e j) = true) → eLe m e (only i l e)
  | [], _, _ => by simp [only, eLe]
  | x :: e, i, h => by
    simp only [only, eLe]
    refine ⟨?_, only_le l e (i + 1) fun j hj => by have := h (j + 1) (by rw [← hj]; congr 1; omega); simpa [nth] using this⟩
    by_cases hi : l.contains i = true
    · rw [if_pos hi]; exact .inr ⟨rfl, by simpa [nth] using h 0 (by simpa using hi)⟩
    · rw [if_neg hi]; exact .inl rfl
theorem nth_only (l : List Nat) : ∀ (e : List V) (i j : Nat), l.contains (i + j) = true → nth (only i l e) j = nth e j
  | [], _, j, _ => by simp [only]
  | x :: e, i, 0, h => by
    rw [Nat.add_zero] at h
    simp only [only, nth, h, if_true]
  | x :: e, i, j + 1, h => by
    simp only [only, nth]
    exact nth_only l e (i + 1) j (by rw [← h]; congr 1; omega)
def rsT : List Nat → List RA
  | [] => []
  | t :: l => .tmp t :: rsT l
def nths (e : List V) : List Nat → List V
  | [] => []
  | t :: l => nth e t :: nths e l
theorem resK_tmps {K : KV} {e : List V} {H : List Entry} : ∀ (ts : List Nat) (acc : List V), resK (rsT ts) acc K e H = K (oneV (acc ++ nths e ts)) H
  | [], acc => by simp [rsT, resK, nths]
  | t :: l, acc => by simp only [rsT, resK, nths]; rw [resK_tmps l]; simp
theorem nths_only {e : List V} {l : List Nat} : ∀ (ts : List Nat), (∀ t ∈ ts, l.contains t = true) → nths (only 0 l e) ts = nths e ts
  | [], _ => rfl
  | t :: ts, h => by
    simp only [nths]
    rw [nth_only l e 0 t (by simpa using h t (by simp)), nths_only ts fun u hu => h u (by simp [hu])]
theorem idsLts_nths {m : Nat} {e : List V} : ∀ {ts : List Nat}, idsLts m (nths e ts) = true → ∀ t ∈ ts, idsLt m (nth e t) = true
  | [], _, t, h => by cases h
  | a :: ts, h, t, ht => by
    simp only [nths, idsLts, Bool.and_eq_true] at h
    rcases List.mem_cons.1 ht with rfl | k
    · exact h.1
    · exact idsLts_nths h.2 t k
/-- What comes back has no number of what is given up: only what was there before is kept. -/
theorem fin_tmp {K : KV} {e : List V} {H t : List Entry} {ts : List Nat} (hw : Wf H) (hi : idsLts H.length (nths e ts) = true) (hk : K (oneV (nths e ts)) H) : WkP H.length (resK (rsT ts) [] K) e (H ++ t) := by
  refine ⟨only 0 ts e, H, .drop (Nat.le_refl _) (only_le ts e 0 fun j hj => ?_) (hLe_drop hw), ?_⟩
  · rw [Nat.zero_add] at hj
    exact idsLts_nths hi j (by simpa using hj)
  · rw [resK_tmps]
    simp only [List.nil_append]
    rw [nths_only ts fun t ht => by simpa using ht]
    exact hk
theorem fin_tmp0 {K : KV} {e : List V} {H : List Entry} {ts : List Nat} (hw : Wf H) (hi : idsLts H.length (nths e ts) = true) (hk : K (oneV (nths e ts)) H) : WkP H.length (resK (rsT ts) [] K) e H := by
  have := fin_tmp (t := []) hw hi hk
  simpa using this
/-- What comes back, frozen. -/
theorem wk_frz {n0 : Nat} {f : K1} {e : List V} {H : List Entry} (i : Nat) (h : WkP n0 f (setAt e i (fz 8 H (nth e i)).1) (fz 8 H (nth e i)).2) : WkP n0 f e H := by
  obtain ⟨e', H', k1, k2⟩ := h
  exact ⟨e', H', .trans (.frz i) k1, k2⟩
theorem wk_adopt {n0 : Nat} {f : K1} {e : List V} {H : List Entry} (i E n : Nat) (hi : nth e i = .nilsl) (h : WkP n0 f (setAt e i (.own H.length 0)) (H ++ [.row E n []])) : WkP n0 f e H := by
  obtain ⟨e', H', k1, k2⟩ := h
  exact ⟨e', H', .trans (.adopt i E n hi) k1, k2⟩
theorem wk_refl {n0 : Nat} {f : K1} {e : List V} {H : List Entry} (h : f e H) : WkP n0 f e H := ⟨e, H, .refl, h⟩
theorem lt_of_nth : ∀ {e : List V} {i : Nat}, nth e i ≠ .junk → i < e.length
  | [], i, h => absurd rfl h
  | _ :: _, 0, _ => by simp
  | _ :: l, i + 1, h => by
    have := lt_of_nth (e := l) (i := i) h
    simpa using this
/-- A row of one's own is read from then on only. -/
theorem wk_own {n0 : Nat} {f : K1} {e : List V} {H H' t : List Entry} (s i : Nat) {len E n : Nat} {xs : List V} (hH : H' = H ++ t) (hv : nth e s = .own (H.length + i) len) (ht : t[i]? = some (.row E n xs)) (hl : xs.length = len)
    (h : WkP n0 f (setAt e s (.sl n xs)) (H ++ t.set i (.irow n xs))) : WkP n0 f e H' := by
  subst hH
  refine wk_frz s ?_
  have h1 : (H ++ t)[H.length + i]? = some (.row E n xs) := by
    rw [List.getElem?_append_right (Nat.le_add_right _ _)]
    simpa using ht
  have h2 : fz 8 (H ++ t) (nth e s) = (.sl n xs, H ++ t.set i (.irow n xs)) := by
    rw [hv]
    simp only [fz, h1, fzRow, hl, if_true]
    rw [List.set_append_right _ _ (Nat.le_add_right _ _)]
    simp
  rw [h2]
  exact h
theorem setAt_twice : ∀ (e : List V) (s : Nat) (v w : V), setAt (setAt e s v) s w = setAt e s w
  | [], _, _, _ => rfl
  | _ :: _, 0, _, _ => rfl
  | a :: l, s + 1, v, w => by simp only [setAt]; rw [setAt_twice l s v w]
theorem wk_nil {n0 : Nat} {f : K1} {e : List V} {H H' t : List Entry} (s n : Nat) (hH : H' = H ++ t) (hv : nth e s = .nilsl)
    (h : WkP n0 f (setAt e s (.sl n [])) (H ++ (t ++ [.irow n []]))) : WkP n0 f e H' := by
  subst hH
  refine wk_adopt s 0 n hv ?_
  have hlt : s < e.length := lt_of_nth (by rw [hv]; simp)
  rw [List.append_assoc]
  refine wk_own s t.length (len := 0) (E := 0) (n := n) (xs := []) rfl ?_ (by simp) rfl ?_
  · rw [nth_setAt_eq hlt, List.length_append]
  · rw [setAt_twice]
    rw [List.set_append_right _ _ (Nat.le_refl _)]
    simpa using h
/-- What comes back as it is, and what is there with it. -/
theorem fin_all {n0 : Nat} {K : KV} {e : List V} {H : List Entry} {ts : List Nat} (hk : K (oneV (nths e ts)) H) : WkP n0 (resK (rsT ts) [] K) e H := by
  refine wk_refl ?_
  rw [resK_tmps]
  exact hk
/-! ### Loops -/
/-- Slots in order; those that are not told are given up. -/
def slots : Nat → Nat → List (Nat × V) → List V
  | _, 0, _ => []
  | i, n + 1, [] => .junk :: slots (i + 1) n []
  | i, n + 1, (j, v) :: l => bif decide (i = j) then v :: slots (i + 1) n l else .junk :: slots (i + 1) n ((j, v) :: l)
theorem loop_in {n0 : Nat} {f : KQ → K1} {Q : KQ} {e : List V} {H : List Entry} (I : Nat → K1) {n : Nat} {e' : List V} {H' : List Entry} (hI : I n e' H') (hn : n0 ≤ H'.length) (he : eLe H'.length e e') (hh : hLe H'.length H H')
    (hr : ∀ J : Nat → K1, (∀ n e H, I n e H → J n e H) → ∀ n e H, I n e H → f (roundK n0 J n Q) e H) : LoopP n0 f Q e H := ⟨I, ⟨n, e', H', .drop hn he hh, hI⟩, hr I fun _ _ _ h => h⟩
theorem loop_adopt {n0 : Nat} {f : KQ → K1} {Q : KQ} {e : List V} {H : List Entry} (i E n : Nat) (hi : nth e i = .nilsl) (h : LoopP n0 f Q (setAt e i (.own H.length 0)) (H ++ [.row E n []])) : LoopP n0 f Q e H := by
  obtain ⟨I, ⟨m, e', H', k1, k2⟩, k3⟩ := h
  exact ⟨I, ⟨m, e', H', .trans (.adopt i E n hi) k1, k2⟩, k3⟩
theorem round_end {n0 : Nat} {Q : KQ} {e : List V} {H : List Entry} {I : Nat → K1} {n m : Nat} {e' : List V} {H' : List Entry} (hI : I m e' H') (hm : m < n) (hn : n0 ≤ H'.length) (he : eLe H'.length e e') (hh : hLe H'.length H H') : roundK n0 I n Q .norm e H :=
  ⟨m, e', H', hm, .drop hn he hh, hI⟩
/-! ### Ways that part -/
theorem br_cd {p : Prop} [Decidable p] {a b : K1} {e : List V} {H : List Entry} (h1 : p → condK (.bool true) a b e H) (h2 : ¬ p → condK (.bool false) a b e H) : condK (.bool (decide p)) a b e H := by
  by_cases h : p
  · simpa only [h, decide_true] using h1 h
  · simpa only [h, decide_false] using h2 h
theorem br_cb {c : Bool} {a b : K1} {e : List V} {H : List Entry} (h1 : c = true → condK (.bool true) a b e H) (h2 : c = false → condK (.bool false) a b e H) : condK (.bool c) a b e H := by
  cases c
  · exact h2 rfl
  · exact h1 rfl
theorem br_gd {p : Prop} [Decidable p] {o : AOp} {t : Bool} {k : KV} {e : List V} {H : List Entry} (h1 : p → gdK P (.bool true) t o k e H) (h2 : ¬ p → gdK P (.bool false) t o k e H) : gdK P (.bool (decide p)) t o k e H := by
  by_cases h : p
  · simpa only [h, decide_true] using h1 h
  · simpa only [h, decide_false] using h2 h
theorem br_gb {c : Bool} {o : AOp} {t : Bool} {k : KV} {e : List V} {H : List Entry} (h1 : c = true → gdK P (.bool true) t o k e H) (h2 : c = false → gdK P (.bool false) t o k e H) : gdK P (.bool c) t o k e H := by
  cases c
  · exact h2 rfl
  · exact h1 rfl
theorem br_pd {p : Prop} [Decidable p] {x y : V} {k : KV} {H : List Entry} (h1 : p → pickK (.bool true) x y H k) (h2 : ¬ p → pickK (.bool false) x y H k) : pickK (.bool (decide p)) x y H k := by
  by_cases h : p
  · simpa only [h, decide_true] using h1 h
  · simpa only [h, decide_false] using h2 h
theorem br_pb {c : Bool} {x y : V} {k : KV} {H : List Entry} (h1 : c = true → pickK (.bool true) x y H k) (h2 : c = false → pickK (.bool false) x y H k) : pickK (.bool c) x y H k := by
  cases c
  · exact h2 rfl
  · exact h1 rfl
theorem fin_eq {K : KV} {a b : V} {H : List Entry} (hK : K a H) (h : b = a) : K b H := by rw [h]; exact hK
/-! ### Calls -/
/-- A call that brings a value, and leaves what there is as it was. -/
def Pure (P : Program) (f : FuncId) (args : List V) (H : List Entry) (r : V) : Prop := ∀ K : KV, K r H → BCall P f args H K
theorem Pure.dcall {f : FuncId} {args : List V} {H : List Entry} {r : V} {K : KV} (h : Pure P f args H r) (hk : K r H) : DCall P f args H K :=
  ⟨r, [], h _ ⟨rfl, by simp⟩, by simpa using hk⟩
end
@[go_sem] theorem x_eLe0 {m : Nat} : eLe m [] [] = True := by simp [eLe]
@[go_sem] theorem x_eLeJ {m : Nat} {a : V} {l l' : List V} : eLe m (a :: l) (.junk :: l') = eLe m l l' := by simp [eLe]
theorem x_eLeS {m : Nat} {a : V} {l l' : List V} (h : idsLt m a = true) : eLe m (a :: l) (a :: l') = eLe m l l' := by simp [eLe, h]
theorem x_hLeS {m : Nat} {a : Entry} {l l' : List Entry} (h : idsLtE m a = true) : hLe m (a :: l) (a :: l') = hLe m l l' := by simp [hLe, h]
@[go_sem] theorem x_hLe0 {m : Nat} {H : List Entry} : hLe m H [] = True := by cases H <;> simp [hLe]
@[go_sem] theorem x_hLeG {m : Nat} {a : Entry} {l l' : List Entry} : hLe m (a :: l) (.gone :: l') = hLe m l l' := by simp [hLe]
@[go_sem] theorem x_sl0 {i : Nat} {l : List (Nat × V)} : slots i 0 l = [] := by cases l <;> rfl
@[go_sem] theorem x_slN {i n : Nat} : slots i (n + 1) [] = .junk :: slots (i + 1) n [] := (rfl)
@[go_sem] theorem x_slS {i n j : Nat} {v : V} {l : List (Nat × V)} : slots i (n + 1) ((j, v) :: l) = bif decide (i = j) then v :: slots (i + 1) n l else .junk :: slots (i + 1) n ((j, v) :: l) := (rfl)
@[go_sem] theorem x_nths0 {e : List V} : nths e [] = [] := (rfl)
@[go_sem] theorem x_nthsS {e : List V} {t : Nat} {l : List Nat} : nths e (t :: l) = nth e t :: nths e l := (rfl)
@[go_sem] theorem x_fwN {n0 : Nat} {rs : List RA} {K : KV} {e : List V} {H : List Entry} : finW n0 rs K .norm e H = WkP n0 (resK rs [] K) e H := (rfl)
@[go_sem] theorem x_fwR {n0 : Nat} {rs : List RA} {K : KV} {e : List V} {H : List Entry} : finW n0 rs K .ret e H = WkP n0 (resK rs [] K) e H := (rfl)
end Go.Av
