/- A part of a way to reckon what a Go program does without its memory (AvMore). -/
import Derived.Test.YtllojkdacinhfaaAvSort
import Derived.Test.YtllojkdacinhfaaAvOpen
namespace Go.Av
open Go Go.RowKit
set_option autoImplicit false
set_option linter.all false
attribute [go_sem] List.map_nil
@[go_sem] theorem x_ie_row {m E n : Nat} {xs : List V} : idsLtE m (.row E n xs) = true := (rfl)
@[go_sem] theorem x_ie_irow {m n : Nat} {xs : List V} : idsLtE m (.irow n xs) = true := (rfl)
@[go_sem] theorem x_ie_ibox {m : Nat} {xs : List V} : idsLtE m (.ibox xs) = true := (rfl)
@[go_sem] theorem x_ie_siter {m n : Nat} {s : List UInt8} : idsLtE m (.siter s n) = true := (rfl)
@[go_sem] theorem x_ie_gone {m : Nat} : idsLtE m .gone = true := (rfl)
@[go_sem] theorem x_ie_box {m : Nat} {cs : List V} : idsLtE m (.box cs) = idsLts m cs := (rfl)
@[go_sem] theorem x_ie_map {m : Nat} {kvs : List (V × V)} : idsLtE m (.map kvs) = idsLtM m kvs := (rfl)
@[go_sem] theorem x_im0 {m : Nat} : idsLtM m [] = true := (rfl)
@[go_sem] theorem x_imS {m : Nat} {a b : V} {l : List (V × V)} : idsLtM m ((a, b) :: l) = (idsLt m a && (idsLt m b && idsLtM m l)) := (rfl)
/-! ### Places where less may be known -/
/-- Laid in at a place: 0 into it, or its first, 1 its second. -/
def wkP : List Nat → AC → AC
  | [], c => .wk c
  | 0 :: l, .seq a b => .seq (wkP l a) b
  | 1 :: l, .seq a b => .seq a (wkP l b)
  | 0 :: l, .cond x a b => .cond x (wkP l a) b
  | 1 :: l, .cond x a b => .cond x a (wkP l b)
  | 0 :: l, .block i a => .block i (wkP l a)
  | 0 :: l, .loop a => .loop (wkP l a)
  | 0 :: l, .scope a => .scope (wkP l a)
  | _, c => c
theorem strip_wkP : ∀ (l : List Nat) (c : AC), strip (wkP l c) = strip c
  | [], c => by cases c <;> rfl
  | n :: l, .seq a b => by
    match n with
    | 0 => simp only [wkP, strip, strip_wkP l a]
    | 1 => simp only [wkP, strip, strip_wkP l b]
    | _ + 2 => simp only [wkP]
  | n :: l, .cond x a b => by
    match n with
    | 0 => simp only [wkP, strip, strip_wkP l a]
    | 1 => simp only [wkP, strip, strip_wkP l b]
    | _ + 2 => simp only [wkP]
  | n :: l, .block i a => by
    match n with
    | 0 => simp only [wkP, strip, strip_wkP l a]
    | _ + 1 => simp only [wkP]
  | n :: l, .loop a => by
    match n with
    | 0 => simp only [wkP, strip, strip_wkP l a]
    | _ + 1 => simp only [wkP]
  | n :: l, .scope a => by
    match n with
    | 0 => simp only [wkP, strip, strip_wkP l a]
    | _ + 1 => simp only [wkP]
  | _ :: _, .skip => by simp only [wkP]
  | _ :: _, .ops _ => by simp only [wkP]
  | _ :: _, .draw _ => by simp only [wkP]
  | _ :: _, .exit _ => by simp only [wkP]
  | _ :: _, .ret => by simp only [wkP]
  | _ :: _, .wk _ => by simp only [wkP]
  | _ :: _, .bad => by simp only [wkP]
section
variable {P : Program}
theorem call_of2 {f : FuncId} {fn : Func} {ac ac' : AC} {rs : List RA} {args env : List V} {H : List Entry} {K : KV} (hf : P.funcs[f]? = some fn) (hbc : fn.body.bind (comp P) = some ac) (hs : strip ac' = ac) (hr : cRes P fn.results.toList = some rs) (hn : (fn.name != "runtime.NumGoroutine") = true)
    (he0 : env = args ++ List.replicate (fn.ntmps - args.length) undefV) (h : Wf H → awp P H.length ac' (finW H.length rs K) env H) : BCall P f args H K := by
  obtain ⟨c, hb, hc⟩ := Option.bind_eq_some_iff.1 hbc
  refine ⟨by simp only [hasBody, hf, hn, hb, Option.isSome_some, Bool.and_self], fun C vals hH hC hv => ?_⟩
  have hl := CRep_length hv
  refine calls_of_wp hf hb ?_
  have he : (⟨vals.toArray ++ Array.replicate (fn.ntmps - vals.toArray.size) undef, []⟩ : Act).tmps.toList = vals ++ List.replicate (fn.ntmps - args.length) undef := by
    have : fn.ntmps - vals.toArray.size = fn.ntmps - args.length := by simp; omega
    rw [this]; simp
  have hw := awp_sound ac' c (by rw [hs]; exact hc) (finW H.length rs K) C C ⟨vals.toArray ++ Array.replicate (fn.ntmps - vals.toArray.size) undef, []⟩ env (by rw [hH]) (Tr.refl C) hC (by rw [he, he0]; exact CRep_append hv (undefs_rep _)) rfl (by rw [hH]; exact h (hH ▸ wf_of_rep hC))
  refine wp_mono hw ?_
  rintro x a w ⟨C', e, y, rfl, ht, hC', hE, hd, hx, hq⟩
  have fin : WkP H.length (resK rs [] K) e C'.H → a.defers = [] ∧ ∃ v, (results fn a.tmps).run P C'.w = .ok v C'.w ∧ ∃ (C2 : Ctx) (x : V) (u : Value), Ending.returned v = .returned u ∧ C2.w = C'.w ∧ Tr C C2 ∧ HRep C2 ∧ VRep C2.R x u ∧ K x C2.H := by
    rintro ⟨e', H', hwk, hk⟩
    obtain ⟨C1, w', k1, k2, k3, k4⟩ := Wk_sound hwk C C' _ (by rw [hH]) rfl ht hC' hE
    subst k1
    obtain ⟨vs, xs, m1, m4, m5⟩ := resK_sound fn.results.toList rs hr C1 e' a.tmps [] [] k3 k4 CRep_nil hk
    refine ⟨hd, _, ?_, C1, oneV xs, _, rfl, w', k2, k3, oneV_rep (by simpa using m4), m5⟩
    rw [results_eq]
    rw [w'] at m1
    simp only [Sem.run_bind, m1, Result.andThen_ok, Sem.run_pure]
  cases x <;> simp only [exOf, reduceCtorEq, Option.some.injEq] at hx <;> subst hx
  · exact fin hq
  · exact hq.elim
  · exact fin hq
theorem FnIs.callw {f : FuncId} {ac : AC} {nt : Nat} {rs : List RA} (hi : FnIs P f ac nt rs) (p : List Nat) {args env : List V} {H : List Entry} {K : KV} (he0 : env = args ++ List.replicate (nt - args.length) undefV) (h : Wf H → awp P H.length (wkP p ac) (finW H.length rs K) env H) : BCall P f args H K := by
  obtain ⟨⟨fn, h1, h2, h3, h4, rfl⟩, h5⟩ := hi
  exact call_of2 h1 h2 (by rw [strip_wkP]; exact h5) h3 h4 he0 h
end
@[go_sem] theorem x_wp0 {c : AC} : wkP [] c = .wk c := (rfl)
@[go_sem] theorem x_wp0s {l : List Nat} {a b : AC} : wkP (0 :: l) (.seq a b) = .seq (wkP l a) b := (rfl)
@[go_sem] theorem x_wp1s {l : List Nat} {a b : AC} : wkP (1 :: l) (.seq a b) = .seq a (wkP l b) := (rfl)
@[go_sem] theorem x_wp0c {l : List Nat} {x : Opd} {a b : AC} : wkP (0 :: l) (.cond x a b) = .cond x (wkP l a) b := (rfl)
@[go_sem] theorem x_wp1c {l : List Nat} {x : Opd} {a b : AC} : wkP (1 :: l) (.cond x a b) = .cond x a (wkP l b) := (rfl)
@[go_sem] theorem x_wp0b {l : List Nat} {i : Nat} {a : AC} : wkP (0 :: l) (.block i a) = .block i (wkP l a) := (rfl)
@[go_sem] theorem x_wp0l {l : List Nat} {a : AC} : wkP (0 :: l) (.loop a) = .loop (wkP l a) := (rfl)
@[go_sem] theorem x_wp0p {l : List Nat} {a : AC} : wkP (0 :: l) (.scope a) = .scope (wkP l a) := (rfl)
@[go_sem] theorem x_kp0 {g : Bool} {ks : List Nat} {k : V} : kpos g ks k [] = some none := (rfl)
@[go_sem] theorem x_kpS {s t : List UInt8} {x : V} {l : List (V × V)} : kpos false [2] (.str s) ((.str t, x) :: l) = bif decide (s = t) then some (some 0) else (kpos false [2] (.str s) l).map (Option.map (· + 1)) := by
  simp only [kpos, valEq, cellsEq, atomEq, Bool.and_true, beqd]
  cases decide (s = t) <;> rfl
@[go_sem] theorem x_kv0 {a b : V} {l : List (V × V)} : kval ((a, b) :: l) 0 = b := (rfl)
@[go_sem] theorem x_kvS {a b : V} {l : List (V × V)} {n : Nat} : kval ((a, b) :: l) (n + 1) = kval l n := (rfl)
@[go_sem] theorem v_takemap {α : Type} {f : α → V} {l : List α} {n : Nat} : (l.map f).take n = (l.take n).map f := List.map_take.symm
@[go_sem] theorem v_dropmap {α : Type} {f : α → V} {l : List α} {n : Nat} : (l.map f).drop n = (l.drop n).map f := List.map_drop.symm
attribute [go_sem] Nat.add_assoc List.take_length Bool.false_eq_true if_true if_false eq_self List.nil_append List.cons_append List.drop_zero List.take_zero
theorem loop_nil {n0 : Nat} {f : KQ → K1} {Q : KQ} {e : List V} {H : List Entry} (i n : Nat) (hi : nth e i = .nilsl) (h : LoopP n0 f Q (setAt e i (.sl n [])) (H ++ [.irow n []])) : LoopP n0 f Q e H := by
  obtain ⟨I, ⟨m, e', H', k1, k2⟩, k3⟩ := h
  have hlt : i < e.length := lt_of_nth (by rw [hi]; simp)
  refine ⟨I, ⟨m, e', H', .trans (.adopt i 0 n hi) (.trans (.frz i) ?_), k2⟩, k3⟩
  have h2 : fz 8 (H ++ [.row 0 n []]) (nth (setAt e i (.own H.length 0)) i) = (.sl n [], H ++ [.irow n []]) := by
    rw [nth_setAt_eq hlt]
    have h1 : (H ++ [Entry.row 0 n []])[H.length]? = some (.row 0 n []) := by simp
    simp only [fz, h1, fzRow, List.length_nil, if_true]
    rw [List.set_append_right _ _ (Nat.le_refl _)]
    simp
  rw [h2, setAt_twice]
  exact k1
@[go_sem] theorem tmod_nn {a b : Int} (h : 0 ≤ a) : a.tmod b = a % b := Int.tmod_eq_emod_of_nonneg h
@[go_sem] theorem tdiv_nn {a b : Int} (h : 0 ≤ a) : a.tdiv b = a / b := Int.tdiv_eq_ediv_of_nonneg h
theorem s_sort' {P : Program} {f : FuncId} (hb : hasBody P f = true) (hS : SortSays P f) {g E len : Nat} {zs : List Int} {H : List Entry} {K : KV} (hg : H[g]? = some (.row E 1 (zs.map iV))) (hl : zs.length = len) (hz : 0 < len) (hlen : len < 4611686018427387904)
    (hK : K (.tup []) (H.set g (.row E 1 ((msort zs).map iV)))) : BCall P f [.own g len] H K := by
  subst hl
  exact s_sort hb hS hg (by rintro rfl; simp at hz) hlen hK
end Go.Av
