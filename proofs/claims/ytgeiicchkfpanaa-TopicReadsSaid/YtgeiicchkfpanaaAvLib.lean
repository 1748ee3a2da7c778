/- A part of a way to reckon what a Go program does without its memory (AvLib). -/
import Derived.Test.YtgeiicchkfpanaaAvRun
import Derived.Sort.OwnSortedInts
import Derived.Lib.Join
import Derived.Lib.Repeat
namespace Go.Av
open Go Go.RowKit Go.Sort
set_option autoImplicit false
set_option linter.all false
/-! ### A row of numbers of one's own, sorted by the library -/
def iV (z : Int) : V := .int .i64 z
@[go_sem] theorem iV_def (z : Int) : iV z = .int .i64 z := (rfl)
def msort (l : List Int) : List Int := l.mergeSort fun x y => decide (x ≤ y)
theorem ERep_ints {R : Rd} : ∀ (zs : List Int) (cells : List Value), ERep R 1 (zs.map iV) cells ↔ cells = zs.map (Value.int .i64)
  | [], cells => by simp [ERep]
  | z :: zs, cells => by
    simp only [List.map_cons, ERep]
    constructor
    · rintro ⟨v, r, rfl, _, _, h, hr⟩
      rw [(ERep_ints zs r).1 hr]
      simp only [iV, VRep] at h
      subst h; rfl
    · rintro rfl
      refine ⟨.int .i64 z, zs.map (Value.int .i64), rfl, rfl, ⟨by simp [iV], fun u hu => ?_⟩, by simp [iV, VRep], (ERep_ints zs _).2 rfl⟩
      simp [Value.cells] at hu
      subst hu; rfl
section
variable {P : Program} {f : FuncId}
def SortSays (P : Program) (f : FuncId) : Prop := ∀ (blk off cap : Nat) (zs : List Int) (w : World), Holds (Value.int .i64) w blk off zs.toArray → blk < w.heap.size → zs.length < 4611686018427387904 →
  Calls P f #[.slice (some ⟨blk, off, none⟩) zs.length cap] w fun e w' => e = .returned (.tuple #[]) ∧ ∃ n os, w' = grow (putRow (Value.int .i64) (Sort.ahead w n) blk off (zs.mergeSort fun x y => decide (x ≤ y)).toArray) os
theorem s_sort (hb : hasBody P f = true) (hS : SortSays P f) {g E : Nat} {zs : List Int} {H : List Entry} {K : KV} (hg : H[g]? = some (.row E 1 (zs.map iV))) (hz : zs ≠ []) (hlen : zs.length < 4611686018427387904)
    (hK : K (.tup []) (H.set g (.row E 1 ((msort zs).map iV)))) : BCall P f [.own g zs.length] H K := by
  refine ⟨hb, ?_⟩
  intro C vals hH hC hv
  subst hH
  simp only [CRep] at hv
  obtain ⟨v, r, rfl, hv, rfl⟩ := hv
  have hml : (msort zs).length = zs.length := List.length_mergeSort zs
  have hs : C.R.sh g = some (.row 1 zs.length) := by simp only [Ctx.R, Ctx.sh, hg, Option.map_some, Entry.shp, List.length_map]
  simp only [VRep, hs] at hv
  have h0 := hC.ent g _ hg
  rcases h0 with ⟨_, h0⟩ | ⟨b, cap, cur, cells, h1, h2, h3, h4, h5, h6, h7⟩
  · simp at h0; exact absurd h0 hz
  rcases hv.2.2 trivial with ⟨hn, _⟩ | ⟨b', c', hb', rfl⟩
  · rw [show C.R.β g = C.β g from rfl, h1] at hn; cases hn
  rw [show C.R.β g = C.β g from rfl, h1] at hb'
  cases hb'
  rw [ERep_ints] at h7
  rw [h7, List.length_map, Nat.mul_one] at h6
  rw [List.length_map] at h4
  have hlt : b < C.w.heap.size := (Array.getElem?_eq_some_iff.1 h2).1
  refine Calls.mono (hS b 0 cap zs C.w (holds_of_blockI h2 h6) hlt hlen) ?_
  rintro e w' ⟨rfl, n, os, rfl⟩
  have hgr := grownBy_sortedI (w := C.w) (g := b) (n := n) (os := os) (msort zs).toArray
  have hheap := heap_sortedI (w := C.w) (n := n) (os := os) (msort zs).toArray h2
  have htake := take_putCellsI cur (msort zs) (by rw [hml]; omega)
  change C.w.grownBy (grow (putRow (Value.int .i64) (Sort.ahead C.w n) b 0 (msort zs).toArray) os) (some b) at hgr
  show ∃ (C' : Ctx) (x : V) (v : Value), Ending.returned (.tuple #[]) = .returned v ∧ C'.w = grow (putRow (Value.int .i64) (Sort.ahead C.w n) b 0 (msort zs).toArray) os ∧ Tr C C' ∧ HRep C' ∧ VRep C'.R x v ∧ K x C'.H
  generalize grow (putRow (Value.int .i64) (Sort.ahead C.w n) b 0 (msort zs).toArray) os = w1 at *
  obtain ⟨g1, g2, g3, g4, g5⟩ := hgr
  have ht : Turns C w1 g (C.β g) (.row E 1 (zs.map iV)) (.row E 1 ((msort zs).map iV)) := by
    refine ⟨hg, g1, g2, g3, g4, fun k hk hne => g5 k hk (fun hh => ?_), ?_, fun _ k c hx => .inl ⟨rfl, c, hx⟩⟩
    · cases hh; exact hne rfl cap h1
    · simp only [Entry.shp, List.length_map, hml]; exact STr.refl _ _
  refine ⟨C.turn w1 g (C.β g) (.row E 1 ((msort zs).map iV)), .tup [], _, rfl, rfl, turn_tr hC ht, turn_rep hC ht ?_, ?_, hK⟩
  · refine .inr ⟨b, cap, _, (msort zs).map (Value.int .i64), by rw [turn_beta_new]; exact h1, hheap, ?_, by rw [List.length_map, hml]; exact h4, h5, ?_, (ERep_ints _ _).2 rfl⟩
    · simp [putCells, h3]
    · rw [List.length_map, Nat.mul_one]; exact htake
  · simp only [VRep]
    exact ⟨[], rfl, by simp [CRep]⟩
/-! The same, reckoned. -/
def ins (x : Int) : List Int → List Int
  | [] => [x]
  | y :: l => if x ≤ y then x :: y :: l else y :: ins x l
def isort : List Int → List Int
  | [] => []
  | x :: l => ins x (isort l)
theorem ins_perm (x : Int) : ∀ l : List Int, (ins x l).Perm (x :: l)
  | [] => .refl _
  | y :: l => by
    simp only [ins]
    split
    · exact .refl _
    · exact ((ins_perm x l).cons y).trans (.swap x y l)
theorem isort_perm : ∀ l : List Int, (isort l).Perm l
  | [] => .refl _
  | x :: l => (ins_perm x (isort l)).trans ((isort_perm l).cons x)
theorem ins_sorted (x : Int) : ∀ l : List Int, l.Pairwise (· ≤ ·) → (ins x l).Pairwise (· ≤ ·)
  | [], _ => by simp [ins]
  | y :: l, h => by
    simp only [ins]
    rw [List.pairwise_cons] at h
    split
    · rename_i hxy
      rw [List.pairwise_cons, List.pairwise_cons]
      refine ⟨fun z hz => ?_, h⟩
      rcases List.mem_cons.1 hz with rfl | hz
      · exact hxy
      · have := h.1 z hz; omega
    · rename_i hxy
      rw [List.pairwise_cons]
      refine ⟨fun z hz => ?_, ins_sorted x l h.2⟩
      have := (ins_perm x l).mem_iff.1 hz
      rcases List.mem_cons.1 this with rfl | hz
      · omega
      · exact h.1 z hz
theorem isort_sorted : ∀ l : List Int, (isort l).Pairwise (· ≤ ·)
  | [] => .nil
  | x :: l => ins_sorted x _ (isort_sorted l)
theorem msort_isort (l : List Int) : msort l = isort l := by
  have hs : (msort l).Pairwise (· ≤ ·) := by
    have := List.pairwise_mergeSort (le := fun x y : Int => decide (x ≤ y)) (by intro a b c h1 h2; simp at *; omega) (by intro a b; simp; omega) l
    exact this.imp (by intro a b h; simpa using h)
  exact List.Perm.eq_of_pairwise (fun a b _ _ h1 h2 => by omega) hs (isort_sorted l) ((List.mergeSort_perm l _).trans (isort_perm l).symm)
def intOf : V → Option Int
  | .int .i64 z => some z
  | _ => none
def intsOf : List V → Option (List Int)
  | [] => some []
  | x :: l => match intOf x, intsOf l with | some z, some r => some (z :: r) | _, _ => none
theorem intsOf_eq : ∀ {l : List V} {zs : List Int}, intsOf l = some zs → l = zs.map iV
  | [], zs, h => by simp only [intsOf, Option.some.injEq] at h; subst h; rfl
  | x :: l, zs, h => by
    simp only [intsOf] at h
    split at h
    · rename_i z r h1 h2
      cases h
      rw [intsOf_eq h2]
      unfold intOf at h1
      split at h1
      · cases h1; rfl
      · cases h1
    · cases h
def primSort (args : List V) (H : List Entry) : R2 :=
  match args with
  | [.own g len] => match H[g]? with
    | some (.row E 1 xs) => match intsOf xs with
      | some (z :: zs) => gu (Nat.beq len (z :: zs).length && decide ((z :: zs).length < 4611686018427387904)) (some (.tup [], H.set g (.row E 1 ((isort (z :: zs)).map iV))))
      | _ => none
    | _ => none
  | _ => none
theorem primSort_ok (hb : hasBody P f = true) (hS : SortSays P f) : PrimOk P f primSort := by
  intro args H v H' h K hK
  unfold primSort at h
  split at h
  · split at h
    · rename_i he
      split at h
      · rename_i z zs hi
        obtain ⟨h1, h2⟩ := gu_some h
        cases h2
        simp only [Bool.and_eq_true, Nat.beq_eq, decide_eq_true_eq] at h1
        rw [intsOf_eq hi] at he
        rw [h1.1]
        refine s_sort hb hS he (by simp) h1.2 ?_
        rw [msort_isort]; exact hK
      · cases h
    · cases h
  · cases h
end
end Go.Av
namespace Go.Av
open Go Go.RowKit
set_option autoImplicit false
set_option linter.all false
attribute [go_sem] List.map_nil
@[go_sem] theorem x_ie_row {m E n : Nat} {xs : List V} : idsLtE m (.row E n xs) = true := (rfl)
@[go_sem] theorem x_ie_irow {m n : Nat} {xs : List V} : idsLtE m (.irow n xs) = true := (rfl)
@[go_sem] theorem x_ie_ibox {m : Nat} {xs : List V} : idsLtE m (.ibox xs) = true := (rfl)
@[go_sem] theorem x_ie_siter {m n : Nat} {s : List UInt8} : idsLtE m (.siter s n) = true := (rfl)
@[go_sem] theorem x_ie_gone {m : Nat} : idsLtE m .gone = true := (rfl)
@[go_sem] theorem x_ie_box {m : Nat} {cs : List V} : idsLtE m (.box cs) = idsLts m cs := (rfl)
@[go_sem] theorem x_ie_map {m : Nat} {kvs : List (V × V)} : idsLtE m (.map kvs) = idsLtM m kvs := (rfl)
@[go_sem] theorem x_im0 {m : Nat} : idsLtM m [] = true := (rfl)
@[go_sem] theorem x_imS {m : Nat} {a b : V} {l : List (V × V)} : idsLtM m ((a, b) :: l) = (idsLt m a && (idsLt m b && idsLtM m l)) := (rfl)
/-! ### Places where less may be known -/
/-- Laid in at a place: 0 into it, or its first, 1 its second. -/
def wkP : List Nat → AC → AC
  | [], c => .wk c
  | 0 :: l, .seq a b => .seq (wkP l a) b
  | 1 :: l, .seq a b => .seq a (wkP l b)
  | 0 :: l, .cond x a b => .cond x (wkP l a) b
  | 1 :: l, .cond x a b => .cond x a (wkP l b)
  | 0 :: l, .block i a => .block i (wkP l a)
  | 0 :: l, .loop a => .loop (wkP l a)
  | 0 :: l, .scope a => .scope (wkP l a)
  | _, c => c
theorem strip_wkP : ∀ (l : List Nat) (c : AC), strip (wkP l c) = strip c
  | [], c => by cases c <;> rfl
  | n :: l, .seq a b => by
    match n with
    | 0 => simp only [wkP, strip, strip_wkP l a]
    | 1 => simp only [wkP, strip, strip_wkP l b]
    | _ + 2 => simp only [wkP]
  | n :: l, .cond x a b => by
    match n with
    | 0 => simp only [wkP, strip, strip_wkP l a]
    | 1 => simp only [wkP, strip, strip_wkP l b]
    | _ + 2 => simp only [wkP]
  | n :: l, .block i a => by
    match n with
    | 0 => simp only [wkP, strip, strip_wkP l a]
    | _ + 1 => simp only [wkP]
  | n :: l, .loop a => by
    match n with
    | 0 => simp only [wkP, strip, strip_wkP l a]
    | _ + 1 => simp only [wkP]
  | n :: l, .scope a => by
    match n with
    | 0 => simp only [wkP, strip, strip_wkP l a]
    | _ + 1 => simp only [wkP]
  | _ :: _, .skip => by simp only [wkP]
  | _ :: _, .ops _ => by simp only [wkP]
  | _ :: _, .draw _ => by simp only [wkP]
  | _ :: _, .drawX .. => by simp only [wkP]
  | _ :: _, .exit _ => by simp only [wkP]
  | _ :: _, .ret => by simp only [wkP]
  | _ :: _, .wk _ => by simp only [wkP]
  | _ :: _, .bad => by simp only [wkP]
section
variable {P : Program}
theorem call_of2 {f : FuncId} {fn : Func} {ac ac' : AC} {rs : List RA} {args env : List V} {H : List Entry} {K : KV} (hf : P.funcs[f]? = some fn) (hbc : fn.body.bind (comp P) = some ac) (hs : strip ac' = ac) (hr : cRes P fn.results.toList = some rs) (hn : (fn.name != "runtime.NumGoroutine") = true)
    (he0 : env = args ++ List.replicate (fn.ntmps - args.length) undefV) (h : Wf H → awp P H.length ac' (finW H.length rs K) env H) : BCall P f args H K := by
  obtain ⟨c, hb, hc⟩ := Option.bind_eq_some_iff.1 hbc
  refine ⟨by simp only [hasBody, hf, hn, hb, Option.isSome_some, Bool.and_self], fun C vals hH hC hv => ?_⟩
  have hl := CRep_length hv
  refine calls_of_wp hf hb ?_
  have he : (⟨vals.toArray ++ Array.replicate (fn.ntmps - vals.toArray.size) undef, []⟩ : Act).tmps.toList = vals ++ List.replicate (fn.ntmps - args.length) undef := by
    have : fn.ntmps - vals.toArray.size = fn.ntmps - args.length := by simp; omega
    rw [this]; simp
  have hw := awp_sound ac' c (by rw [hs]; exact hc) (finW H.length rs K) C C ⟨vals.toArray ++ Array.replicate (fn.ntmps - vals.toArray.size) undef, []⟩ env (by rw [hH]) (Tr.refl C) hC (by rw [he, he0]; exact CRep_append hv (undefs_rep _)) rfl (by rw [hH]; exact h (hH ▸ wf_of_rep hC))
  refine wp_mono hw ?_
  rintro x a w ⟨C', e, y, rfl, ht, hC', hE, hd, hx, hq⟩
  have fin : finP H.length rs (hasCell rs) K e C'.H → a.defers = [] ∧ ∃ v, (results fn a.tmps).run P C'.w = .ok v C'.w ∧ ∃ (C2 : Ctx) (x : V) (u : Value), Ending.returned v = .returned u ∧ C2.w = C'.w ∧ Tr C C2 ∧ HRep C2 ∧ VRep C2.R x u ∧ K x C2.H := fun h => ⟨hd, finP_sound hr (by rw [hH]) ht hC' hE h⟩
  cases x <;> simp only [exOf, reduceCtorEq, Option.some.injEq] at hx <;> subst hx
  · exact fin hq
  · exact hq.elim
  · exact fin hq
theorem FnIs.callw {f : FuncId} {ac : AC} {nt : Nat} {rs : List RA} (hi : FnIs P f ac nt rs) (p : List Nat) {args env : List V} {H : List Entry} {K : KV} (he0 : env = args ++ List.replicate (nt - args.length) undefV) (h : Wf H → awp P H.length (wkP p ac) (finW H.length rs K) env H) : BCall P f args H K := by
  obtain ⟨⟨fn, h1, h2, h3, h4, rfl⟩, h5⟩ := hi
  exact call_of2 h1 h2 (by rw [strip_wkP]; exact h5) h3 h4 he0 h
end
@[go_sem] theorem x_wp0 {c : AC} : wkP [] c = .wk c := (rfl)
@[go_sem] theorem x_wp0s {l : List Nat} {a b : AC} : wkP (0 :: l) (.seq a b) = .seq (wkP l a) b := (rfl)
@[go_sem] theorem x_wp1s {l : List Nat} {a b : AC} : wkP (1 :: l) (.seq a b) = .seq a (wkP l b) := (rfl)
@[go_sem] theorem x_wp0c {l : List Nat} {x : Opd} {a b : AC} : wkP (0 :: l) (.cond x a b) = .cond x (wkP l a) b := (rfl)
@[go_sem] theorem x_wp1c {l : List Nat} {x : Opd} {a b : AC} : wkP (1 :: l) (.cond x a b) = .cond x a (wkP l b) := (rfl)
@[go_sem] theorem x_wp0b {l : List Nat} {i : Nat} {a : AC} : wkP (0 :: l) (.block i a) = .block i (wkP l a) := (rfl)
@[go_sem] theorem x_wp0l {l : List Nat} {a : AC} : wkP (0 :: l) (.loop a) = .loop (wkP l a) := (rfl)
@[go_sem] theorem x_wp0p {l : List Nat} {a : AC} : wkP (0 :: l) (.scope a) = .scope (wkP l a) := (rfl)
@[go_sem] theorem x_kp0 {g : Bool} {ks : List Nat} {k : V} : kpos g ks k [] = some none := (rfl)
@[go_sem] theorem x_kpS {s t : List UInt8} {x : V} {l : List (V × V)} : kpos false [2] (.str s) ((.str t, x) :: l) = bif decide (s = t) then some (some 0) else (kpos false [2] (.str s) l).map (Option.map (· + 1)) := by
  simp only [kpos, valEq, cellsEq, atomEq, Bool.and_true, beqd]
  cases decide (s = t) <;> rfl
@[go_sem] theorem x_kv0 {a b : V} {l : List (V × V)} : kval ((a, b) :: l) 0 = b := (rfl)
@[go_sem] theorem x_kvS {a b : V} {l : List (V × V)} {n : Nat} : kval ((a, b) :: l) (n + 1) = kval l n := (rfl)
@[go_sem] theorem v_takemap {α : Type} {f : α → V} {l : List α} {n : Nat} : (l.map f).take n = (l.take n).map f := List.map_take.symm
@[go_sem] theorem v_dropmap {α : Type} {f : α → V} {l : List α} {n : Nat} : (l.map f).drop n = (l.drop n).map f := List.map_drop.symm
attribute [go_sem] Nat.add_assoc List.take_length Bool.false_eq_true if_true if_false eq_self List.nil_append List.cons_append List.drop_zero List.take_zero
theorem loop_nil {n0 : Nat} {f : KQ → K1} {Q : KQ} {e : List V} {H : List Entry} (i n : Nat) (hi : nth e i = .nilsl) (h : LoopP n0 f Q (setAt e i (.sl n [])) (H ++ [.irow n []])) : LoopP n0 f Q e H := by
  obtain ⟨I, ⟨m, e', H', k1, k2⟩, k3⟩ := h
  have hlt : i < e.length := lt_of_nth (by rw [hi]; simp)
  refine ⟨I, ⟨m, e', H', .trans (.adopt i 0 n hi) (.trans (.frz i) ?_), k2⟩, k3⟩
  have h2 : fz 8 (H ++ [.row 0 n []]) (nth (setAt e i (.own H.length 0)) i) = (.sl n [], H ++ [.irow n []]) := by
    rw [nth_setAt_eq hlt]
    have h1 : (H ++ [Entry.row 0 n []])[H.length]? = some (.row 0 n []) := by simp
    simp only [fz, h1, fzRow, List.length_nil, if_true]
    rw [List.set_append_right _ _ (Nat.le_refl _)]
    simp
  rw [h2, setAt_twice]
  exact k1
@[go_sem] theorem tmod_nn {a b : Int} (h : 0 ≤ a) : a.tmod b = a % b := Int.tmod_eq_emod_of_nonneg h
@[go_sem] theorem tdiv_nn {a b : Int} (h : 0 ≤ a) : a.tdiv b = a / b := Int.tdiv_eq_ediv_of_nonneg h
theorem s_sort' {P : Program} {f : FuncId} (hb : hasBody P f = true) (hS : SortSays P f) {g E len : Nat} {zs : List Int} {H : List Entry} {K : KV} (hg : H[g]? = some (.row E 1 (zs.map iV))) (hl : zs.length = len) (hz : 0 < len) (hlen : len < 4611686018427387904)
    (hK : K (.tup []) (H.set g (.row E 1 ((msort zs).map iV)))) : BCall P f [.own g len] H K := by
  subst hl
  exact s_sort hb hS hg (by rintro rfl; simp at hz) hlen hK
end Go.Av
namespace Go.Av
open Go Go.RowKit
set_option autoImplicit false
set_option linter.all false
/-! ### The library's contracts -/
/-- The same, at a later world that has kept all that there was. -/
def Ctx.at' (C : Ctx) (w : World) : Ctx := { C with w := w }
theorem at_tr {C : Ctx} {w : World} (h : Below C.w.heap.size C.w w) : Tr C (C.at' w) :=
  ⟨h.os, h.tape, h.output, h.size, rfl, fun b hb hn => ⟨h.block b hb, hn⟩, fun _ s hs => ⟨s, hs, STr.refl _ _⟩⟩
theorem at_rep {C : Ctx} {w : World} (hC : HRep C) (h : Below C.w.heap.size C.w w) : HRep (C.at' w) :=
  ⟨fun g e he => (hC.ent g e he).keep (at_tr h) rfl (fun ho b c hb => h.block b (own_lt hC ⟨g, e, c, he, ho, hb⟩)), hC.inj, hC.nF, fun b hb => Nat.lt_of_lt_of_le (hC.ltF b hb) h.size⟩
/-- A call of which the kit says what it returns, and that it keeps all that there was: what it returns has no memory of its own. -/
theorem pure_of {P : Program} {f : FuncId} {args : List V} {H : List Entry} {r : V} (hb : hasBody P f = true)
    (h : ∀ (C : Ctx) (vals : List Value), C.H = H → HRep C → CRep C.R args vals → Calls P f vals.toArray C.w fun e w' => ∃ v, e = .returned v ∧ Below C.w.heap.size C.w w' ∧ ∀ C' : Ctx, C'.w = w' → VRep C'.R r v) : Pure P f args H r := by
  intro K hK
  refine ⟨hb, fun C vals hH hC hv => ?_⟩
  refine Calls.mono (h C vals hH hC hv) ?_
  rintro e w' ⟨v, rfl, hbel, hr⟩
  exact ⟨C.at' w', r, v, rfl, rfl, at_tr hbel, at_rep hC hbel, hr _ rfl, by rw [show (C.at' w').H = H from hH]; exact hK⟩
/-- One text and a number in, a text out (strings.Repeat). -/
theorem str_int {P : Program} {f : FuncId} {s t : List UInt8} {k : IntKind} {z : Int} {H : List Entry} (hb : hasBody P f = true)
    (h : ∀ w : World, Calls P f #[.string ⟨s.toArray⟩, .int k z] w fun e w' => e = .returned (.string ⟨t.toArray⟩) ∧ Below w.heap.size w w') : Pure P f [.str s, .int k z] H (.str t) := by
  refine pure_of hb fun C vals hH hC hv => ?_
  simp only [CRep, VRep] at hv
  obtain ⟨_, _, rfl, rfl, _, _, rfl, rfl, rfl⟩ := hv
  refine Calls.mono (h C.w) ?_
  rintro e w' ⟨rfl, hbel⟩
  exact ⟨_, rfl, hbel, fun C' _ => by simp only [VRep]⟩
end Go.Av
namespace Go.Av
open Go Go.RowKit
set_option autoImplicit false
set_option linter.all false
/-! ### strings.Join -/
def sV (s : List UInt8) : V := .str s
@[go_sem] theorem sV_def (s : List UInt8) : sV s = .str s := (rfl)
theorem ERep_strs {R : Rd} : ∀ (ss : List (List UInt8)) (cells : List Value), ERep R 1 (ss.map sV) cells → cells = ss.map fun s => Value.string ⟨s.toArray⟩
  | [], cells => by simp [ERep]
  | z :: zs, cells => by
    simp only [List.map_cons, ERep]
    rintro ⟨v, r, rfl, _, _, h, hr⟩
    rw [ERep_strs zs r hr]
    simp only [sV, VRep] at h
    subst h; rfl
def JoinSays (P : Program) (f : FuncId) : Prop := ∀ (bk o c : Nat) (xs : List ByteArray) (sep : ByteArray) (w : World), (∀ (j : Nat) x, xs[j]? = some x → w.cell? ⟨bk, o + j, none⟩ = some (.string x)) → bk < w.heap.size → xs.length ≤ 140737488355328 → xs.length ≤ c →
  (Lib.join (xs.map (·.data.toList)) sep.data.toList).length ≤ 140737488355328 →
  Calls P f #[.slice (some ⟨bk, o, none⟩) xs.length c, .string sep] w fun e w' => e = .returned (.string ⟨(Lib.join (xs.map (·.data.toList)) sep.data.toList).toArray⟩) ∧ Below w.heap.size w w'
def JoinNone (P : Program) (f : FuncId) : Prop := ∀ (a : Option Addr) (c : Nat) (sep : ByteArray) (w : World), Calls P f #[.slice a 0 c, .string sep] w fun e w' => e = .returned (.string ⟨#[]⟩) ∧ w' = w
theorem s_join {P : Program} {f : FuncId} {ss : List (List UInt8)} {sep : List UInt8} {H : List Entry} (hb : hasBody P f = true) (h0 : JoinNone P f) (hJ : JoinSays P f) (hn : ss.length ≤ 140737488355328) (hl : (Lib.join ss sep).length ≤ 140737488355328) :
    Pure P f [.sl 1 (ss.map sV), .str sep] H (.str (Lib.join ss sep)) := by
  refine pure_of hb fun C vals hH hC hv => ?_
  simp only [CRep] at hv
  obtain ⟨v, _, rfl, h1, u, _, rfl, h2, rfl⟩ := hv
  rw [VRep_str] at h2; subst h2
  simp only [VRep, List.map_eq_nil_iff, List.length_map] at h1
  rcases h1 with ⟨rfl, a, cap, rfl⟩ | ⟨b, o, cap, cells, rfl, hcap, hav, hlt, hat, hE⟩
  · refine Calls.mono (h0 a cap ⟨sep.toArray⟩ C.w) ?_
    rintro e w' ⟨rfl, rfl⟩
    exact ⟨_, rfl, Below.refl _ _, fun C' _ => by rw [VRep_str, Lib.join_nil]⟩
  · have hc := ERep_strs ss cells hE
    have hm : (ss.map fun s => (⟨s.toArray⟩ : ByteArray)).map (·.data.toList) = ss := by
      rw [List.map_map]
      exact List.map_id ss
    have := hJ b o cap (ss.map fun s => (⟨s.toArray⟩ : ByteArray)) ⟨sep.toArray⟩ C.w (fun j x hx => ?_) hlt (by simpa using hn) (by simpa using hcap) (by rw [hm]; exact hl)
    · rw [hm, List.length_map] at this
      refine Calls.mono this ?_
      rintro e w' ⟨rfl, hbel⟩
      exact ⟨_, rfl, hbel, fun C' _ => by rw [VRep_str]⟩
    · refine hat j _ ?_
      rw [hc]
      rw [List.getElem?_map] at hx ⊢
      cases hs : ss[j]? with
      | none => rw [hs] at hx; cases hx
      | some s => rw [hs] at hx; cases hx; rfl
/-- A list of texts, if it is one. -/
def txtL : List V → Option (List (List UInt8))
  | [] => some []
  | .str s :: l => (txtL l).map (s :: ·)
  | _ => none
theorem txtL_ok : ∀ {xs : List V} {ss : List (List UInt8)}, txtL xs = some ss → xs = ss.map sV
  | [], ss, h => by cases h; rfl
  | x :: xs, ss, h => by
    unfold txtL at h
    split at h
    · rename_i e; cases e
    · rename_i s l e
      cases e
      obtain ⟨r, hr, rfl⟩ := Option.map_eq_some_iff.1 h
      rw [txtL_ok hr]; rfl
    · cases h
def primJoin (args : List V) (H : List Entry) : R2 :=
  match args with
  | [.sl m xs, .str sep] => match txtL xs with
    | some ss => gu (Nat.beq m 1 && (decide (ss.length ≤ 140737488355328) && decide ((Lib.join ss sep).length ≤ 140737488355328))) (some (.str (Lib.join ss sep), H))
    | none => none
  | _ => none
theorem primJoin_ok {P : Program} {f : FuncId} (hb : hasBody P f = true) (h0 : JoinNone P f) (hJ : JoinSays P f) : PrimOk P f primJoin := by
  intro args H v H' h K hK
  unfold primJoin at h
  split at h
  · split at h
    · rename_i m xs sep ss hss
      obtain ⟨h1, h2⟩ := gu_some h
      cases h2
      simp only [Bool.and_eq_true, Nat.beq_eq, decide_eq_true_eq] at h1
      obtain ⟨rfl, h3, h4⟩ := h1
      rw [txtL_ok hss]
      exact s_join hb h0 hJ h3 h4 K hK
    · cases h
  · cases h
/-! ### strings.Repeat -/
def RepeatSays (P : Program) (f : FuncId) : Prop := ∀ (s : ByteArray) (c : Nat) (w : World), c ≤ 9223372036854775807 → s.size * c ≤ 140737488355328 →
  Calls P f #[.string s, .int .i64 c] w fun e w' => e = .returned (.string ⟨(Lib.repeatL s.data.toList c).toArray⟩) ∧ Below w.heap.size w w'
theorem s_repeat {P : Program} {f : FuncId} {s : List UInt8} {z : Int} {H : List Entry} (hb : hasBody P f = true) (hR : RepeatSays P f) (h0 : 0 ≤ z) (h1 : z ≤ 9223372036854775807) (h2 : s.length * z.toNat ≤ 140737488355328) :
    Pure P f [.str s, .int .i64 z] H (.str (Lib.repeatL s z.toNat)) :=
  str_int hb fun w => by
    have := hR ⟨s.toArray⟩ z.toNat w (by omega) (by simpa [ByteArray.size] using h2)
    rw [Int.toNat_of_nonneg h0] at this
    exact this
def primRepeat (args : List V) (H : List Entry) : R2 :=
  match args with
  | [.str s, .int .i64 z] => gu (decide (0 ≤ z) && (decide (z ≤ 9223372036854775807) && decide (s.length * z.toNat ≤ 140737488355328))) (some (.str (Lib.repeatL s z.toNat), H))
  | _ => none
theorem primRepeat_ok {P : Program} {f : FuncId} (hb : hasBody P f = true) (hR : RepeatSays P f) : PrimOk P f primRepeat := by
  intro args H v H' h K hK
  unfold primRepeat at h
  split at h
  · obtain ⟨h1, h2⟩ := gu_some h
    cases h2
    simp only [Bool.and_eq_true, decide_eq_true_eq] at h1
    exact s_repeat hb hR h1.1 h1.2.1 h1.2.2 K hK
  · cases h
end Go.Av
