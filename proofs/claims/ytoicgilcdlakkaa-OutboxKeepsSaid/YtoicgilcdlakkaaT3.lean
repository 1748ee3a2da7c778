/- A part of a way to reckon what a Go program does without its memory (T3). -/
import Derived.Test.YtoicgilcdlakkaaT2
import Derived.Test.YtoicgilcdlakkaaO6
import Derived.Test.YtoicgilcdlakkaaP2
namespace Go.Av
open Go
set_option autoImplicit false
set_option linter.all false
/-! ### Timers in order -/
def lexT (x y : Tm) : Prop := x.1 < y.1 ∨ (x.1 = y.1 ∧ x.2 < y.2)
noncomputable instance instLex (x y : Tm) : Decidable (lexT x y) := Classical.propDecidable _
theorem tOrd_lt {x y : Tm} : tOrd x y < 0 ↔ lexT x y := by
  unfold tOrd orZ cmpZ lexT
  repeat' split
  all_goals omega
theorem tOrd_gt {x y : Tm} : 0 < tOrd x y ↔ lexT y x := by
  unfold tOrd orZ cmpZ lexT
  repeat' split
  all_goals omega
abbrev AscT (X : List Tm) : Prop := X.Pairwise lexT
theorem lexT_trans {x y z : Tm} (h : lexT x y) (k : lexT y z) : lexT x z := by
  unfold lexT at *
  omega
theorem risT_asc {X : List Tm} : RisT tOrd X ↔ AscT X := by
  unfold AscT
  rw [List.pairwise_iff_getElem]
  have g : ∀ (i : Nat) (h : i < X.length), X.getD i default = X[i] := fun i h => by simp [h]
  constructor
  · intro hr i j hi hj hij
    induction j with
    | zero => omega
    | succ j ih =>
      have h1 := hr j hj
      rw [g j (by omega), g (j + 1) hj] at h1
      have h2 := tOrd_lt.1 h1
      by_cases h : i = j
      · subst h; exact h2
      · exact lexT_trans (ih (by omega) (by omega)) h2
  · intro h i hi
    rw [g i (by omega), g (i + 1) hi]
    exact tOrd_lt.2 (h i (i + 1) (by omega) hi (by omega))
theorem insT_cons {x t : Tm} {X : List Tm} : insT (x :: X) t = if lexT t x then t :: x :: X else x :: insT X t := by
  have hd : (aftT t x = true) ↔ lexT t x := by
    unfold aftT
    rw [decide_eq_true_eq]
    exact tOrd_gt
  unfold insT plc idx
  rw [List.findIdx?_cons]
  by_cases h : lexT t x
  · simp [hd.2 h, h]
  · have hf : aftT t x = false := by
      rw [← Bool.not_eq_true]
      exact fun k => h (hd.1 k)
    have hb := idx_bounds (aftT t) X
    unfold idx at hb
    cases hq : X.findIdx? (aftT t) with
    | none => simp [hf, h, hq]
    | some q =>
      have e : ((q : Int) + 1).toNat = q + 1 := by omega
      have p1 : (0 : Int) ≤ (q : Int) + 1 := by omega
      simp [hf, h, hq, p1, e]
theorem insT_mem {t y : Tm} : ∀ {X : List Tm}, y ∈ insT X t ↔ y ∈ X ∨ y = t
  | [] => by simp [insT]
  | x :: X => by
    rw [insT_cons]
    split
    · simp only [List.mem_cons]
      constructor
      · rintro (h | h | h)
        · exact .inr h
        · exact .inl (.inl h)
        · exact .inl (.inr h)
      · rintro ((h | h) | h)
        · exact .inr (.inl h)
        · exact .inr (.inr h)
        · exact .inl h
    · simp only [List.mem_cons, insT_mem (X := X), or_assoc]
theorem insT_len {t : Tm} (X : List Tm) : (insT X t).length = X.length + 1 := by
  have := plc_le (aftT t) X
  simp [insT]
  omega
theorem insT_asc {t : Tm} : ∀ {X : List Tm}, AscT X → (∀ x ∈ X, x.2 ≠ t.2) → AscT (insT X t)
  | [], _, _ => by simp [insT, AscT]
  | x :: X, ha, hn => by
    obtain ⟨h1, h2⟩ := List.pairwise_cons.1 ha
    rw [insT_cons]
    split
    · rename_i h
      have h : lexT t x := by simpa using h
      refine List.pairwise_cons.2 ⟨fun y hy => ?_, ha⟩
      rcases List.mem_cons.1 hy with rfl | hy
      · exact h
      · exact lexT_trans h (h1 y hy)
    · rename_i h
      have h : ¬ lexT t x := by simpa using h
      refine List.pairwise_cons.2 ⟨fun y hy => ?_, insT_asc h2 fun z hz => hn z (by simp [hz])⟩
      rcases insT_mem.1 hy with hy | rfl
      · exact h1 y hy
      · have := hn x (by simp)
        unfold lexT at h ⊢
        omega
theorem insT_nd {t : Tm} : ∀ {X : List Tm}, (X.map (·.2)).Nodup → (∀ x ∈ X, x.2 ≠ t.2) → ((insT X t).map (·.2)).Nodup
  | [], _, _ => by simp [insT]
  | x :: X, hd, hn => by
    rw [List.map_cons, List.nodup_cons] at hd
    rw [insT_cons]
    split
    · rw [List.map_cons, List.nodup_cons, List.map_cons, List.nodup_cons]
      refine ⟨?_, hd⟩
      intro hm
      rw [← List.map_cons (f := fun z : Tm => z.2)] at hm
      obtain ⟨z, hz, hz2⟩ := List.mem_map.1 hm
      exact hn z hz hz2
    · rw [List.map_cons, List.nodup_cons]
      refine ⟨?_, insT_nd hd.2 fun z hz => hn z (by simp [hz])⟩
      intro hm
      obtain ⟨z, hz, hz2⟩ := List.mem_map.1 hm
      rcases insT_mem.1 hz with hz | rfl
      · exact hd.1 (List.mem_map.2 ⟨z, hz, hz2⟩)
      · exact hn x (by simp) hz2.symm
theorem insT_ok {t : Tm} {X : List Tm} (h : TOk X) (hn : ∀ x ∈ X, x.2 ≠ t.2) (hl : X.length < 120) (ht : timeB t.1 = true) : TOk (insT X t) := by
  refine ⟨by rw [insT_len]; omega, risT_asc.2 (insT_asc (risT_asc.1 h.ris) hn), insT_nd h.nd hn, fun y hy => ?_⟩
  rcases insT_mem.1 hy with hy | rfl
  · exact h.tm y hy
  · exact ht
/-- The first of those that are due least. -/
def bestO : List Ot → Option Ot
  | [] => none
  | x :: X => match bestO X with | none => some x | some y => if y.2.2.2.2 < x.2.2.2.2 then some y else some x
def FM (X : List Ot) (p : Nat) : Prop := p < X.length ∧ ∀ j < X.length, (X.getD p default).2.2.2.2 ≤ (X.getD j default).2.2.2.2 ∧ (j < p → (X.getD p default).2.2.2.2 < (X.getD j default).2.2.2.2)
theorem bestO_mem : ∀ {X : List Ot} {y : Ot}, bestO X = some y → y ∈ X
  | [], y, h => by simp [bestO] at h
  | x :: X, y, h => by
    unfold bestO at h
    cases hb : bestO X with
    | none =>
      rw [hb] at h
      simp at h
      simp [h]
    | some z =>
      rw [hb] at h
      simp only at h
      split at h
      · cases h
        exact List.mem_cons_of_mem _ (bestO_mem hb)
      · cases h
        simp
theorem bestO_none : ∀ {X : List Ot}, bestO X = none → X = []
  | [], _ => rfl
  | x :: X, h => by
    unfold bestO at h
    cases hb : bestO X with
    | none => rw [hb] at h; cases h
    | some z =>
      rw [hb] at h
      simp only at h
      split at h <;> cases h
theorem bestO_is : ∀ {X : List Ot} {p : Nat}, FM X p → bestO X = some (X.getD p default)
  | [], p, h => by simp [FM] at h
  | x :: X, 0, h => by
    obtain ⟨_, h⟩ := h
    unfold bestO
    cases hb : bestO X with
    | none => rfl
    | some z =>
      obtain ⟨j, hj, rfl⟩ := List.mem_iff_getElem.1 (bestO_mem hb)
      have := (h (j + 1) (by simpa using hj)).1
      simp [hj] at this
      simp only
      rw [if_neg (by omega)]
      rfl
  | x :: X, p + 1, h => by
    obtain ⟨h1, h⟩ := h
    have hx : FM X p := ⟨by simpa using h1, fun j hj => by
      have := h (j + 1) (by simpa using hj)
      simpa using this⟩
    have ih := bestO_is hx
    have h0 := (h 0 (by simp)).2 (by omega)
    have e1 : (x :: X).getD (p + 1) default = X.getD p default := by simp
    have e2 : (x :: X).getD 0 default = x := by simp
    rw [e1, e2] at h0
    unfold bestO
    rw [ih, e1]
    simp only
    rw [if_pos h0]
end Go.Av
namespace Go.Av
open Go
set_option autoImplicit false
set_option linter.all false
def z0 : Ot := (0, [], [], 0, 0)
def dueV (x : Ot) : V := .agg [.int .i64 x.2.2.2.2, .int .u64 x.1, .int .u64 x.1, .str x.2.1, .sl 1 (x.2.2.1.map u64V), .int .i64 x.2.2.2.1, .int .i64 x.2.2.2.2]
def firstV (X : List Ot) : V := match bestO X with | none => .tup [dueV z0, .bool false] | some x => .tup [dueV x, .bool true]
def tmOf (x : Ot) : Tm := (x.2.2.2.2, x.1)
def tmsOf : List Ot → List Tm
  | [] => []
  | x :: X => tmsOf X ++ [tmOf x]
/-- The timers of the first ones. -/
def timersTo (X : List Ot) : Nat → List Tm
  | 0 => []
  | i + 1 => insT (timersTo X i) (tmOf (X.getD i default))
theorem timers_mem {X : List Ot} {t : Tm} : ∀ i, t ∈ timersTo X i ↔ ∃ j < i, t = tmOf (X.getD j default)
  | 0 => by simp [timersTo]
  | i + 1 => by
    rw [timersTo, insT_mem, timers_mem i]
    constructor
    · rintro (⟨j, hj, h⟩ | h)
      · exact ⟨j, by omega, h⟩
      · exact ⟨i, by omega, h⟩
    · rintro ⟨j, hj, h⟩
      rcases Nat.lt_succ_iff_lt_or_eq.1 hj with k | rfl
      · exact .inl ⟨j, k, h⟩
      · exact .inr h
theorem timers_len {X : List Ot} : ∀ i, (timersTo X i).length = i
  | 0 => rfl
  | i + 1 => by rw [timersTo, insT_len, timers_len i]
theorem own_time {x : Ot} (h : ownB x = true) : timeB x.2.2.2.2 = true := by
  unfold ownB at h
  simp only [Bool.and_eq_true] at h
  exact h.2.2.2.2.2.2
theorem timers_new {X : List Ot} (hc : chkO X = true) {i : Nat} (hi : i < X.length) : ∀ t ∈ timersTo X i, t.2 ≠ (tmOf (X.getD i default)).2 := fun t ht => by
  obtain ⟨j, hj, rfl⟩ := (timers_mem i).1 ht
  have := asc_lt (chk_iff.1 hc).2.2 hj hi
  simp only [tmOf]
  omega
theorem timers_ok {X : List Ot} (hc : chkO X = true) : ∀ i, i ≤ X.length → TOk (timersTo X i)
  | 0, _ => ⟨by simp [timersTo], risT_asc.2 List.Pairwise.nil, List.Pairwise.nil, fun t ht => by simp [timersTo] at ht⟩
  | i + 1, h => by
    have ih := timers_ok hc i (by omega)
    have h1 := (chk_iff.1 hc)
    refine insT_ok ih (timers_new hc (by omega)) (by rw [timers_len]; omega) ?_
    exact own_time (h1.2.1 _ (getD_mem (X := X) (i := i) (by omega)))
/-- The first timer's is the first one that is due least. -/
theorem timers_head {X : List Ot} (hc : chkO X = true) (h0 : 0 < X.length) : ∃ p : Nat, FM X p ∧ (timersTo X X.length).getD 0 default = tmOf (X.getD p default) ∧ idx (isI (X.getD p default).1) X = (p : Int) := by
  have hl := timers_len (X := X) X.length
  have hm : (timersTo X X.length).getD 0 default ∈ timersTo X X.length := getD_mem (by omega)
  obtain ⟨p, hp, he⟩ := (timers_mem _).1 hm
  have ha := (chk_iff.1 hc).2.2
  have hr := risT_asc.1 (timers_ok hc X.length (Nat.le_refl _)).ris
  have hle : ∀ j < X.length, tmOf (X.getD p default) = tmOf (X.getD j default) ∨ lexT (tmOf (X.getD p default)) (tmOf (X.getD j default)) := fun j hj => by
    have hmj : tmOf (X.getD j default) ∈ timersTo X X.length := (timers_mem _).2 ⟨j, hj, rfl⟩
    obtain ⟨q, hq, hq2⟩ := List.mem_iff_getElem.1 hmj
    have e0 : (timersTo X X.length)[0]'(by omega) = tmOf (X.getD p default) := by
      rw [← he]; simp [show 0 < (timersTo X X.length).length by omega]
    by_cases h : q = 0
    · subst h
      left
      rw [← hq2, e0]
    · right
      have := (List.pairwise_iff_getElem.1 hr) 0 q (by omega) hq (by omega)
      rw [e0, hq2] at this
      exact this
  refine ⟨p, ⟨hp, fun j hj => ?_⟩, he, ?_⟩
  · have := hle j hj
    constructor
    · rcases this with h | h
      · simp only [tmOf, Prod.mk.injEq] at h; omega
      · simp only [lexT, tmOf] at h; omega
    · intro hjp
      have h2 := asc_lt ha hjp hp
      rcases this with h | h
      · simp only [tmOf, Prod.mk.injEq] at h; omega
      · simp only [lexT, tmOf] at h; omega
  · refine idx_some hp (by simp [isI]) fun j hj => ?_
    have := asc_lt ha hj hp
    simp only [isI, decide_eq_false_iff_not]
    omega
theorem s_first {X : List Ot} {H : List Entry} (hX : osB X) (hc : chkO X = true) : Pure AP n_outbox_first [.sl 5 (X.map otV)] H (firstV X) := by
  intro K hK
  refine a_outbox_first fun hw => ?_
  have hl := (chk_iff.1 hc).1
  simp (disch := first | omega | (simp only [go_sem, push_cast, and_true] <;> omega) | fail) only [go_sem, c_outbox_first]
  refine loop_nil 4 2 rfl ?_
  simp (disch := first | omega | (simp only [go_sem, push_cast, and_true] <;> omega) | fail) only [go_sem, setAt]
  refine loop_in (fun m e' H' => ∃ i : Nat, m = X.length - i ∧ e' = slots 0 42 [(0, .sl 5 (X.map otV)), (2, .ptr H.length 0), (3, .bool false), (4, .sl 2 ((timersTo X i).map tmV)), (9, .sl 5 (X.map otV)), (10, .int .i64 X.length), (11, .int .i64 (i : Int))] ∧ H' = H ++ [.box [.int .i64 0, .int .u64 0, .int .u64 0, .str [], .nilsl, .int .i64 0, .int .i64 0]] ∧ i ≤ X.length) (n := X.length) ⟨0, rfl, rfl, rfl, by omega⟩ (by first | omega | (simp only [go_sem, push_cast] <;> omega)) ?_ ?_ ?_
  · simp (disch := first | (simp only [go_sem, timersTo, List.map_nil] <;> omega) | fail) only [go_sem, x_eLeS, x_hLeS, Int.natCast_zero, Int.natCast_add, Int.natCast_one, timersTo, List.map_nil]
  · refine hLe_app hw (by simp) ?_
    simp (disch := first | (simp only [go_sem] <;> omega) | fail) only [go_sem, x_eLeS, x_hLeS, Int.natCast_zero, Int.natCast_add, Int.natCast_one]
  · rintro J hJ m e' H' ⟨i, rfl, rfl, rfl, hi1⟩
    by_cases h : (i : Int) < X.length
    · have hmo := (chk_iff.1 hc).2.1 _ (getD_mem (X := X) (i := i) (by omega))
      simp (disch := first | omega | (simp only [go_sem, push_cast, and_true] <;> omega) | fail) only [go_sem]
      refine s_wSet (t := tmOf (X.getD i default)) (timers_ok hc i hi1) (timers_new hc (by omega)) (by rw [timers_len]; omega) (own_time hmo) _ ?_
      have e1 : insT (timersTo X i) (tmOf (X.getD i default)) = timersTo X (i + 1) := rfl
      rw [e1]
      simp (disch := first | omega | (simp only [go_sem, push_cast, and_true] <;> omega) | fail) only [go_sem]
      refine round_end (hJ _ _ _ ⟨i + 1, rfl, rfl, rfl, by omega⟩) (by omega) (by first | omega | (simp only [go_sem, push_cast] <;> omega)) ?_ ?_
      · simp (disch := first | (simp only [go_sem] <;> omega) | fail) only [go_sem, x_eLeS, x_hLeS, Int.natCast_zero, Int.natCast_add, Int.natCast_one]
      · refine hLe_app hw (by simp) ?_
        simp (disch := first | (simp only [go_sem] <;> omega) | fail) only [go_sem, x_eLeS, x_hLeS, Int.natCast_zero, Int.natCast_add, Int.natCast_one]
    · have hi : i = X.length := by omega
      subst hi
      have hok := timers_ok hc X.length (Nat.le_refl _)
      simp (disch := first | omega | (simp only [go_sem, push_cast, and_true] <;> omega) | fail) only [go_sem]
      refine s_wNext hok _ ?_
      have htl := timers_len (X := X) X.length
      unfold firstV at hK
      by_cases h0 : X.length = 0
      · have hX0 : X = [] := List.eq_nil_of_length_eq_zero h0
        subst hX0
        have ht0 : timersTo ([] : List Ot) ([] : List Ot).length = [] := rfl
        rw [ht0]
        simp only [bestO] at hK
        simp (disch := first | omega | (simp only [go_sem, push_cast, and_true] <;> omega) | fail) only [go_sem, ne_eq, not_true, decide_false, Bool.not_false]
        refine end_less [.agg [.int .i64 0, .int .u64 0, .int .u64 0, .str [], .sl 1 [], .int .i64 0, .int .i64 0], .bool false] (by repeat' (first | exact .nil _ | exact .slx _ _ | exact .refl _ | exact .nil | refine .cons ?_ ?_ | refine .agg ?_ | refine .tup ?_)) ?_
        refine fin_res hw ?_ (fin_eq hK ?_)
        · simp (disch := first | omega | (simp only [go_sem, push_cast, and_true] <;> omega) | fail) only [go_sem]
        · simp [oneV, dueV, z0]
      · obtain ⟨p, hp, he, hi⟩ := timers_head hc (by omega)
        rw [bestO_is hp] at hK
        have hne : timersTo X X.length ≠ [] := fun k => by rw [k] at htl; simp at htl; omega
        have hplt := hp.1
        rw [he, decide_eq_true hne]
        simp (disch := first | omega | (simp only [go_sem, push_cast, and_true] <;> omega) | fail) only [go_sem, Bool.not_true, tmOf]
        refine (s_Find (by omega)).dcall ?_
        rw [hi]
        simp (disch := first | omega | (simp only [go_sem, push_cast, and_true] <;> omega) | fail) only [go_sem]
        refine fin_res hw ?_ (fin_eq hK ?_)
        · simp (disch := first | omega | (simp only [go_sem, push_cast, and_true] <;> omega) | fail) only [go_sem]
        · simp [oneV, dueV]
noncomputable def nextO (X : List Ot) (now : Int) : Ot × Int := if chkO X = true then (match bestO X with | none => (z0, 4) | some x => if now < x.2.2.2.2 then (z0, 4) else (x, 0)) else (z0, 1)
theorem s_Next {X : List Ot} {now : Int} {H : List Entry} (hX : osB X) : Pure AP n_outbox_Next [.sl 5 (X.map otV), .int .i64 now] H (.tup [otV (nextO X now).1, .int .i64 (nextO X now).2]) := by
  intro K hK
  refine a_outbox_Next fun hw => ?_
  unfold nextO at hK
  simp (disch := first | omega | (simp only [go_sem, push_cast, and_true] <;> omega) | fail) only [go_sem, c_outbox_Next]
  refine s_Check hX _ ?_
  by_cases hc : chkO X = true
  rotate_left
  · rw [if_neg hc] at hK
    simp (disch := first | omega | (simp only [go_sem, push_cast, and_true] <;> omega) | fail) only [go_sem, if_neg hc, decide_false, Bool.not_false]
    refine end_less [.agg [.int .u64 0, .str [], .sl 1 [], .int .i64 0, .int .i64 0], .int .i64 1] (by repeat' (first | exact .nil _ | exact .slx _ _ | exact .refl _ | exact .nil | refine .cons ?_ ?_ | refine .agg ?_ | refine .tup ?_)) ?_
    refine fin_res hw ?_ (fin_eq hK ?_)
    · simp (disch := first | omega | (simp only [go_sem, push_cast, and_true] <;> omega) | fail) only [go_sem]
    · simp [oneV, otV, z0]
  rw [if_pos hc] at hK
  simp (disch := first | omega | (simp only [go_sem, push_cast, and_true] <;> omega) | fail) only [go_sem, if_pos hc, decide_true, Bool.not_true]
  refine s_first hX hc _ ?_
  unfold firstV
  cases hb : bestO X with
  | none =>
    rw [hb] at hK
    simp (disch := first | omega | (simp only [go_sem, push_cast, and_true] <;> omega) | fail) only [go_sem, dueV, Bool.not_false]
    refine end_less [.agg [.int .u64 0, .str [], .sl 1 [], .int .i64 0, .int .i64 0], .int .i64 4] (by repeat' (first | exact .nil _ | exact .slx _ _ | exact .refl _ | exact .nil | refine .cons ?_ ?_ | refine .agg ?_ | refine .tup ?_)) ?_
    refine fin_res hw ?_ (fin_eq hK ?_)
    · simp (disch := first | omega | (simp only [go_sem, push_cast, and_true] <;> omega) | fail) only [go_sem]
    · simp [oneV, otV, z0]
  | some x =>
    rw [hb] at hK
    simp only at hK
    by_cases hn : now < x.2.2.2.2
    · rw [if_pos hn] at hK
      simp (disch := first | omega | (simp only [go_sem, push_cast, and_true] <;> omega) | fail) only [go_sem, dueV, Bool.not_true, hn, decide_true]
      refine end_less [.agg [.int .u64 0, .str [], .sl 1 [], .int .i64 0, .int .i64 0], .int .i64 4] (by repeat' (first | exact .nil _ | exact .slx _ _ | exact .refl _ | exact .nil | refine .cons ?_ ?_ | refine .agg ?_ | refine .tup ?_)) ?_
      refine fin_res hw ?_ (fin_eq hK ?_)
      · simp (disch := first | omega | (simp only [go_sem, push_cast, and_true] <;> omega) | fail) only [go_sem]
      · simp [oneV, otV, z0]
    · rw [if_neg hn] at hK
      simp (disch := first | omega | (simp only [go_sem, push_cast, and_true] <;> omega) | fail) only [go_sem, dueV, Bool.not_true, hn, decide_false]
      refine fin_res hw ?_ (fin_eq hK ?_)
      · simp (disch := first | omega | (simp only [go_sem, push_cast, and_true] <;> omega) | fail) only [go_sem]
      · simp [oneV, otV]
end Go.Av
