/- A part of a way to reckon what a Go program does without its memory (JoF). -/
import Derived.Test.YtllojkdacinhfaaAc
import Derived.Test.YtllojkdacinhfaaAvMore
import Derived.Test.YtllojkdacinhfaaShelf
namespace Go.Av
open Go
set_option autoImplicit false
set_option linter.all false
abbrev Ke := Int × Int × Int
abbrev Jo := List UInt8 × Int × Int × Int
def elV (x : Ke) : V := .agg [.int .i64 x.1, .int .u64 x.2.1, .int .i64 x.2.2]
@[go_sem] theorem elV_def (x : Ke) : elV x = .agg [.int .i64 x.1, .int .u64 x.2.1, .int .i64 x.2.2] := (rfl)
def joV (j : Jo) : V := .agg [.str j.1, .int .i64 j.2.1, .int .i64 j.2.2.1, .int .i64 j.2.2.2]
@[go_sem] theorem joV_def (j : Jo) : joV j = .agg [.str j.1, .int .i64 j.2.1, .int .i64 j.2.2.1, .int .i64 j.2.2.2] := (rfl)
abbrev bAll : List UInt8 := [97, 108, 108]
abbrev bAny : List UInt8 := [97, 110, 121]
abbrev bCnt : List UInt8 := [99, 111, 117, 110, 116]
def needB (k : List UInt8) (n : Int) : Bool := if k = bCnt then decide (1 ≤ n) && decide (n ≤ 30) else (decide (k = bAll) || decide (k = bAny)) && decide (n = 0)
def mayB (j : Jo) : Bool := needB j.1 j.2.2.1 && (decide (1 ≤ j.2.1) && (decide (j.2.1 ≤ 6) && (decide (0 ≤ j.2.2.2) && decide (j.2.2.2 ≤ 1073741824))))
def timeB (t : Int) : Bool := decide (0 ≤ t) && decide (t ≤ 1099511627775)
def keptB (p : Int) (x : Ke) : Bool := decide (0 ≤ x.1) && (decide (x.1 < p) && timeB x.2.2)
theorem s_mayNeed {j : Jo} {H : List Entry} : Pure AP n_join_mayNeed [joV j] H (.bool (needB j.1 j.2.2.1)) := by
  intro K hK
  refine a_join_mayNeed fun hw => ?_
  simp (disch := first | omega | (simp only [go_sem, List.length_append, List.length_take, List.length_drop, List.length_cons, List.length_nil] <;> omega)) only [go_sem, Nat.reduceAdd, Nat.reduceSub, Nat.reduceMul, Nat.reduceEqDiff, Nat.reduceLeDiff, Nat.reduceLT, Nat.reduceBEq, Int.reduceAdd, Int.reduceSub, Int.reduceMul, Int.reduceNeg, Int.reduceLT, Int.reduceLE, Int.reduceEq, Int.reduceToNat, c_join_mayNeed]
  repeat' ((first | refine br_cd ?_ ?_ | refine br_gd ?_ ?_ | refine br_pd ?_ ?_ | refine br_cb ?_ ?_ | refine br_gb ?_ ?_ | refine br_pb ?_ ?_) <;> (intro hq; simp (disch := first | omega | (simp only [go_sem, List.length_append, List.length_take, List.length_drop, List.length_cons, List.length_nil] <;> omega)) only [go_sem, Nat.reduceAdd, Nat.reduceSub, Nat.reduceMul, Nat.reduceEqDiff, Nat.reduceLeDiff, Nat.reduceLT, Nat.reduceBEq, Int.reduceAdd, Int.reduceSub, Int.reduceMul, Int.reduceNeg, Int.reduceLT, Int.reduceLE, Int.reduceEq, Int.reduceToNat, hq]))
  all_goals (first | refine fin_tmp hw ?_ (fin_eq hK ?_) | refine fin_tmp0 hw ?_ (fin_eq hK ?_))
  all_goals simp (disch := first | omega | (simp only [go_sem, List.length_append, List.length_take, List.length_drop, List.length_cons, List.length_nil] <;> omega)) only [go_sem, Nat.reduceAdd, Nat.reduceSub, Nat.reduceMul, Nat.reduceEqDiff, Nat.reduceLeDiff, Nat.reduceLT, Nat.reduceBEq, Int.reduceAdd, Int.reduceSub, Int.reduceMul, Int.reduceNeg, Int.reduceLT, Int.reduceLE, Int.reduceEq, Int.reduceToNat]
  all_goals first | (simp_all [needB]; done) | (simp_all [needB]; omega) | (simp_all [needB]; intros; omega)
theorem s_May {j : Jo} {H : List Entry} : Pure AP n_join_May [joV j] H (.bool (mayB j)) := by
  intro K hK
  refine a_join_May fun hw => ?_
  simp (disch := first | omega | (simp only [go_sem, List.length_append, List.length_take, List.length_drop, List.length_cons, List.length_nil] <;> omega)) only [go_sem, Nat.reduceAdd, Nat.reduceSub, Nat.reduceMul, Nat.reduceEqDiff, Nat.reduceLeDiff, Nat.reduceLT, Nat.reduceBEq, Int.reduceAdd, Int.reduceSub, Int.reduceMul, Int.reduceNeg, Int.reduceLT, Int.reduceLE, Int.reduceEq, Int.reduceToNat, c_join_May]
  refine s_mayNeed (j := j) _ ?_
  simp (disch := first | omega | (simp only [go_sem, List.length_append, List.length_take, List.length_drop, List.length_cons, List.length_nil] <;> omega)) only [go_sem, Nat.reduceAdd, Nat.reduceSub, Nat.reduceMul, Nat.reduceEqDiff, Nat.reduceLeDiff, Nat.reduceLT, Nat.reduceBEq, Int.reduceAdd, Int.reduceSub, Int.reduceMul, Int.reduceNeg, Int.reduceLT, Int.reduceLE, Int.reduceEq, Int.reduceToNat]
  repeat' ((first | refine br_cd ?_ ?_ | refine br_gd ?_ ?_ | refine br_pd ?_ ?_ | refine br_cb ?_ ?_ | refine br_gb ?_ ?_ | refine br_pb ?_ ?_) <;> (intro hq; simp (disch := first | omega | (simp only [go_sem, List.length_append, List.length_take, List.length_drop, List.length_cons, List.length_nil] <;> omega)) only [go_sem, Nat.reduceAdd, Nat.reduceSub, Nat.reduceMul, Nat.reduceEqDiff, Nat.reduceLeDiff, Nat.reduceLT, Nat.reduceBEq, Int.reduceAdd, Int.reduceSub, Int.reduceMul, Int.reduceNeg, Int.reduceLT, Int.reduceLE, Int.reduceEq, Int.reduceToNat, hq]))
  all_goals (first | refine fin_tmp hw ?_ (fin_eq hK ?_) | refine fin_tmp0 hw ?_ (fin_eq hK ?_))
  all_goals simp (disch := first | omega | (simp only [go_sem, List.length_append, List.length_take, List.length_drop, List.length_cons, List.length_nil] <;> omega)) only [go_sem, Nat.reduceAdd, Nat.reduceSub, Nat.reduceMul, Nat.reduceEqDiff, Nat.reduceLeDiff, Nat.reduceLT, Nat.reduceBEq, Int.reduceAdd, Int.reduceSub, Int.reduceMul, Int.reduceNeg, Int.reduceLT, Int.reduceLE, Int.reduceEq, Int.reduceToNat]
  all_goals first | (simp_all [mayB]; done) | (simp_all [mayB]; omega) | (simp_all [mayB]; intros; omega)
theorem s_isTime {t : Int} {H : List Entry} : Pure AP n_join_isTime [.int .i64 t] H (.bool (timeB t)) := by
  intro K hK
  refine a_join_isTime fun hw => ?_
  simp (disch := first | omega | (simp only [go_sem, List.length_append, List.length_take, List.length_drop, List.length_cons, List.length_nil] <;> omega)) only [go_sem, Nat.reduceAdd, Nat.reduceSub, Nat.reduceMul, Nat.reduceEqDiff, Nat.reduceLeDiff, Nat.reduceLT, Nat.reduceBEq, Int.reduceAdd, Int.reduceSub, Int.reduceMul, Int.reduceNeg, Int.reduceLT, Int.reduceLE, Int.reduceEq, Int.reduceToNat, c_join_isTime]
  repeat' ((first | refine br_cd ?_ ?_ | refine br_gd ?_ ?_ | refine br_pd ?_ ?_ | refine br_cb ?_ ?_ | refine br_gb ?_ ?_ | refine br_pb ?_ ?_) <;> (intro hq; simp (disch := first | omega | (simp only [go_sem, List.length_append, List.length_take, List.length_drop, List.length_cons, List.length_nil] <;> omega)) only [go_sem, Nat.reduceAdd, Nat.reduceSub, Nat.reduceMul, Nat.reduceEqDiff, Nat.reduceLeDiff, Nat.reduceLT, Nat.reduceBEq, Int.reduceAdd, Int.reduceSub, Int.reduceMul, Int.reduceNeg, Int.reduceLT, Int.reduceLE, Int.reduceEq, Int.reduceToNat, hq]))
  all_goals (first | refine fin_tmp hw ?_ (fin_eq hK ?_) | refine fin_tmp0 hw ?_ (fin_eq hK ?_))
  all_goals simp (disch := first | omega | (simp only [go_sem, List.length_append, List.length_take, List.length_drop, List.length_cons, List.length_nil] <;> omega)) only [go_sem, Nat.reduceAdd, Nat.reduceSub, Nat.reduceMul, Nat.reduceEqDiff, Nat.reduceLeDiff, Nat.reduceLT, Nat.reduceBEq, Int.reduceAdd, Int.reduceSub, Int.reduceMul, Int.reduceNeg, Int.reduceLT, Int.reduceLE, Int.reduceEq, Int.reduceToNat]
  all_goals first | (simp_all [timeB]; done) | (simp_all [timeB]; omega) | (simp_all [timeB]; intros; omega)
theorem s_mayKept {j : Jo} {x : Ke} {H : List Entry} : Pure AP n_join_mayKept [joV j, elV x] H (.bool (keptB j.2.1 x)) := by
  intro K hK
  refine a_join_mayKept fun hw => ?_
  simp (disch := first | omega | (simp only [go_sem, List.length_append, List.length_take, List.length_drop, List.length_cons, List.length_nil] <;> omega)) only [go_sem, Nat.reduceAdd, Nat.reduceSub, Nat.reduceMul, Nat.reduceEqDiff, Nat.reduceLeDiff, Nat.reduceLT, Nat.reduceBEq, Int.reduceAdd, Int.reduceSub, Int.reduceMul, Int.reduceNeg, Int.reduceLT, Int.reduceLE, Int.reduceEq, Int.reduceToNat, c_join_mayKept]
  repeat' ((first | refine br_cd ?_ ?_ | refine br_gd ?_ ?_ | refine br_pd ?_ ?_ | refine br_cb ?_ ?_ | refine br_gb ?_ ?_ | refine br_pb ?_ ?_) <;> (intro hq; simp (disch := first | omega | (simp only [go_sem, List.length_append, List.length_take, List.length_drop, List.length_cons, List.length_nil] <;> omega)) only [go_sem, Nat.reduceAdd, Nat.reduceSub, Nat.reduceMul, Nat.reduceEqDiff, Nat.reduceLeDiff, Nat.reduceLT, Nat.reduceBEq, Int.reduceAdd, Int.reduceSub, Int.reduceMul, Int.reduceNeg, Int.reduceLT, Int.reduceLE, Int.reduceEq, Int.reduceToNat, hq]))
  all_goals (try (refine s_isTime _ ?_; simp (disch := first | omega | (simp only [go_sem, List.length_append, List.length_take, List.length_drop, List.length_cons, List.length_nil] <;> omega)) only [go_sem, Nat.reduceAdd, Nat.reduceSub, Nat.reduceMul, Nat.reduceEqDiff, Nat.reduceLeDiff, Nat.reduceLT, Nat.reduceBEq, Int.reduceAdd, Int.reduceSub, Int.reduceMul, Int.reduceNeg, Int.reduceLT, Int.reduceLE, Int.reduceEq, Int.reduceToNat]; repeat' ((first | refine br_cd ?_ ?_ | refine br_gd ?_ ?_ | refine br_pd ?_ ?_ | refine br_cb ?_ ?_ | refine br_gb ?_ ?_ | refine br_pb ?_ ?_) <;> (intro hq; simp (disch := first | omega | (simp only [go_sem, List.length_append, List.length_take, List.length_drop, List.length_cons, List.length_nil] <;> omega)) only [go_sem, Nat.reduceAdd, Nat.reduceSub, Nat.reduceMul, Nat.reduceEqDiff, Nat.reduceLeDiff, Nat.reduceLT, Nat.reduceBEq, Int.reduceAdd, Int.reduceSub, Int.reduceMul, Int.reduceNeg, Int.reduceLT, Int.reduceLE, Int.reduceEq, Int.reduceToNat, hq]))))
  all_goals (first | refine fin_tmp hw ?_ (fin_eq hK ?_) | refine fin_tmp0 hw ?_ (fin_eq hK ?_))
  all_goals simp (disch := first | omega | (simp only [go_sem, List.length_append, List.length_take, List.length_drop, List.length_cons, List.length_nil] <;> omega)) only [go_sem, Nat.reduceAdd, Nat.reduceSub, Nat.reduceMul, Nat.reduceEqDiff, Nat.reduceLeDiff, Nat.reduceLT, Nat.reduceBEq, Int.reduceAdd, Int.reduceSub, Int.reduceMul, Int.reduceNeg, Int.reduceLT, Int.reduceLE, Int.reduceEq, Int.reduceToNat]
  all_goals first | (simp_all [keptB]; done) | (simp_all [keptB]; omega) | (simp_all [keptB]; intros; omega)
def idx {α : Type} (p : α → Bool) (X : List α) : Int := (X.findIdx? p).elim (-1) (fun i => (i : Int))
theorem idx_some {α : Type} [Inhabited α] {p : α → Bool} {X : List α} {i : Nat} (hi : i < X.length) (hp : p (X.getD i default) = true) (hn : ∀ j < i, p (X.getD j default) = false) : idx p X = i := by
  have : X.findIdx? p = some i := by
    rw [List.findIdx?_eq_some_iff_getElem]
    refine ⟨hi, by simpa [hi] using hp, fun j hj => ?_⟩
    have hjl : j < X.length := by omega
    have := hn j hj
    simp [hjl] at this
    simp [this]
  simp [idx, this]
theorem idx_none {α : Type} [Inhabited α] {p : α → Bool} {X : List α} (hn : ∀ j < X.length, p (X.getD j default) = false) : idx p X = -1 := by
  have : X.findIdx? p = none := by
    rw [List.findIdx?_eq_none_iff]
    intro x hx
    obtain ⟨j, hj, rfl⟩ := List.mem_iff_getElem.1 hx
    have := hn j hj
    simpa [hj] using this
  simp [idx, this]
theorem idx_any {α : Type} (p : α → Bool) (X : List α) : decide (0 ≤ idx p X) = X.any p := by
  unfold idx
  cases h : X.findIdx? p with
  | none =>
    rw [List.findIdx?_eq_none_iff] at h
    symm
    simpa using h
  | some i =>
    rw [List.findIdx?_eq_some_iff_getElem] at h
    obtain ⟨hi, hp, _⟩ := h
    simp only [Option.elim_some]
    symm
    simp only [Int.natCast_nonneg, decide_true, List.any_eq_true]
    exact ⟨_, List.getElem_mem hi, hp⟩
theorem idx_bounds {α : Type} (p : α → Bool) (X : List α) : -1 ≤ idx p X ∧ idx p X < X.length := by
  unfold idx
  cases h : X.findIdx? p with
  | none => simp only [Option.elim_none]; omega
  | some i =>
    rw [List.findIdx?_eq_some_iff_getElem] at h
    obtain ⟨hi, _⟩ := h
    simp only [Option.elim_some]; omega
theorem getD_mem {α : Type} [Inhabited α] {X : List α} {i : Nat} (h : i < X.length) : X.getD i default ∈ X := by simp [h]
theorem s_IndexFunc {X : List Ke} {f : FuncId} {a b : List V} {H : List Entry} {p : Ke → Bool} (hX : X.length ≤ 1000000) (hp : ∀ x ∈ X, Pure AP f (a ++ ([elV x] ++ b)) H (.bool (p x))) (hi : idsLts H.length a = true) (hj : idsLts H.length b = true) :
    Pure AP n_slices_IndexFunc_api_Kept_api_Kept [.sl 3 (X.map elV), .fn f a b] H (.int .i64 (idx p X)) := by
  intro K hK
  refine a_slices_IndexFunc_api_Kept_api_Kept fun hw => ?_
  simp (disch := first | omega | (simp only [go_sem, List.length_append, List.length_take, List.length_drop, List.length_cons, List.length_nil] <;> omega)) only [go_sem, Nat.reduceAdd, Nat.reduceSub, Nat.reduceMul, Nat.reduceEqDiff, Nat.reduceLeDiff, Nat.reduceLT, Nat.reduceBEq, Int.reduceAdd, Int.reduceSub, Int.reduceMul, Int.reduceNeg, Int.reduceLT, Int.reduceLE, Int.reduceEq, Int.reduceToNat, c_slices_IndexFunc_api_Kept_api_Kept]
  refine loop_in (fun n e H' => ∃ i : Nat, n = X.length - i ∧ e = slots 0 19 [(0, .sl 3 (X.map elV)), (1, .fn f a b), (7, .int .i64 X.length), (8, .int .i64 i)] ∧ H' = H ∧ i ≤ X.length ∧ ∀ j < i, p (X.getD j default) = false) (n := X.length) ⟨0, by omega, rfl, rfl, by omega, fun j hj => by omega⟩ (Nat.le_refl _) ?_ hw ?_
  · simp (disch := (simp only [go_sem, Nat.reduceAdd, Nat.reduceSub, Nat.reduceMul, Nat.reduceEqDiff, Nat.reduceLeDiff, Nat.reduceLT, Nat.reduceBEq, Int.reduceAdd, Int.reduceSub, Int.reduceMul, Int.reduceNeg, Int.reduceLT, Int.reduceLE, Int.reduceEq, Int.reduceToNat, hi, hj] <;> omega)) only [go_sem, x_eLeS, x_hLeS, Int.natCast_zero, Int.natCast_add, Int.natCast_one, Nat.reduceAdd, Nat.reduceSub, Nat.reduceMul, Nat.reduceEqDiff, Nat.reduceLeDiff, Nat.reduceLT, Nat.reduceBEq, Int.reduceAdd, Int.reduceSub, Int.reduceMul, Int.reduceNeg, Int.reduceLT, Int.reduceLE, Int.reduceEq, Int.reduceToNat, hi, hj]
  · rintro J hJ n e H' ⟨i, rfl, rfl, rfl, hi1, hn⟩
    simp (disch := first | omega | (simp only [go_sem, List.length_append, List.length_take, List.length_drop, List.length_cons, List.length_nil] <;> omega)) only [go_sem, Nat.reduceAdd, Nat.reduceSub, Nat.reduceMul, Nat.reduceEqDiff, Nat.reduceLeDiff, Nat.reduceLT, Nat.reduceBEq, Int.reduceAdd, Int.reduceSub, Int.reduceMul, Int.reduceNeg, Int.reduceLT, Int.reduceLE, Int.reduceEq, Int.reduceToNat]
    by_cases h : (i : Int) < X.length
    · simp (disch := first | omega | (simp only [go_sem, List.length_append, List.length_take, List.length_drop, List.length_cons, List.length_nil] <;> omega)) only [go_sem, Nat.reduceAdd, Nat.reduceSub, Nat.reduceMul, Nat.reduceEqDiff, Nat.reduceLeDiff, Nat.reduceLT, Nat.reduceBEq, Int.reduceAdd, Int.reduceSub, Int.reduceMul, Int.reduceNeg, Int.reduceLT, Int.reduceLE, Int.reduceEq, Int.reduceToNat]
      refine hp _ (getD_mem (by omega)) _ ?_
      simp (disch := first | omega | (simp only [go_sem, List.length_append, List.length_take, List.length_drop, List.length_cons, List.length_nil] <;> omega)) only [go_sem, Nat.reduceAdd, Nat.reduceSub, Nat.reduceMul, Nat.reduceEqDiff, Nat.reduceLeDiff, Nat.reduceLT, Nat.reduceBEq, Int.reduceAdd, Int.reduceSub, Int.reduceMul, Int.reduceNeg, Int.reduceLT, Int.reduceLE, Int.reduceEq, Int.reduceToNat]
      cases hpx : p (X.getD i default)
      · simp (disch := first | omega | (simp only [go_sem, List.length_append, List.length_take, List.length_drop, List.length_cons, List.length_nil] <;> omega)) only [go_sem, Nat.reduceAdd, Nat.reduceSub, Nat.reduceMul, Nat.reduceEqDiff, Nat.reduceLeDiff, Nat.reduceLT, Nat.reduceBEq, Int.reduceAdd, Int.reduceSub, Int.reduceMul, Int.reduceNeg, Int.reduceLT, Int.reduceLE, Int.reduceEq, Int.reduceToNat]
        refine round_end (hJ _ _ _ ⟨i + 1, rfl, rfl, rfl, by omega, fun j hj => ?_⟩) (by omega) (Nat.le_refl _) ?_ hw
        · rcases Nat.lt_succ_iff_lt_or_eq.1 hj with k | rfl
          · exact hn j k
          · exact hpx
        · simp (disch := (simp only [go_sem, Nat.reduceAdd, Nat.reduceSub, Nat.reduceMul, Nat.reduceEqDiff, Nat.reduceLeDiff, Nat.reduceLT, Nat.reduceBEq, Int.reduceAdd, Int.reduceSub, Int.reduceMul, Int.reduceNeg, Int.reduceLT, Int.reduceLE, Int.reduceEq, Int.reduceToNat, hi, hj] <;> omega)) only [go_sem, x_eLeS, x_hLeS, Int.natCast_zero, Int.natCast_add, Int.natCast_one, Nat.reduceAdd, Nat.reduceSub, Nat.reduceMul, Nat.reduceEqDiff, Nat.reduceLeDiff, Nat.reduceLT, Nat.reduceBEq, Int.reduceAdd, Int.reduceSub, Int.reduceMul, Int.reduceNeg, Int.reduceLT, Int.reduceLE, Int.reduceEq, Int.reduceToNat, hi, hj]
      · simp (disch := first | omega | (simp only [go_sem, List.length_append, List.length_take, List.length_drop, List.length_cons, List.length_nil] <;> omega)) only [go_sem, Nat.reduceAdd, Nat.reduceSub, Nat.reduceMul, Nat.reduceEqDiff, Nat.reduceLeDiff, Nat.reduceLT, Nat.reduceBEq, Int.reduceAdd, Int.reduceSub, Int.reduceMul, Int.reduceNeg, Int.reduceLT, Int.reduceLE, Int.reduceEq, Int.reduceToNat]
        refine fin_tmp0 hw ?_ (fin_eq hK ?_)
        · simp (disch := first | omega | (simp only [go_sem, List.length_append, List.length_take, List.length_drop, List.length_cons, List.length_nil] <;> omega)) only [go_sem, Nat.reduceAdd, Nat.reduceSub, Nat.reduceMul, Nat.reduceEqDiff, Nat.reduceLeDiff, Nat.reduceLT, Nat.reduceBEq, Int.reduceAdd, Int.reduceSub, Int.reduceMul, Int.reduceNeg, Int.reduceLT, Int.reduceLE, Int.reduceEq, Int.reduceToNat]
        · simp (disch := first | omega | (simp only [go_sem, List.length_append, List.length_take, List.length_drop, List.length_cons, List.length_nil] <;> omega)) only [go_sem, Nat.reduceAdd, Nat.reduceSub, Nat.reduceMul, Nat.reduceEqDiff, Nat.reduceLeDiff, Nat.reduceLT, Nat.reduceBEq, Int.reduceAdd, Int.reduceSub, Int.reduceMul, Int.reduceNeg, Int.reduceLT, Int.reduceLE, Int.reduceEq, Int.reduceToNat]
          rw [← idx_some (by omega) hpx hn]
    · simp (disch := first | omega | (simp only [go_sem, List.length_append, List.length_take, List.length_drop, List.length_cons, List.length_nil] <;> omega)) only [go_sem, Nat.reduceAdd, Nat.reduceSub, Nat.reduceMul, Nat.reduceEqDiff, Nat.reduceLeDiff, Nat.reduceLT, Nat.reduceBEq, Int.reduceAdd, Int.reduceSub, Int.reduceMul, Int.reduceNeg, Int.reduceLT, Int.reduceLE, Int.reduceEq, Int.reduceToNat]
      refine fin_tmp0 hw ?_ (fin_eq hK ?_)
      · simp (disch := first | omega | (simp only [go_sem, List.length_append, List.length_take, List.length_drop, List.length_cons, List.length_nil] <;> omega)) only [go_sem, Nat.reduceAdd, Nat.reduceSub, Nat.reduceMul, Nat.reduceEqDiff, Nat.reduceLeDiff, Nat.reduceLT, Nat.reduceBEq, Int.reduceAdd, Int.reduceSub, Int.reduceMul, Int.reduceNeg, Int.reduceLT, Int.reduceLE, Int.reduceEq, Int.reduceToNat]
      · simp (disch := first | omega | (simp only [go_sem, List.length_append, List.length_take, List.length_drop, List.length_cons, List.length_nil] <;> omega)) only [go_sem, Nat.reduceAdd, Nat.reduceSub, Nat.reduceMul, Nat.reduceEqDiff, Nat.reduceLeDiff, Nat.reduceLT, Nat.reduceBEq, Int.reduceAdd, Int.reduceSub, Int.reduceMul, Int.reduceNeg, Int.reduceLT, Int.reduceLE, Int.reduceEq, Int.reduceToNat]
        rw [← idx_none (p := p) (fun j hj => hn j (by omega))]
theorem s_ContainsFunc {X : List Ke} {f : FuncId} {a b : List V} {H : List Entry} {p : Ke → Bool} (hX : X.length ≤ 1000000) (hp : ∀ x ∈ X, Pure AP f (a ++ ([elV x] ++ b)) H (.bool (p x))) (hi : idsLts H.length a = true) (hj : idsLts H.length b = true) :
    Pure AP n_slices_ContainsFunc_api_Kept_api_Kept [.sl 3 (X.map elV), .fn f a b] H (.bool (X.any p)) := by
  intro K hK
  refine a_slices_ContainsFunc_api_Kept_api_Kept fun hw => ?_
  simp (disch := first | omega | (simp only [go_sem, List.length_append, List.length_take, List.length_drop, List.length_cons, List.length_nil] <;> omega)) only [go_sem, Nat.reduceAdd, Nat.reduceSub, Nat.reduceMul, Nat.reduceEqDiff, Nat.reduceLeDiff, Nat.reduceLT, Nat.reduceBEq, Int.reduceAdd, Int.reduceSub, Int.reduceMul, Int.reduceNeg, Int.reduceLT, Int.reduceLE, Int.reduceEq, Int.reduceToNat, c_slices_ContainsFunc_api_Kept_api_Kept]
  refine s_IndexFunc hX hp hi hj _ ?_
  simp (disch := first | omega | (simp only [go_sem, List.length_append, List.length_take, List.length_drop, List.length_cons, List.length_nil] <;> omega)) only [go_sem, Nat.reduceAdd, Nat.reduceSub, Nat.reduceMul, Nat.reduceEqDiff, Nat.reduceLeDiff, Nat.reduceLT, Nat.reduceBEq, Int.reduceAdd, Int.reduceSub, Int.reduceMul, Int.reduceNeg, Int.reduceLT, Int.reduceLE, Int.reduceEq, Int.reduceToNat]
  refine fin_tmp0 hw ?_ (fin_eq hK ?_)
  · simp (disch := first | omega | (simp only [go_sem, List.length_append, List.length_take, List.length_drop, List.length_cons, List.length_nil] <;> omega)) only [go_sem, Nat.reduceAdd, Nat.reduceSub, Nat.reduceMul, Nat.reduceEqDiff, Nat.reduceLeDiff, Nat.reduceLT, Nat.reduceBEq, Int.reduceAdd, Int.reduceSub, Int.reduceMul, Int.reduceNeg, Int.reduceLT, Int.reduceLE, Int.reduceEq, Int.reduceToNat]
  · simp (disch := first | omega | (simp only [go_sem, List.length_append, List.length_take, List.length_drop, List.length_cons, List.length_nil] <;> omega)) only [go_sem, Nat.reduceAdd, Nat.reduceSub, Nat.reduceMul, Nat.reduceEqDiff, Nat.reduceLeDiff, Nat.reduceLT, Nat.reduceBEq, Int.reduceAdd, Int.reduceSub, Int.reduceMul, Int.reduceNeg, Int.reduceLT, Int.reduceLE, Int.reduceEq, Int.reduceToNat]
    rw [idx_any]
def hasB (l : List Ke) (id : Int) : Bool := l.any fun x => decide (x.2.1 = id)
theorem s_hasId_1 {x : Ke} {id : Int} {H : List Entry} {g : Nat} (hg : H[g]? = some (.box [.int .u64 id])) : Pure AP n_join_hasId_1 [elV x, .ptr g 0] H (.bool (decide (x.2.1 = id))) := by
  intro K hK
  refine a_join_hasId_1 fun hw => ?_
  have hl := (List.getElem?_eq_some_iff.1 hg).1
  simp (disch := first | omega | (simp only [go_sem, List.length_append, List.length_take, List.length_drop, List.length_cons, List.length_nil] <;> omega)) only [go_sem, Nat.reduceAdd, Nat.reduceSub, Nat.reduceMul, Nat.reduceEqDiff, Nat.reduceLeDiff, Nat.reduceLT, Nat.reduceBEq, Int.reduceAdd, Int.reduceSub, Int.reduceMul, Int.reduceNeg, Int.reduceLT, Int.reduceLE, Int.reduceEq, Int.reduceToNat, c_join_hasId_1, List.getElem?_append_left hl, hg]
  all_goals (first | refine fin_tmp hw ?_ (fin_eq hK ?_) | refine fin_tmp0 hw ?_ (fin_eq hK ?_))
  all_goals simp (disch := first | omega | (simp only [go_sem, List.length_append, List.length_take, List.length_drop, List.length_cons, List.length_nil] <;> omega)) only [go_sem, Nat.reduceAdd, Nat.reduceSub, Nat.reduceMul, Nat.reduceEqDiff, Nat.reduceLeDiff, Nat.reduceLT, Nat.reduceBEq, Int.reduceAdd, Int.reduceSub, Int.reduceMul, Int.reduceNeg, Int.reduceLT, Int.reduceLE, Int.reduceEq, Int.reduceToNat]
  all_goals first | (simp_all [hasB]; done) | (simp_all [hasB]; omega) | (simp_all [hasB]; intros; omega)
theorem s_hasId {X : List Ke} {id : Int} {H : List Entry} (hX : X.length ≤ 1000000) : Pure AP n_join_hasId [.sl 3 (X.map elV), .int .u64 id] H (.bool (hasB X id)) := by
  intro K hK
  refine a_join_hasId fun hw => ?_
  simp (disch := first | omega | (simp only [go_sem, List.length_append, List.length_take, List.length_drop, List.length_cons, List.length_nil] <;> omega)) only [go_sem, Nat.reduceAdd, Nat.reduceSub, Nat.reduceMul, Nat.reduceEqDiff, Nat.reduceLeDiff, Nat.reduceLT, Nat.reduceBEq, Int.reduceAdd, Int.reduceSub, Int.reduceMul, Int.reduceNeg, Int.reduceLT, Int.reduceLE, Int.reduceEq, Int.reduceToNat, c_join_hasId]
  refine s_ContainsFunc hX (p := fun x => decide (x.2.1 = id)) (fun x _ => s_hasId_1 ?_) ?_ ?_ _ ?_
  · simp (disch := first | omega | (simp only [go_sem, List.length_append, List.length_take, List.length_drop, List.length_cons, List.length_nil] <;> omega)) only [go_sem, Nat.reduceAdd, Nat.reduceSub, Nat.reduceMul, Nat.reduceEqDiff, Nat.reduceLeDiff, Nat.reduceLT, Nat.reduceBEq, Int.reduceAdd, Int.reduceSub, Int.reduceMul, Int.reduceNeg, Int.reduceLT, Int.reduceLE, Int.reduceEq, Int.reduceToNat]
  · simp (disch := first | omega | (simp only [go_sem, List.length_append, List.length_take, List.length_drop, List.length_cons, List.length_nil] <;> omega)) only [go_sem, Nat.reduceAdd, Nat.reduceSub, Nat.reduceMul, Nat.reduceEqDiff, Nat.reduceLeDiff, Nat.reduceLT, Nat.reduceBEq, Int.reduceAdd, Int.reduceSub, Int.reduceMul, Int.reduceNeg, Int.reduceLT, Int.reduceLE, Int.reduceEq, Int.reduceToNat]
  · simp (disch := first | omega | (simp only [go_sem, List.length_append, List.length_take, List.length_drop, List.length_cons, List.length_nil] <;> omega)) only [go_sem, Nat.reduceAdd, Nat.reduceSub, Nat.reduceMul, Nat.reduceEqDiff, Nat.reduceLeDiff, Nat.reduceLT, Nat.reduceBEq, Int.reduceAdd, Int.reduceSub, Int.reduceMul, Int.reduceNeg, Int.reduceLT, Int.reduceLE, Int.reduceEq, Int.reduceToNat]
    omega
  simp (disch := first | omega | (simp only [go_sem, List.length_append, List.length_take, List.length_drop, List.length_cons, List.length_nil] <;> omega)) only [go_sem, Nat.reduceAdd, Nat.reduceSub, Nat.reduceMul, Nat.reduceEqDiff, Nat.reduceLeDiff, Nat.reduceLT, Nat.reduceBEq, Int.reduceAdd, Int.reduceSub, Int.reduceMul, Int.reduceNeg, Int.reduceLT, Int.reduceLE, Int.reduceEq, Int.reduceToNat]
  all_goals (first | refine fin_tmp hw ?_ (fin_eq hK ?_) | refine fin_tmp0 hw ?_ (fin_eq hK ?_))
  all_goals simp (disch := first | omega | (simp only [go_sem, List.length_append, List.length_take, List.length_drop, List.length_cons, List.length_nil] <;> omega)) only [go_sem, Nat.reduceAdd, Nat.reduceSub, Nat.reduceMul, Nat.reduceEqDiff, Nat.reduceLeDiff, Nat.reduceLT, Nat.reduceBEq, Int.reduceAdd, Int.reduceSub, Int.reduceMul, Int.reduceNeg, Int.reduceLT, Int.reduceLE, Int.reduceEq, Int.reduceToNat]
  all_goals first | (simp_all [hasB]; done) | (simp_all [hasB]; omega) | (simp_all [hasB]; intros; omega)
def lateB (l : List Ke) (t : Int) : Bool := decide (0 < l.length) && decide (t < (l.getD (l.length - 1) default).2.2)
theorem s_isLate {X : List Ke} {t : Int} {H : List Entry} (hX : X.length ≤ 1000000) : Pure AP n_join_isLate [.sl 3 (X.map elV), .int .i64 t] H (.bool (lateB X t)) := by
  intro K hK
  refine a_join_isLate fun hw => ?_
  simp (disch := first | omega | (simp only [go_sem, List.length_append, List.length_take, List.length_drop, List.length_cons, List.length_nil] <;> omega)) only [go_sem, Nat.reduceAdd, Nat.reduceSub, Nat.reduceMul, Nat.reduceEqDiff, Nat.reduceLeDiff, Nat.reduceLT, Nat.reduceBEq, Int.reduceAdd, Int.reduceSub, Int.reduceMul, Int.reduceNeg, Int.reduceLT, Int.reduceLE, Int.reduceEq, Int.reduceToNat, c_join_isLate]
  repeat' ((first | refine br_cd ?_ ?_ | refine br_gd ?_ ?_ | refine br_pd ?_ ?_ | refine br_cb ?_ ?_ | refine br_gb ?_ ?_ | refine br_pb ?_ ?_) <;> (intro hq; simp (disch := first | omega | (simp only [go_sem, List.length_append, List.length_take, List.length_drop, List.length_cons, List.length_nil] <;> omega)) only [go_sem, Nat.reduceAdd, Nat.reduceSub, Nat.reduceMul, Nat.reduceEqDiff, Nat.reduceLeDiff, Nat.reduceLT, Nat.reduceBEq, Int.reduceAdd, Int.reduceSub, Int.reduceMul, Int.reduceNeg, Int.reduceLT, Int.reduceLE, Int.reduceEq, Int.reduceToNat, hq]))
  all_goals refine fin_tmp0 hw ?_ (fin_eq hK ?_)
  all_goals simp (disch := first | omega | (simp only [go_sem, List.length_append, List.length_take, List.length_drop, List.length_cons, List.length_nil] <;> omega)) only [go_sem, Nat.reduceAdd, Nat.reduceSub, Nat.reduceMul, Nat.reduceEqDiff, Nat.reduceLeDiff, Nat.reduceLT, Nat.reduceBEq, Int.reduceAdd, Int.reduceSub, Int.reduceMul, Int.reduceNeg, Int.reduceLT, Int.reduceLE, Int.reduceEq, Int.reduceToNat]
  · have e1 : ((X.length : Int) - 1).toNat = X.length - 1 := by omega
    have e2 : 0 < X.length := by omega
    simp [lateB, e1, e2]
  · have e2 : ¬ 0 < X.length := by omega
    simp [lateB, e2]
theorem s_Clone {xs : List V} {H : List Entry} {K : KV} (hx : xs.length ≤ 1000000) (hK : K (.own H.length xs.length) (H ++ [.row 27 3 xs])) : BCall AP n_slices_Clone_api_Kept_api_Kept [.sl 3 xs] H K := by
  refine a_slices_Clone_api_Kept_api_Kept fun hw => ?_
  cases xs with
  | nil =>
    simp (disch := first | omega | (simp only [go_sem, List.length_append, List.length_take, List.length_drop, List.length_cons, List.length_nil] <;> omega)) only [go_sem, Nat.reduceAdd, Nat.reduceSub, Nat.reduceMul, Nat.reduceEqDiff, Nat.reduceLeDiff, Nat.reduceLT, Nat.reduceBEq, Int.reduceAdd, Int.reduceSub, Int.reduceMul, Int.reduceNeg, Int.reduceLT, Int.reduceLE, Int.reduceEq, Int.reduceToNat, c_slices_Clone_api_Kept_api_Kept]
    intro c
    cases c
    · simp (disch := first | omega | (simp only [go_sem, List.length_append, List.length_take, List.length_drop, List.length_cons, List.length_nil] <;> omega)) only [go_sem, Nat.reduceAdd, Nat.reduceSub, Nat.reduceMul, Nat.reduceEqDiff, Nat.reduceLeDiff, Nat.reduceLT, Nat.reduceBEq, Int.reduceAdd, Int.reduceSub, Int.reduceMul, Int.reduceNeg, Int.reduceLT, Int.reduceLE, Int.reduceEq, Int.reduceToNat]
      refine fin_all ?_
      simp (disch := first | omega | (simp only [go_sem, List.length_append, List.length_take, List.length_drop, List.length_cons, List.length_nil] <;> omega)) only [go_sem, Nat.reduceAdd, Nat.reduceSub, Nat.reduceMul, Nat.reduceEqDiff, Nat.reduceLeDiff, Nat.reduceLT, Nat.reduceBEq, Int.reduceAdd, Int.reduceSub, Int.reduceMul, Int.reduceNeg, Int.reduceLT, Int.reduceLE, Int.reduceEq, Int.reduceToNat]
      simpa using hK
    · simp (disch := first | omega | (simp only [go_sem, List.length_append, List.length_take, List.length_drop, List.length_cons, List.length_nil] <;> omega)) only [go_sem, Nat.reduceAdd, Nat.reduceSub, Nat.reduceMul, Nat.reduceEqDiff, Nat.reduceLeDiff, Nat.reduceLT, Nat.reduceBEq, Int.reduceAdd, Int.reduceSub, Int.reduceMul, Int.reduceNeg, Int.reduceLT, Int.reduceLE, Int.reduceEq, Int.reduceToNat]
      refine wk_adopt 2 27 3 (by simp (disch := first | omega | (simp only [go_sem, List.length_append, List.length_take, List.length_drop, List.length_cons, List.length_nil] <;> omega)) only [go_sem, Nat.reduceAdd, Nat.reduceSub, Nat.reduceMul, Nat.reduceEqDiff, Nat.reduceLeDiff, Nat.reduceLT, Nat.reduceBEq, Int.reduceAdd, Int.reduceSub, Int.reduceMul, Int.reduceNeg, Int.reduceLT, Int.reduceLE, Int.reduceEq, Int.reduceToNat]) (fin_all ?_)
      simp (disch := first | omega | (simp only [go_sem, List.length_append, List.length_take, List.length_drop, List.length_cons, List.length_nil] <;> omega)) only [go_sem, Nat.reduceAdd, Nat.reduceSub, Nat.reduceMul, Nat.reduceEqDiff, Nat.reduceLeDiff, Nat.reduceLT, Nat.reduceBEq, Int.reduceAdd, Int.reduceSub, Int.reduceMul, Int.reduceNeg, Int.reduceLT, Int.reduceLE, Int.reduceEq, Int.reduceToNat]
      simpa using hK
  | cons x xs =>
    simp only [List.length_cons] at hx
    simp (disch := first | omega | (simp only [go_sem, List.length_append, List.length_take, List.length_drop, List.length_cons, List.length_nil] <;> omega)) only [go_sem, Nat.reduceAdd, Nat.reduceSub, Nat.reduceMul, Nat.reduceEqDiff, Nat.reduceLeDiff, Nat.reduceLT, Nat.reduceBEq, Int.reduceAdd, Int.reduceSub, Int.reduceMul, Int.reduceNeg, Int.reduceLT, Int.reduceLE, Int.reduceEq, Int.reduceToNat, c_slices_Clone_api_Kept_api_Kept]
    refine fin_all ?_
    simp (disch := first | omega | (simp only [go_sem, List.length_append, List.length_take, List.length_drop, List.length_cons, List.length_nil] <;> omega)) only [go_sem, Nat.reduceAdd, Nat.reduceSub, Nat.reduceMul, Nat.reduceEqDiff, Nat.reduceLeDiff, Nat.reduceLT, Nat.reduceBEq, Int.reduceAdd, Int.reduceSub, Int.reduceMul, Int.reduceNeg, Int.reduceLT, Int.reduceLE, Int.reduceEq, Int.reduceToNat]
    simpa using hK
theorem s_CloneD {xs : List V} {H : List Entry} {K : KV} (hx : xs.length ≤ 1000000) (hK : K (.own H.length xs.length) (H ++ [.row 27 3 xs])) : DCall AP n_slices_Clone_api_Kept_api_Kept [.sl 3 xs] H K :=
  ⟨_, [.row 27 3 xs], s_Clone hx ⟨rfl, rfl⟩, hK⟩
def primClone (args : List V) (H : List Entry) : R2 :=
  match args with
  | [.sl m xs] => gu (Nat.beq m 3 && decide (xs.length ≤ 1000000)) (some (.own H.length xs.length, H ++ [.row 27 3 xs]))
  | [.nilsl] => some (.own H.length 0, H ++ [.row 27 3 []])
  | _ => none
theorem primClone_ok : PrimOk AP n_slices_Clone_api_Kept_api_Kept primClone := by
  intro args H v H' h K hK
  unfold primClone at h
  split at h
  · obtain ⟨h1, h2⟩ := gu_some h
    cases h2
    simp only [Bool.and_eq_true, Nat.beq_eq, decide_eq_true_eq] at h1
    rw [h1.1]
    exact s_Clone h1.2 hK
  · cases h
    exact bcall_less (s_Clone (xs := []) (by simp) hK) (.cons (.nil 3) .nil)
  · cases h
theorem sortSays : SortSays AP n_slices_Sort_int_int := fun blk off cap zs w h1 h2 h3 => Go.Proofs.Try.slices_Sort_int blk off cap zs w h1 h2 h3
theorem sortBody : hasBody AP n_slices_Sort_int_int = true := by kernel_rfl
def prims : Prims := [(n_slices_Clone_api_Kept_api_Kept, primClone), (n_slices_Sort_int_int, primSort)]
theorem primsOk : PrimsOk AP prims := ⟨primClone_ok, primSort_ok sortBody sortSays, trivial⟩
end Go.Av
