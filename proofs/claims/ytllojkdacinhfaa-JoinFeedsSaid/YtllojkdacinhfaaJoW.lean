/- A part of a way to reckon what a Go program does without its memory (JoW). -/
import Derived.Test.YtllojkdacinhfaaJoL
import Derived.Test.YtllojkdacinhfaaJoO
namespace Go.Av
open Go
set_option autoImplicit false
set_option linter.all false
theorem awake_ok (H : List Entry) : Pure AP n_trystlaw09_awake [] H (.bool true) := run_known primsOk tabOk (fun f => Nat.beq f 13) (n := 30) (by kernel_rfl) rfl rfl H
/-! ### JoinWaits -/
def pt (ps : List Int) (k : Nat) : Int := if k < ps.length then ps.getD k default % 6 else 0
def it (ps : List Int) (k : Nat) : Ke := (pt ps k, (k : Int), (k : Int))
def seg (ps : List Int) (a n : Nat) : List Ke := (List.range' a n).map (it ps)
@[go_sem] theorem it1 (ps : List Int) (k : Nat) : (it ps k).1 = pt ps k := (rfl)
@[go_sem] theorem it2 (ps : List Int) (k : Nat) : (it ps k).2.1 = (k : Int) := (rfl)
@[go_sem] theorem it3 (ps : List Int) (k : Nat) : (it ps k).2.2 = (k : Int) := (rfl)
@[go_sem] theorem seg_len (ps : List Int) (a n : Nat) : (seg ps a n).length = n := by simp [seg]
theorem seg_app (ps : List Int) (a n : Nat) : seg ps a n ++ [it ps (a + n)] = seg ps a (n + 1) := by
  simp [seg, List.range'_concat]
@[go_sem] theorem seg_get (ps : List Int) (a n i : Nat) (h : i < n) : (seg ps a n).getD i default = it ps (a + i) := by
  simp [seg, h]
theorem pt_b (ps : List Int) (k : Nat) : 0 ≤ pt ps k ∧ pt ps k < 6 := by unfold pt; split <;> omega
def wj (need : Nat) : Jo := (bCnt, 6, (need : Int), 1073741824)
theorem wj_may {need : Nat} (h : 1 ≤ need) (h2 : need ≤ 20) : mayB (wj need) = true := by
  have : needB bCnt (need : Int) = true := by unfold needB; rw [if_pos rfl]; simp; omega
  simp [mayB, wj, this]
theorem kept_it (ps : List Int) (k : Nat) (hk : k ≤ 1000) : keptB 6 (it ps k) = true := by
  have := pt_b ps k
  show (decide (0 ≤ pt ps k) && (decide (pt ps k < 6) && (decide (0 ≤ (k : Int)) && decide ((k : Int) ≤ 1099511627775)))) = true
  simp; omega
theorem wj_feed {need : Nat} (h : 1 ≤ need) (h2 : need ≤ 20) (ps : List Int) (a n : Nat) (hn : n < need) (ha : a + n ≤ 500) :
    feedD (wj need) (seg ps a n) (it ps (a + n)) = if n + 1 = need then ([], seg ps a (n + 1), [], 0) else (seg ps a (n + 1), [], [], 0) := by
  have hm := wj_may h h2
  have meet : ∀ m, meetL (wj need) (seg ps a m) = if m < need then [] else upTo need := by
    intro m
    unfold meetL
    rw [if_neg (by simp [wj]), if_neg (by simp [wj])]
    simp only [wj, Int.toNat_natCast, firstL, seg_len]
  have hhas : ∀ m i, a ≤ i → m ≤ i - a → hasB ((seg ps a n).take m) (it ps i).2.1 = false := by
    intro m i hi hmi
    unfold hasB
    rw [← Bool.not_eq_true, List.any_eq_true]
    rintro ⟨y, hy, he⟩
    obtain ⟨q, hq, rfl⟩ := List.mem_iff_getElem.1 hy
    simp [seg, it] at he hq
    omega
  have hok : (List.range (seg ps a n).length).all (okAt (seg ps a n)) = true := all_okAt fun i hi => by
    rw [seg_len] at hi
    unfold okAt
    rw [seg_get ps a n i hi, seg_get ps a n (i - 1) (by omega), hhas i (a + i) (by omega) (by omega)]
    simp [it] <;> omega
  have hall : (seg ps a n).all (keptB 6) = true := by
    rw [List.all_eq_true]
    intro x hx
    obtain ⟨k, hk, rfl⟩ := List.mem_map.1 hx
    rw [List.mem_range'_1] at hk
    exact kept_it ps k (by omega)
  have hw : waitB (wj need) (seg ps a n) = true := by
    have h3 : n < 30 := by omega
    unfold waitB
    rw [seg_len] at hok
    rw [seg_len, meet, if_pos hn, show (wj need).2.1 = 6 from rfl, hall, hok]
    simp [h3]
  have hc : checkB (wj need) (seg ps a n) = true := by simp [checkB, hm, hw]
  have hl : lateB (seg ps a n) (it ps (a + n)).2.2 = false := by
    unfold lateB
    rw [seg_len]
    by_cases h0 : 0 < n
    · rw [seg_get ps a n (n - 1) (by omega)]
      simp [it] <;> omega
    · simp [h0]
  have hh : hasB (seg ps a n) (it ps (a + n)).2.1 = false := by
    have := hhas n (a + n) (by omega) (by omega)
    rwa [List.take_of_length_le (by rw [seg_len]; omega)] at this
  have hf : (seg ps a n).findIdx (stillB (wj need).2.2.2 (it ps (a + n)).2.2) = 0 := by
    cases n with
    | zero => simp [seg]
    | succ n =>
      have : seg ps a (n + 1) = it ps a :: (seg ps (a + 1) n) := by simp [seg, List.range'_succ]
      rw [this, List.findIdx_cons]
      have : stillB (wj need).2.2.2 (it ps (a + (n + 1))).2.2 (it ps a) = true := by simp [stillB, wj, it]; omega
      rw [this]; rfl
  unfold feedD
  rw [hc, show (wj need).2.1 = 6 from rfl, kept_it ps (a + n) (by omega), hl, hh, hf]
  simp only [Bool.and_self, if_true, Bool.false_eq_true, if_false, List.drop_zero, List.take_zero, seg_app]
  unfold feedT
  rw [meet, seg_len]
  by_cases he : n + 1 = need
  · rw [if_neg (by omega : ¬ n + 1 < need)]
    have hne : upTo need ≠ [] := by
      intro hh2
      have := congrArg List.length hh2
      rw [upTo_len] at this
      simp at this; omega
    rw [if_neg (by simp [hne]), if_pos he]
    have key : ∀ (l : List Ke) (k : Nat), tk l k ((List.range' k l.length).map fun i : Nat => (i : Int)) = ([], l) := by
      intro l
      induction l with
      | nil => intro k; simp [tk]
      | cons x l ih =>
        intro k
        simp only [List.length_cons, List.range'_succ, List.map_cons, tk, if_true, ih (k + 1)]
    have hu : upTo need = (List.range' 0 (seg ps a (n + 1)).length).map fun i : Nat => (i : Int) := by
      rw [seg_len, he]; unfold upTo; rw [List.range_eq_range']
    rw [hu, key]
  · rw [if_pos (by omega : n + 1 < need), if_neg (by simp; omega), if_neg he]
    have key : ∀ (l : List Ke) (k : Nat), tk l k [] = (l, []) := by
      intro l
      induction l with
      | nil => intro k; simp [tk]
      | cons x l ih => intro k; simp [tk, ih]
    rw [key]
theorem succ_mod {d : Nat} (hd : 1 ≤ d) (i : Nat) : i % d + 1 = d ↔ (i + 1) % d = 0 := by
  have h1 := Nat.mod_lt i (show 0 < d by omega)
  have h2 : (i + 1) % d = (i % d + 1) % d := by rw [Nat.add_mod]; simp
  rw [h2]
  constructor
  · intro h; rw [h]; simp
  · intro h
    rcases Nat.lt_or_ge (i % d + 1) d with k | k
    · rw [Nat.mod_eq_of_lt k] at h; omega
    · omega
theorem seg_zero (ps : List Int) (a : Nat) : seg ps a 0 = [] := rfl
set_option maxRecDepth 20000 in
theorem law_waits {need n : Int} {ps : List Int} {H : List Entry} (hn : 0 ≤ need ∧ need ≤ 255) (hm : 0 ≤ n ∧ n ≤ 255) (hp : ∀ z ∈ ps, 0 ≤ z ∧ z ≤ 255) : Pure AP n_trystlaw09_JoinWaits [.int .u8 need, .int .u8 n, .sl 1 (ps.map uV)] H (.bool true) := by
  intro K hK
  obtain ⟨d, hd⟩ : ∃ d : Nat, 1 + need % 20 = (d : Int) := ⟨(1 + need % 20).toNat, by omega⟩
  have hd1 : 1 ≤ d := by omega
  have hd2 : d ≤ 20 := by omega
  refine a_trystlaw09_JoinWaits fun hw => ?_
  simp (disch := first | omega | (simp only [go_sem, List.length_append, List.length_take, List.length_drop, List.length_cons, List.length_nil] <;> omega)) only [go_sem, Nat.reduceAdd, Nat.reduceSub, Nat.reduceMul, Nat.reduceEqDiff, Nat.reduceLeDiff, Nat.reduceLT, Nat.reduceBEq, Int.reduceAdd, Int.reduceSub, Int.reduceMul, Int.reduceNeg, Int.reduceLT, Int.reduceLE, Int.reduceEq, Int.reduceToNat, c_trystlaw09_JoinWaits]
  refine loop_nil 8 3 rfl ?_
  simp (disch := first | omega | (simp only [go_sem, List.length_append, List.length_take, List.length_drop, List.length_cons, List.length_nil] <;> omega)) only [go_sem, Nat.reduceAdd, Nat.reduceSub, Nat.reduceMul, Nat.reduceEqDiff, Nat.reduceLeDiff, Nat.reduceLT, Nat.reduceBEq, Int.reduceAdd, Int.reduceSub, Int.reduceMul, Int.reduceNeg, Int.reduceLT, Int.reduceLE, Int.reduceEq, Int.reduceToNat]
  refine loop_in (fun m e H' => ∃ i : Nat, m = (n % 90).toNat - i ∧ e = slots 0 112 [(0, .int .u8 need), (1, .int .u8 n), (2, .sl 1 (ps.map uV)), (7, .ptr H.length 0), (8, .sl 3 ((seg ps (i - i % d) (i % d)).map elV)), (9, .int .i64 i)] ∧ H' = H ++ [.box [.str bCnt, .int .i64 6, .int .i64 d, .int .i64 1073741824]] ∧ (i : Int) ≤ n % 90) (n := (n % 90).toNat) ⟨0, by omega, rfl, rfl, by omega⟩ (by first | omega | (simp only [go_sem, List.length_append, List.length_take, List.length_drop, Nat.reduceAdd, Nat.reduceSub, Nat.reduceMul, Nat.reduceEqDiff, Nat.reduceLeDiff, Nat.reduceLT, Nat.reduceBEq, Int.reduceAdd, Int.reduceSub, Int.reduceMul, Int.reduceNeg, Int.reduceLT, Int.reduceLE, Int.reduceEq, Int.reduceToNat] <;> omega)) ?_ ?_ ?_
  · simp (disch := (simp only [go_sem, Nat.reduceAdd, Nat.reduceSub, Nat.reduceMul, Nat.reduceEqDiff, Nat.reduceLeDiff, Nat.reduceLT, Nat.reduceBEq, Int.reduceAdd, Int.reduceSub, Int.reduceMul, Int.reduceNeg, Int.reduceLT, Int.reduceLE, Int.reduceEq, Int.reduceToNat, Nat.zero_mod, Nat.zero_sub, seg_zero, List.map_nil] <;> omega)) only [go_sem, x_eLeS, x_hLeS, Int.natCast_zero, Int.natCast_add, Int.natCast_one, Nat.reduceAdd, Nat.reduceSub, Nat.reduceMul, Nat.reduceEqDiff, Nat.reduceLeDiff, Nat.reduceLT, Nat.reduceBEq, Int.reduceAdd, Int.reduceSub, Int.reduceMul, Int.reduceNeg, Int.reduceLT, Int.reduceLE, Int.reduceEq, Int.reduceToNat, Nat.zero_mod, Nat.zero_sub, seg_zero, List.map_nil]
  · rw [hd]
    exact hLe_app hw (by first | omega | (simp only [go_sem, List.length_append, List.length_take, List.length_drop, Nat.reduceAdd, Nat.reduceSub, Nat.reduceMul, Nat.reduceEqDiff, Nat.reduceLeDiff, Nat.reduceLT, Nat.reduceBEq, Int.reduceAdd, Int.reduceSub, Int.reduceMul, Int.reduceNeg, Int.reduceLT, Int.reduceLE, Int.reduceEq, Int.reduceToNat] <;> omega)) (by simp (disch := (simp only [go_sem, Nat.reduceAdd, Nat.reduceSub, Nat.reduceMul, Nat.reduceEqDiff, Nat.reduceLeDiff, Nat.reduceLT, Nat.reduceBEq, Int.reduceAdd, Int.reduceSub, Int.reduceMul, Int.reduceNeg, Int.reduceLT, Int.reduceLE, Int.reduceEq, Int.reduceToNat] <;> omega)) only [go_sem, x_eLeS, x_hLeS, Int.natCast_zero, Int.natCast_add, Int.natCast_one, Nat.reduceAdd, Nat.reduceSub, Nat.reduceMul, Nat.reduceEqDiff, Nat.reduceLeDiff, Nat.reduceLT, Nat.reduceBEq, Int.reduceAdd, Int.reduceSub, Int.reduceMul, Int.reduceNeg, Int.reduceLT, Int.reduceLE, Int.reduceEq, Int.reduceToNat])
  · rintro J hJ m e H' ⟨i, rfl, rfl, rfl, hi1⟩
    simp (disch := first | omega | (simp only [go_sem, List.length_append, List.length_take, List.length_drop, List.length_cons, List.length_nil] <;> omega)) only [go_sem, Nat.reduceAdd, Nat.reduceSub, Nat.reduceMul, Nat.reduceEqDiff, Nat.reduceLeDiff, Nat.reduceLT, Nat.reduceBEq, Int.reduceAdd, Int.reduceSub, Int.reduceMul, Int.reduceNeg, Int.reduceLT, Int.reduceLE, Int.reduceEq, Int.reduceToNat]
    by_cases h2 : (i : Int) < n % 90
    · simp (disch := first | omega | (simp only [go_sem, List.length_append, List.length_take, List.length_drop, List.length_cons, List.length_nil] <;> omega)) only [go_sem, Nat.reduceAdd, Nat.reduceSub, Nat.reduceMul, Nat.reduceEqDiff, Nat.reduceLeDiff, Nat.reduceLT, Nat.reduceBEq, Int.reduceAdd, Int.reduceSub, Int.reduceMul, Int.reduceNeg, Int.reduceLT, Int.reduceLE, Int.reduceEq, Int.reduceToNat]
      have hlt : i % d < d := Nat.mod_lt _ (by omega)
      have hcast : ((i : Int) + 1) % (d : Int) = (((i + 1) % d : Nat) : Int) := (Int.natCast_emod (i + 1) d).symm
      have hle : i % d ≤ i := Nat.mod_le _ _
      by_cases h3 : (i : Int) < ps.length
      · have hb := hp _ (getD_mem (X := ps) (i := i) (by omega))
        have hpt : pt ps i = ps.getD i default % 6 := by unfold pt; rw [if_pos (by omega)]
        simp (disch := first | omega | (simp only [go_sem, List.length_append, List.length_take, List.length_drop, List.length_cons, List.length_nil] <;> omega)) only [go_sem, Nat.reduceAdd, Nat.reduceSub, Nat.reduceMul, Nat.reduceEqDiff, Nat.reduceLeDiff, Nat.reduceLT, Nat.reduceBEq, Int.reduceAdd, Int.reduceSub, Int.reduceMul, Int.reduceNeg, Int.reduceLT, Int.reduceLE, Int.reduceEq, Int.reduceToNat]
        refine s_Feed (j := wj d) (x := (ps.getD i default % 6, (i : Int), (i : Int))) (by rw [seg_len]; omega) _ ?_
        rw [show ((ps.getD i default % 6, (i : Int), (i : Int)) : Ke) = it ps (i - i % d + i % d) by rw [show i - i % d + i % d = i by omega]; unfold it; rw [hpt], wj_feed hd1 hd2 ps _ _ hlt (by omega)]
        by_cases he : i % d + 1 = d
        · have hz : ((i : Int) + 1) % d = 0 := by
            have : (i + 1) % d = 0 := (succ_mod hd1 i).1 he
            omega
          have hi0 : i + 1 - (i + 1) % d = i + 1 ∧ (i + 1) % d = 0 := by
            have : (i + 1) % d = 0 := (succ_mod hd1 i).1 he
            omega
          simp only [he, if_true, fdV, seg_len]
          have e1 : ((d : Int) - 1).toNat = d - 1 := by omega
          have e2 : i - i % d + (d - 1) = i := by omega
          have e3 : ((i - i % d : Nat) : Int) = (i : Int) + 1 - d := by omega
          simp (disch := first | omega | (simp only [go_sem, List.length_append, List.length_take, List.length_drop, List.length_cons, List.length_nil] <;> omega)) only [go_sem, Nat.reduceAdd, Nat.reduceSub, Nat.reduceMul, Nat.reduceEqDiff, Nat.reduceLeDiff, Nat.reduceLT, Nat.reduceBEq, Int.reduceAdd, Int.reduceSub, Int.reduceMul, Int.reduceNeg, Int.reduceLT, Int.reduceLE, Int.reduceEq, Int.reduceToNat, hz, e1, e2, Nat.add_zero, e3, hpt]
          refine round_end (hJ _ _ _ ⟨i + 1, rfl, rfl, rfl, by omega⟩) (by omega) (by first | omega | (simp only [go_sem, List.length_append, List.length_take, List.length_drop, Nat.reduceAdd, Nat.reduceSub, Nat.reduceMul, Nat.reduceEqDiff, Nat.reduceLeDiff, Nat.reduceLT, Nat.reduceBEq, Int.reduceAdd, Int.reduceSub, Int.reduceMul, Int.reduceNeg, Int.reduceLT, Int.reduceLE, Int.reduceEq, Int.reduceToNat] <;> omega)) ?_ ?_
          · simp (disch := (simp only [go_sem, Nat.reduceAdd, Nat.reduceSub, Nat.reduceMul, Nat.reduceEqDiff, Nat.reduceLeDiff, Nat.reduceLT, Nat.reduceBEq, Int.reduceAdd, Int.reduceSub, Int.reduceMul, Int.reduceNeg, Int.reduceLT, Int.reduceLE, Int.reduceEq, Int.reduceToNat, hi0.2, seg_zero, List.map_nil] <;> omega)) only [go_sem, x_eLeS, x_hLeS, Int.natCast_zero, Int.natCast_add, Int.natCast_one, Nat.reduceAdd, Nat.reduceSub, Nat.reduceMul, Nat.reduceEqDiff, Nat.reduceLeDiff, Nat.reduceLT, Nat.reduceBEq, Int.reduceAdd, Int.reduceSub, Int.reduceMul, Int.reduceNeg, Int.reduceLT, Int.reduceLE, Int.reduceEq, Int.reduceToNat, hi0.2, seg_zero, List.map_nil]
          · exact hLe_app hw (by first | omega | (simp only [go_sem, List.length_append, List.length_take, List.length_drop, Nat.reduceAdd, Nat.reduceSub, Nat.reduceMul, Nat.reduceEqDiff, Nat.reduceLeDiff, Nat.reduceLT, Nat.reduceBEq, Int.reduceAdd, Int.reduceSub, Int.reduceMul, Int.reduceNeg, Int.reduceLT, Int.reduceLE, Int.reduceEq, Int.reduceToNat] <;> omega)) (by simp (disch := (simp only [go_sem, Nat.reduceAdd, Nat.reduceSub, Nat.reduceMul, Nat.reduceEqDiff, Nat.reduceLeDiff, Nat.reduceLT, Nat.reduceBEq, Int.reduceAdd, Int.reduceSub, Int.reduceMul, Int.reduceNeg, Int.reduceLT, Int.reduceLE, Int.reduceEq, Int.reduceToNat] <;> omega)) only [go_sem, x_eLeS, x_hLeS, Int.natCast_zero, Int.natCast_add, Int.natCast_one, Nat.reduceAdd, Nat.reduceSub, Nat.reduceMul, Nat.reduceEqDiff, Nat.reduceLeDiff, Nat.reduceLT, Nat.reduceBEq, Int.reduceAdd, Int.reduceSub, Int.reduceMul, Int.reduceNeg, Int.reduceLT, Int.reduceLE, Int.reduceEq, Int.reduceToNat])
        · have hz : ¬ ((i : Int) + 1) % d = 0 := by
            rw [hcast]
            intro hh
            have : (i + 1) % d = 0 := by omega
            exact he ((succ_mod hd1 i).2 this)
          have hi1' : (i + 1) % d = i % d + 1 := by
            rw [Nat.add_mod]
            rcases Nat.lt_or_ge d 2 with k | k
            · have : d = 1 := by omega
              subst this; simp [Nat.mod_one] at he
            · rw [Nat.mod_eq_of_lt (show 1 < d by omega), Nat.mod_eq_of_lt (by omega)]
          have hi0 : i + 1 - (i % d + 1) = i - i % d := by omega
          have hcast2 : ((i : Int) + 1) % (d : Int) = ((i % d : Nat) : Int) + 1 := by rw [hcast, hi1']; rfl
          simp only [he, if_false, fdV, seg_len]
          simp (disch := first | omega | (simp only [go_sem, List.length_append, List.length_take, List.length_drop, List.length_cons, List.length_nil] <;> omega)) only [go_sem, Nat.reduceAdd, Nat.reduceSub, Nat.reduceMul, Nat.reduceEqDiff, Nat.reduceLeDiff, Nat.reduceLT, Nat.reduceBEq, Int.reduceAdd, Int.reduceSub, Int.reduceMul, Int.reduceNeg, Int.reduceLT, Int.reduceLE, Int.reduceEq, Int.reduceToNat, hz, hpt, hcast2]
          refine round_end (hJ _ _ _ ⟨i + 1, rfl, rfl, rfl, by omega⟩) (by omega) (by first | omega | (simp only [go_sem, List.length_append, List.length_take, List.length_drop, Nat.reduceAdd, Nat.reduceSub, Nat.reduceMul, Nat.reduceEqDiff, Nat.reduceLeDiff, Nat.reduceLT, Nat.reduceBEq, Int.reduceAdd, Int.reduceSub, Int.reduceMul, Int.reduceNeg, Int.reduceLT, Int.reduceLE, Int.reduceEq, Int.reduceToNat] <;> omega)) ?_ ?_
          · simp (disch := (simp only [go_sem, Nat.reduceAdd, Nat.reduceSub, Nat.reduceMul, Nat.reduceEqDiff, Nat.reduceLeDiff, Nat.reduceLT, Nat.reduceBEq, Int.reduceAdd, Int.reduceSub, Int.reduceMul, Int.reduceNeg, Int.reduceLT, Int.reduceLE, Int.reduceEq, Int.reduceToNat, hi1', hi0] <;> omega)) only [go_sem, x_eLeS, x_hLeS, Int.natCast_zero, Int.natCast_add, Int.natCast_one, Nat.reduceAdd, Nat.reduceSub, Nat.reduceMul, Nat.reduceEqDiff, Nat.reduceLeDiff, Nat.reduceLT, Nat.reduceBEq, Int.reduceAdd, Int.reduceSub, Int.reduceMul, Int.reduceNeg, Int.reduceLT, Int.reduceLE, Int.reduceEq, Int.reduceToNat, hi1', hi0]
          · exact hLe_app hw (by first | omega | (simp only [go_sem, List.length_append, List.length_take, List.length_drop, Nat.reduceAdd, Nat.reduceSub, Nat.reduceMul, Nat.reduceEqDiff, Nat.reduceLeDiff, Nat.reduceLT, Nat.reduceBEq, Int.reduceAdd, Int.reduceSub, Int.reduceMul, Int.reduceNeg, Int.reduceLT, Int.reduceLE, Int.reduceEq, Int.reduceToNat] <;> omega)) (by simp (disch := (simp only [go_sem, Nat.reduceAdd, Nat.reduceSub, Nat.reduceMul, Nat.reduceEqDiff, Nat.reduceLeDiff, Nat.reduceLT, Nat.reduceBEq, Int.reduceAdd, Int.reduceSub, Int.reduceMul, Int.reduceNeg, Int.reduceLT, Int.reduceLE, Int.reduceEq, Int.reduceToNat] <;> omega)) only [go_sem, x_eLeS, x_hLeS, Int.natCast_zero, Int.natCast_add, Int.natCast_one, Nat.reduceAdd, Nat.reduceSub, Nat.reduceMul, Nat.reduceEqDiff, Nat.reduceLeDiff, Nat.reduceLT, Nat.reduceBEq, Int.reduceAdd, Int.reduceSub, Int.reduceMul, Int.reduceNeg, Int.reduceLT, Int.reduceLE, Int.reduceEq, Int.reduceToNat])
      · have hpt : pt ps i = 0 := by unfold pt; rw [if_neg (by omega)]
        simp (disch := first | omega | (simp only [go_sem, List.length_append, List.length_take, List.length_drop, List.length_cons, List.length_nil] <;> omega)) only [go_sem, Nat.reduceAdd, Nat.reduceSub, Nat.reduceMul, Nat.reduceEqDiff, Nat.reduceLeDiff, Nat.reduceLT, Nat.reduceBEq, Int.reduceAdd, Int.reduceSub, Int.reduceMul, Int.reduceNeg, Int.reduceLT, Int.reduceLE, Int.reduceEq, Int.reduceToNat]
        refine s_Feed (j := wj d) (x := (0, (i : Int), (i : Int))) (by rw [seg_len]; omega) _ ?_
        rw [show ((0, (i : Int), (i : Int)) : Ke) = it ps (i - i % d + i % d) by rw [show i - i % d + i % d = i by omega]; unfold it; rw [hpt], wj_feed hd1 hd2 ps _ _ hlt (by omega)]
        by_cases he : i % d + 1 = d
        · have hz : ((i : Int) + 1) % d = 0 := by
            have : (i + 1) % d = 0 := (succ_mod hd1 i).1 he
            omega
          have hi0 : i + 1 - (i + 1) % d = i + 1 ∧ (i + 1) % d = 0 := by
            have : (i + 1) % d = 0 := (succ_mod hd1 i).1 he
            omega
          simp only [he, if_true, fdV, seg_len]
          have e1 : ((d : Int) - 1).toNat = d - 1 := by omega
          have e2 : i - i % d + (d - 1) = i := by omega
          have e3 : ((i - i % d : Nat) : Int) = (i : Int) + 1 - d := by omega
          simp (disch := first | omega | (simp only [go_sem, List.length_append, List.length_take, List.length_drop, List.length_cons, List.length_nil] <;> omega)) only [go_sem, Nat.reduceAdd, Nat.reduceSub, Nat.reduceMul, Nat.reduceEqDiff, Nat.reduceLeDiff, Nat.reduceLT, Nat.reduceBEq, Int.reduceAdd, Int.reduceSub, Int.reduceMul, Int.reduceNeg, Int.reduceLT, Int.reduceLE, Int.reduceEq, Int.reduceToNat, hz, e1, e2, Nat.add_zero, e3, hpt]
          refine round_end (hJ _ _ _ ⟨i + 1, rfl, rfl, rfl, by omega⟩) (by omega) (by first | omega | (simp only [go_sem, List.length_append, List.length_take, List.length_drop, Nat.reduceAdd, Nat.reduceSub, Nat.reduceMul, Nat.reduceEqDiff, Nat.reduceLeDiff, Nat.reduceLT, Nat.reduceBEq, Int.reduceAdd, Int.reduceSub, Int.reduceMul, Int.reduceNeg, Int.reduceLT, Int.reduceLE, Int.reduceEq, Int.reduceToNat] <;> omega)) ?_ ?_
          · simp (disch := (simp only [go_sem, Nat.reduceAdd, Nat.reduceSub, Nat.reduceMul, Nat.reduceEqDiff, Nat.reduceLeDiff, Nat.reduceLT, Nat.reduceBEq, Int.reduceAdd, Int.reduceSub, Int.reduceMul, Int.reduceNeg, Int.reduceLT, Int.reduceLE, Int.reduceEq, Int.reduceToNat, hi0.2, seg_zero, List.map_nil] <;> omega)) only [go_sem, x_eLeS, x_hLeS, Int.natCast_zero, Int.natCast_add, Int.natCast_one, Nat.reduceAdd, Nat.reduceSub, Nat.reduceMul, Nat.reduceEqDiff, Nat.reduceLeDiff, Nat.reduceLT, Nat.reduceBEq, Int.reduceAdd, Int.reduceSub, Int.reduceMul, Int.reduceNeg, Int.reduceLT, Int.reduceLE, Int.reduceEq, Int.reduceToNat, hi0.2, seg_zero, List.map_nil]
          · exact hLe_app hw (by first | omega | (simp only [go_sem, List.length_append, List.length_take, List.length_drop, Nat.reduceAdd, Nat.reduceSub, Nat.reduceMul, Nat.reduceEqDiff, Nat.reduceLeDiff, Nat.reduceLT, Nat.reduceBEq, Int.reduceAdd, Int.reduceSub, Int.reduceMul, Int.reduceNeg, Int.reduceLT, Int.reduceLE, Int.reduceEq, Int.reduceToNat] <;> omega)) (by simp (disch := (simp only [go_sem, Nat.reduceAdd, Nat.reduceSub, Nat.reduceMul, Nat.reduceEqDiff, Nat.reduceLeDiff, Nat.reduceLT, Nat.reduceBEq, Int.reduceAdd, Int.reduceSub, Int.reduceMul, Int.reduceNeg, Int.reduceLT, Int.reduceLE, Int.reduceEq, Int.reduceToNat] <;> omega)) only [go_sem, x_eLeS, x_hLeS, Int.natCast_zero, Int.natCast_add, Int.natCast_one, Nat.reduceAdd, Nat.reduceSub, Nat.reduceMul, Nat.reduceEqDiff, Nat.reduceLeDiff, Nat.reduceLT, Nat.reduceBEq, Int.reduceAdd, Int.reduceSub, Int.reduceMul, Int.reduceNeg, Int.reduceLT, Int.reduceLE, Int.reduceEq, Int.reduceToNat])
        · have hz : ¬ ((i : Int) + 1) % d = 0 := by
            rw [hcast]
            intro hh
            have : (i + 1) % d = 0 := by omega
            exact he ((succ_mod hd1 i).2 this)
          have hi1' : (i + 1) % d = i % d + 1 := by
            rw [Nat.add_mod]
            rcases Nat.lt_or_ge d 2 with k | k
            · have : d = 1 := by omega
              subst this; simp [Nat.mod_one] at he
            · rw [Nat.mod_eq_of_lt (show 1 < d by omega), Nat.mod_eq_of_lt (by omega)]
          have hi0 : i + 1 - (i % d + 1) = i - i % d := by omega
          have hcast2 : ((i : Int) + 1) % (d : Int) = ((i % d : Nat) : Int) + 1 := by rw [hcast, hi1']; rfl
          simp only [he, if_false, fdV, seg_len]
          simp (disch := first | omega | (simp only [go_sem, List.length_append, List.length_take, List.length_drop, List.length_cons, List.length_nil] <;> omega)) only [go_sem, Nat.reduceAdd, Nat.reduceSub, Nat.reduceMul, Nat.reduceEqDiff, Nat.reduceLeDiff, Nat.reduceLT, Nat.reduceBEq, Int.reduceAdd, Int.reduceSub, Int.reduceMul, Int.reduceNeg, Int.reduceLT, Int.reduceLE, Int.reduceEq, Int.reduceToNat, hz, hpt, hcast2]
          refine round_end (hJ _ _ _ ⟨i + 1, rfl, rfl, rfl, by omega⟩) (by omega) (by first | omega | (simp only [go_sem, List.length_append, List.length_take, List.length_drop, Nat.reduceAdd, Nat.reduceSub, Nat.reduceMul, Nat.reduceEqDiff, Nat.reduceLeDiff, Nat.reduceLT, Nat.reduceBEq, Int.reduceAdd, Int.reduceSub, Int.reduceMul, Int.reduceNeg, Int.reduceLT, Int.reduceLE, Int.reduceEq, Int.reduceToNat] <;> omega)) ?_ ?_
          · simp (disch := (simp only [go_sem, Nat.reduceAdd, Nat.reduceSub, Nat.reduceMul, Nat.reduceEqDiff, Nat.reduceLeDiff, Nat.reduceLT, Nat.reduceBEq, Int.reduceAdd, Int.reduceSub, Int.reduceMul, Int.reduceNeg, Int.reduceLT, Int.reduceLE, Int.reduceEq, Int.reduceToNat, hi1', hi0] <;> omega)) only [go_sem, x_eLeS, x_hLeS, Int.natCast_zero, Int.natCast_add, Int.natCast_one, Nat.reduceAdd, Nat.reduceSub, Nat.reduceMul, Nat.reduceEqDiff, Nat.reduceLeDiff, Nat.reduceLT, Nat.reduceBEq, Int.reduceAdd, Int.reduceSub, Int.reduceMul, Int.reduceNeg, Int.reduceLT, Int.reduceLE, Int.reduceEq, Int.reduceToNat, hi1', hi0]
          · exact hLe_app hw (by first | omega | (simp only [go_sem, List.length_append, List.length_take, List.length_drop, Nat.reduceAdd, Nat.reduceSub, Nat.reduceMul, Nat.reduceEqDiff, Nat.reduceLeDiff, Nat.reduceLT, Nat.reduceBEq, Int.reduceAdd, Int.reduceSub, Int.reduceMul, Int.reduceNeg, Int.reduceLT, Int.reduceLE, Int.reduceEq, Int.reduceToNat] <;> omega)) (by simp (disch := (simp only [go_sem, Nat.reduceAdd, Nat.reduceSub, Nat.reduceMul, Nat.reduceEqDiff, Nat.reduceLeDiff, Nat.reduceLT, Nat.reduceBEq, Int.reduceAdd, Int.reduceSub, Int.reduceMul, Int.reduceNeg, Int.reduceLT, Int.reduceLE, Int.reduceEq, Int.reduceToNat] <;> omega)) only [go_sem, x_eLeS, x_hLeS, Int.natCast_zero, Int.natCast_add, Int.natCast_one, Nat.reduceAdd, Nat.reduceSub, Nat.reduceMul, Nat.reduceEqDiff, Nat.reduceLeDiff, Nat.reduceLT, Nat.reduceBEq, Int.reduceAdd, Int.reduceSub, Int.reduceMul, Int.reduceNeg, Int.reduceLT, Int.reduceLE, Int.reduceEq, Int.reduceToNat])
    · simp (disch := first | omega | (simp only [go_sem, List.length_append, List.length_take, List.length_drop, List.length_cons, List.length_nil] <;> omega)) only [go_sem, Nat.reduceAdd, Nat.reduceSub, Nat.reduceMul, Nat.reduceEqDiff, Nat.reduceLeDiff, Nat.reduceLT, Nat.reduceBEq, Int.reduceAdd, Int.reduceSub, Int.reduceMul, Int.reduceNeg, Int.reduceLT, Int.reduceLE, Int.reduceEq, Int.reduceToNat]
      refine awake_ok _ _ ?_
      simp (disch := first | omega | (simp only [go_sem, List.length_append, List.length_take, List.length_drop, List.length_cons, List.length_nil] <;> omega)) only [go_sem, Nat.reduceAdd, Nat.reduceSub, Nat.reduceMul, Nat.reduceEqDiff, Nat.reduceLeDiff, Nat.reduceLT, Nat.reduceBEq, Int.reduceAdd, Int.reduceSub, Int.reduceMul, Int.reduceNeg, Int.reduceLT, Int.reduceLE, Int.reduceEq, Int.reduceToNat]
      refine fin_tmp hw ?_ (fin_eq hK ?_)
      · simp (disch := first | omega | (simp only [go_sem, List.length_append, List.length_take, List.length_drop, List.length_cons, List.length_nil] <;> omega)) only [go_sem, Nat.reduceAdd, Nat.reduceSub, Nat.reduceMul, Nat.reduceEqDiff, Nat.reduceLeDiff, Nat.reduceLT, Nat.reduceBEq, Int.reduceAdd, Int.reduceSub, Int.reduceMul, Int.reduceNeg, Int.reduceLT, Int.reduceLE, Int.reduceEq, Int.reduceToNat]
      · simp (disch := first | omega | (simp only [go_sem, List.length_append, List.length_take, List.length_drop, List.length_cons, List.length_nil] <;> omega)) only [go_sem, Nat.reduceAdd, Nat.reduceSub, Nat.reduceMul, Nat.reduceEqDiff, Nat.reduceLeDiff, Nat.reduceLT, Nat.reduceBEq, Int.reduceAdd, Int.reduceSub, Int.reduceMul, Int.reduceNeg, Int.reduceLT, Int.reduceLE, Int.reduceEq, Int.reduceToNat]
end Go.Av
