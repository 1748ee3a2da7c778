/- A part of a way to reckon what a Go program does without its memory (E4). -/
import Derived.Test.YthonnheklgmkaaaE3
import Derived.Test.YthonnheklgmkaaaE0
namespace Go.Av
open Go
set_option autoImplicit false
set_option linter.all false
theorem idx_cons {α : Type} (p : α → Bool) (x : α) (X : List α) : idx p (x :: X) = if p x = true then 0 else if idx p X < 0 then -1 else idx p X + 1 := by
  unfold idx
  rw [List.findIdx?_cons]
  cases hx : p x
  · cases h : X.findIdx? p with
    | none => simp
    | some i =>
      have h1 : ¬ ((i : Int) < 0) := by omega
      simp [h1]
  · simp
theorem fold_done (th : Bool) (n : List UInt8) (v : Vl) : ∀ (L A : List Fd), L.foldl (pst th n v) (A, true) = (A ++ L, true)
  | [], A => by simp
  | f :: L, A => by
    rw [List.foldl_cons]
    have : pst th n v (A, true) f = (A ++ [f], true) := by cases th <;> simp [pst]
    rw [this, fold_done th n v L, List.append_assoc]
    rfl
theorem fold_set (n : List UInt8) (v : Vl) : ∀ (L A : List Fd), 0 ≤ idx (isN n) L → L.foldl (pst true n v) (A, false) = (A ++ L.set (idx (isN n) L).toNat (n, v), true)
  | [], A, h => by simp [idx] at h
  | f :: L, A, h => by
    rw [idx_cons] at h ⊢
    rw [List.foldl_cons]
    by_cases hf : f.1 = n
    · have h1 : isN n f = true := decide_eq_true hf
      have : pst true n v (A, false) f = (A ++ [(n, v)], true) := by simp [pst, hf]
      rw [this, fold_done, if_pos h1]
      simp
    · have h1 : ¬ isN n f = true := by simp [isN, hf]
      have : pst true n v (A, false) f = (A ++ [f], false) := by simp [pst, hf]
      rw [if_neg h1] at h ⊢
      by_cases h2 : idx (isN n) L < 0
      · rw [if_pos h2] at h; omega
      · rw [if_neg h2, this, fold_set n v L _ (by omega), show (idx (isN n) L + 1).toNat = (idx (isN n) L).toNat + 1 by omega]
        simp
theorem fold_ins (n : List UInt8) (v : Vl) : ∀ (L A : List Fd), 0 ≤ idx (aft n) L → L.foldl (pst false n v) (A, false) = (A ++ (L.take (idx (aft n) L).toNat ++ [(n, v)] ++ L.drop (idx (aft n) L).toNat), true)
  | [], A, h => by simp [idx] at h
  | f :: L, A, h => by
    rw [idx_cons] at h ⊢
    rw [List.foldl_cons]
    by_cases h1 : aft n f = true
    · have : pst false n v (A, false) f = (A ++ [(n, v)] ++ [f], true) := by simp [pst, h1]
      rw [this, fold_done, if_pos h1]
      simp
    · have : pst false n v (A, false) f = (A ++ [f], false) := by simp [pst, h1]
      rw [if_neg h1] at h ⊢
      by_cases h2 : idx (aft n) L < 0
      · rw [if_pos h2] at h; omega
      · rw [if_neg h2, this, fold_ins n v L _ (by omega), show (idx (aft n) L + 1).toNat = (idx (aft n) L).toNat + 1 by omega]
        simp
theorem fold_no (n : List UInt8) (v : Vl) : ∀ (L A : List Fd), idx (aft n) L < 0 → L.foldl (pst false n v) (A, false) = (A ++ L, false)
  | [], A, h => by simp
  | f :: L, A, h => by
    rw [idx_cons] at h
    rw [List.foldl_cons]
    by_cases h1 : aft n f = true
    · rw [if_pos h1] at h; omega
    · have : pst false n v (A, false) f = (A ++ [f], false) := by simp [pst, h1]
      rw [if_neg h1] at h
      by_cases h2 : idx (aft n) L < 0
      · rw [this, fold_no n v L _ h2]
        simp
      · rw [if_neg h2] at h; omega
theorem put_eq (e : Ev) (n : List UInt8) (v : Vl) : (e.1, e.2.1, e.2.2.1, putR (getE e n).2 n v e.2.2.2) = putE e n v := by
  unfold putE putR pfs putL
  by_cases h : 0 ≤ idx (isN n) e.2.2.2
  · have hg : (getE e n).2 = true := by simp [getE, find_some h]
    rw [hg, fold_set n v _ _ h, if_pos h]
    simp
  · have hg : (getE e n).2 = false := by simp [getE, find_none (show idx (isN n) e.2.2.2 < 0 by omega)]
    rw [hg, if_neg h]
    unfold plc
    by_cases h2 : 0 ≤ idx (aft n) e.2.2.2
    · rw [fold_ins n v _ _ h2, if_pos h2]
      simp
    · rw [fold_no n v _ _ (by omega), if_neg h2]
      simp
theorem fewE_len (e : Ev) : (fewE e).2.2.2.length ≤ 10 := by simp [fewE]; omega
theorem fewE_few (e : Ev) : fewE (fewE e) = fewE e := by
  have : fewF ∘ fewF = fewF := by
    funext f
    simp [fewF, fewV, List.take_take]
  simp [fewE, List.map_take, List.take_take, this]
theorem fewE_ok {e : Ev} (h : evOk e) : evOk (fewE e) := by
  obtain ⟨h1, h2, h3, h4⟩ := h
  refine ⟨by simp [fewE]; omega, by simp [fewE]; omega, by simp [fewE]; omega, fun f hf => ?_⟩
  simp only [fewE, List.mem_map] at hf
  obtain ⟨x, _, rfl⟩ := hf
  simp [fewF, fewV]
  omega
theorem law_puts {e : Ev} {n : List UInt8} {v : Vl} {H : List Entry} (he : evOk e) (hn : n.length ≤ 9223372036854775807) (hv : v.2.2.length ≤ 9223372036854775807) : Pure AP n_trystlaw04_EventPuts [evV e, .str n, vlV v] H (.bool true) := by
  intro K hK
  refine a_trystlaw04_EventPuts fun hw => ?_
  simp (disch := first | omega | (simp only [go_sem, true_and, and_true, List.length_append, List.length_take, List.length_set, List.length_drop, List.length_replicate, List.length_cons, List.length_nil, List.length_replicate] <;> omega)) only [go_sem, true_and, Nat.reduceAdd, Nat.reduceSub, Nat.reduceMul, Nat.reduceEqDiff, Nat.reduceLeDiff, Nat.reduceLT, Nat.reduceBEq, Int.reduceAdd, Int.reduceSub, Int.reduceMul, Int.reduceNeg, Int.reduceLT, Int.reduceLE, Int.reduceEq, Int.reduceToNat, c_trystlaw04_EventPuts]
  refine (s_Few4 he).dcall ?_
  simp (disch := first | omega | (simp only [go_sem, true_and, and_true, List.length_append, List.length_take, List.length_set, List.length_drop, List.length_replicate, List.length_cons, List.length_nil, List.length_replicate] <;> omega)) only [go_sem, true_and, Nat.reduceAdd, Nat.reduceSub, Nat.reduceMul, Nat.reduceEqDiff, Nat.reduceLeDiff, Nat.reduceLT, Nat.reduceBEq, Int.reduceAdd, Int.reduceSub, Int.reduceMul, Int.reduceNeg, Int.reduceLT, Int.reduceLE, Int.reduceEq, Int.reduceToNat]
  refine (s_Few2 hn).dcall ?_
  simp (disch := first | omega | (simp only [go_sem, true_and, and_true, List.length_append, List.length_take, List.length_set, List.length_drop, List.length_replicate, List.length_cons, List.length_nil, List.length_replicate] <;> omega)) only [go_sem, true_and, Nat.reduceAdd, Nat.reduceSub, Nat.reduceMul, Nat.reduceEqDiff, Nat.reduceLeDiff, Nat.reduceLT, Nat.reduceBEq, Int.reduceAdd, Int.reduceSub, Int.reduceMul, Int.reduceNeg, Int.reduceLT, Int.reduceLE, Int.reduceEq, Int.reduceToNat]
  refine (s_Few3 hv).dcall ?_
  have hok := fewE_ok he
  have hl := fewE_len e
  have hff := fewE_few e
  simp (disch := first | omega | (simp only [go_sem, true_and, and_true, List.length_append, List.length_take, List.length_set, List.length_drop, List.length_replicate, List.length_cons, List.length_nil, List.length_replicate] <;> omega)) only [go_sem, true_and, Nat.reduceAdd, Nat.reduceSub, Nat.reduceMul, Nat.reduceEqDiff, Nat.reduceLeDiff, Nat.reduceLT, Nat.reduceBEq, Int.reduceAdd, Int.reduceSub, Int.reduceMul, Int.reduceNeg, Int.reduceLT, Int.reduceLE, Int.reduceEq, Int.reduceToNat]
  generalize fewE e = E at *
  generalize fewV v = w at *
  generalize n.take 60 = m at *
  refine s_Few4 (e := E) hok _ ?_
  rw [hff]
  simp (disch := first | omega | (simp only [go_sem, true_and, and_true, List.length_append, List.length_take, List.length_set, List.length_drop, List.length_replicate, List.length_cons, List.length_nil, List.length_replicate] <;> omega)) only [go_sem, true_and, Nat.reduceAdd, Nat.reduceSub, Nat.reduceMul, Nat.reduceEqDiff, Nat.reduceLeDiff, Nat.reduceLT, Nat.reduceBEq, Int.reduceAdd, Int.reduceSub, Int.reduceMul, Int.reduceNeg, Int.reduceLT, Int.reduceLE, Int.reduceEq, Int.reduceToNat]
  refine s_Get (e := E) (by omega) _ ?_
  simp (disch := first | omega | (simp only [go_sem, true_and, and_true, List.length_append, List.length_take, List.length_set, List.length_drop, List.length_replicate, List.length_cons, List.length_nil, List.length_replicate] <;> omega)) only [go_sem, true_and, Nat.reduceAdd, Nat.reduceSub, Nat.reduceMul, Nat.reduceEqDiff, Nat.reduceLeDiff, Nat.reduceLT, Nat.reduceBEq, Int.reduceAdd, Int.reduceSub, Int.reduceMul, Int.reduceNeg, Int.reduceLT, Int.reduceLE, Int.reduceEq, Int.reduceToNat]
  refine r_Get (e := E) (by omega) _ ?_
  simp (disch := first | omega | (simp only [go_sem, true_and, and_true, List.length_append, List.length_take, List.length_set, List.length_drop, List.length_replicate, List.length_cons, List.length_nil, List.length_replicate] <;> omega)) only [go_sem, true_and, Nat.reduceAdd, Nat.reduceSub, Nat.reduceMul, Nat.reduceEqDiff, Nat.reduceLeDiff, Nat.reduceLT, Nat.reduceBEq, Int.reduceAdd, Int.reduceSub, Int.reduceMul, Int.reduceNeg, Int.reduceLT, Int.reduceLE, Int.reduceEq, Int.reduceToNat, beq_self_eq_true, decide_true]
  have hpl : (putL E.2.2.2 m w).length ≤ 1000000 := by
    unfold putL
    split <;> simp <;> omega
  refine (s_Put (e := E) (v := w) (by omega)).dcall ?_
  simp (disch := first | omega | (simp only [go_sem, true_and, and_true, List.length_append, List.length_take, List.length_set, List.length_drop, List.length_replicate, List.length_cons, List.length_nil, List.length_replicate] <;> omega)) only [go_sem, true_and, Nat.reduceAdd, Nat.reduceSub, Nat.reduceMul, Nat.reduceEqDiff, Nat.reduceLeDiff, Nat.reduceLT, Nat.reduceBEq, Int.reduceAdd, Int.reduceSub, Int.reduceMul, Int.reduceNeg, Int.reduceLT, Int.reduceLE, Int.reduceEq, Int.reduceToNat]
  refine (r_Put (e := E) (v := w) (by omega)).dcall ?_
  rw [put_eq]
  simp (disch := first | omega | (simp only [go_sem, true_and, and_true, List.length_append, List.length_take, List.length_set, List.length_drop, List.length_replicate, List.length_cons, List.length_nil, List.length_replicate] <;> omega)) only [go_sem, true_and, Nat.reduceAdd, Nat.reduceSub, Nat.reduceMul, Nat.reduceEqDiff, Nat.reduceLeDiff, Nat.reduceLT, Nat.reduceBEq, Int.reduceAdd, Int.reduceSub, Int.reduceMul, Int.reduceNeg, Int.reduceLT, Int.reduceLE, Int.reduceEq, Int.reduceToNat]
  refine (r_Same (a := putE E m w) (b := putE E m w) hpl hpl).dcall ?_
  rw [sameE_eq rfl]
  simp (disch := first | omega | (simp only [go_sem, true_and, and_true, List.length_append, List.length_take, List.length_set, List.length_drop, List.length_replicate, List.length_cons, List.length_nil, List.length_replicate] <;> omega)) only [go_sem, true_and, Nat.reduceAdd, Nat.reduceSub, Nat.reduceMul, Nat.reduceEqDiff, Nat.reduceLeDiff, Nat.reduceLT, Nat.reduceBEq, Int.reduceAdd, Int.reduceSub, Int.reduceMul, Int.reduceNeg, Int.reduceLT, Int.reduceLE, Int.reduceEq, Int.reduceToNat]
  refine (r_Same (a := E) (b := E) (by omega) (by omega)).dcall ?_
  rw [sameE_eq rfl]
  simp (disch := first | omega | (simp only [go_sem, true_and, and_true, List.length_append, List.length_take, List.length_set, List.length_drop, List.length_replicate, List.length_cons, List.length_nil, List.length_replicate] <;> omega)) only [go_sem, true_and, Nat.reduceAdd, Nat.reduceSub, Nat.reduceMul, Nat.reduceEqDiff, Nat.reduceLeDiff, Nat.reduceLT, Nat.reduceBEq, Int.reduceAdd, Int.reduceSub, Int.reduceMul, Int.reduceNeg, Int.reduceLT, Int.reduceLE, Int.reduceEq, Int.reduceToNat]
  refine (awake_ok _).dcall ?_
  simp (disch := first | omega | (simp only [go_sem, true_and, and_true, List.length_append, List.length_take, List.length_set, List.length_drop, List.length_replicate, List.length_cons, List.length_nil, List.length_replicate] <;> omega)) only [go_sem, true_and, Nat.reduceAdd, Nat.reduceSub, Nat.reduceMul, Nat.reduceEqDiff, Nat.reduceLeDiff, Nat.reduceLT, Nat.reduceBEq, Int.reduceAdd, Int.reduceSub, Int.reduceMul, Int.reduceNeg, Int.reduceLT, Int.reduceLE, Int.reduceEq, Int.reduceToNat]
  refine fin_tmp hw ?_ (fin_eq hK ?_)
  · simp (disch := first | omega | (simp only [go_sem, true_and, and_true, List.length_append, List.length_take, List.length_set, List.length_drop, List.length_replicate, List.length_cons, List.length_nil, List.length_replicate] <;> omega)) only [go_sem, true_and, Nat.reduceAdd, Nat.reduceSub, Nat.reduceMul, Nat.reduceEqDiff, Nat.reduceLeDiff, Nat.reduceLT, Nat.reduceBEq, Int.reduceAdd, Int.reduceSub, Int.reduceMul, Int.reduceNeg, Int.reduceLT, Int.reduceLE, Int.reduceEq, Int.reduceToNat]
  · simp (disch := first | omega | (simp only [go_sem, true_and, and_true, List.length_append, List.length_take, List.length_set, List.length_drop, List.length_replicate, List.length_cons, List.length_nil, List.length_replicate] <;> omega)) only [go_sem, true_and, Nat.reduceAdd, Nat.reduceSub, Nat.reduceMul, Nat.reduceEqDiff, Nat.reduceLeDiff, Nat.reduceLT, Nat.reduceBEq, Int.reduceAdd, Int.reduceSub, Int.reduceMul, Int.reduceNeg, Int.reduceLT, Int.reduceLE, Int.reduceEq, Int.reduceToNat]
end Go.Av
