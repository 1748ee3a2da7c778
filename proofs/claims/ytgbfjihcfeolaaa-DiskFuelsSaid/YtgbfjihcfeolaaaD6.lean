/- A part of a way to reckon what a Go program does without its memory (D6). -/
import Derived.Test.YtgbfjihcfeolaaaD5
namespace Go.Av
open Go
set_option autoImplicit false
set_option linter.all false
/-! ### The laws without the document's answer -/
def allB (c : Int) (n : Nat) : B8 := List.replicate (64 * n) (UInt8.ofNat c.toNat)
def rw8 (c : Int) (i N : Nat) : List V := List.replicate i (.int .u8 c) ++ List.replicate (N - i) (.int .u8 0)
theorem rw8_len (c : Int) (i N : Nat) (h : i ≤ N) : (rw8 c i N).length = N := by simp [rw8]; omega
theorem rw8_step (c : Int) (i N : Nat) (h : i < N) : (rw8 c i N).set i (.int .u8 c) = rw8 c (i + 1) N := by
  unfold rw8
  obtain ⟨k, hk⟩ : ∃ k, N - i = k + 1 := ⟨N - i - 1, by omega⟩
  rw [hk, show N - (i + 1) = k by omega, List.replicate_succ, List.set_append_right _ _ (by simp)]
  simp [List.replicate_succ']
theorem nth_getD : ∀ (l : List V) (i : Nat), nth l i = l.getD i .junk
  | [], _ => by simp [nth]
  | _ :: _, 0 => rfl
  | _ :: l, i + 1 => by simpa [nth] using nth_getD l i
theorem rw8_nth (c : Int) (i N : Nat) (h : i < N) : nth (rw8 c i N) i = .int .u8 0 := by
  rw [nth_getD]
  unfold rw8
  obtain ⟨k, hk⟩ : ∃ k, N - i = k + 1 := ⟨N - i - 1, by omega⟩
  rw [hk, List.replicate_succ]
  simp
theorem rw8_u8 (c : Int) (N : Nat) : allU8 (rw8 c N N) = true ∧ (rw8 c N N).map u8Of = List.replicate N (UInt8.ofNat c.toNat) := by
  unfold rw8
  rw [Nat.sub_self]
  refine ⟨?_, by simp [u8Of]⟩
  simp only [List.replicate_zero, List.append_nil]
  induction N with
  | zero => rfl
  | succ N ih => rw [List.replicate_succ, allU8, ih]; rfl
theorem s_All {c : Int} {n : Nat} {H : List Entry} (hc : 0 ≤ c ∧ c ≤ 255) (hn : n ≤ 1000) : Pure AP n_trystlaw17_All [.int .u8 c, .int .i64 (n : Int)] H (.str (allB c n)) := by
  intro K hK
  refine a_trystlaw17_All fun hw => ?_
  have e1 : (64 * (n : Int)).toNat = 64 * n := by omega
  simp (disch := first | omega | (simp only [go_sem, List.length_append, List.length_take, List.length_drop, List.length_replicate, List.length_cons, List.length_nil, List.length_replicate] <;> omega)) only [go_sem, true_and, Nat.reduceAdd, Nat.reduceSub, Nat.reduceMul, Nat.reduceEqDiff, Nat.reduceLeDiff, Nat.reduceLT, Nat.reduceBEq, Int.reduceAdd, Int.reduceSub, Int.reduceMul, Int.reduceNeg, Int.reduceLT, Int.reduceLE, Int.reduceEq, Int.reduceToNat, c_trystlaw17_All, e1]
  obtain ⟨N, hN⟩ : ∃ N : Nat, N = 64 * n := ⟨_, rfl⟩
  have e2 : (64 * (n : Int)) = (N : Int) := by omega
  rw [← hN]
  have e0 : List.replicate N (V.int .u8 0) = rw8 c 0 N := by simp [rw8]
  rw [e0]
  refine loop_in (fun m e H' => ∃ i : Nat, m = N - i ∧ e = slots 0 22 [(0, .int .u8 c), (4, .str []), (5, .own H.length N), (6, .int .i64 (i : Int))] ∧ H' = H ++ [.row 5 1 (rw8 c i N)] ∧ i ≤ N) (n := N) ⟨0, rfl, rfl, rfl, by omega⟩ (by first | omega | (simp only [go_sem, List.length_append, List.length_take, List.length_drop, List.length_replicate, true_and, Nat.reduceAdd, Nat.reduceSub, Nat.reduceMul, Nat.reduceEqDiff, Nat.reduceLeDiff, Nat.reduceLT, Nat.reduceBEq, Int.reduceAdd, Int.reduceSub, Int.reduceMul, Int.reduceNeg, Int.reduceLT, Int.reduceLE, Int.reduceEq, Int.reduceToNat] <;> omega)) ?_ ?_ ?_
  · simp (disch := (simp only [go_sem, true_and, Nat.reduceAdd, Nat.reduceSub, Nat.reduceMul, Nat.reduceEqDiff, Nat.reduceLeDiff, Nat.reduceLT, Nat.reduceBEq, Int.reduceAdd, Int.reduceSub, Int.reduceMul, Int.reduceNeg, Int.reduceLT, Int.reduceLE, Int.reduceEq, Int.reduceToNat] <;> omega)) only [go_sem, x_eLeS, x_hLeS, Int.natCast_zero, Int.natCast_add, Int.natCast_one, true_and, Nat.reduceAdd, Nat.reduceSub, Nat.reduceMul, Nat.reduceEqDiff, Nat.reduceLeDiff, Nat.reduceLT, Nat.reduceBEq, Int.reduceAdd, Int.reduceSub, Int.reduceMul, Int.reduceNeg, Int.reduceLT, Int.reduceLE, Int.reduceEq, Int.reduceToNat]
  · exact hLe_app hw (by first | omega | (simp only [go_sem, List.length_append, List.length_take, List.length_drop, List.length_replicate, true_and, Nat.reduceAdd, Nat.reduceSub, Nat.reduceMul, Nat.reduceEqDiff, Nat.reduceLeDiff, Nat.reduceLT, Nat.reduceBEq, Int.reduceAdd, Int.reduceSub, Int.reduceMul, Int.reduceNeg, Int.reduceLT, Int.reduceLE, Int.reduceEq, Int.reduceToNat] <;> omega)) (by simp (disch := (simp only [go_sem, true_and, Nat.reduceAdd, Nat.reduceSub, Nat.reduceMul, Nat.reduceEqDiff, Nat.reduceLeDiff, Nat.reduceLT, Nat.reduceBEq, Int.reduceAdd, Int.reduceSub, Int.reduceMul, Int.reduceNeg, Int.reduceLT, Int.reduceLE, Int.reduceEq, Int.reduceToNat] <;> omega)) only [go_sem, x_eLeS, x_hLeS, Int.natCast_zero, Int.natCast_add, Int.natCast_one, true_and, Nat.reduceAdd, Nat.reduceSub, Nat.reduceMul, Nat.reduceEqDiff, Nat.reduceLeDiff, Nat.reduceLT, Nat.reduceBEq, Int.reduceAdd, Int.reduceSub, Int.reduceMul, Int.reduceNeg, Int.reduceLT, Int.reduceLE, Int.reduceEq, Int.reduceToNat])
  · rintro J hJ m e H' ⟨i, rfl, rfl, rfl, hi⟩
    have hl := rw8_len c i N hi
    simp (disch := first | omega | (simp only [go_sem, List.length_append, List.length_take, List.length_drop, List.length_replicate, List.length_cons, List.length_nil, List.length_replicate] <;> omega)) only [go_sem, true_and, Nat.reduceAdd, Nat.reduceSub, Nat.reduceMul, Nat.reduceEqDiff, Nat.reduceLeDiff, Nat.reduceLT, Nat.reduceBEq, Int.reduceAdd, Int.reduceSub, Int.reduceMul, Int.reduceNeg, Int.reduceLT, Int.reduceLE, Int.reduceEq, Int.reduceToNat]
    by_cases h : (i : Int) < N
    · have e3 := rw8_step c i N (by omega)
      have e4 := rw8_nth c i N (by omega)
      simp (disch := first | omega | (simp only [go_sem, List.length_append, List.length_take, List.length_drop, List.length_replicate, List.length_cons, List.length_nil, List.length_replicate] <;> omega)) only [go_sem, true_and, Nat.reduceAdd, Nat.reduceSub, Nat.reduceMul, Nat.reduceEqDiff, Nat.reduceLeDiff, Nat.reduceLT, Nat.reduceBEq, Int.reduceAdd, Int.reduceSub, Int.reduceMul, Int.reduceNeg, Int.reduceLT, Int.reduceLE, Int.reduceEq, Int.reduceToNat, e3, e4]
      refine round_end (hJ _ _ _ ⟨i + 1, rfl, rfl, rfl, by omega⟩) (by omega) (by first | omega | (simp only [go_sem, List.length_append, List.length_take, List.length_drop, List.length_replicate, true_and, Nat.reduceAdd, Nat.reduceSub, Nat.reduceMul, Nat.reduceEqDiff, Nat.reduceLeDiff, Nat.reduceLT, Nat.reduceBEq, Int.reduceAdd, Int.reduceSub, Int.reduceMul, Int.reduceNeg, Int.reduceLT, Int.reduceLE, Int.reduceEq, Int.reduceToNat] <;> omega)) ?_ ?_
      · simp (disch := (simp only [go_sem, true_and, Nat.reduceAdd, Nat.reduceSub, Nat.reduceMul, Nat.reduceEqDiff, Nat.reduceLeDiff, Nat.reduceLT, Nat.reduceBEq, Int.reduceAdd, Int.reduceSub, Int.reduceMul, Int.reduceNeg, Int.reduceLT, Int.reduceLE, Int.reduceEq, Int.reduceToNat] <;> omega)) only [go_sem, x_eLeS, x_hLeS, Int.natCast_zero, Int.natCast_add, Int.natCast_one, true_and, Nat.reduceAdd, Nat.reduceSub, Nat.reduceMul, Nat.reduceEqDiff, Nat.reduceLeDiff, Nat.reduceLT, Nat.reduceBEq, Int.reduceAdd, Int.reduceSub, Int.reduceMul, Int.reduceNeg, Int.reduceLT, Int.reduceLE, Int.reduceEq, Int.reduceToNat]
      · exact hLe_app hw (by first | omega | (simp only [go_sem, List.length_append, List.length_take, List.length_drop, List.length_replicate, true_and, Nat.reduceAdd, Nat.reduceSub, Nat.reduceMul, Nat.reduceEqDiff, Nat.reduceLeDiff, Nat.reduceLT, Nat.reduceBEq, Int.reduceAdd, Int.reduceSub, Int.reduceMul, Int.reduceNeg, Int.reduceLT, Int.reduceLE, Int.reduceEq, Int.reduceToNat] <;> omega)) (by simp (disch := (simp only [go_sem, true_and, Nat.reduceAdd, Nat.reduceSub, Nat.reduceMul, Nat.reduceEqDiff, Nat.reduceLeDiff, Nat.reduceLT, Nat.reduceBEq, Int.reduceAdd, Int.reduceSub, Int.reduceMul, Int.reduceNeg, Int.reduceLT, Int.reduceLE, Int.reduceEq, Int.reduceToNat] <;> omega)) only [go_sem, x_eLeS, x_hLeS, Int.natCast_zero, Int.natCast_add, Int.natCast_one, true_and, Nat.reduceAdd, Nat.reduceSub, Nat.reduceMul, Nat.reduceEqDiff, Nat.reduceLeDiff, Nat.reduceLT, Nat.reduceBEq, Int.reduceAdd, Int.reduceSub, Int.reduceMul, Int.reduceNeg, Int.reduceLT, Int.reduceLE, Int.reduceEq, Int.reduceToNat])
    · have hi : i = N := by omega
      subst hi
      obtain ⟨k1, k2⟩ := rw8_u8 c i
      simp (disch := first | omega | (simp only [go_sem, List.length_append, List.length_take, List.length_drop, List.length_replicate, List.length_cons, List.length_nil, List.length_replicate] <;> omega)) only [go_sem, true_and, Nat.reduceAdd, Nat.reduceSub, Nat.reduceMul, Nat.reduceEqDiff, Nat.reduceLeDiff, Nat.reduceLT, Nat.reduceBEq, Int.reduceAdd, Int.reduceSub, Int.reduceMul, Int.reduceNeg, Int.reduceLT, Int.reduceLE, Int.reduceEq, Int.reduceToNat, k1, k2]
      refine fin_tmp hw ?_ (fin_eq hK ?_)
      · simp (disch := first | omega | (simp only [go_sem, List.length_append, List.length_take, List.length_drop, List.length_replicate, List.length_cons, List.length_nil, List.length_replicate] <;> omega)) only [go_sem, true_and, Nat.reduceAdd, Nat.reduceSub, Nat.reduceMul, Nat.reduceEqDiff, Nat.reduceLeDiff, Nat.reduceLT, Nat.reduceBEq, Int.reduceAdd, Int.reduceSub, Int.reduceMul, Int.reduceNeg, Int.reduceLT, Int.reduceLE, Int.reduceEq, Int.reduceToNat]
      · simp (disch := first | omega | (simp only [go_sem, List.length_append, List.length_take, List.length_drop, List.length_replicate, List.length_cons, List.length_nil, List.length_replicate] <;> omega)) only [go_sem, true_and, Nat.reduceAdd, Nat.reduceSub, Nat.reduceMul, Nat.reduceEqDiff, Nat.reduceLeDiff, Nat.reduceLT, Nat.reduceBEq, Int.reduceAdd, Int.reduceSub, Int.reduceMul, Int.reduceNeg, Int.reduceLT, Int.reduceLE, Int.reduceEq, Int.reduceToNat]
        unfold allB
        rw [hN]
theorem all_len (c : Int) (n : Nat) : (allB c n).length = 64 * n := by simp [allB]
theorem all_slc (c : Int) (n i : Nat) (h : i < n) : slc64 (allB c n) i = allB c 1 := by
  unfold slc64 allB
  rw [List.take_replicate, List.drop_replicate]
  congr 1
  omega
theorem may_of {X : List B8} {Q : List Wt} {f : Int} {o : Bool} (h1 : 1 ≤ X.length ∧ X.length ≤ 6000) (h2 : -1 ≤ f) (h3 : ∀ x ∈ X, x.length = 64) (h4 : ∀ w ∈ Q, 0 ≤ w.1 ∧ w.1 < X.length ∧ w.2.length = 64) : mayD (X, Q, f, o) = true := by
  rw [mayD_R]
  simp only [mayR, cntB, Bool.and_eq_true, decide_eq_true_eq, List.all_eq_true, rightC, rightW]
  exact ⟨⟨⟨by omega, by omega⟩, h2⟩, h3, fun w hw => ⟨(h4 w hw).1, (h4 w hw).2.1, (h4 w hw).2.2⟩⟩
theorem hasC_of {L : Nat} {p n : Int} (h : 0 ≤ p ∧ 0 ≤ n ∧ p ≤ L ∧ n ≤ L - p) : hasC L p n = true := by
  simp [hasC]; omega
/-- The writes of so many cells that are all the same. -/
theorem write_all {X : List B8} {Q : List Wt} {o : Bool} {c p : Int} {n : Nat} (hm : mayD (X, Q, -1, o) = true) (ho : o = false) (hn : 1 ≤ n) (hp : 0 ≤ p ∧ p + n ≤ X.length) :
    writeD (X, Q, -1, o) p (allB c n) = ((X, Q ++ (List.range n).map (fun i : Nat => (p + (i : Int), allB c 1)), -1, o), 0) := by
  subst ho
  have h1 : allB c n ≠ [] := by
    intro h
    have := congrArg List.length h
    rw [all_len] at this; simp at this; omega
  unfold writeD
  rw [hm, all_len, Nat.mul_div_cancel_left _ (by decide : 0 < 64), hasC_of (by simp only; omega)]
  simp only [h1, decide_false, Bool.not_false, Bool.true_and, Nat.mul_mod_right, decide_true, if_true]
  have key : ∀ (k i : Nat) (R : List Wt), i + k = n → wr p (allB c n) i k (X, R, -1, false) = ((X, R ++ (List.range' i k).map (fun i : Nat => (p + (i : Int), allB c 1)), -1, false), 0) := by
    intro k
    induction k with
    | zero => intro i R _; simp [wr]
    | succ k ih =>
      intro i R hi
      have hb : burnO (X, R, -1, false) = true := rfl
      have hd : pushD (burnD (X, R, -1, false)) (p + i, slc64 (allB c n) i) = (X, R ++ [(p + (i : Int), allB c 1)], -1, false) := by
        rw [all_slc c n i (by omega)]; rfl
      rw [wr, if_pos hb, hd, ih (i + 1) _ (by omega), List.range'_succ]
      simp
  rw [key n 0 Q (by omega), List.range_eq_range']
theorem tears_pure (o a cut : Int) : 
    ((newD 2).2 = 0) ∧ writeD (newD 2).1 0 (allB o 2) = (([zs, zs], [(0, allB o 1), (1, allB o 1)], -1, false), 0) ∧
    flushD ([zs, zs], [(0, allB o 1), (1, allB o 1)], -1, false) = (([allB o 1, allB o 1], [], -1, false), 0) ∧
    writeD ([allB o 1, allB o 1], [], -1, false) 1 (allB a 1) = (([allB o 1, allB o 1], [(1, allB a 1)], -1, false), 0) ∧
    crashD ([allB o 1, allB o 1], [(1, allB a 1)], -1, false) (0, 0, cut) = ([allB o 1, (allB a 1).take (clampN cut) ++ (allB o 1).drop (clampN cut)], [], -1, false) := by
  have hn : newD 2 = (([zs, zs], [], -1, false), 0) := rfl
  have l1 := all_len o 1
  have l2 := all_len a 1
  have lz := zs_len
  have m1 : mayD ([zs, zs], [], -1, false) = true := may_of (by simp) (by omega) (by simp [lz]) (by simp)
  have m2 : mayD ([zs, zs], [(0, allB o 1), (1, allB o 1)], -1, false) = true := may_of (by simp) (by omega) (by simp [lz]) (by simp [l1])
  have m3 : mayD ([allB o 1, allB o 1], [], -1, false) = true := may_of (by simp) (by omega) (by simp [l1]) (by simp)
  have m4 : mayD ([allB o 1, allB o 1], [(1, allB a 1)], -1, false) = true := may_of (by simp) (by omega) (by simp [l1]) (by simp [l2])
  refine ⟨rfl, ?_, ?_, ?_, ?_⟩
  · rw [hn, write_all m1 rfl (by omega) (by simp)]; rfl
  · unfold flushD; rw [m2]; rfl
  · rw [write_all m3 rfl (by omega) (by simp)]; rfl
  · unfold crashD; rw [m4]; rfl
set_option maxHeartbeats 1000000 in
theorem law_tears {o a cut : Int} {H : List Entry} (ho : 0 ≤ o ∧ o ≤ 255) (ha : 0 ≤ a ∧ a ≤ 255) (hc : -9223372036854775808 ≤ cut ∧ cut ≤ 9223372036854775807) : Pure AP n_trystlaw17_DiskTears [.int .u8 o, .int .u8 a, .int .i64 cut] H (.bool true) := by
  intro K hK
  refine a_trystlaw17_DiskTears fun hw => ?_
  obtain ⟨t1, t2, t3, t4, t5⟩ := tears_pure o a cut
  have l1 := all_len o 1
  have l2 := all_len a 1
  have hA := fun (c : Int) (n : Nat) (H : List Entry) (hc : 0 ≤ c ∧ c ≤ 255) (hn : n ≤ 1000) => s_All (c := c) (n := n) (H := H) hc hn
  have fN : DFits (newD 2).1 := ⟨by decide, by decide, by decide, by decide⟩
  have fz2 : DFits ([zs, zs], [(0, allB o 1), (1, allB o 1)], -1, false) := ⟨by simp, by simp, by simp, by simp⟩
  have fo2 : DFits ([allB o 1, allB o 1], [], -1, false) := ⟨by simp, by simp, by simp, by simp⟩
  have fo3 : DFits ([allB o 1, allB o 1], [(1, allB a 1)], -1, false) := ⟨by simp, by simp, by simp, by simp⟩
  have hc0 : ∃ q : Nat, q ≤ 64 ∧ clampN cut = q := ⟨clampN cut, by unfold clampN; omega, rfl⟩
  simp (disch := first | omega | (simp only [go_sem, List.length_append, List.length_take, List.length_drop, List.length_replicate, List.length_cons, List.length_nil, List.length_replicate] <;> omega)) only [go_sem, true_and, Nat.reduceAdd, Nat.reduceSub, Nat.reduceMul, Nat.reduceEqDiff, Nat.reduceLeDiff, Nat.reduceLT, Nat.reduceBEq, Int.reduceAdd, Int.reduceSub, Int.reduceMul, Int.reduceNeg, Int.reduceLT, Int.reduceLE, Int.reduceEq, Int.reduceToNat, c_trystlaw17_DiskTears]
  refine s_New (n := 2) _ ?_
  obtain ⟨⟨⟨X0, Q0, f0, o0⟩, e0⟩, hr⟩ : ∃ r, newD 2 = r := ⟨_, rfl⟩
  rw [hr] at t1 t2 fN ⊢
  replace t1 : e0 = 0 := t1
  replace t2 : writeD (X0, Q0, f0, o0) 0 (allB o 2) = _ := t2
  replace fN : DFits (X0, Q0, f0, o0) := fN
  subst t1
  simp (disch := first | omega | (simp only [go_sem, List.length_append, List.length_take, List.length_drop, List.length_replicate, List.length_cons, List.length_nil, List.length_replicate] <;> omega)) only [go_sem, true_and, Nat.reduceAdd, Nat.reduceSub, Nat.reduceMul, Nat.reduceEqDiff, Nat.reduceLeDiff, Nat.reduceLT, Nat.reduceBEq, Int.reduceAdd, Int.reduceSub, Int.reduceMul, Int.reduceNeg, Int.reduceLT, Int.reduceLE, Int.reduceEq, Int.reduceToNat]
  refine (hA o 2 _ ho (by omega)).dcall ?_
  simp (disch := first | omega | (simp only [go_sem, List.length_append, List.length_take, List.length_drop, List.length_replicate, List.length_cons, List.length_nil, List.length_replicate] <;> omega)) only [go_sem, true_and, Nat.reduceAdd, Nat.reduceSub, Nat.reduceMul, Nat.reduceEqDiff, Nat.reduceLeDiff, Nat.reduceLT, Nat.reduceBEq, Int.reduceAdd, Int.reduceSub, Int.reduceMul, Int.reduceNeg, Int.reduceLT, Int.reduceLE, Int.reduceEq, Int.reduceToNat]
  refine (s_Write (d := (X0, Q0, f0, o0)) (p := 0) (s := allB o 2) fN (by omega) (by rw [all_len]; omega)).dcall ?_
  rw [t2]
  simp (disch := first | omega | (simp only [go_sem, List.length_append, List.length_take, List.length_drop, List.length_replicate, List.length_cons, List.length_nil, List.length_replicate] <;> omega)) only [go_sem, true_and, Nat.reduceAdd, Nat.reduceSub, Nat.reduceMul, Nat.reduceEqDiff, Nat.reduceLeDiff, Nat.reduceLT, Nat.reduceBEq, Int.reduceAdd, Int.reduceSub, Int.reduceMul, Int.reduceNeg, Int.reduceLT, Int.reduceLE, Int.reduceEq, Int.reduceToNat]
  refine s_Flush (d := ([zs, zs], [(0, allB o 1), (1, allB o 1)], -1, false)) fz2 _ ?_
  rw [t3]
  simp (disch := first | omega | (simp only [go_sem, List.length_append, List.length_take, List.length_drop, List.length_replicate, List.length_cons, List.length_nil, List.length_replicate] <;> omega)) only [go_sem, true_and, Nat.reduceAdd, Nat.reduceSub, Nat.reduceMul, Nat.reduceEqDiff, Nat.reduceLeDiff, Nat.reduceLT, Nat.reduceBEq, Int.reduceAdd, Int.reduceSub, Int.reduceMul, Int.reduceNeg, Int.reduceLT, Int.reduceLE, Int.reduceEq, Int.reduceToNat]
  refine Pure.pcall (fun H => hA a 1 H ha (by omega)) ?_
  simp (disch := first | omega | (simp only [go_sem, List.length_append, List.length_take, List.length_drop, List.length_replicate, List.length_cons, List.length_nil, List.length_replicate] <;> omega)) only [go_sem, true_and, Nat.reduceAdd, Nat.reduceSub, Nat.reduceMul, Nat.reduceEqDiff, Nat.reduceLeDiff, Nat.reduceLT, Nat.reduceBEq, Int.reduceAdd, Int.reduceSub, Int.reduceMul, Int.reduceNeg, Int.reduceLT, Int.reduceLE, Int.reduceEq, Int.reduceToNat]
  refine Pure.pcall (fun H => s_Write (d := ([allB o 1, allB o 1], [], -1, false)) (p := 1) (s := allB a 1) (H := H) fo2 (by omega) (by rw [all_len]; omega)) ?_
  rw [t4]
  simp (disch := first | omega | (simp only [go_sem, List.length_append, List.length_take, List.length_drop, List.length_replicate, List.length_cons, List.length_nil, List.length_replicate] <;> omega)) only [go_sem, true_and, Nat.reduceAdd, Nat.reduceSub, Nat.reduceMul, Nat.reduceEqDiff, Nat.reduceLeDiff, Nat.reduceLT, Nat.reduceBEq, Int.reduceAdd, Int.reduceSub, Int.reduceMul, Int.reduceNeg, Int.reduceLT, Int.reduceLE, Int.reduceEq, Int.reduceToNat]
  refine s_Crash (d := ([allB o 1, allB o 1], [(1, allB a 1)], -1, false)) (l := (0, 0, cut)) fo3 (by simp) _ ?_
  rw [t5]
  obtain ⟨q, hq, hcq⟩ := hc0
  rw [hcq]
  have lA : (allB o 1).length = 64 := l1
  have lB : (allB a 1).length = 64 := l2
  have hq3 : (cut < 0 ∧ q = 0) ∨ (¬ cut < 0 ∧ 64 < cut ∧ q = 64) ∨ (¬ cut < 0 ∧ ¬ 64 < cut ∧ cut = q) := by unfold clampN at hcq; omega
  have tk0 : (allB o 1).take 64 = allB o 1 := List.take_of_length_le (by omega)
  have tk : ∀ (s : B8), s.length = 64 → (s.take 64).drop q = s.drop q := fun s hs => by rw [List.take_of_length_le (by omega)]
  rcases hq3 with ⟨c1, c2⟩ | ⟨c1, c3, c2⟩ | ⟨c1, c3, c2⟩
  all_goals
    subst c2
    simp (disch := first | omega | (simp only [go_sem, List.length_append, List.length_take, List.length_drop, List.length_replicate, List.length_cons, List.length_nil, List.length_replicate] <;> omega)) only [go_sem, true_and, Nat.reduceAdd, Nat.reduceSub, Nat.reduceMul, Nat.reduceEqDiff, Nat.reduceLeDiff, Nat.reduceLT, Nat.reduceBEq, Int.reduceAdd, Int.reduceSub, Int.reduceMul, Int.reduceNeg, Int.reduceLT, Int.reduceLE, Int.reduceEq, Int.reduceToNat, List.getD_cons_zero, List.getD_cons_succ]
    refine (hA o 1 _ ho (by omega)).dcall ?_
    simp (disch := first | omega | (simp only [go_sem, List.length_append, List.length_take, List.length_drop, List.length_replicate, List.length_cons, List.length_nil, List.length_replicate] <;> omega)) only [go_sem, true_and, Nat.reduceAdd, Nat.reduceSub, Nat.reduceMul, Nat.reduceEqDiff, Nat.reduceLeDiff, Nat.reduceLT, Nat.reduceBEq, Int.reduceAdd, Int.reduceSub, Int.reduceMul, Int.reduceNeg, Int.reduceLT, Int.reduceLE, Int.reduceEq, Int.reduceToNat, List.getD_cons_zero, List.getD_cons_succ]
    refine (hA a 1 _ ha (by omega)).dcall ?_
    simp (disch := first | omega | (simp only [go_sem, List.length_append, List.length_take, List.length_drop, List.length_replicate, List.length_cons, List.length_nil, List.length_replicate] <;> omega)) only [go_sem, true_and, Nat.reduceAdd, Nat.reduceSub, Nat.reduceMul, Nat.reduceEqDiff, Nat.reduceLeDiff, Nat.reduceLT, Nat.reduceBEq, Int.reduceAdd, Int.reduceSub, Int.reduceMul, Int.reduceNeg, Int.reduceLT, Int.reduceLE, Int.reduceEq, Int.reduceToNat, List.getD_cons_zero, List.getD_cons_succ]
    refine (hA o 1 _ ho (by omega)).dcall ?_
    simp (disch := first | omega | (simp only [go_sem, List.length_append, List.length_take, List.length_drop, List.length_replicate, List.length_cons, List.length_nil, List.length_replicate] <;> omega)) only [go_sem, true_and, Nat.reduceAdd, Nat.reduceSub, Nat.reduceMul, Nat.reduceEqDiff, Nat.reduceLeDiff, Nat.reduceLT, Nat.reduceBEq, Int.reduceAdd, Int.reduceSub, Int.reduceMul, Int.reduceNeg, Int.reduceLT, Int.reduceLE, Int.reduceEq, Int.reduceToNat, List.getD_cons_zero, List.getD_cons_succ, lA, lB, tk0, List.take_zero, List.drop_zero, List.nil_append, List.append_nil]
    refine (awake_ok _).dcall ?_
    simp (disch := first | omega | (simp only [go_sem, List.length_append, List.length_take, List.length_drop, List.length_replicate, List.length_cons, List.length_nil, List.length_replicate] <;> omega)) only [go_sem, true_and, Nat.reduceAdd, Nat.reduceSub, Nat.reduceMul, Nat.reduceEqDiff, Nat.reduceLeDiff, Nat.reduceLT, Nat.reduceBEq, Int.reduceAdd, Int.reduceSub, Int.reduceMul, Int.reduceNeg, Int.reduceLT, Int.reduceLE, Int.reduceEq, Int.reduceToNat]
    refine fin_tmp hw ?_ (fin_eq hK ?_)
    · simp (disch := first | omega | (simp only [go_sem, List.length_append, List.length_take, List.length_drop, List.length_replicate, List.length_cons, List.length_nil, List.length_replicate] <;> omega)) only [go_sem, true_and, Nat.reduceAdd, Nat.reduceSub, Nat.reduceMul, Nat.reduceEqDiff, Nat.reduceLeDiff, Nat.reduceLT, Nat.reduceBEq, Int.reduceAdd, Int.reduceSub, Int.reduceMul, Int.reduceNeg, Int.reduceLT, Int.reduceLE, Int.reduceEq, Int.reduceToNat]
    · simp (disch := first | omega | (simp only [go_sem, List.length_append, List.length_take, List.length_drop, List.length_replicate, List.length_cons, List.length_nil, List.length_replicate] <;> omega)) only [go_sem, true_and, Nat.reduceAdd, Nat.reduceSub, Nat.reduceMul, Nat.reduceEqDiff, Nat.reduceLeDiff, Nat.reduceLT, Nat.reduceBEq, Int.reduceAdd, Int.reduceSub, Int.reduceMul, Int.reduceNeg, Int.reduceLT, Int.reduceLE, Int.reduceEq, Int.reduceToNat]
end Go.Av
