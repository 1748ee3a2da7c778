/- A part of a way to reckon what a Go program does without its memory (E8a). -/
import Derived.Test.YthonnheklgmkaaaE5
import Derived.Test.YthonnheklgmkaaaNmRD
namespace Go.Av
open Go
set_option autoImplicit false
set_option linter.all false
theorem r_Topic {s : List UInt8} {H : List Entry} (hs : s.length ≤ 60) : Pure AP n_trystref02_Topic [.str s] H (.bool (topicB s)) :=
  str_bool (by kernel_rfl) fun w => Go.Proofs.Ythonnheklgmkaaa.rtopic_any ⟨s.toArray⟩ w (by show s.toArray.size ≤ 60; simpa using hs)
theorem idxB_none : ∀ (s : List UInt8) (c : UInt8), (∀ j < s.length, s.getD j 0 ≠ c) → Lib.indexByte s c = -1
  | [], _, _ => rfl
  | b :: s, c, h => by
    have h0 : ¬ b = c := by simpa using h 0 (by simp)
    have ih := idxB_none s c fun j hj => by simpa using h (j + 1) (by simpa using hj)
    simp [Lib.indexByte, h0, ih]
theorem idxB_some : ∀ (s : List UInt8) (c : UInt8) (j : Nat), j < s.length → s.getD j 0 = c → 0 ≤ Lib.indexByte s c
  | [], _, _, h, _ => by simp at h
  | b :: s, c, 0, _, h => by
    have : b = c := by simpa using h
    simp [Lib.indexByte, this]
  | b :: s, c, j + 1, h, e => by
    have ih := idxB_some s c j (by simpa using h) (by simpa using e)
    rw [Lib.indexByte]
    split
    · omega
    · split
      · rename_i k; rw [beq_iff_eq] at k; omega
      · omega
theorem r_Field {s : List UInt8} {H : List Entry} (hs : s.length ≤ 60) : Pure AP n_trystref04_Field [.str s] H (.bool (fieldB s)) := by
  intro K hK
  refine a_trystref04_Field fun hw => ?_
  simp (disch := first | omega | (simp only [go_sem, true_and, and_true, List.length_append, List.length_take, List.length_set, List.length_drop, List.length_replicate, List.length_cons, List.length_nil, List.length_replicate] <;> omega)) only [go_sem, true_and, Nat.reduceAdd, Nat.reduceSub, Nat.reduceMul, Nat.reduceEqDiff, Nat.reduceLeDiff, Nat.reduceLT, Nat.reduceBEq, Int.reduceAdd, Int.reduceSub, Int.reduceMul, Int.reduceNeg, Int.reduceLT, Int.reduceLE, Int.reduceEq, Int.reduceToNat, c_trystref04_Field]
  refine loop_in (fun m e' H' => ∃ i : Nat, m = s.length - i ∧ e' = slots 0 21 [(0, .str s), (3, .int .i64 (i : Int))] ∧ H' = H ∧ i ≤ s.length ∧ ∀ j < i, s.getD j 0 ≠ 46) (n := s.length) ⟨0, rfl, rfl, rfl, by omega, fun j hj => by omega⟩ (Nat.le_refl _) ?_ hw ?_
  · simp (disch := (simp only [go_sem, true_and, Nat.reduceAdd, Nat.reduceSub, Nat.reduceMul, Nat.reduceEqDiff, Nat.reduceLeDiff, Nat.reduceLT, Nat.reduceBEq, Int.reduceAdd, Int.reduceSub, Int.reduceMul, Int.reduceNeg, Int.reduceLT, Int.reduceLE, Int.reduceEq, Int.reduceToNat] <;> omega)) only [go_sem, x_eLeS, x_hLeS, Int.natCast_zero, Int.natCast_add, Int.natCast_one, true_and, Nat.reduceAdd, Nat.reduceSub, Nat.reduceMul, Nat.reduceEqDiff, Nat.reduceLeDiff, Nat.reduceLT, Nat.reduceBEq, Int.reduceAdd, Int.reduceSub, Int.reduceMul, Int.reduceNeg, Int.reduceLT, Int.reduceLE, Int.reduceEq, Int.reduceToNat]
  · rintro J hJ m e' H' ⟨i, rfl, rfl, rfl, hi1, hn⟩
    simp (disch := first | omega | (simp only [go_sem, true_and, and_true, List.length_append, List.length_take, List.length_set, List.length_drop, List.length_replicate, List.length_cons, List.length_nil, List.length_replicate] <;> omega)) only [go_sem, true_and, Nat.reduceAdd, Nat.reduceSub, Nat.reduceMul, Nat.reduceEqDiff, Nat.reduceLeDiff, Nat.reduceLT, Nat.reduceBEq, Int.reduceAdd, Int.reduceSub, Int.reduceMul, Int.reduceNeg, Int.reduceLT, Int.reduceLE, Int.reduceEq, Int.reduceToNat]
    by_cases h : (i : Int) < s.length
    · by_cases hp : s.getD i 0 = 46
      · have ho : octet s i = 46 := by simp only [octet, hp]; rfl
        have hc : hasC s 46 = true := decide_eq_true (idxB_some s 46 i (by omega) hp)
        have hf : fieldB s = false := by unfold fieldB; rw [hc]; simp
        simp (disch := first | omega | (simp only [go_sem, true_and, and_true, List.length_append, List.length_take, List.length_set, List.length_drop, List.length_replicate, List.length_cons, List.length_nil, List.length_replicate] <;> omega)) only [go_sem, true_and, Nat.reduceAdd, Nat.reduceSub, Nat.reduceMul, Nat.reduceEqDiff, Nat.reduceLeDiff, Nat.reduceLT, Nat.reduceBEq, Int.reduceAdd, Int.reduceSub, Int.reduceMul, Int.reduceNeg, Int.reduceLT, Int.reduceLE, Int.reduceEq, Int.reduceToNat, ho, decide_true]
        refine fin_tmp0 hw ?_ (fin_eq hK ?_)
        · simp (disch := first | omega | (simp only [go_sem, true_and, and_true, List.length_append, List.length_take, List.length_set, List.length_drop, List.length_replicate, List.length_cons, List.length_nil, List.length_replicate] <;> omega)) only [go_sem, true_and, Nat.reduceAdd, Nat.reduceSub, Nat.reduceMul, Nat.reduceEqDiff, Nat.reduceLeDiff, Nat.reduceLT, Nat.reduceBEq, Int.reduceAdd, Int.reduceSub, Int.reduceMul, Int.reduceNeg, Int.reduceLT, Int.reduceLE, Int.reduceEq, Int.reduceToNat]
        · simp (disch := first | omega | (simp only [go_sem, true_and, and_true, List.length_append, List.length_take, List.length_set, List.length_drop, List.length_replicate, List.length_cons, List.length_nil, List.length_replicate] <;> omega)) only [go_sem, true_and, Nat.reduceAdd, Nat.reduceSub, Nat.reduceMul, Nat.reduceEqDiff, Nat.reduceLeDiff, Nat.reduceLT, Nat.reduceBEq, Int.reduceAdd, Int.reduceSub, Int.reduceMul, Int.reduceNeg, Int.reduceLT, Int.reduceLE, Int.reduceEq, Int.reduceToNat, hf]
      · have ho : ¬ octet s i = 46 := by
          intro k
          unfold octet at k
          refine hp (UInt8.toNat_inj.1 ?_)
          have : ((46 : UInt8).toNat : Int) = 46 := rfl
          omega
        simp (disch := first | omega | (simp only [go_sem, true_and, and_true, List.length_append, List.length_take, List.length_set, List.length_drop, List.length_replicate, List.length_cons, List.length_nil, List.length_replicate] <;> omega)) only [go_sem, true_and, Nat.reduceAdd, Nat.reduceSub, Nat.reduceMul, Nat.reduceEqDiff, Nat.reduceLeDiff, Nat.reduceLT, Nat.reduceBEq, Int.reduceAdd, Int.reduceSub, Int.reduceMul, Int.reduceNeg, Int.reduceLT, Int.reduceLE, Int.reduceEq, Int.reduceToNat, ho, decide_false]
        refine round_end (hJ _ _ _ ⟨i + 1, rfl, rfl, rfl, by omega, fun j hj => ?_⟩) (by omega) (Nat.le_refl _) ?_ hw
        · rcases Nat.lt_succ_iff_lt_or_eq.1 hj with k | rfl
          · exact hn j k
          · exact hp
        · simp (disch := (simp only [go_sem, true_and, Nat.reduceAdd, Nat.reduceSub, Nat.reduceMul, Nat.reduceEqDiff, Nat.reduceLeDiff, Nat.reduceLT, Nat.reduceBEq, Int.reduceAdd, Int.reduceSub, Int.reduceMul, Int.reduceNeg, Int.reduceLT, Int.reduceLE, Int.reduceEq, Int.reduceToNat] <;> omega)) only [go_sem, x_eLeS, x_hLeS, Int.natCast_zero, Int.natCast_add, Int.natCast_one, true_and, Nat.reduceAdd, Nat.reduceSub, Nat.reduceMul, Nat.reduceEqDiff, Nat.reduceLeDiff, Nat.reduceLT, Nat.reduceBEq, Int.reduceAdd, Int.reduceSub, Int.reduceMul, Int.reduceNeg, Int.reduceLT, Int.reduceLE, Int.reduceEq, Int.reduceToNat]
    · have hc : hasC s 46 = false := by
        have : Lib.indexByte s 46 = -1 := idxB_none s 46 fun j hj => hn j (by omega)
        have h2 : idxBy s ((46 : UInt8).toNat : Int) = -1 := this
        unfold hasC
        rw [h2]
        rfl
      simp (disch := first | omega | (simp only [go_sem, true_and, and_true, List.length_append, List.length_take, List.length_set, List.length_drop, List.length_replicate, List.length_cons, List.length_nil, List.length_replicate] <;> omega)) only [go_sem, true_and, Nat.reduceAdd, Nat.reduceSub, Nat.reduceMul, Nat.reduceEqDiff, Nat.reduceLeDiff, Nat.reduceLT, Nat.reduceBEq, Int.reduceAdd, Int.reduceSub, Int.reduceMul, Int.reduceNeg, Int.reduceLT, Int.reduceLE, Int.reduceEq, Int.reduceToNat]
      refine r_Topic hs _ ?_
      cases ht : topicB s
      · have hf : fieldB s = false := by unfold fieldB; rw [ht]; simp
        simp (disch := first | omega | (simp only [go_sem, true_and, and_true, List.length_append, List.length_take, List.length_set, List.length_drop, List.length_replicate, List.length_cons, List.length_nil, List.length_replicate] <;> omega)) only [go_sem, true_and, Nat.reduceAdd, Nat.reduceSub, Nat.reduceMul, Nat.reduceEqDiff, Nat.reduceLeDiff, Nat.reduceLT, Nat.reduceBEq, Int.reduceAdd, Int.reduceSub, Int.reduceMul, Int.reduceNeg, Int.reduceLT, Int.reduceLE, Int.reduceEq, Int.reduceToNat]
        refine fin_tmp0 hw ?_ (fin_eq hK ?_)
        · simp (disch := first | omega | (simp only [go_sem, true_and, and_true, List.length_append, List.length_take, List.length_set, List.length_drop, List.length_replicate, List.length_cons, List.length_nil, List.length_replicate] <;> omega)) only [go_sem, true_and, Nat.reduceAdd, Nat.reduceSub, Nat.reduceMul, Nat.reduceEqDiff, Nat.reduceLeDiff, Nat.reduceLT, Nat.reduceBEq, Int.reduceAdd, Int.reduceSub, Int.reduceMul, Int.reduceNeg, Int.reduceLT, Int.reduceLE, Int.reduceEq, Int.reduceToNat]
        · simp (disch := first | omega | (simp only [go_sem, true_and, and_true, List.length_append, List.length_take, List.length_set, List.length_drop, List.length_replicate, List.length_cons, List.length_nil, List.length_replicate] <;> omega)) only [go_sem, true_and, Nat.reduceAdd, Nat.reduceSub, Nat.reduceMul, Nat.reduceEqDiff, Nat.reduceLeDiff, Nat.reduceLT, Nat.reduceBEq, Int.reduceAdd, Int.reduceSub, Int.reduceMul, Int.reduceNeg, Int.reduceLT, Int.reduceLE, Int.reduceEq, Int.reduceToNat, hf]
      · have hf : fieldB s = decide ((s.length : Int) ≤ 16) := by
          unfold fieldB
          rw [ht, hc]
          simp
          omega
        simp (disch := first | omega | (simp only [go_sem, true_and, and_true, List.length_append, List.length_take, List.length_set, List.length_drop, List.length_replicate, List.length_cons, List.length_nil, List.length_replicate] <;> omega)) only [go_sem, true_and, Nat.reduceAdd, Nat.reduceSub, Nat.reduceMul, Nat.reduceEqDiff, Nat.reduceLeDiff, Nat.reduceLT, Nat.reduceBEq, Int.reduceAdd, Int.reduceSub, Int.reduceMul, Int.reduceNeg, Int.reduceLT, Int.reduceLE, Int.reduceEq, Int.reduceToNat]
        refine fin_tmp0 hw ?_ (fin_eq hK ?_)
        · simp (disch := first | omega | (simp only [go_sem, true_and, and_true, List.length_append, List.length_take, List.length_set, List.length_drop, List.length_replicate, List.length_cons, List.length_nil, List.length_replicate] <;> omega)) only [go_sem, true_and, Nat.reduceAdd, Nat.reduceSub, Nat.reduceMul, Nat.reduceEqDiff, Nat.reduceLeDiff, Nat.reduceLT, Nat.reduceBEq, Int.reduceAdd, Int.reduceSub, Int.reduceMul, Int.reduceNeg, Int.reduceLT, Int.reduceLE, Int.reduceEq, Int.reduceToNat]
        · simp (disch := first | omega | (simp only [go_sem, true_and, and_true, List.length_append, List.length_take, List.length_set, List.length_drop, List.length_replicate, List.length_cons, List.length_nil, List.length_replicate] <;> omega)) only [go_sem, true_and, Nat.reduceAdd, Nat.reduceSub, Nat.reduceMul, Nat.reduceEqDiff, Nat.reduceLeDiff, Nat.reduceLT, Nat.reduceBEq, Int.reduceAdd, Int.reduceSub, Int.reduceMul, Int.reduceNeg, Int.reduceLT, Int.reduceLE, Int.reduceEq, Int.reduceToNat, hf]
theorem r_May3 {v : Vl} {H : List Entry} (hs : v.2.2.length ≤ 9223372036854775807) : Pure AP n_trystref03_May [vlV v] H (.bool (mayV v)) := by
  intro K hK
  refine a_trystref03_May fun hw => ?_
  obtain ⟨b, z, s⟩ := v
  simp only at hs
  cases b
  · by_cases h : z = 0
    · simp (disch := first | omega | (simp only [go_sem, true_and, and_true, List.length_append, List.length_take, List.length_set, List.length_drop, List.length_replicate, List.length_cons, List.length_nil, List.length_replicate] <;> omega)) only [go_sem, true_and, Nat.reduceAdd, Nat.reduceSub, Nat.reduceMul, Nat.reduceEqDiff, Nat.reduceLeDiff, Nat.reduceLT, Nat.reduceBEq, Int.reduceAdd, Int.reduceSub, Int.reduceMul, Int.reduceNeg, Int.reduceLT, Int.reduceLE, Int.reduceEq, Int.reduceToNat, c_trystref03_May, h, decide_true, Bool.not_false]
      refine fin_tmp hw ?_ (fin_eq hK ?_)
      · simp (disch := first | omega | (simp only [go_sem, true_and, and_true, List.length_append, List.length_take, List.length_set, List.length_drop, List.length_replicate, List.length_cons, List.length_nil, List.length_replicate] <;> omega)) only [go_sem, true_and, Nat.reduceAdd, Nat.reduceSub, Nat.reduceMul, Nat.reduceEqDiff, Nat.reduceLeDiff, Nat.reduceLT, Nat.reduceBEq, Int.reduceAdd, Int.reduceSub, Int.reduceMul, Int.reduceNeg, Int.reduceLT, Int.reduceLE, Int.reduceEq, Int.reduceToNat]
      · simp [oneV, nths, nth, mayV, h]
    · simp (disch := first | omega | (simp only [go_sem, true_and, and_true, List.length_append, List.length_take, List.length_set, List.length_drop, List.length_replicate, List.length_cons, List.length_nil, List.length_replicate] <;> omega)) only [go_sem, true_and, Nat.reduceAdd, Nat.reduceSub, Nat.reduceMul, Nat.reduceEqDiff, Nat.reduceLeDiff, Nat.reduceLT, Nat.reduceBEq, Int.reduceAdd, Int.reduceSub, Int.reduceMul, Int.reduceNeg, Int.reduceLT, Int.reduceLE, Int.reduceEq, Int.reduceToNat, c_trystref03_May, h, decide_false, Bool.not_false]
      refine fin_tmp hw ?_ (fin_eq hK ?_)
      · simp (disch := first | omega | (simp only [go_sem, true_and, and_true, List.length_append, List.length_take, List.length_set, List.length_drop, List.length_replicate, List.length_cons, List.length_nil, List.length_replicate] <;> omega)) only [go_sem, true_and, Nat.reduceAdd, Nat.reduceSub, Nat.reduceMul, Nat.reduceEqDiff, Nat.reduceLeDiff, Nat.reduceLT, Nat.reduceBEq, Int.reduceAdd, Int.reduceSub, Int.reduceMul, Int.reduceNeg, Int.reduceLT, Int.reduceLE, Int.reduceEq, Int.reduceToNat]
      · simp [oneV, nths, nth, mayV, h]
  · by_cases h : s = []
    · simp (disch := first | omega | (simp only [go_sem, true_and, and_true, List.length_append, List.length_take, List.length_set, List.length_drop, List.length_replicate, List.length_cons, List.length_nil, List.length_replicate] <;> omega)) only [go_sem, true_and, Nat.reduceAdd, Nat.reduceSub, Nat.reduceMul, Nat.reduceEqDiff, Nat.reduceLeDiff, Nat.reduceLT, Nat.reduceBEq, Int.reduceAdd, Int.reduceSub, Int.reduceMul, Int.reduceNeg, Int.reduceLT, Int.reduceLE, Int.reduceEq, Int.reduceToNat, c_trystref03_May, h, decide_true, Bool.not_true]
      refine fin_tmp hw ?_ (fin_eq hK ?_)
      · simp (disch := first | omega | (simp only [go_sem, true_and, and_true, List.length_append, List.length_take, List.length_set, List.length_drop, List.length_replicate, List.length_cons, List.length_nil, List.length_replicate] <;> omega)) only [go_sem, true_and, Nat.reduceAdd, Nat.reduceSub, Nat.reduceMul, Nat.reduceEqDiff, Nat.reduceLeDiff, Nat.reduceLT, Nat.reduceBEq, Int.reduceAdd, Int.reduceSub, Int.reduceMul, Int.reduceNeg, Int.reduceLT, Int.reduceLE, Int.reduceEq, Int.reduceToNat]
      · simp [oneV, nths, nth, mayV, h]
    · simp (disch := first | omega | (simp only [go_sem, true_and, and_true, List.length_append, List.length_take, List.length_set, List.length_drop, List.length_replicate, List.length_cons, List.length_nil, List.length_replicate] <;> omega)) only [go_sem, true_and, Nat.reduceAdd, Nat.reduceSub, Nat.reduceMul, Nat.reduceEqDiff, Nat.reduceLeDiff, Nat.reduceLT, Nat.reduceBEq, Int.reduceAdd, Int.reduceSub, Int.reduceMul, Int.reduceNeg, Int.reduceLT, Int.reduceLE, Int.reduceEq, Int.reduceToNat, c_trystref03_May, h, decide_false, Bool.not_true]
      refine fin_tmp hw ?_ (fin_eq hK ?_)
      · simp (disch := first | omega | (simp only [go_sem, true_and, and_true, List.length_append, List.length_take, List.length_set, List.length_drop, List.length_replicate, List.length_cons, List.length_nil, List.length_replicate] <;> omega)) only [go_sem, true_and, Nat.reduceAdd, Nat.reduceSub, Nat.reduceMul, Nat.reduceEqDiff, Nat.reduceLeDiff, Nat.reduceLT, Nat.reduceBEq, Int.reduceAdd, Int.reduceSub, Int.reduceMul, Int.reduceNeg, Int.reduceLT, Int.reduceLE, Int.reduceEq, Int.reduceToNat]
      · simp [oneV, nths, nth, mayV, h]
end Go.Av
