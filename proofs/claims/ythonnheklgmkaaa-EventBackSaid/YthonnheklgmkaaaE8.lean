/- A part of a way to reckon what a Go program does without its memory (E8). -/
import Derived.Test.YthonnheklgmkaaaE6
import Derived.Test.YthonnheklgmkaaaE7
import Derived.Test.YthonnheklgmkaaaNmRD
namespace Go.Av
open Go
set_option autoImplicit false
set_option linter.all false
theorem idx_put (L : List Fd) (a : List UInt8) (w : Vl) : 0 ≤ idx (isN a) (putL L a w) ∧ (putL L a w).getD (idx (isN a) (putL L a w)).toNat default = (a, w) := by
  by_cases h : 0 ≤ idx (isN a) L
  · obtain ⟨h1, h2, h3⟩ := idx_spec h
    have e1 : putL L a w = L.set (idx (isN a) L).toNat (a, w) := by rw [putL, if_pos h]
    have e2 : idx (isN a) (L.set (idx (isN a) L).toNat (a, w)) = ((idx (isN a) L).toNat : Nat) := by
      refine idx_some (by simpa using h1) (by simp [h1, isN]) fun j hj => ?_
      have := h3 j hj
      have hjl : j < L.length := by omega
      have hne : ¬ (idx (isN a) L).toNat = j := by omega
      simpa [hjl, List.getElem?_set, hne] using this
    rw [e1, e2]
    refine ⟨by omega, ?_⟩
    rw [Int.toNat_natCast]
    simp [h1]
  · have hn := idx_nobody (p := isN a) (X := L) (by omega)
    have hp := plc_le (aft a) L
    have e1 : putL L a w = L.take (plc (aft a) L) ++ [(a, w)] ++ L.drop (plc (aft a) L) := by rw [putL, if_neg h]
    generalize plc (aft a) L = p at *
    have hl : (L.take p).length = p := by simp; omega
    have e3 : (L.take p ++ [(a, w)] ++ L.drop p).getD p default = (a, w) := by
      rw [List.getD_eq_getElem?_getD, List.append_assoc, List.getElem?_append_right (by omega), hl]
      simp
    have e2 : idx (isN a) (L.take p ++ [(a, w)] ++ L.drop p) = (p : Nat) := by
      refine idx_some (by simp; omega) (by rw [e3]; simp [isN]) fun j hj => ?_
      have hjl : j < L.length := by omega
      have := hn j hjl
      rw [List.getD_eq_getElem?_getD, List.append_assoc, List.getElem?_append_left (by omega), List.getElem?_take_of_lt hj]
      simpa [hjl] using this
    rw [e1, e2]
    exact ⟨by omega, by rw [Int.toNat_natCast]; exact e3⟩
theorem get_put (e : Ev) (a : List UInt8) (w : Vl) : getE (putE e a w) a = (w, true) := by
  obtain ⟨h1, h2⟩ := idx_put e.2.2.2 a w
  have hf := find_some h1
  rw [h2] at hf
  have : (putE e a w).2.2.2 = putL e.2.2.2 a w := rfl
  unfold getE
  rw [this, hf]
theorem find_set {α : Type} [Inhabited α] (p : α → Bool) (y : α) (hy : p y = false) : ∀ (L : List α) (i : Nat), (i < L.length → p (L.getD i default) = false) → (L.set i y).find? p = L.find? p
  | [], _, _ => by simp
  | x :: L, 0, h => by
    have : p x = false := by simpa using h (by simp)
    simp [List.find?_cons, hy, this]
  | x :: L, i + 1, h => by
    have ih := find_set p y hy L i (fun hi => by simpa using h (by simpa using hi))
    simp [List.find?_cons, ih]
theorem get_other (e : Ev) {a o : List UInt8} (w : Vl) (h : o ≠ a) : getE (putE e a w) o = getE e o := by
  have hy : isN o (a, w) = false := decide_eq_false (Ne.symm h)
  have key : (putL e.2.2.2 a w).find? (isN o) = e.2.2.2.find? (isN o) := by
    unfold putL
    split
    · rename_i hi
      obtain ⟨h1, h2, _⟩ := idx_spec hi
      refine find_set _ _ hy _ _ fun _ => ?_
      have : (e.2.2.2.getD (idx (isN a) e.2.2.2).toNat default).1 = a := of_decide_eq_true h2
      exact decide_eq_false (by rw [this]; exact Ne.symm h)
    · generalize plc (aft a) e.2.2.2 = p
      simp only [List.find?_append, List.find?_cons, hy, List.find?_nil, Option.or_none]
      rw [← List.find?_append, List.take_append_drop]
  have : (putE e a w).2.2.2 = putL e.2.2.2 a w := rfl
  unfold getE
  rw [this, key]
theorem less_cmp {a b : List UInt8} (h : lessB a b = true) : cmpS a b < 0 := by
  unfold cmpS
  rw [if_pos h]
  decide
theorem srt_ris {L : List Fd} (h : Srt L) : Ris L := fun i hi => by
  have := List.pairwise_iff_getElem.1 h i (i + 1) (by omega) hi (by omega)
  refine less_cmp ?_
  have h1 : i < L.length := by omega
  simpa [h1, hi] using this
theorem insF_mem (n : List UInt8) (v : Vl) (x : Fd) : ∀ (M : List Fd), x ∈ insF n v M → x = (n, v) ∨ x ∈ M
  | [], h => by simp [insF] at h; exact .inl h
  | g :: M, h => by
    have ih := insF_mem n v x M
    rw [insF] at h
    split at h
    · rcases List.mem_cons.1 h with h | h
      · exact .inl h
      · exact .inr (List.mem_cons_of_mem _ h)
    · split at h
      · rcases List.mem_cons.1 h with h | h
        · exact .inr (by rw [h]; simp)
        · rcases ih h with h | h
          · exact .inl h
          · exact .inr (List.mem_cons_of_mem _ h)
      · rcases List.mem_cons.1 h with h | h
        · exact .inl h
        · exact .inr h
theorem getE_idx (e : Ev) (n : List UInt8) : (getE e n).2 = decide (0 ≤ idx (isN n) e.2.2.2) := by
  by_cases h : 0 ≤ idx (isN n) e.2.2.2
  · simp [getE, find_some h, h]
  · simp [getE, find_none (show idx (isN n) e.2.2.2 < 0 by omega), h]
theorem may_put {e : Ev} {n : List UInt8} {v : Vl} (he : mayE e = true) (hn : fieldB n = true) (hv : mayV v = true) : mayE (putE e n v) = ((getE e n).2 || decide (e.2.2.2.length < 8)) := by
  have hs := may_srt he
  have hL : e.2.2.2.length ≤ 8 ∧ e.2.2.2.any (fun f => !fieldB f.1 || !mayV f.2) = false := by
    unfold mayE mayFs at he
    simp only [Bool.and_eq_true, decide_eq_true_eq, Bool.not_eq_true'] at he
    exact ⟨he.2.2.2.1, he.2.2.2.2.1⟩
  have h3 : topicB e.1 = true ∧ fieldB e.2.1 = true ∧ decide (1 ≤ e.2.2.1) = true := by
    unfold mayE at he
    simp only [Bool.and_eq_true] at he
    exact ⟨he.1, he.2.1, he.2.2.1⟩
  have hi : putL e.2.2.2 n v = insF n v e.2.2.2 := put_ins n v hs
  have hr : risB (putL e.2.2.2 n v) = true := risB_true (srt_ris (by rw [hi]; exact insF_srt n v hs))
  have ha : (putL e.2.2.2 n v).any (fun f => !fieldB f.1 || !mayV f.2) = false := by
    rw [List.any_eq_false] at hL ⊢
    intro x hx
    rw [hi] at hx
    rcases insF_mem n v x _ hx with rfl | hx
    · simp [hn, hv]
    · exact hL.2 x hx
  have hl : (putL e.2.2.2 n v).length = if 0 ≤ idx (isN n) e.2.2.2 then e.2.2.2.length else e.2.2.2.length + 1 := by
    have hp := plc_le (aft n) e.2.2.2
    unfold putL
    split
    · simp
    · simp; omega
  have h1 : (putE e n v).1 = e.1 := rfl
  have h2 : (putE e n v).2.1 = e.2.1 := rfl
  have h4 : (putE e n v).2.2.1 = e.2.2.1 := rfl
  have h5 : (putE e n v).2.2.2 = putL e.2.2.2 n v := rfl
  rw [mayE, h1, h2, h4, h5, h3.1, h3.2.1, h3.2.2, mayFs, ha, hr, getE_idx, hl]
  by_cases h : 0 ≤ idx (isN n) e.2.2.2
  · simp [h, hL.1]
  · simp [h]
    omega
end Go.Av
namespace Go.Av
open Go
set_option autoImplicit false
set_option linter.all false
theorem r_Topic {s : List UInt8} {H : List Entry} (hs : s.length ≤ 60) : Pure AP n_trystref02_Topic [.str s] H (.bool (topicB s)) :=
  str_bool (by kernel_rfl) fun w => Go.Proofs.Ythonnheklgmkaaa.rtopic_any ⟨s.toArray⟩ w (by show s.toArray.size ≤ 60; simpa using hs)
theorem idxB_none : ∀ (s : List UInt8) (c : UInt8), (∀ j < s.length, s.getD j 0 ≠ c) → Lib.indexByte s c = -1
  | [], _, _ => rfl
  | b :: s, c, h => by
    have h0 : ¬ b = c := by simpa using h 0 (by simp)
    have ih := idxB_none s c fun j hj => by simpa using h (j + 1) (by simpa using hj)
    simp [Lib.indexByte, h0, ih]
theorem idxB_some : ∀ (s : List UInt8) (c : UInt8) (j : Nat), j < s.length → s.getD j 0 = c → 0 ≤ Lib.indexByte s c
  | [], _, _, h, _ => by simp at h
  | b :: s, c, 0, _, h => by
    have : b = c := by simpa using h
    simp [Lib.indexByte, this]
  | b :: s, c, j + 1, h, e => by
    have ih := idxB_some s c j (by simpa using h) (by simpa using e)
    rw [Lib.indexByte]
    split
    · omega
    · split
      · rename_i k; rw [beq_iff_eq] at k; omega
      · omega
theorem r_Field {s : List UInt8} {H : List Entry} (hs : s.length ≤ 60) : Pure AP n_trystref04_Field [.str s] H (.bool (fieldB s)) := by
  intro K hK
  refine a_trystref04_Field fun hw => ?_
  simp (disch := first | omega | (simp only [go_sem, true_and, and_true, List.length_append, List.length_take, List.length_set, List.length_drop, List.length_replicate, List.length_cons, List.length_nil, List.length_replicate] <;> omega)) only [go_sem, true_and, Nat.reduceAdd, Nat.reduceSub, Nat.reduceMul, Nat.reduceEqDiff, Nat.reduceLeDiff, Nat.reduceLT, Nat.reduceBEq, Int.reduceAdd, Int.reduceSub, Int.reduceMul, Int.reduceNeg, Int.reduceLT, Int.reduceLE, Int.reduceEq, Int.reduceToNat, c_trystref04_Field]
  refine loop_in (fun m e' H' => ∃ i : Nat, m = s.length - i ∧ e' = slots 0 21 [(0, .str s), (3, .int .i64 (i : Int))] ∧ H' = H ∧ i ≤ s.length ∧ ∀ j < i, s.getD j 0 ≠ 46) (n := s.length) ⟨0, rfl, rfl, rfl, by omega, fun j hj => by omega⟩ (Nat.le_refl _) ?_ hw ?_
  · simp (disch := (simp only [go_sem, true_and, Nat.reduceAdd, Nat.reduceSub, Nat.reduceMul, Nat.reduceEqDiff, Nat.reduceLeDiff, Nat.reduceLT, Nat.reduceBEq, Int.reduceAdd, Int.reduceSub, Int.reduceMul, Int.reduceNeg, Int.reduceLT, Int.reduceLE, Int.reduceEq, Int.reduceToNat] <;> omega)) only [go_sem, x_eLeS, x_hLeS, Int.natCast_zero, Int.natCast_add, Int.natCast_one, true_and, Nat.reduceAdd, Nat.reduceSub, Nat.reduceMul, Nat.reduceEqDiff, Nat.reduceLeDiff, Nat.reduceLT, Nat.reduceBEq, Int.reduceAdd, Int.reduceSub, Int.reduceMul, Int.reduceNeg, Int.reduceLT, Int.reduceLE, Int.reduceEq, Int.reduceToNat]
  · rintro J hJ m e' H' ⟨i, rfl, rfl, rfl, hi1, hn⟩
    simp (disch := first | omega | (simp only [go_sem, true_and, and_true, List.length_append, List.length_take, List.length_set, List.length_drop, List.length_replicate, List.length_cons, List.length_nil, List.length_replicate] <;> omega)) only [go_sem, true_and, Nat.reduceAdd, Nat.reduceSub, Nat.reduceMul, Nat.reduceEqDiff, Nat.reduceLeDiff, Nat.reduceLT, Nat.reduceBEq, Int.reduceAdd, Int.reduceSub, Int.reduceMul, Int.reduceNeg, Int.reduceLT, Int.reduceLE, Int.reduceEq, Int.reduceToNat]
    by_cases h : (i : Int) < s.length
    · by_cases hp : s.getD i 0 = 46
      · have ho : octet s i = 46 := by simp only [octet, hp]; rfl
        have hc : hasC s 46 = true := decide_eq_true (idxB_some s 46 i (by omega) hp)
        have hf : fieldB s = false := by unfold fieldB; rw [hc]; simp
        simp (disch := first | omega | (simp only [go_sem, true_and, and_true, List.length_append, List.length_take, List.length_set, List.length_drop, List.length_replicate, List.length_cons, List.length_nil, List.length_replicate] <;> omega)) only [go_sem, true_and, Nat.reduceAdd, Nat.reduceSub, Nat.reduceMul, Nat.reduceEqDiff, Nat.reduceLeDiff, Nat.reduceLT, Nat.reduceBEq, Int.reduceAdd, Int.reduceSub, Int.reduceMul, Int.reduceNeg, Int.reduceLT, Int.reduceLE, Int.reduceEq, Int.reduceToNat, ho, decide_true]
        refine fin_tmp0 hw ?_ (fin_eq hK ?_)
        · simp (disch := first | omega | (simp only [go_sem, true_and, and_true, List.length_append, List.length_take, List.length_set, List.length_drop, List.length_replicate, List.length_cons, List.length_nil, List.length_replicate] <;> omega)) only [go_sem, true_and, Nat.reduceAdd, Nat.reduceSub, Nat.reduceMul, Nat.reduceEqDiff, Nat.reduceLeDiff, Nat.reduceLT, Nat.reduceBEq, Int.reduceAdd, Int.reduceSub, Int.reduceMul, Int.reduceNeg, Int.reduceLT, Int.reduceLE, Int.reduceEq, Int.reduceToNat]
        · simp (disch := first | omega | (simp only [go_sem, true_and, and_true, List.length_append, List.length_take, List.length_set, List.length_drop, List.length_replicate, List.length_cons, List.length_nil, List.length_replicate] <;> omega)) only [go_sem, true_and, Nat.reduceAdd, Nat.reduceSub, Nat.reduceMul, Nat.reduceEqDiff, Nat.reduceLeDiff, Nat.reduceLT, Nat.reduceBEq, Int.reduceAdd, Int.reduceSub, Int.reduceMul, Int.reduceNeg, Int.reduceLT, Int.reduceLE, Int.reduceEq, Int.reduceToNat, hf]
      · have ho : ¬ octet s i = 46 := by
          intro k
          unfold octet at k
          refine hp (UInt8.toNat_inj.1 ?_)
          have : ((46 : UInt8).toNat : Int) = 46 := rfl
          omega
        simp (disch := first | omega | (simp only [go_sem, true_and, and_true, List.length_append, List.length_take, List.length_set, List.length_drop, List.length_replicate, List.length_cons, List.length_nil, List.length_replicate] <;> omega)) only [go_sem, true_and, Nat.reduceAdd, Nat.reduceSub, Nat.reduceMul, Nat.reduceEqDiff, Nat.reduceLeDiff, Nat.reduceLT, Nat.reduceBEq, Int.reduceAdd, Int.reduceSub, Int.reduceMul, Int.reduceNeg, Int.reduceLT, Int.reduceLE, Int.reduceEq, Int.reduceToNat, ho, decide_false]
        refine round_end (hJ _ _ _ ⟨i + 1, rfl, rfl, rfl, by omega, fun j hj => ?_⟩) (by omega) (Nat.le_refl _) ?_ hw
        · rcases Nat.lt_succ_iff_lt_or_eq.1 hj with k | rfl
          · exact hn j k
          · exact hp
        · simp (disch := (simp only [go_sem, true_and, Nat.reduceAdd, Nat.reduceSub, Nat.reduceMul, Nat.reduceEqDiff, Nat.reduceLeDiff, Nat.reduceLT, Nat.reduceBEq, Int.reduceAdd, Int.reduceSub, Int.reduceMul, Int.reduceNeg, Int.reduceLT, Int.reduceLE, Int.reduceEq, Int.reduceToNat] <;> omega)) only [go_sem, x_eLeS, x_hLeS, Int.natCast_zero, Int.natCast_add, Int.natCast_one, true_and, Nat.reduceAdd, Nat.reduceSub, Nat.reduceMul, Nat.reduceEqDiff, Nat.reduceLeDiff, Nat.reduceLT, Nat.reduceBEq, Int.reduceAdd, Int.reduceSub, Int.reduceMul, Int.reduceNeg, Int.reduceLT, Int.reduceLE, Int.reduceEq, Int.reduceToNat]
    · have hc : hasC s 46 = false := by
        have : Lib.indexByte s 46 = -1 := idxB_none s 46 fun j hj => hn j (by omega)
        have h2 : idxBy s ((46 : UInt8).toNat : Int) = -1 := this
        unfold hasC
        rw [h2]
        rfl
      simp (disch := first | omega | (simp only [go_sem, true_and, and_true, List.length_append, List.length_take, List.length_set, List.length_drop, List.length_replicate, List.length_cons, List.length_nil, List.length_replicate] <;> omega)) only [go_sem, true_and, Nat.reduceAdd, Nat.reduceSub, Nat.reduceMul, Nat.reduceEqDiff, Nat.reduceLeDiff, Nat.reduceLT, Nat.reduceBEq, Int.reduceAdd, Int.reduceSub, Int.reduceMul, Int.reduceNeg, Int.reduceLT, Int.reduceLE, Int.reduceEq, Int.reduceToNat]
      refine r_Topic hs _ ?_
      cases ht : topicB s
      · have hf : fieldB s = false := by unfold fieldB; rw [ht]; simp
        simp (disch := first | omega | (simp only [go_sem, true_and, and_true, List.length_append, List.length_take, List.length_set, List.length_drop, List.length_replicate, List.length_cons, List.length_nil, List.length_replicate] <;> omega)) only [go_sem, true_and, Nat.reduceAdd, Nat.reduceSub, Nat.reduceMul, Nat.reduceEqDiff, Nat.reduceLeDiff, Nat.reduceLT, Nat.reduceBEq, Int.reduceAdd, Int.reduceSub, Int.reduceMul, Int.reduceNeg, Int.reduceLT, Int.reduceLE, Int.reduceEq, Int.reduceToNat]
        refine fin_tmp0 hw ?_ (fin_eq hK ?_)
        · simp (disch := first | omega | (simp only [go_sem, true_and, and_true, List.length_append, List.length_take, List.length_set, List.length_drop, List.length_replicate, List.length_cons, List.length_nil, List.length_replicate] <;> omega)) only [go_sem, true_and, Nat.reduceAdd, Nat.reduceSub, Nat.reduceMul, Nat.reduceEqDiff, Nat.reduceLeDiff, Nat.reduceLT, Nat.reduceBEq, Int.reduceAdd, Int.reduceSub, Int.reduceMul, Int.reduceNeg, Int.reduceLT, Int.reduceLE, Int.reduceEq, Int.reduceToNat]
        · simp (disch := first | omega | (simp only [go_sem, true_and, and_true, List.length_append, List.length_take, List.length_set, List.length_drop, List.length_replicate, List.length_cons, List.length_nil, List.length_replicate] <;> omega)) only [go_sem, true_and, Nat.reduceAdd, Nat.reduceSub, Nat.reduceMul, Nat.reduceEqDiff, Nat.reduceLeDiff, Nat.reduceLT, Nat.reduceBEq, Int.reduceAdd, Int.reduceSub, Int.reduceMul, Int.reduceNeg, Int.reduceLT, Int.reduceLE, Int.reduceEq, Int.reduceToNat, hf]
      · have hf : fieldB s = decide ((s.length : Int) ≤ 16) := by
          unfold fieldB
          rw [ht, hc]
          simp
          omega
        simp (disch := first | omega | (simp only [go_sem, true_and, and_true, List.length_append, List.length_take, List.length_set, List.length_drop, List.length_replicate, List.length_cons, List.length_nil, List.length_replicate] <;> omega)) only [go_sem, true_and, Nat.reduceAdd, Nat.reduceSub, Nat.reduceMul, Nat.reduceEqDiff, Nat.reduceLeDiff, Nat.reduceLT, Nat.reduceBEq, Int.reduceAdd, Int.reduceSub, Int.reduceMul, Int.reduceNeg, Int.reduceLT, Int.reduceLE, Int.reduceEq, Int.reduceToNat]
        refine fin_tmp0 hw ?_ (fin_eq hK ?_)
        · simp (disch := first | omega | (simp only [go_sem, true_and, and_true, List.length_append, List.length_take, List.length_set, List.length_drop, List.length_replicate, List.length_cons, List.length_nil, List.length_replicate] <;> omega)) only [go_sem, true_and, Nat.reduceAdd, Nat.reduceSub, Nat.reduceMul, Nat.reduceEqDiff, Nat.reduceLeDiff, Nat.reduceLT, Nat.reduceBEq, Int.reduceAdd, Int.reduceSub, Int.reduceMul, Int.reduceNeg, Int.reduceLT, Int.reduceLE, Int.reduceEq, Int.reduceToNat]
        · simp (disch := first | omega | (simp only [go_sem, true_and, and_true, List.length_append, List.length_take, List.length_set, List.length_drop, List.length_replicate, List.length_cons, List.length_nil, List.length_replicate] <;> omega)) only [go_sem, true_and, Nat.reduceAdd, Nat.reduceSub, Nat.reduceMul, Nat.reduceEqDiff, Nat.reduceLeDiff, Nat.reduceLT, Nat.reduceBEq, Int.reduceAdd, Int.reduceSub, Int.reduceMul, Int.reduceNeg, Int.reduceLT, Int.reduceLE, Int.reduceEq, Int.reduceToNat, hf]
theorem r_May3 {v : Vl} {H : List Entry} (hs : v.2.2.length ≤ 9223372036854775807) : Pure AP n_trystref03_May [vlV v] H (.bool (mayV v)) := by
  intro K hK
  refine a_trystref03_May fun hw => ?_
  obtain ⟨b, z, s⟩ := v
  simp only at hs
  cases b
  · by_cases h : z = 0
    · simp (disch := first | omega | (simp only [go_sem, true_and, and_true, List.length_append, List.length_take, List.length_set, List.length_drop, List.length_replicate, List.length_cons, List.length_nil, List.length_replicate] <;> omega)) only [go_sem, true_and, Nat.reduceAdd, Nat.reduceSub, Nat.reduceMul, Nat.reduceEqDiff, Nat.reduceLeDiff, Nat.reduceLT, Nat.reduceBEq, Int.reduceAdd, Int.reduceSub, Int.reduceMul, Int.reduceNeg, Int.reduceLT, Int.reduceLE, Int.reduceEq, Int.reduceToNat, c_trystref03_May, h, decide_true, Bool.not_false]
      refine fin_tmp hw ?_ (fin_eq hK ?_)
      · simp (disch := first | omega | (simp only [go_sem, true_and, and_true, List.length_append, List.length_take, List.length_set, List.length_drop, List.length_replicate, List.length_cons, List.length_nil, List.length_replicate] <;> omega)) only [go_sem, true_and, Nat.reduceAdd, Nat.reduceSub, Nat.reduceMul, Nat.reduceEqDiff, Nat.reduceLeDiff, Nat.reduceLT, Nat.reduceBEq, Int.reduceAdd, Int.reduceSub, Int.reduceMul, Int.reduceNeg, Int.reduceLT, Int.reduceLE, Int.reduceEq, Int.reduceToNat]
      · simp [oneV, nths, nth, mayV, h]
    · simp (disch := first | omega | (simp only [go_sem, true_and, and_true, List.length_append, List.length_take, List.length_set, List.length_drop, List.length_replicate, List.length_cons, List.length_nil, List.length_replicate] <;> omega)) only [go_sem, true_and, Nat.reduceAdd, Nat.reduceSub, Nat.reduceMul, Nat.reduceEqDiff, Nat.reduceLeDiff, Nat.reduceLT, Nat.reduceBEq, Int.reduceAdd, Int.reduceSub, Int.reduceMul, Int.reduceNeg, Int.reduceLT, Int.reduceLE, Int.reduceEq, Int.reduceToNat, c_trystref03_May, h, decide_false, Bool.not_false]
      refine fin_tmp hw ?_ (fin_eq hK ?_)
      · simp (disch := first | omega | (simp only [go_sem, true_and, and_true, List.length_append, List.length_take, List.length_set, List.length_drop, List.length_replicate, List.length_cons, List.length_nil, List.length_replicate] <;> omega)) only [go_sem, true_and, Nat.reduceAdd, Nat.reduceSub, Nat.reduceMul, Nat.reduceEqDiff, Nat.reduceLeDiff, Nat.reduceLT, Nat.reduceBEq, Int.reduceAdd, Int.reduceSub, Int.reduceMul, Int.reduceNeg, Int.reduceLT, Int.reduceLE, Int.reduceEq, Int.reduceToNat]
      · simp [oneV, nths, nth, mayV, h]
  · by_cases h : s = []
    · simp (disch := first | omega | (simp only [go_sem, true_and, and_true, List.length_append, List.length_take, List.length_set, List.length_drop, List.length_replicate, List.length_cons, List.length_nil, List.length_replicate] <;> omega)) only [go_sem, true_and, Nat.reduceAdd, Nat.reduceSub, Nat.reduceMul, Nat.reduceEqDiff, Nat.reduceLeDiff, Nat.reduceLT, Nat.reduceBEq, Int.reduceAdd, Int.reduceSub, Int.reduceMul, Int.reduceNeg, Int.reduceLT, Int.reduceLE, Int.reduceEq, Int.reduceToNat, c_trystref03_May, h, decide_true, Bool.not_true]
      refine fin_tmp hw ?_ (fin_eq hK ?_)
      · simp (disch := first | omega | (simp only [go_sem, true_and, and_true, List.length_append, List.length_take, List.length_set, List.length_drop, List.length_replicate, List.length_cons, List.length_nil, List.length_replicate] <;> omega)) only [go_sem, true_and, Nat.reduceAdd, Nat.reduceSub, Nat.reduceMul, Nat.reduceEqDiff, Nat.reduceLeDiff, Nat.reduceLT, Nat.reduceBEq, Int.reduceAdd, Int.reduceSub, Int.reduceMul, Int.reduceNeg, Int.reduceLT, Int.reduceLE, Int.reduceEq, Int.reduceToNat]
      · simp [oneV, nths, nth, mayV, h]
    · simp (disch := first | omega | (simp only [go_sem, true_and, and_true, List.length_append, List.length_take, List.length_set, List.length_drop, List.length_replicate, List.length_cons, List.length_nil, List.length_replicate] <;> omega)) only [go_sem, true_and, Nat.reduceAdd, Nat.reduceSub, Nat.reduceMul, Nat.reduceEqDiff, Nat.reduceLeDiff, Nat.reduceLT, Nat.reduceBEq, Int.reduceAdd, Int.reduceSub, Int.reduceMul, Int.reduceNeg, Int.reduceLT, Int.reduceLE, Int.reduceEq, Int.reduceToNat, c_trystref03_May, h, decide_false, Bool.not_true]
      refine fin_tmp hw ?_ (fin_eq hK ?_)
      · simp (disch := first | omega | (simp only [go_sem, true_and, and_true, List.length_append, List.length_take, List.length_set, List.length_drop, List.length_replicate, List.length_cons, List.length_nil, List.length_replicate] <;> omega)) only [go_sem, true_and, Nat.reduceAdd, Nat.reduceSub, Nat.reduceMul, Nat.reduceEqDiff, Nat.reduceLeDiff, Nat.reduceLT, Nat.reduceBEq, Int.reduceAdd, Int.reduceSub, Int.reduceMul, Int.reduceNeg, Int.reduceLT, Int.reduceLE, Int.reduceEq, Int.reduceToNat]
      · simp [oneV, nths, nth, mayV, h]
theorem t97 : topicB [97] = true := by decide +kernel
theorem f112 : fieldB [112] = true := by decide +kernel
theorem f120 : fieldB [120] = true := by decide +kernel
theorem r_MayX {v : Vl} {H : List Entry} (hs : v.2.2.length ≤ 9223372036854775807) : Pure AP n_trystref04_May [.agg [.str [97], .str [112], .int .u64 1, .slx 4 [.agg [.str [120], .bool v.1, .int .i64 v.2.1, .str v.2.2]]]] H (.bool (mayV v)) := by
  intro K hK
  refine a_trystref04_May fun hw => ?_
  simp (disch := first | omega | (simp only [go_sem, true_and, and_true, List.length_append, List.length_take, List.length_set, List.length_drop, List.length_replicate, List.length_cons, List.length_nil, List.length_replicate] <;> omega)) only [go_sem, true_and, Nat.reduceAdd, Nat.reduceSub, Nat.reduceMul, Nat.reduceEqDiff, Nat.reduceLeDiff, Nat.reduceLT, Nat.reduceBEq, Int.reduceAdd, Int.reduceSub, Int.reduceMul, Int.reduceNeg, Int.reduceLT, Int.reduceLE, Int.reduceEq, Int.reduceToNat, c_trystref04_May]
  refine loop_in (fun m e' H' => ∃ i : Nat, m = 1 - i ∧ e' = slots 0 68 [(1, .ptr H.length 0), (3, .int .i64 (i : Int))] ∧ H' = H ++ [.box [.str [97], .str [112], .int .u64 1, .slx 4 [.agg [.str [120], .bool v.1, .int .i64 v.2.1, .str v.2.2]]]] ∧ (i = 0 ∨ i = 1 ∧ mayV v = true)) (n := 1) ⟨0, rfl, rfl, rfl, .inl rfl⟩ (by first | omega | (simp only [go_sem, List.length_append, List.length_set, List.length_take, List.length_drop, List.length_replicate, true_and, Nat.reduceAdd, Nat.reduceSub, Nat.reduceMul, Nat.reduceEqDiff, Nat.reduceLeDiff, Nat.reduceLT, Nat.reduceBEq, Int.reduceAdd, Int.reduceSub, Int.reduceMul, Int.reduceNeg, Int.reduceLT, Int.reduceLE, Int.reduceEq, Int.reduceToNat] <;> omega)) ?_ ?_ ?_
  · simp (disch := (simp only [go_sem, true_and, Nat.reduceAdd, Nat.reduceSub, Nat.reduceMul, Nat.reduceEqDiff, Nat.reduceLeDiff, Nat.reduceLT, Nat.reduceBEq, Int.reduceAdd, Int.reduceSub, Int.reduceMul, Int.reduceNeg, Int.reduceLT, Int.reduceLE, Int.reduceEq, Int.reduceToNat] <;> omega)) only [go_sem, x_eLeS, x_hLeS, Int.natCast_zero, Int.natCast_add, Int.natCast_one, true_and, Nat.reduceAdd, Nat.reduceSub, Nat.reduceMul, Nat.reduceEqDiff, Nat.reduceLeDiff, Nat.reduceLT, Nat.reduceBEq, Int.reduceAdd, Int.reduceSub, Int.reduceMul, Int.reduceNeg, Int.reduceLT, Int.reduceLE, Int.reduceEq, Int.reduceToNat]
  · exact hLe_app hw (by first | omega | (simp only [go_sem, List.length_append, List.length_set, List.length_take, List.length_drop, List.length_replicate, true_and, Nat.reduceAdd, Nat.reduceSub, Nat.reduceMul, Nat.reduceEqDiff, Nat.reduceLeDiff, Nat.reduceLT, Nat.reduceBEq, Int.reduceAdd, Int.reduceSub, Int.reduceMul, Int.reduceNeg, Int.reduceLT, Int.reduceLE, Int.reduceEq, Int.reduceToNat] <;> omega)) (by simp (disch := (simp only [go_sem, true_and, Nat.reduceAdd, Nat.reduceSub, Nat.reduceMul, Nat.reduceEqDiff, Nat.reduceLeDiff, Nat.reduceLT, Nat.reduceBEq, Int.reduceAdd, Int.reduceSub, Int.reduceMul, Int.reduceNeg, Int.reduceLT, Int.reduceLE, Int.reduceEq, Int.reduceToNat] <;> omega)) only [go_sem, x_eLeS, x_hLeS, Int.natCast_zero, Int.natCast_add, Int.natCast_one, true_and, Nat.reduceAdd, Nat.reduceSub, Nat.reduceMul, Nat.reduceEqDiff, Nat.reduceLeDiff, Nat.reduceLT, Nat.reduceBEq, Int.reduceAdd, Int.reduceSub, Int.reduceMul, Int.reduceNeg, Int.reduceLT, Int.reduceLE, Int.reduceEq, Int.reduceToNat])
  · rintro J hJ m e' H' ⟨i, rfl, rfl, rfl, rfl | ⟨rfl, hm⟩⟩
    · simp (disch := first | omega | (simp only [go_sem, true_and, and_true, List.length_append, List.length_take, List.length_set, List.length_drop, List.length_replicate, List.length_cons, List.length_nil, List.length_replicate] <;> omega)) only [go_sem, true_and, Nat.reduceAdd, Nat.reduceSub, Nat.reduceMul, Nat.reduceEqDiff, Nat.reduceLeDiff, Nat.reduceLT, Nat.reduceBEq, Int.reduceAdd, Int.reduceSub, Int.reduceMul, Int.reduceNeg, Int.reduceLT, Int.reduceLE, Int.reduceEq, Int.reduceToNat, Int.cast_ofNat_Int]
      refine (r_Field (s := [120]) (by decide)).dcall ?_
      rw [f120]
      simp (disch := first | omega | (simp only [go_sem, true_and, and_true, List.length_append, List.length_take, List.length_set, List.length_drop, List.length_replicate, List.length_cons, List.length_nil, List.length_replicate] <;> omega)) only [go_sem, true_and, Nat.reduceAdd, Nat.reduceSub, Nat.reduceMul, Nat.reduceEqDiff, Nat.reduceLeDiff, Nat.reduceLT, Nat.reduceBEq, Int.reduceAdd, Int.reduceSub, Int.reduceMul, Int.reduceNeg, Int.reduceLT, Int.reduceLE, Int.reduceEq, Int.reduceToNat, Bool.not_true]
      refine (r_May3 hs).dcall ?_
      cases hm : mayV v
      · simp (disch := first | omega | (simp only [go_sem, true_and, and_true, List.length_append, List.length_take, List.length_set, List.length_drop, List.length_replicate, List.length_cons, List.length_nil, List.length_replicate] <;> omega)) only [go_sem, true_and, Nat.reduceAdd, Nat.reduceSub, Nat.reduceMul, Nat.reduceEqDiff, Nat.reduceLeDiff, Nat.reduceLT, Nat.reduceBEq, Int.reduceAdd, Int.reduceSub, Int.reduceMul, Int.reduceNeg, Int.reduceLT, Int.reduceLE, Int.reduceEq, Int.reduceToNat, Bool.not_false]
        refine fin_tmp hw ?_ (fin_eq hK ?_)
        · simp (disch := first | omega | (simp only [go_sem, true_and, and_true, List.length_append, List.length_take, List.length_set, List.length_drop, List.length_replicate, List.length_cons, List.length_nil, List.length_replicate] <;> omega)) only [go_sem, true_and, Nat.reduceAdd, Nat.reduceSub, Nat.reduceMul, Nat.reduceEqDiff, Nat.reduceLeDiff, Nat.reduceLT, Nat.reduceBEq, Int.reduceAdd, Int.reduceSub, Int.reduceMul, Int.reduceNeg, Int.reduceLT, Int.reduceLE, Int.reduceEq, Int.reduceToNat]
        · simp (disch := first | omega | (simp only [go_sem, true_and, and_true, List.length_append, List.length_take, List.length_set, List.length_drop, List.length_replicate, List.length_cons, List.length_nil, List.length_replicate] <;> omega)) only [go_sem, true_and, Nat.reduceAdd, Nat.reduceSub, Nat.reduceMul, Nat.reduceEqDiff, Nat.reduceLeDiff, Nat.reduceLT, Nat.reduceBEq, Int.reduceAdd, Int.reduceSub, Int.reduceMul, Int.reduceNeg, Int.reduceLT, Int.reduceLE, Int.reduceEq, Int.reduceToNat, hm]
      · simp (disch := first | omega | (simp only [go_sem, true_and, and_true, List.length_append, List.length_take, List.length_set, List.length_drop, List.length_replicate, List.length_cons, List.length_nil, List.length_replicate] <;> omega)) only [go_sem, true_and, Nat.reduceAdd, Nat.reduceSub, Nat.reduceMul, Nat.reduceEqDiff, Nat.reduceLeDiff, Nat.reduceLT, Nat.reduceBEq, Int.reduceAdd, Int.reduceSub, Int.reduceMul, Int.reduceNeg, Int.reduceLT, Int.reduceLE, Int.reduceEq, Int.reduceToNat, Bool.not_true, Int.cast_ofNat_Int]
        refine round_end (hJ _ _ _ ⟨1, rfl, rfl, rfl, .inr ⟨rfl, hm⟩⟩) (by omega) (by first | omega | (simp only [go_sem, List.length_append, List.length_set, List.length_take, List.length_drop, List.length_replicate, true_and, Nat.reduceAdd, Nat.reduceSub, Nat.reduceMul, Nat.reduceEqDiff, Nat.reduceLeDiff, Nat.reduceLT, Nat.reduceBEq, Int.reduceAdd, Int.reduceSub, Int.reduceMul, Int.reduceNeg, Int.reduceLT, Int.reduceLE, Int.reduceEq, Int.reduceToNat] <;> omega)) ?_ ?_
        · simp (disch := (simp only [go_sem, true_and, Nat.reduceAdd, Nat.reduceSub, Nat.reduceMul, Nat.reduceEqDiff, Nat.reduceLeDiff, Nat.reduceLT, Nat.reduceBEq, Int.reduceAdd, Int.reduceSub, Int.reduceMul, Int.reduceNeg, Int.reduceLT, Int.reduceLE, Int.reduceEq, Int.reduceToNat, Int.cast_ofNat_Int] <;> omega)) only [go_sem, x_eLeS, x_hLeS, Int.natCast_zero, Int.natCast_add, Int.natCast_one, true_and, Nat.reduceAdd, Nat.reduceSub, Nat.reduceMul, Nat.reduceEqDiff, Nat.reduceLeDiff, Nat.reduceLT, Nat.reduceBEq, Int.reduceAdd, Int.reduceSub, Int.reduceMul, Int.reduceNeg, Int.reduceLT, Int.reduceLE, Int.reduceEq, Int.reduceToNat, Int.cast_ofNat_Int]
        · exact hLe_app hw (by first | omega | (simp only [go_sem, List.length_append, List.length_set, List.length_take, List.length_drop, List.length_replicate, true_and, Nat.reduceAdd, Nat.reduceSub, Nat.reduceMul, Nat.reduceEqDiff, Nat.reduceLeDiff, Nat.reduceLT, Nat.reduceBEq, Int.reduceAdd, Int.reduceSub, Int.reduceMul, Int.reduceNeg, Int.reduceLT, Int.reduceLE, Int.reduceEq, Int.reduceToNat] <;> omega)) (by simp (disch := (simp only [go_sem, true_and, Nat.reduceAdd, Nat.reduceSub, Nat.reduceMul, Nat.reduceEqDiff, Nat.reduceLeDiff, Nat.reduceLT, Nat.reduceBEq, Int.reduceAdd, Int.reduceSub, Int.reduceMul, Int.reduceNeg, Int.reduceLT, Int.reduceLE, Int.reduceEq, Int.reduceToNat] <;> omega)) only [go_sem, x_eLeS, x_hLeS, Int.natCast_zero, Int.natCast_add, Int.natCast_one, true_and, Nat.reduceAdd, Nat.reduceSub, Nat.reduceMul, Nat.reduceEqDiff, Nat.reduceLeDiff, Nat.reduceLT, Nat.reduceBEq, Int.reduceAdd, Int.reduceSub, Int.reduceMul, Int.reduceNeg, Int.reduceLT, Int.reduceLE, Int.reduceEq, Int.reduceToNat])
    · simp (disch := first | omega | (simp only [go_sem, true_and, and_true, List.length_append, List.length_take, List.length_set, List.length_drop, List.length_replicate, List.length_cons, List.length_nil, List.length_replicate] <;> omega)) only [go_sem, true_and, Nat.reduceAdd, Nat.reduceSub, Nat.reduceMul, Nat.reduceEqDiff, Nat.reduceLeDiff, Nat.reduceLT, Nat.reduceBEq, Int.reduceAdd, Int.reduceSub, Int.reduceMul, Int.reduceNeg, Int.reduceLT, Int.reduceLE, Int.reduceEq, Int.reduceToNat, Int.cast_ofNat_Int]
      refine r_Topic (s := [97]) (by decide) _ ?_
      rw [t97]
      simp (disch := first | omega | (simp only [go_sem, true_and, and_true, List.length_append, List.length_take, List.length_set, List.length_drop, List.length_replicate, List.length_cons, List.length_nil, List.length_replicate] <;> omega)) only [go_sem, true_and, Nat.reduceAdd, Nat.reduceSub, Nat.reduceMul, Nat.reduceEqDiff, Nat.reduceLeDiff, Nat.reduceLT, Nat.reduceBEq, Int.reduceAdd, Int.reduceSub, Int.reduceMul, Int.reduceNeg, Int.reduceLT, Int.reduceLE, Int.reduceEq, Int.reduceToNat]
      refine r_Field (s := [112]) (by decide) _ ?_
      rw [f112]
      simp (disch := first | omega | (simp only [go_sem, true_and, and_true, List.length_append, List.length_take, List.length_set, List.length_drop, List.length_replicate, List.length_cons, List.length_nil, List.length_replicate] <;> omega)) only [go_sem, true_and, Nat.reduceAdd, Nat.reduceSub, Nat.reduceMul, Nat.reduceEqDiff, Nat.reduceLeDiff, Nat.reduceLT, Nat.reduceBEq, Int.reduceAdd, Int.reduceSub, Int.reduceMul, Int.reduceNeg, Int.reduceLT, Int.reduceLE, Int.reduceEq, Int.reduceToNat]
      refine fin_tmp hw ?_ (fin_eq hK ?_)
      · simp (disch := first | omega | (simp only [go_sem, true_and, and_true, List.length_append, List.length_take, List.length_set, List.length_drop, List.length_replicate, List.length_cons, List.length_nil, List.length_replicate] <;> omega)) only [go_sem, true_and, Nat.reduceAdd, Nat.reduceSub, Nat.reduceMul, Nat.reduceEqDiff, Nat.reduceLeDiff, Nat.reduceLT, Nat.reduceBEq, Int.reduceAdd, Int.reduceSub, Int.reduceMul, Int.reduceNeg, Int.reduceLT, Int.reduceLE, Int.reduceEq, Int.reduceToNat]
      · simp (disch := first | omega | (simp only [go_sem, true_and, and_true, List.length_append, List.length_take, List.length_set, List.length_drop, List.length_replicate, List.length_cons, List.length_nil, List.length_replicate] <;> omega)) only [go_sem, true_and, Nat.reduceAdd, Nat.reduceSub, Nat.reduceMul, Nat.reduceEqDiff, Nat.reduceLeDiff, Nat.reduceLT, Nat.reduceBEq, Int.reduceAdd, Int.reduceSub, Int.reduceMul, Int.reduceNeg, Int.reduceLT, Int.reduceLE, Int.reduceEq, Int.reduceToNat, hm, Int.cast_ofNat_Int, decide_true]
theorem put_ok {e : Ev} {n : List UInt8} {v : Vl} (he : evOk e) (hn : n.length ≤ 9223372036854775807) (hv : v.2.2.length ≤ 9223372036854775807) (hl : e.2.2.2.length ≤ 1000000) : evOk (putE e n v) := by
  obtain ⟨h1, h2, h3, h4⟩ := he
  have hp := putL_len e.2.2.2 n v
  refine ⟨h1, h2, ?_, fun f hf => ?_⟩
  · show (putL e.2.2.2 n v).length ≤ _
    omega
  · have hf : f ∈ putL e.2.2.2 n v := hf
    have key : f = (n, v) ∨ f ∈ e.2.2.2 := by
      unfold putL at hf
      split at hf
      · rcases List.mem_or_eq_of_mem_set hf with h | h
        · exact .inr h
        · exact .inl h
      · simp only [List.mem_append, List.mem_singleton] at hf
        rcases hf with (h | h) | h
        · exact .inr (List.mem_of_mem_take h)
        · exact .inl h
        · exact .inr (List.mem_of_mem_drop h)
    rcases key with rfl | h
    · exact ⟨hn, hv⟩
    · exact h4 f h
theorem law_back {e : Ev} {n o : List UInt8} {v : Vl} {H : List Entry} (he : evOk e) (hn : n.length ≤ 9223372036854775807) (ho : o.length ≤ 9223372036854775807) (hv : v.2.2.length ≤ 9223372036854775807) : Pure AP n_trystlaw04_EventBack [bkV e n o v] H (.bool true) := by
  intro K hK
  refine a_trystlaw04_EventBack fun hw => ?_
  simp (disch := first | omega | (simp only [go_sem, true_and, and_true, List.length_append, List.length_take, List.length_set, List.length_drop, List.length_replicate, List.length_cons, List.length_nil, List.length_replicate] <;> omega)) only [go_sem, true_and, Nat.reduceAdd, Nat.reduceSub, Nat.reduceMul, Nat.reduceEqDiff, Nat.reduceLeDiff, Nat.reduceLT, Nat.reduceBEq, Int.reduceAdd, Int.reduceSub, Int.reduceMul, Int.reduceNeg, Int.reduceLT, Int.reduceLE, Int.reduceEq, Int.reduceToNat, c_trystlaw04_EventBack]
  refine Pure.pcall (fun H => s_Few4 he) ?_
  simp (disch := first | omega | (simp only [go_sem, true_and, and_true, List.length_append, List.length_take, List.length_set, List.length_drop, List.length_replicate, List.length_cons, List.length_nil, List.length_replicate] <;> omega)) only [go_sem, true_and, Nat.reduceAdd, Nat.reduceSub, Nat.reduceMul, Nat.reduceEqDiff, Nat.reduceLeDiff, Nat.reduceLT, Nat.reduceBEq, Int.reduceAdd, Int.reduceSub, Int.reduceMul, Int.reduceNeg, Int.reduceLT, Int.reduceLE, Int.reduceEq, Int.reduceToNat]
  refine Pure.pcall (fun H => s_Few2 hn) ?_
  simp (disch := first | omega | (simp only [go_sem, true_and, and_true, List.length_append, List.length_take, List.length_set, List.length_drop, List.length_replicate, List.length_cons, List.length_nil, List.length_replicate] <;> omega)) only [go_sem, true_and, Nat.reduceAdd, Nat.reduceSub, Nat.reduceMul, Nat.reduceEqDiff, Nat.reduceLeDiff, Nat.reduceLT, Nat.reduceBEq, Int.reduceAdd, Int.reduceSub, Int.reduceMul, Int.reduceNeg, Int.reduceLT, Int.reduceLE, Int.reduceEq, Int.reduceToNat]
  refine Pure.pcall (fun H => s_Few2 ho) ?_
  simp (disch := first | omega | (simp only [go_sem, true_and, and_true, List.length_append, List.length_take, List.length_set, List.length_drop, List.length_replicate, List.length_cons, List.length_nil, List.length_replicate] <;> omega)) only [go_sem, true_and, Nat.reduceAdd, Nat.reduceSub, Nat.reduceMul, Nat.reduceEqDiff, Nat.reduceLeDiff, Nat.reduceLT, Nat.reduceBEq, Int.reduceAdd, Int.reduceSub, Int.reduceMul, Int.reduceNeg, Int.reduceLT, Int.reduceLE, Int.reduceEq, Int.reduceToNat]
  refine Pure.pcall (fun H => s_Few3 hv) ?_
  have hok := fewE_ok he
  have hl := fewE_len e
  have hw9 : (fewV v).2.2.length ≤ 9223372036854775807 := by simp [fewV]; omega
  have ha9 : (n.take 60).length ≤ 9223372036854775807 := by simp; omega
  simp (disch := first | omega | (simp only [go_sem, true_and, and_true, List.length_append, List.length_take, List.length_set, List.length_drop, List.length_replicate, List.length_cons, List.length_nil, List.length_replicate] <;> omega)) only [go_sem, true_and, Nat.reduceAdd, Nat.reduceSub, Nat.reduceMul, Nat.reduceEqDiff, Nat.reduceLeDiff, Nat.reduceLT, Nat.reduceBEq, Int.reduceAdd, Int.reduceSub, Int.reduceMul, Int.reduceNeg, Int.reduceLT, Int.reduceLE, Int.reduceEq, Int.reduceToNat]
  generalize fewE e = E at *
  generalize fewV v = w at *
  generalize n.take 60 = a at *
  generalize o.take 60 = b at *
  have hp := putL_len E.2.2.2 a w
  have hpl : (putE E a w).2.2.2.length ≤ 1000000 := by show (putL E.2.2.2 a w).length ≤ 1000000; omega
  refine s_Put (e := E) (n := a) (v := w) (by omega) _ ?_
  simp (disch := first | omega | (simp only [go_sem, true_and, and_true, List.length_append, List.length_take, List.length_set, List.length_drop, List.length_replicate, List.length_cons, List.length_nil, List.length_replicate] <;> omega)) only [go_sem, true_and, Nat.reduceAdd, Nat.reduceSub, Nat.reduceMul, Nat.reduceEqDiff, Nat.reduceLeDiff, Nat.reduceLT, Nat.reduceBEq, Int.reduceAdd, Int.reduceSub, Int.reduceMul, Int.reduceNeg, Int.reduceLT, Int.reduceLE, Int.reduceEq, Int.reduceToNat]
  refine s_Get (e := putE E a w) (n := a) hpl _ ?_
  rw [get_put]
  simp (disch := first | omega | (simp only [go_sem, true_and, and_true, List.length_append, List.length_take, List.length_set, List.length_drop, List.length_replicate, List.length_cons, List.length_nil, List.length_replicate] <;> omega)) only [go_sem, true_and, Nat.reduceAdd, Nat.reduceSub, Nat.reduceMul, Nat.reduceEqDiff, Nat.reduceLeDiff, Nat.reduceLT, Nat.reduceBEq, Int.reduceAdd, Int.reduceSub, Int.reduceMul, Int.reduceNeg, Int.reduceLT, Int.reduceLE, Int.reduceEq, Int.reduceToNat, beq_self_eq_true, decide_true, Bool.not_true]
  refine s_Get (e := E) (n := b) (by omega) _ ?_
  simp (disch := first | omega | (simp only [go_sem, true_and, and_true, List.length_append, List.length_take, List.length_set, List.length_drop, List.length_replicate, List.length_cons, List.length_nil, List.length_replicate] <;> omega)) only [go_sem, true_and, Nat.reduceAdd, Nat.reduceSub, Nat.reduceMul, Nat.reduceEqDiff, Nat.reduceLeDiff, Nat.reduceLT, Nat.reduceBEq, Int.reduceAdd, Int.reduceSub, Int.reduceMul, Int.reduceNeg, Int.reduceLT, Int.reduceLE, Int.reduceEq, Int.reduceToNat]
  refine s_Get (e := putE E a w) (n := b) hpl _ ?_
  have hok2 : evOk (putE E a w) := put_ok hok ha9 hw9 (by omega)
  by_cases hab : b = a
  · rw [hab, get_put]
    simp (disch := first | omega | (simp only [go_sem, true_and, and_true, List.length_append, List.length_take, List.length_set, List.length_drop, List.length_replicate, List.length_cons, List.length_nil, List.length_replicate] <;> omega)) only [go_sem, true_and, Nat.reduceAdd, Nat.reduceSub, Nat.reduceMul, Nat.reduceEqDiff, Nat.reduceLeDiff, Nat.reduceLT, Nat.reduceBEq, Int.reduceAdd, Int.reduceSub, Int.reduceMul, Int.reduceNeg, Int.reduceLT, Int.reduceLE, Int.reduceEq, Int.reduceToNat, decide_true, Bool.not_true]
    refine s_Get (e := E) (n := a) (by omega) _ ?_
    simp (disch := first | omega | (simp only [go_sem, true_and, and_true, List.length_append, List.length_take, List.length_set, List.length_drop, List.length_replicate, List.length_cons, List.length_nil, List.length_replicate] <;> omega)) only [go_sem, true_and, Nat.reduceAdd, Nat.reduceSub, Nat.reduceMul, Nat.reduceEqDiff, Nat.reduceLeDiff, Nat.reduceLT, Nat.reduceBEq, Int.reduceAdd, Int.reduceSub, Int.reduceMul, Int.reduceNeg, Int.reduceLT, Int.reduceLE, Int.reduceEq, Int.reduceToNat]
    refine s_May (e := E) hok (by omega) _ ?_
    cases hm : mayE E
    · simp (disch := first | omega | (simp only [go_sem, true_and, and_true, List.length_append, List.length_take, List.length_set, List.length_drop, List.length_replicate, List.length_cons, List.length_nil, List.length_replicate] <;> omega)) only [go_sem, true_and, Nat.reduceAdd, Nat.reduceSub, Nat.reduceMul, Nat.reduceEqDiff, Nat.reduceLeDiff, Nat.reduceLT, Nat.reduceBEq, Int.reduceAdd, Int.reduceSub, Int.reduceMul, Int.reduceNeg, Int.reduceLT, Int.reduceLE, Int.reduceEq, Int.reduceToNat, Bool.not_false]
      refine awake_ok _ _ ?_
      simp (disch := first | omega | (simp only [go_sem, true_and, and_true, List.length_append, List.length_take, List.length_set, List.length_drop, List.length_replicate, List.length_cons, List.length_nil, List.length_replicate] <;> omega)) only [go_sem, true_and, Nat.reduceAdd, Nat.reduceSub, Nat.reduceMul, Nat.reduceEqDiff, Nat.reduceLeDiff, Nat.reduceLT, Nat.reduceBEq, Int.reduceAdd, Int.reduceSub, Int.reduceMul, Int.reduceNeg, Int.reduceLT, Int.reduceLE, Int.reduceEq, Int.reduceToNat]
      refine fin_tmp hw ?_ (fin_eq hK ?_)
      · simp (disch := first | omega | (simp only [go_sem, true_and, and_true, List.length_append, List.length_take, List.length_set, List.length_drop, List.length_replicate, List.length_cons, List.length_nil, List.length_replicate] <;> omega)) only [go_sem, true_and, Nat.reduceAdd, Nat.reduceSub, Nat.reduceMul, Nat.reduceEqDiff, Nat.reduceLeDiff, Nat.reduceLT, Nat.reduceBEq, Int.reduceAdd, Int.reduceSub, Int.reduceMul, Int.reduceNeg, Int.reduceLT, Int.reduceLE, Int.reduceEq, Int.reduceToNat]
      · simp (disch := first | omega | (simp only [go_sem, true_and, and_true, List.length_append, List.length_take, List.length_set, List.length_drop, List.length_replicate, List.length_cons, List.length_nil, List.length_replicate] <;> omega)) only [go_sem, true_and, Nat.reduceAdd, Nat.reduceSub, Nat.reduceMul, Nat.reduceEqDiff, Nat.reduceLeDiff, Nat.reduceLT, Nat.reduceBEq, Int.reduceAdd, Int.reduceSub, Int.reduceMul, Int.reduceNeg, Int.reduceLT, Int.reduceLE, Int.reduceEq, Int.reduceToNat]
    simp (disch := first | omega | (simp only [go_sem, true_and, and_true, List.length_append, List.length_take, List.length_set, List.length_drop, List.length_replicate, List.length_cons, List.length_nil, List.length_replicate] <;> omega)) only [go_sem, true_and, Nat.reduceAdd, Nat.reduceSub, Nat.reduceMul, Nat.reduceEqDiff, Nat.reduceLeDiff, Nat.reduceLT, Nat.reduceBEq, Int.reduceAdd, Int.reduceSub, Int.reduceMul, Int.reduceNeg, Int.reduceLT, Int.reduceLE, Int.reduceEq, Int.reduceToNat, Bool.not_true]
    refine s_Field ha9 _ ?_
    cases hf : fieldB a
    · simp (disch := first | omega | (simp only [go_sem, true_and, and_true, List.length_append, List.length_take, List.length_set, List.length_drop, List.length_replicate, List.length_cons, List.length_nil, List.length_replicate] <;> omega)) only [go_sem, true_and, Nat.reduceAdd, Nat.reduceSub, Nat.reduceMul, Nat.reduceEqDiff, Nat.reduceLeDiff, Nat.reduceLT, Nat.reduceBEq, Int.reduceAdd, Int.reduceSub, Int.reduceMul, Int.reduceNeg, Int.reduceLT, Int.reduceLE, Int.reduceEq, Int.reduceToNat, Bool.not_false]
      refine awake_ok _ _ ?_
      simp (disch := first | omega | (simp only [go_sem, true_and, and_true, List.length_append, List.length_take, List.length_set, List.length_drop, List.length_replicate, List.length_cons, List.length_nil, List.length_replicate] <;> omega)) only [go_sem, true_and, Nat.reduceAdd, Nat.reduceSub, Nat.reduceMul, Nat.reduceEqDiff, Nat.reduceLeDiff, Nat.reduceLT, Nat.reduceBEq, Int.reduceAdd, Int.reduceSub, Int.reduceMul, Int.reduceNeg, Int.reduceLT, Int.reduceLE, Int.reduceEq, Int.reduceToNat]
      refine fin_tmp hw ?_ (fin_eq hK ?_)
      · simp (disch := first | omega | (simp only [go_sem, true_and, and_true, List.length_append, List.length_take, List.length_set, List.length_drop, List.length_replicate, List.length_cons, List.length_nil, List.length_replicate] <;> omega)) only [go_sem, true_and, Nat.reduceAdd, Nat.reduceSub, Nat.reduceMul, Nat.reduceEqDiff, Nat.reduceLeDiff, Nat.reduceLT, Nat.reduceBEq, Int.reduceAdd, Int.reduceSub, Int.reduceMul, Int.reduceNeg, Int.reduceLT, Int.reduceLE, Int.reduceEq, Int.reduceToNat]
      · simp (disch := first | omega | (simp only [go_sem, true_and, and_true, List.length_append, List.length_take, List.length_set, List.length_drop, List.length_replicate, List.length_cons, List.length_nil, List.length_replicate] <;> omega)) only [go_sem, true_and, Nat.reduceAdd, Nat.reduceSub, Nat.reduceMul, Nat.reduceEqDiff, Nat.reduceLeDiff, Nat.reduceLT, Nat.reduceBEq, Int.reduceAdd, Int.reduceSub, Int.reduceMul, Int.reduceNeg, Int.reduceLT, Int.reduceLE, Int.reduceEq, Int.reduceToNat]
    simp (disch := first | omega | (simp only [go_sem, true_and, and_true, List.length_append, List.length_take, List.length_set, List.length_drop, List.length_replicate, List.length_cons, List.length_nil, List.length_replicate] <;> omega)) only [go_sem, true_and, Nat.reduceAdd, Nat.reduceSub, Nat.reduceMul, Nat.reduceEqDiff, Nat.reduceLeDiff, Nat.reduceLT, Nat.reduceBEq, Int.reduceAdd, Int.reduceSub, Int.reduceMul, Int.reduceNeg, Int.reduceLT, Int.reduceLE, Int.reduceEq, Int.reduceToNat, Bool.not_true]
    refine r_MayX (v := w) hw9 _ ?_
    cases hv2 : mayV w
    · simp (disch := first | omega | (simp only [go_sem, true_and, and_true, List.length_append, List.length_take, List.length_set, List.length_drop, List.length_replicate, List.length_cons, List.length_nil, List.length_replicate] <;> omega)) only [go_sem, true_and, Nat.reduceAdd, Nat.reduceSub, Nat.reduceMul, Nat.reduceEqDiff, Nat.reduceLeDiff, Nat.reduceLT, Nat.reduceBEq, Int.reduceAdd, Int.reduceSub, Int.reduceMul, Int.reduceNeg, Int.reduceLT, Int.reduceLE, Int.reduceEq, Int.reduceToNat, Bool.not_false]
      refine awake_ok _ _ ?_
      simp (disch := first | omega | (simp only [go_sem, true_and, and_true, List.length_append, List.length_take, List.length_set, List.length_drop, List.length_replicate, List.length_cons, List.length_nil, List.length_replicate] <;> omega)) only [go_sem, true_and, Nat.reduceAdd, Nat.reduceSub, Nat.reduceMul, Nat.reduceEqDiff, Nat.reduceLeDiff, Nat.reduceLT, Nat.reduceBEq, Int.reduceAdd, Int.reduceSub, Int.reduceMul, Int.reduceNeg, Int.reduceLT, Int.reduceLE, Int.reduceEq, Int.reduceToNat]
      refine fin_tmp hw ?_ (fin_eq hK ?_)
      · simp (disch := first | omega | (simp only [go_sem, true_and, and_true, List.length_append, List.length_take, List.length_set, List.length_drop, List.length_replicate, List.length_cons, List.length_nil, List.length_replicate] <;> omega)) only [go_sem, true_and, Nat.reduceAdd, Nat.reduceSub, Nat.reduceMul, Nat.reduceEqDiff, Nat.reduceLeDiff, Nat.reduceLT, Nat.reduceBEq, Int.reduceAdd, Int.reduceSub, Int.reduceMul, Int.reduceNeg, Int.reduceLT, Int.reduceLE, Int.reduceEq, Int.reduceToNat]
      · simp (disch := first | omega | (simp only [go_sem, true_and, and_true, List.length_append, List.length_take, List.length_set, List.length_drop, List.length_replicate, List.length_cons, List.length_nil, List.length_replicate] <;> omega)) only [go_sem, true_and, Nat.reduceAdd, Nat.reduceSub, Nat.reduceMul, Nat.reduceEqDiff, Nat.reduceLeDiff, Nat.reduceLT, Nat.reduceBEq, Int.reduceAdd, Int.reduceSub, Int.reduceMul, Int.reduceNeg, Int.reduceLT, Int.reduceLE, Int.reduceEq, Int.reduceToNat]
    simp (disch := first | omega | (simp only [go_sem, true_and, and_true, List.length_append, List.length_take, List.length_set, List.length_drop, List.length_replicate, List.length_cons, List.length_nil, List.length_replicate] <;> omega)) only [go_sem, true_and, Nat.reduceAdd, Nat.reduceSub, Nat.reduceMul, Nat.reduceEqDiff, Nat.reduceLeDiff, Nat.reduceLT, Nat.reduceBEq, Int.reduceAdd, Int.reduceSub, Int.reduceMul, Int.reduceNeg, Int.reduceLT, Int.reduceLE, Int.reduceEq, Int.reduceToNat, Bool.not_true]
    refine s_May (e := putE E a w) hok2 hpl _ ?_
    rw [may_put hm hf hv2]
    have hi : decide ((E.2.2.2.length : Int) < 8) = decide (E.2.2.2.length < 8) := decide_eq_decide.2 (by omega)
    cases hg : (getE E a).2
    · simp (disch := first | omega | (simp only [go_sem, true_and, and_true, List.length_append, List.length_take, List.length_set, List.length_drop, List.length_replicate, List.length_cons, List.length_nil, List.length_replicate] <;> omega)) only [go_sem, true_and, Nat.reduceAdd, Nat.reduceSub, Nat.reduceMul, Nat.reduceEqDiff, Nat.reduceLeDiff, Nat.reduceLT, Nat.reduceBEq, Int.reduceAdd, Int.reduceSub, Int.reduceMul, Int.reduceNeg, Int.reduceLT, Int.reduceLE, Int.reduceEq, Int.reduceToNat, hi, Bool.false_or, beq_self_eq_true]
      refine awake_ok _ _ ?_
      simp (disch := first | omega | (simp only [go_sem, true_and, and_true, List.length_append, List.length_take, List.length_set, List.length_drop, List.length_replicate, List.length_cons, List.length_nil, List.length_replicate] <;> omega)) only [go_sem, true_and, Nat.reduceAdd, Nat.reduceSub, Nat.reduceMul, Nat.reduceEqDiff, Nat.reduceLeDiff, Nat.reduceLT, Nat.reduceBEq, Int.reduceAdd, Int.reduceSub, Int.reduceMul, Int.reduceNeg, Int.reduceLT, Int.reduceLE, Int.reduceEq, Int.reduceToNat]
      refine fin_tmp hw ?_ (fin_eq hK ?_)
      · simp (disch := first | omega | (simp only [go_sem, true_and, and_true, List.length_append, List.length_take, List.length_set, List.length_drop, List.length_replicate, List.length_cons, List.length_nil, List.length_replicate] <;> omega)) only [go_sem, true_and, Nat.reduceAdd, Nat.reduceSub, Nat.reduceMul, Nat.reduceEqDiff, Nat.reduceLeDiff, Nat.reduceLT, Nat.reduceBEq, Int.reduceAdd, Int.reduceSub, Int.reduceMul, Int.reduceNeg, Int.reduceLT, Int.reduceLE, Int.reduceEq, Int.reduceToNat]
      · simp (disch := first | omega | (simp only [go_sem, true_and, and_true, List.length_append, List.length_take, List.length_set, List.length_drop, List.length_replicate, List.length_cons, List.length_nil, List.length_replicate] <;> omega)) only [go_sem, true_and, Nat.reduceAdd, Nat.reduceSub, Nat.reduceMul, Nat.reduceEqDiff, Nat.reduceLeDiff, Nat.reduceLT, Nat.reduceBEq, Int.reduceAdd, Int.reduceSub, Int.reduceMul, Int.reduceNeg, Int.reduceLT, Int.reduceLE, Int.reduceEq, Int.reduceToNat]
    · simp (disch := first | omega | (simp only [go_sem, true_and, and_true, List.length_append, List.length_take, List.length_set, List.length_drop, List.length_replicate, List.length_cons, List.length_nil, List.length_replicate] <;> omega)) only [go_sem, true_and, Nat.reduceAdd, Nat.reduceSub, Nat.reduceMul, Nat.reduceEqDiff, Nat.reduceLeDiff, Nat.reduceLT, Nat.reduceBEq, Int.reduceAdd, Int.reduceSub, Int.reduceMul, Int.reduceNeg, Int.reduceLT, Int.reduceLE, Int.reduceEq, Int.reduceToNat, hi, Bool.true_or, beq_self_eq_true]
      refine awake_ok _ _ ?_
      simp (disch := first | omega | (simp only [go_sem, true_and, and_true, List.length_append, List.length_take, List.length_set, List.length_drop, List.length_replicate, List.length_cons, List.length_nil, List.length_replicate] <;> omega)) only [go_sem, true_and, Nat.reduceAdd, Nat.reduceSub, Nat.reduceMul, Nat.reduceEqDiff, Nat.reduceLeDiff, Nat.reduceLT, Nat.reduceBEq, Int.reduceAdd, Int.reduceSub, Int.reduceMul, Int.reduceNeg, Int.reduceLT, Int.reduceLE, Int.reduceEq, Int.reduceToNat]
      refine fin_tmp hw ?_ (fin_eq hK ?_)
      · simp (disch := first | omega | (simp only [go_sem, true_and, and_true, List.length_append, List.length_take, List.length_set, List.length_drop, List.length_replicate, List.length_cons, List.length_nil, List.length_replicate] <;> omega)) only [go_sem, true_and, Nat.reduceAdd, Nat.reduceSub, Nat.reduceMul, Nat.reduceEqDiff, Nat.reduceLeDiff, Nat.reduceLT, Nat.reduceBEq, Int.reduceAdd, Int.reduceSub, Int.reduceMul, Int.reduceNeg, Int.reduceLT, Int.reduceLE, Int.reduceEq, Int.reduceToNat]
      · simp (disch := first | omega | (simp only [go_sem, true_and, and_true, List.length_append, List.length_take, List.length_set, List.length_drop, List.length_replicate, List.length_cons, List.length_nil, List.length_replicate] <;> omega)) only [go_sem, true_and, Nat.reduceAdd, Nat.reduceSub, Nat.reduceMul, Nat.reduceEqDiff, Nat.reduceLeDiff, Nat.reduceLT, Nat.reduceBEq, Int.reduceAdd, Int.reduceSub, Int.reduceMul, Int.reduceNeg, Int.reduceLT, Int.reduceLE, Int.reduceEq, Int.reduceToNat]
  · rw [get_other E w hab]
    simp (disch := first | omega | (simp only [go_sem, true_and, and_true, List.length_append, List.length_take, List.length_set, List.length_drop, List.length_replicate, List.length_cons, List.length_nil, List.length_replicate] <;> omega)) only [go_sem, true_and, Nat.reduceAdd, Nat.reduceSub, Nat.reduceMul, Nat.reduceEqDiff, Nat.reduceLeDiff, Nat.reduceLT, Nat.reduceBEq, Int.reduceAdd, Int.reduceSub, Int.reduceMul, Int.reduceNeg, Int.reduceLT, Int.reduceLE, Int.reduceEq, Int.reduceToNat, hab, decide_false, decide_true, Bool.not_false, beq_self_eq_true, Bool.not_true, bne_self_eq_false]
    refine s_Get (e := E) (n := a) (by omega) _ ?_
    simp (disch := first | omega | (simp only [go_sem, true_and, and_true, List.length_append, List.length_take, List.length_set, List.length_drop, List.length_replicate, List.length_cons, List.length_nil, List.length_replicate] <;> omega)) only [go_sem, true_and, Nat.reduceAdd, Nat.reduceSub, Nat.reduceMul, Nat.reduceEqDiff, Nat.reduceLeDiff, Nat.reduceLT, Nat.reduceBEq, Int.reduceAdd, Int.reduceSub, Int.reduceMul, Int.reduceNeg, Int.reduceLT, Int.reduceLE, Int.reduceEq, Int.reduceToNat]
    refine s_May (e := E) hok (by omega) _ ?_
    cases hm : mayE E
    · simp (disch := first | omega | (simp only [go_sem, true_and, and_true, List.length_append, List.length_take, List.length_set, List.length_drop, List.length_replicate, List.length_cons, List.length_nil, List.length_replicate] <;> omega)) only [go_sem, true_and, Nat.reduceAdd, Nat.reduceSub, Nat.reduceMul, Nat.reduceEqDiff, Nat.reduceLeDiff, Nat.reduceLT, Nat.reduceBEq, Int.reduceAdd, Int.reduceSub, Int.reduceMul, Int.reduceNeg, Int.reduceLT, Int.reduceLE, Int.reduceEq, Int.reduceToNat, Bool.not_false]
      refine awake_ok _ _ ?_
      simp (disch := first | omega | (simp only [go_sem, true_and, and_true, List.length_append, List.length_take, List.length_set, List.length_drop, List.length_replicate, List.length_cons, List.length_nil, List.length_replicate] <;> omega)) only [go_sem, true_and, Nat.reduceAdd, Nat.reduceSub, Nat.reduceMul, Nat.reduceEqDiff, Nat.reduceLeDiff, Nat.reduceLT, Nat.reduceBEq, Int.reduceAdd, Int.reduceSub, Int.reduceMul, Int.reduceNeg, Int.reduceLT, Int.reduceLE, Int.reduceEq, Int.reduceToNat]
      refine fin_tmp hw ?_ (fin_eq hK ?_)
      · simp (disch := first | omega | (simp only [go_sem, true_and, and_true, List.length_append, List.length_take, List.length_set, List.length_drop, List.length_replicate, List.length_cons, List.length_nil, List.length_replicate] <;> omega)) only [go_sem, true_and, Nat.reduceAdd, Nat.reduceSub, Nat.reduceMul, Nat.reduceEqDiff, Nat.reduceLeDiff, Nat.reduceLT, Nat.reduceBEq, Int.reduceAdd, Int.reduceSub, Int.reduceMul, Int.reduceNeg, Int.reduceLT, Int.reduceLE, Int.reduceEq, Int.reduceToNat]
      · simp (disch := first | omega | (simp only [go_sem, true_and, and_true, List.length_append, List.length_take, List.length_set, List.length_drop, List.length_replicate, List.length_cons, List.length_nil, List.length_replicate] <;> omega)) only [go_sem, true_and, Nat.reduceAdd, Nat.reduceSub, Nat.reduceMul, Nat.reduceEqDiff, Nat.reduceLeDiff, Nat.reduceLT, Nat.reduceBEq, Int.reduceAdd, Int.reduceSub, Int.reduceMul, Int.reduceNeg, Int.reduceLT, Int.reduceLE, Int.reduceEq, Int.reduceToNat]
    simp (disch := first | omega | (simp only [go_sem, true_and, and_true, List.length_append, List.length_take, List.length_set, List.length_drop, List.length_replicate, List.length_cons, List.length_nil, List.length_replicate] <;> omega)) only [go_sem, true_and, Nat.reduceAdd, Nat.reduceSub, Nat.reduceMul, Nat.reduceEqDiff, Nat.reduceLeDiff, Nat.reduceLT, Nat.reduceBEq, Int.reduceAdd, Int.reduceSub, Int.reduceMul, Int.reduceNeg, Int.reduceLT, Int.reduceLE, Int.reduceEq, Int.reduceToNat, Bool.not_true]
    refine s_Field ha9 _ ?_
    cases hf : fieldB a
    · simp (disch := first | omega | (simp only [go_sem, true_and, and_true, List.length_append, List.length_take, List.length_set, List.length_drop, List.length_replicate, List.length_cons, List.length_nil, List.length_replicate] <;> omega)) only [go_sem, true_and, Nat.reduceAdd, Nat.reduceSub, Nat.reduceMul, Nat.reduceEqDiff, Nat.reduceLeDiff, Nat.reduceLT, Nat.reduceBEq, Int.reduceAdd, Int.reduceSub, Int.reduceMul, Int.reduceNeg, Int.reduceLT, Int.reduceLE, Int.reduceEq, Int.reduceToNat, Bool.not_false]
      refine awake_ok _ _ ?_
      simp (disch := first | omega | (simp only [go_sem, true_and, and_true, List.length_append, List.length_take, List.length_set, List.length_drop, List.length_replicate, List.length_cons, List.length_nil, List.length_replicate] <;> omega)) only [go_sem, true_and, Nat.reduceAdd, Nat.reduceSub, Nat.reduceMul, Nat.reduceEqDiff, Nat.reduceLeDiff, Nat.reduceLT, Nat.reduceBEq, Int.reduceAdd, Int.reduceSub, Int.reduceMul, Int.reduceNeg, Int.reduceLT, Int.reduceLE, Int.reduceEq, Int.reduceToNat]
      refine fin_tmp hw ?_ (fin_eq hK ?_)
      · simp (disch := first | omega | (simp only [go_sem, true_and, and_true, List.length_append, List.length_take, List.length_set, List.length_drop, List.length_replicate, List.length_cons, List.length_nil, List.length_replicate] <;> omega)) only [go_sem, true_and, Nat.reduceAdd, Nat.reduceSub, Nat.reduceMul, Nat.reduceEqDiff, Nat.reduceLeDiff, Nat.reduceLT, Nat.reduceBEq, Int.reduceAdd, Int.reduceSub, Int.reduceMul, Int.reduceNeg, Int.reduceLT, Int.reduceLE, Int.reduceEq, Int.reduceToNat]
      · simp (disch := first | omega | (simp only [go_sem, true_and, and_true, List.length_append, List.length_take, List.length_set, List.length_drop, List.length_replicate, List.length_cons, List.length_nil, List.length_replicate] <;> omega)) only [go_sem, true_and, Nat.reduceAdd, Nat.reduceSub, Nat.reduceMul, Nat.reduceEqDiff, Nat.reduceLeDiff, Nat.reduceLT, Nat.reduceBEq, Int.reduceAdd, Int.reduceSub, Int.reduceMul, Int.reduceNeg, Int.reduceLT, Int.reduceLE, Int.reduceEq, Int.reduceToNat]
    simp (disch := first | omega | (simp only [go_sem, true_and, and_true, List.length_append, List.length_take, List.length_set, List.length_drop, List.length_replicate, List.length_cons, List.length_nil, List.length_replicate] <;> omega)) only [go_sem, true_and, Nat.reduceAdd, Nat.reduceSub, Nat.reduceMul, Nat.reduceEqDiff, Nat.reduceLeDiff, Nat.reduceLT, Nat.reduceBEq, Int.reduceAdd, Int.reduceSub, Int.reduceMul, Int.reduceNeg, Int.reduceLT, Int.reduceLE, Int.reduceEq, Int.reduceToNat, Bool.not_true]
    refine r_MayX (v := w) hw9 _ ?_
    cases hv2 : mayV w
    · simp (disch := first | omega | (simp only [go_sem, true_and, and_true, List.length_append, List.length_take, List.length_set, List.length_drop, List.length_replicate, List.length_cons, List.length_nil, List.length_replicate] <;> omega)) only [go_sem, true_and, Nat.reduceAdd, Nat.reduceSub, Nat.reduceMul, Nat.reduceEqDiff, Nat.reduceLeDiff, Nat.reduceLT, Nat.reduceBEq, Int.reduceAdd, Int.reduceSub, Int.reduceMul, Int.reduceNeg, Int.reduceLT, Int.reduceLE, Int.reduceEq, Int.reduceToNat, Bool.not_false]
      refine awake_ok _ _ ?_
      simp (disch := first | omega | (simp only [go_sem, true_and, and_true, List.length_append, List.length_take, List.length_set, List.length_drop, List.length_replicate, List.length_cons, List.length_nil, List.length_replicate] <;> omega)) only [go_sem, true_and, Nat.reduceAdd, Nat.reduceSub, Nat.reduceMul, Nat.reduceEqDiff, Nat.reduceLeDiff, Nat.reduceLT, Nat.reduceBEq, Int.reduceAdd, Int.reduceSub, Int.reduceMul, Int.reduceNeg, Int.reduceLT, Int.reduceLE, Int.reduceEq, Int.reduceToNat]
      refine fin_tmp hw ?_ (fin_eq hK ?_)
      · simp (disch := first | omega | (simp only [go_sem, true_and, and_true, List.length_append, List.length_take, List.length_set, List.length_drop, List.length_replicate, List.length_cons, List.length_nil, List.length_replicate] <;> omega)) only [go_sem, true_and, Nat.reduceAdd, Nat.reduceSub, Nat.reduceMul, Nat.reduceEqDiff, Nat.reduceLeDiff, Nat.reduceLT, Nat.reduceBEq, Int.reduceAdd, Int.reduceSub, Int.reduceMul, Int.reduceNeg, Int.reduceLT, Int.reduceLE, Int.reduceEq, Int.reduceToNat]
      · simp (disch := first | omega | (simp only [go_sem, true_and, and_true, List.length_append, List.length_take, List.length_set, List.length_drop, List.length_replicate, List.length_cons, List.length_nil, List.length_replicate] <;> omega)) only [go_sem, true_and, Nat.reduceAdd, Nat.reduceSub, Nat.reduceMul, Nat.reduceEqDiff, Nat.reduceLeDiff, Nat.reduceLT, Nat.reduceBEq, Int.reduceAdd, Int.reduceSub, Int.reduceMul, Int.reduceNeg, Int.reduceLT, Int.reduceLE, Int.reduceEq, Int.reduceToNat]
    simp (disch := first | omega | (simp only [go_sem, true_and, and_true, List.length_append, List.length_take, List.length_set, List.length_drop, List.length_replicate, List.length_cons, List.length_nil, List.length_replicate] <;> omega)) only [go_sem, true_and, Nat.reduceAdd, Nat.reduceSub, Nat.reduceMul, Nat.reduceEqDiff, Nat.reduceLeDiff, Nat.reduceLT, Nat.reduceBEq, Int.reduceAdd, Int.reduceSub, Int.reduceMul, Int.reduceNeg, Int.reduceLT, Int.reduceLE, Int.reduceEq, Int.reduceToNat, Bool.not_true]
    refine s_May (e := putE E a w) hok2 hpl _ ?_
    rw [may_put hm hf hv2]
    have hi : decide ((E.2.2.2.length : Int) < 8) = decide (E.2.2.2.length < 8) := decide_eq_decide.2 (by omega)
    cases hg : (getE E a).2
    · simp (disch := first | omega | (simp only [go_sem, true_and, and_true, List.length_append, List.length_take, List.length_set, List.length_drop, List.length_replicate, List.length_cons, List.length_nil, List.length_replicate] <;> omega)) only [go_sem, true_and, Nat.reduceAdd, Nat.reduceSub, Nat.reduceMul, Nat.reduceEqDiff, Nat.reduceLeDiff, Nat.reduceLT, Nat.reduceBEq, Int.reduceAdd, Int.reduceSub, Int.reduceMul, Int.reduceNeg, Int.reduceLT, Int.reduceLE, Int.reduceEq, Int.reduceToNat, hi, Bool.false_or, beq_self_eq_true]
      refine awake_ok _ _ ?_
      simp (disch := first | omega | (simp only [go_sem, true_and, and_true, List.length_append, List.length_take, List.length_set, List.length_drop, List.length_replicate, List.length_cons, List.length_nil, List.length_replicate] <;> omega)) only [go_sem, true_and, Nat.reduceAdd, Nat.reduceSub, Nat.reduceMul, Nat.reduceEqDiff, Nat.reduceLeDiff, Nat.reduceLT, Nat.reduceBEq, Int.reduceAdd, Int.reduceSub, Int.reduceMul, Int.reduceNeg, Int.reduceLT, Int.reduceLE, Int.reduceEq, Int.reduceToNat]
      refine fin_tmp hw ?_ (fin_eq hK ?_)
      · simp (disch := first | omega | (simp only [go_sem, true_and, and_true, List.length_append, List.length_take, List.length_set, List.length_drop, List.length_replicate, List.length_cons, List.length_nil, List.length_replicate] <;> omega)) only [go_sem, true_and, Nat.reduceAdd, Nat.reduceSub, Nat.reduceMul, Nat.reduceEqDiff, Nat.reduceLeDiff, Nat.reduceLT, Nat.reduceBEq, Int.reduceAdd, Int.reduceSub, Int.reduceMul, Int.reduceNeg, Int.reduceLT, Int.reduceLE, Int.reduceEq, Int.reduceToNat]
      · simp (disch := first | omega | (simp only [go_sem, true_and, and_true, List.length_append, List.length_take, List.length_set, List.length_drop, List.length_replicate, List.length_cons, List.length_nil, List.length_replicate] <;> omega)) only [go_sem, true_and, Nat.reduceAdd, Nat.reduceSub, Nat.reduceMul, Nat.reduceEqDiff, Nat.reduceLeDiff, Nat.reduceLT, Nat.reduceBEq, Int.reduceAdd, Int.reduceSub, Int.reduceMul, Int.reduceNeg, Int.reduceLT, Int.reduceLE, Int.reduceEq, Int.reduceToNat]
    · simp (disch := first | omega | (simp only [go_sem, true_and, and_true, List.length_append, List.length_take, List.length_set, List.length_drop, List.length_replicate, List.length_cons, List.length_nil, List.length_replicate] <;> omega)) only [go_sem, true_and, Nat.reduceAdd, Nat.reduceSub, Nat.reduceMul, Nat.reduceEqDiff, Nat.reduceLeDiff, Nat.reduceLT, Nat.reduceBEq, Int.reduceAdd, Int.reduceSub, Int.reduceMul, Int.reduceNeg, Int.reduceLT, Int.reduceLE, Int.reduceEq, Int.reduceToNat, hi, Bool.true_or, beq_self_eq_true]
      refine awake_ok _ _ ?_
      simp (disch := first | omega | (simp only [go_sem, true_and, and_true, List.length_append, List.length_take, List.length_set, List.length_drop, List.length_replicate, List.length_cons, List.length_nil, List.length_replicate] <;> omega)) only [go_sem, true_and, Nat.reduceAdd, Nat.reduceSub, Nat.reduceMul, Nat.reduceEqDiff, Nat.reduceLeDiff, Nat.reduceLT, Nat.reduceBEq, Int.reduceAdd, Int.reduceSub, Int.reduceMul, Int.reduceNeg, Int.reduceLT, Int.reduceLE, Int.reduceEq, Int.reduceToNat]
      refine fin_tmp hw ?_ (fin_eq hK ?_)
      · simp (disch := first | omega | (simp only [go_sem, true_and, and_true, List.length_append, List.length_take, List.length_set, List.length_drop, List.length_replicate, List.length_cons, List.length_nil, List.length_replicate] <;> omega)) only [go_sem, true_and, Nat.reduceAdd, Nat.reduceSub, Nat.reduceMul, Nat.reduceEqDiff, Nat.reduceLeDiff, Nat.reduceLT, Nat.reduceBEq, Int.reduceAdd, Int.reduceSub, Int.reduceMul, Int.reduceNeg, Int.reduceLT, Int.reduceLE, Int.reduceEq, Int.reduceToNat]
      · simp (disch := first | omega | (simp only [go_sem, true_and, and_true, List.length_append, List.length_take, List.length_set, List.length_drop, List.length_replicate, List.length_cons, List.length_nil, List.length_replicate] <;> omega)) only [go_sem, true_and, Nat.reduceAdd, Nat.reduceSub, Nat.reduceMul, Nat.reduceEqDiff, Nat.reduceLeDiff, Nat.reduceLT, Nat.reduceBEq, Int.reduceAdd, Int.reduceSub, Int.reduceMul, Int.reduceNeg, Int.reduceLT, Int.reduceLE, Int.reduceEq, Int.reduceToNat]
end Go.Av
