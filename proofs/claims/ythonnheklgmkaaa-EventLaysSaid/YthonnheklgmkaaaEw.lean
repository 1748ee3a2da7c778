/- A part of a way to reckon what a Go program does without its memory (Ew). -/
import Derived.Test.YthonnheklgmkaaaEv
import Derived.Test.YthonnheklgmkaaaE8a
import Derived.Test.YthonnheklgmkaaaE7a
namespace Go.Av
open Go Go.RowKit
set_option autoImplicit false
set_option linter.all false
/-! ### The document's octets, and which event may be -/
theorem r_Pack {n : Int} {H : List Entry} (h0 : 0 ≤ n) (h1 : n ≤ 18446744073709551615) : Pure AP n_trystref01_Pack [.int .u64 n] H (.str (pkS n)) := by
  refine pure_of (by kernel_rfl) fun C vals hH hC hv => ?_
  simp only [CRep, VRep] at hv
  obtain ⟨_, _, rfl, rfl, rfl⟩ := hv
  refine Calls.mono (Go.Proofs.Ythonnheklgmkaaa.rpack_any 9 n C.w h0 h1 (Go.Proofs.Ythonnheklgmkaaa.pkW_le9 _ (by omega))) ?_
  rintro e w' ⟨rfl, hb⟩
  exact ⟨_, rfl, hb, fun C' _ => by simp only [VRep, pkS]⟩
theorem r_Fold {a : Int} {H : List Entry} (h0 : -9223372036854775808 ≤ a) (h1 : a ≤ 9223372036854775807) : Pure AP n_trystref01_Fold [.int .i64 a] H (.int .u64 (Go.Proofs.Ythonnheklgmkaaa.foldZ a)) := by
  intro K hK
  refine a_trystref01_Fold fun hw => ?_
  unfold Go.Proofs.Ythonnheklgmkaaa.foldZ at hK
  by_cases h : a < 0
  · rw [if_pos h] at hK
    simp (disch := first | omega | (simp only [go_sem, true_and, and_true, List.length_append, List.length_take, List.length_set, List.length_drop, List.length_replicate, List.length_cons, List.length_nil, List.length_replicate] <;> omega)) only [go_sem, true_and, Nat.reduceAdd, Nat.reduceSub, Nat.reduceMul, Nat.reduceEqDiff, Nat.reduceLeDiff, Nat.reduceLT, Nat.reduceBEq, Int.reduceAdd, Int.reduceSub, Int.reduceMul, Int.reduceNeg, Int.reduceLT, Int.reduceLE, Int.reduceEq, Int.reduceToNat, c_trystref01_Fold]
    refine fin_tmp0 hw ?_ (fin_eq hK ?_)
    · simp (disch := first | omega | (simp only [go_sem, true_and, and_true, List.length_append, List.length_take, List.length_set, List.length_drop, List.length_replicate, List.length_cons, List.length_nil, List.length_replicate] <;> omega)) only [go_sem, true_and, Nat.reduceAdd, Nat.reduceSub, Nat.reduceMul, Nat.reduceEqDiff, Nat.reduceLeDiff, Nat.reduceLT, Nat.reduceBEq, Int.reduceAdd, Int.reduceSub, Int.reduceMul, Int.reduceNeg, Int.reduceLT, Int.reduceLE, Int.reduceEq, Int.reduceToNat]
    · simp [oneV, nths, nth]; omega
  · rw [if_neg h] at hK
    simp (disch := first | omega | (simp only [go_sem, true_and, and_true, List.length_append, List.length_take, List.length_set, List.length_drop, List.length_replicate, List.length_cons, List.length_nil, List.length_replicate] <;> omega)) only [go_sem, true_and, Nat.reduceAdd, Nat.reduceSub, Nat.reduceMul, Nat.reduceEqDiff, Nat.reduceLeDiff, Nat.reduceLT, Nat.reduceBEq, Int.reduceAdd, Int.reduceSub, Int.reduceMul, Int.reduceNeg, Int.reduceLT, Int.reduceLE, Int.reduceEq, Int.reduceToNat, c_trystref01_Fold]
    refine fin_tmp0 hw ?_ (fin_eq hK ?_)
    · simp (disch := first | omega | (simp only [go_sem, true_and, and_true, List.length_append, List.length_take, List.length_set, List.length_drop, List.length_replicate, List.length_cons, List.length_nil, List.length_replicate] <;> omega)) only [go_sem, true_and, Nat.reduceAdd, Nat.reduceSub, Nat.reduceMul, Nat.reduceEqDiff, Nat.reduceLeDiff, Nat.reduceLT, Nat.reduceBEq, Int.reduceAdd, Int.reduceSub, Int.reduceMul, Int.reduceNeg, Int.reduceLT, Int.reduceLE, Int.reduceEq, Int.reduceToNat]
    · simp [oneV, nths, nth]
theorem r_LayV {v : Vl} {H : List Entry} (hs : v.2.2.length ≤ 1000000) (hz : -9223372036854775808 ≤ v.2.1 ∧ v.2.1 ≤ 9223372036854775807) : Pure AP n_trystref03_Lay [vlV v] H (.str (layV v)) := by
  intro K hK
  refine a_trystref03_Lay fun hw => ?_
  obtain ⟨b, z, s⟩ := v
  simp only at hs hz
  cases b
  · simp (disch := first | omega | (simp only [go_sem, true_and, and_true, List.length_append, List.length_take, List.length_set, List.length_drop, List.length_replicate, List.length_cons, List.length_nil, List.length_replicate] <;> omega)) only [go_sem, true_and, Nat.reduceAdd, Nat.reduceSub, Nat.reduceMul, Nat.reduceEqDiff, Nat.reduceLeDiff, Nat.reduceLT, Nat.reduceBEq, Int.reduceAdd, Int.reduceSub, Int.reduceMul, Int.reduceNeg, Int.reduceLT, Int.reduceLE, Int.reduceEq, Int.reduceToNat, c_trystref03_Lay]
    refine (r_Pack (by omega) (by omega)).dcall ?_
    have hp := pkS_len (s.length : Int) (by omega) (by omega)
    simp (disch := first | omega | (simp only [go_sem, true_and, and_true, List.length_append, List.length_take, List.length_set, List.length_drop, List.length_replicate, List.length_cons, List.length_nil, List.length_replicate] <;> omega)) only [go_sem, true_and, Nat.reduceAdd, Nat.reduceSub, Nat.reduceMul, Nat.reduceEqDiff, Nat.reduceLeDiff, Nat.reduceLT, Nat.reduceBEq, Int.reduceAdd, Int.reduceSub, Int.reduceMul, Int.reduceNeg, Int.reduceLT, Int.reduceLE, Int.reduceEq, Int.reduceToNat]
    refine fin_tmp hw ?_ (fin_eq hK ?_)
    · simp (disch := first | omega | (simp only [go_sem, true_and, and_true, List.length_append, List.length_take, List.length_set, List.length_drop, List.length_replicate, List.length_cons, List.length_nil, List.length_replicate] <;> omega)) only [go_sem, true_and, Nat.reduceAdd, Nat.reduceSub, Nat.reduceMul, Nat.reduceEqDiff, Nat.reduceLeDiff, Nat.reduceLT, Nat.reduceBEq, Int.reduceAdd, Int.reduceSub, Int.reduceMul, Int.reduceNeg, Int.reduceLT, Int.reduceLE, Int.reduceEq, Int.reduceToNat]
    · simp [oneV, nths, nth, layV]
  · have hf := Go.Proofs.Ythonnheklgmkaaa.foldZ_bd z hz.1 hz.2
    simp (disch := first | omega | (simp only [go_sem, true_and, and_true, List.length_append, List.length_take, List.length_set, List.length_drop, List.length_replicate, List.length_cons, List.length_nil, List.length_replicate] <;> omega)) only [go_sem, true_and, Nat.reduceAdd, Nat.reduceSub, Nat.reduceMul, Nat.reduceEqDiff, Nat.reduceLeDiff, Nat.reduceLT, Nat.reduceBEq, Int.reduceAdd, Int.reduceSub, Int.reduceMul, Int.reduceNeg, Int.reduceLT, Int.reduceLE, Int.reduceEq, Int.reduceToNat, c_trystref03_Lay]
    refine r_Fold hz.1 hz.2 _ ?_
    simp (disch := first | omega | (simp only [go_sem, true_and, and_true, List.length_append, List.length_take, List.length_set, List.length_drop, List.length_replicate, List.length_cons, List.length_nil, List.length_replicate] <;> omega)) only [go_sem, true_and, Nat.reduceAdd, Nat.reduceSub, Nat.reduceMul, Nat.reduceEqDiff, Nat.reduceLeDiff, Nat.reduceLT, Nat.reduceBEq, Int.reduceAdd, Int.reduceSub, Int.reduceMul, Int.reduceNeg, Int.reduceLT, Int.reduceLE, Int.reduceEq, Int.reduceToNat]
    refine r_Pack hf.1 hf.2 _ ?_
    have hp := pkS_len _ hf.1 hf.2
    simp (disch := first | omega | (simp only [go_sem, true_and, and_true, List.length_append, List.length_take, List.length_set, List.length_drop, List.length_replicate, List.length_cons, List.length_nil, List.length_replicate] <;> omega)) only [go_sem, true_and, Nat.reduceAdd, Nat.reduceSub, Nat.reduceMul, Nat.reduceEqDiff, Nat.reduceLeDiff, Nat.reduceLT, Nat.reduceBEq, Int.reduceAdd, Int.reduceSub, Int.reduceMul, Int.reduceNeg, Int.reduceLT, Int.reduceLE, Int.reduceEq, Int.reduceToNat]
    refine fin_tmp hw ?_ (fin_eq hK ?_)
    · simp (disch := first | omega | (simp only [go_sem, true_and, and_true, List.length_append, List.length_take, List.length_set, List.length_drop, List.length_replicate, List.length_cons, List.length_nil, List.length_replicate] <;> omega)) only [go_sem, true_and, Nat.reduceAdd, Nat.reduceSub, Nat.reduceMul, Nat.reduceEqDiff, Nat.reduceLeDiff, Nat.reduceLT, Nat.reduceBEq, Int.reduceAdd, Int.reduceSub, Int.reduceMul, Int.reduceNeg, Int.reduceLT, Int.reduceLE, Int.reduceEq, Int.reduceToNat]
    · simp [oneV, nths, nth, layV]
theorem r_text {s : List UInt8} {H : List Entry} (hs : s.length ≤ 1000000) : Pure AP n_trystref04_text [.str s] H (.str (layT s)) := by
  intro K hK
  refine a_trystref04_text fun hw => ?_
  simp (disch := first | omega | (simp only [go_sem, true_and, and_true, List.length_append, List.length_take, List.length_set, List.length_drop, List.length_replicate, List.length_cons, List.length_nil, List.length_replicate] <;> omega)) only [go_sem, true_and, Nat.reduceAdd, Nat.reduceSub, Nat.reduceMul, Nat.reduceEqDiff, Nat.reduceLeDiff, Nat.reduceLT, Nat.reduceBEq, Int.reduceAdd, Int.reduceSub, Int.reduceMul, Int.reduceNeg, Int.reduceLT, Int.reduceLE, Int.reduceEq, Int.reduceToNat, c_trystref04_text]
  refine r_Pack (by omega) (by omega) _ ?_
  have hp := pkS_len (s.length : Int) (by omega) (by omega)
  simp (disch := first | omega | (simp only [go_sem, true_and, and_true, List.length_append, List.length_take, List.length_set, List.length_drop, List.length_replicate, List.length_cons, List.length_nil, List.length_replicate] <;> omega)) only [go_sem, true_and, Nat.reduceAdd, Nat.reduceSub, Nat.reduceMul, Nat.reduceEqDiff, Nat.reduceLeDiff, Nat.reduceLT, Nat.reduceBEq, Int.reduceAdd, Int.reduceSub, Int.reduceMul, Int.reduceNeg, Int.reduceLT, Int.reduceLE, Int.reduceEq, Int.reduceToNat]
  refine fin_tmp0 hw ?_ (fin_eq hK ?_)
  · simp (disch := first | omega | (simp only [go_sem, true_and, and_true, List.length_append, List.length_take, List.length_set, List.length_drop, List.length_replicate, List.length_cons, List.length_nil, List.length_replicate] <;> omega)) only [go_sem, true_and, Nat.reduceAdd, Nat.reduceSub, Nat.reduceMul, Nat.reduceEqDiff, Nat.reduceLeDiff, Nat.reduceLT, Nat.reduceBEq, Int.reduceAdd, Int.reduceSub, Int.reduceMul, Int.reduceNeg, Int.reduceLT, Int.reduceLE, Int.reduceEq, Int.reduceToNat]
  · simp (disch := first | omega | (simp only [go_sem, true_and, and_true, List.length_append, List.length_take, List.length_set, List.length_drop, List.length_replicate, List.length_cons, List.length_nil, List.length_replicate] <;> omega)) only [go_sem, true_and, Nat.reduceAdd, Nat.reduceSub, Nat.reduceMul, Nat.reduceEqDiff, Nat.reduceLeDiff, Nat.reduceLT, Nat.reduceBEq, Int.reduceAdd, Int.reduceSub, Int.reduceMul, Int.reduceNeg, Int.reduceLT, Int.reduceLE, Int.reduceEq, Int.reduceToNat, layT]
theorem layFs_take {L : List Fd} {i : Nat} (hi : i < L.length) : layFs (L.take (i + 1)) = layFs (L.take i) ++ layF (L.getD i default) := by
  unfold layFs
  rw [List.take_add_one, List.map_append, List.flatten_append]
  simp [hi]
theorem r_LayE {e : Ev} {H : List Entry} (he : evB e) : Pure AP n_trystref04_Lay [evV e] H (.str (layE e)) := by
  intro K hK
  refine a_trystref04_Lay fun hw => ?_
  obtain ⟨h0, h1, h2, h3, h4⟩ := he
  simp (disch := first | omega | (simp only [go_sem, true_and, and_true, List.length_append, List.length_take, List.length_set, List.length_drop, List.length_replicate, List.length_cons, List.length_nil, List.length_replicate] <;> omega)) only [go_sem, true_and, Nat.reduceAdd, Nat.reduceSub, Nat.reduceMul, Nat.reduceEqDiff, Nat.reduceLeDiff, Nat.reduceLT, Nat.reduceBEq, Int.reduceAdd, Int.reduceSub, Int.reduceMul, Int.reduceNeg, Int.reduceLT, Int.reduceLE, Int.reduceEq, Int.reduceToNat, c_trystref04_Lay]
  have l1 := layT_len e.1 (by omega)
  have l2 := layT_len e.2.1 (by omega)
  have l3 := pkS_len e.2.2.1 h0.1 h0.2
  have l4 := pkS_len (e.2.2.2.length : Int) (by omega) (by omega)
  refine (r_text (s := e.1) (by omega)).dcall ?_
  simp (disch := first | omega | (simp only [go_sem, true_and, and_true, List.length_append, List.length_take, List.length_set, List.length_drop, List.length_replicate, List.length_cons, List.length_nil, List.length_replicate] <;> omega)) only [go_sem, true_and, Nat.reduceAdd, Nat.reduceSub, Nat.reduceMul, Nat.reduceEqDiff, Nat.reduceLeDiff, Nat.reduceLT, Nat.reduceBEq, Int.reduceAdd, Int.reduceSub, Int.reduceMul, Int.reduceNeg, Int.reduceLT, Int.reduceLE, Int.reduceEq, Int.reduceToNat]
  refine (r_text (s := e.2.1) (by omega)).dcall ?_
  simp (disch := first | omega | (simp only [go_sem, true_and, and_true, List.length_append, List.length_take, List.length_set, List.length_drop, List.length_replicate, List.length_cons, List.length_nil, List.length_replicate] <;> omega)) only [go_sem, true_and, Nat.reduceAdd, Nat.reduceSub, Nat.reduceMul, Nat.reduceEqDiff, Nat.reduceLeDiff, Nat.reduceLT, Nat.reduceBEq, Int.reduceAdd, Int.reduceSub, Int.reduceMul, Int.reduceNeg, Int.reduceLT, Int.reduceLE, Int.reduceEq, Int.reduceToNat]
  refine (r_Pack h0.1 h0.2).dcall ?_
  simp (disch := first | omega | (simp only [go_sem, true_and, and_true, List.length_append, List.length_take, List.length_set, List.length_drop, List.length_replicate, List.length_cons, List.length_nil, List.length_replicate] <;> omega)) only [go_sem, true_and, Nat.reduceAdd, Nat.reduceSub, Nat.reduceMul, Nat.reduceEqDiff, Nat.reduceLeDiff, Nat.reduceLT, Nat.reduceBEq, Int.reduceAdd, Int.reduceSub, Int.reduceMul, Int.reduceNeg, Int.reduceLT, Int.reduceLE, Int.reduceEq, Int.reduceToNat]
  refine (r_Pack (by omega) (by omega)).dcall ?_
  simp (disch := first | omega | (simp only [go_sem, true_and, and_true, List.length_append, List.length_take, List.length_set, List.length_drop, List.length_replicate, List.length_cons, List.length_nil, List.length_replicate] <;> omega)) only [go_sem, true_and, Nat.reduceAdd, Nat.reduceSub, Nat.reduceMul, Nat.reduceEqDiff, Nat.reduceLeDiff, Nat.reduceLT, Nat.reduceBEq, Int.reduceAdd, Int.reduceSub, Int.reduceMul, Int.reduceNeg, Int.reduceLT, Int.reduceLE, Int.reduceEq, Int.reduceToNat]
  have hz : (layT e.1 ++ layT e.2.1 ++ pkS e.2.2.1 ++ pkS (e.2.2.2.length : Int)).length ≤ 200 := by simp; omega
  have hE : layE e = layT e.1 ++ layT e.2.1 ++ pkS e.2.2.1 ++ pkS (e.2.2.2.length : Int) ++ layFs e.2.2.2 := rfl
  rw [hE] at hK
  generalize layT e.1 ++ layT e.2.1 ++ pkS e.2.2.1 ++ pkS (e.2.2.2.length : Int) = Z at *
  refine loop_in (fun m e' H' => ∃ i : Nat, m = e.2.2.2.length - i ∧ e' = slots 0 47 [(1, .ptr H.length 0), (3, .str (Z ++ layFs (e.2.2.2.take i))), (4, .int .i64 (i : Int))] ∧ H' = H ++ [.box [.str e.1, .str e.2.1, .int .u64 e.2.2.1, .sl 4 (e.2.2.2.map fdV)]] ∧ i ≤ e.2.2.2.length) (n := e.2.2.2.length) ⟨0, rfl, rfl, rfl, by omega⟩ (by first | omega | (simp only [go_sem, List.length_append, List.length_set, List.length_take, List.length_drop, List.length_replicate, true_and, Nat.reduceAdd, Nat.reduceSub, Nat.reduceMul, Nat.reduceEqDiff, Nat.reduceLeDiff, Nat.reduceLT, Nat.reduceBEq, Int.reduceAdd, Int.reduceSub, Int.reduceMul, Int.reduceNeg, Int.reduceLT, Int.reduceLE, Int.reduceEq, Int.reduceToNat] <;> omega)) ?_ ?_ ?_
  · have h00 : layFs [] = [] := rfl
    simp (disch := (simp only [go_sem, true_and, Nat.reduceAdd, Nat.reduceSub, Nat.reduceMul, Nat.reduceEqDiff, Nat.reduceLeDiff, Nat.reduceLT, Nat.reduceBEq, Int.reduceAdd, Int.reduceSub, Int.reduceMul, Int.reduceNeg, Int.reduceLT, Int.reduceLE, Int.reduceEq, Int.reduceToNat, List.take_zero, h00, List.append_nil] <;> omega)) only [go_sem, x_eLeS, x_hLeS, Int.natCast_zero, Int.natCast_add, Int.natCast_one, true_and, Nat.reduceAdd, Nat.reduceSub, Nat.reduceMul, Nat.reduceEqDiff, Nat.reduceLeDiff, Nat.reduceLT, Nat.reduceBEq, Int.reduceAdd, Int.reduceSub, Int.reduceMul, Int.reduceNeg, Int.reduceLT, Int.reduceLE, Int.reduceEq, Int.reduceToNat, List.take_zero, h00, List.append_nil]
  · exact hLe_app hw (by first | omega | (simp only [go_sem, List.length_append, List.length_set, List.length_take, List.length_drop, List.length_replicate, true_and, Nat.reduceAdd, Nat.reduceSub, Nat.reduceMul, Nat.reduceEqDiff, Nat.reduceLeDiff, Nat.reduceLT, Nat.reduceBEq, Int.reduceAdd, Int.reduceSub, Int.reduceMul, Int.reduceNeg, Int.reduceLT, Int.reduceLE, Int.reduceEq, Int.reduceToNat] <;> omega)) (by simp (disch := (simp only [go_sem, true_and, Nat.reduceAdd, Nat.reduceSub, Nat.reduceMul, Nat.reduceEqDiff, Nat.reduceLeDiff, Nat.reduceLT, Nat.reduceBEq, Int.reduceAdd, Int.reduceSub, Int.reduceMul, Int.reduceNeg, Int.reduceLT, Int.reduceLE, Int.reduceEq, Int.reduceToNat] <;> omega)) only [go_sem, x_eLeS, x_hLeS, Int.natCast_zero, Int.natCast_add, Int.natCast_one, true_and, Nat.reduceAdd, Nat.reduceSub, Nat.reduceMul, Nat.reduceEqDiff, Nat.reduceLeDiff, Nat.reduceLT, Nat.reduceBEq, Int.reduceAdd, Int.reduceSub, Int.reduceMul, Int.reduceNeg, Int.reduceLT, Int.reduceLE, Int.reduceEq, Int.reduceToNat])
  · rintro J hJ m e' H' ⟨i, rfl, rfl, rfl, hi1⟩
    have hli : (layFs (e.2.2.2.take i)).length ≤ 200 * i := by
      have := layFs_len (L := e.2.2.2.take i) fun f hf => h4 f (List.mem_of_mem_take hf)
      rw [List.length_take] at this
      omega
    by_cases h : (i : Int) < e.2.2.2.length
    · have hf := h4 _ (getD_mem (X := e.2.2.2) (i := i) (by omega))
      have hnx := hJ _ _ _ ⟨i + 1, rfl, rfl, rfl, by omega⟩
      have a1 := layT_len (e.2.2.2.getD i default).1 (by omega)
      have a2 := layV_len (e.2.2.2.getD i default).2 hf.2.1 hf.2.2
      rw [layFs_take (by omega), layF] at hnx
      simp (disch := first | omega | (simp only [go_sem, true_and, and_true, List.length_append, List.length_take, List.length_set, List.length_drop, List.length_replicate, List.length_cons, List.length_nil, List.length_replicate] <;> omega)) only [go_sem, true_and, Nat.reduceAdd, Nat.reduceSub, Nat.reduceMul, Nat.reduceEqDiff, Nat.reduceLeDiff, Nat.reduceLT, Nat.reduceBEq, Int.reduceAdd, Int.reduceSub, Int.reduceMul, Int.reduceNeg, Int.reduceLT, Int.reduceLE, Int.reduceEq, Int.reduceToNat]
      refine (r_text (s := (e.2.2.2.getD i default).1) (by omega)).dcall ?_
      simp (disch := first | omega | (simp only [go_sem, true_and, and_true, List.length_append, List.length_take, List.length_set, List.length_drop, List.length_replicate, List.length_cons, List.length_nil, List.length_replicate] <;> omega)) only [go_sem, true_and, Nat.reduceAdd, Nat.reduceSub, Nat.reduceMul, Nat.reduceEqDiff, Nat.reduceLeDiff, Nat.reduceLT, Nat.reduceBEq, Int.reduceAdd, Int.reduceSub, Int.reduceMul, Int.reduceNeg, Int.reduceLT, Int.reduceLE, Int.reduceEq, Int.reduceToNat]
      refine (r_LayV (v := (e.2.2.2.getD i default).2) (by omega) hf.2.2).dcall ?_
      simp (disch := first | omega | (simp only [go_sem, true_and, and_true, List.length_append, List.length_take, List.length_set, List.length_drop, List.length_replicate, List.length_cons, List.length_nil, List.length_replicate] <;> omega)) only [go_sem, true_and, Nat.reduceAdd, Nat.reduceSub, Nat.reduceMul, Nat.reduceEqDiff, Nat.reduceLeDiff, Nat.reduceLT, Nat.reduceBEq, Int.reduceAdd, Int.reduceSub, Int.reduceMul, Int.reduceNeg, Int.reduceLT, Int.reduceLE, Int.reduceEq, Int.reduceToNat]
      refine round_end hnx (by omega) (by first | omega | (simp only [go_sem, List.length_append, List.length_set, List.length_take, List.length_drop, List.length_replicate, true_and, Nat.reduceAdd, Nat.reduceSub, Nat.reduceMul, Nat.reduceEqDiff, Nat.reduceLeDiff, Nat.reduceLT, Nat.reduceBEq, Int.reduceAdd, Int.reduceSub, Int.reduceMul, Int.reduceNeg, Int.reduceLT, Int.reduceLE, Int.reduceEq, Int.reduceToNat] <;> omega)) ?_ ?_
      · simp (disch := (simp only [go_sem, true_and, Nat.reduceAdd, Nat.reduceSub, Nat.reduceMul, Nat.reduceEqDiff, Nat.reduceLeDiff, Nat.reduceLT, Nat.reduceBEq, Int.reduceAdd, Int.reduceSub, Int.reduceMul, Int.reduceNeg, Int.reduceLT, Int.reduceLE, Int.reduceEq, Int.reduceToNat, List.append_assoc] <;> omega)) only [go_sem, x_eLeS, x_hLeS, Int.natCast_zero, Int.natCast_add, Int.natCast_one, true_and, Nat.reduceAdd, Nat.reduceSub, Nat.reduceMul, Nat.reduceEqDiff, Nat.reduceLeDiff, Nat.reduceLT, Nat.reduceBEq, Int.reduceAdd, Int.reduceSub, Int.reduceMul, Int.reduceNeg, Int.reduceLT, Int.reduceLE, Int.reduceEq, Int.reduceToNat, List.append_assoc]
      · exact hLe_app hw (by first | omega | (simp only [go_sem, List.length_append, List.length_set, List.length_take, List.length_drop, List.length_replicate, true_and, Nat.reduceAdd, Nat.reduceSub, Nat.reduceMul, Nat.reduceEqDiff, Nat.reduceLeDiff, Nat.reduceLT, Nat.reduceBEq, Int.reduceAdd, Int.reduceSub, Int.reduceMul, Int.reduceNeg, Int.reduceLT, Int.reduceLE, Int.reduceEq, Int.reduceToNat] <;> omega)) (by simp (disch := (simp only [go_sem, true_and, Nat.reduceAdd, Nat.reduceSub, Nat.reduceMul, Nat.reduceEqDiff, Nat.reduceLeDiff, Nat.reduceLT, Nat.reduceBEq, Int.reduceAdd, Int.reduceSub, Int.reduceMul, Int.reduceNeg, Int.reduceLT, Int.reduceLE, Int.reduceEq, Int.reduceToNat] <;> omega)) only [go_sem, x_eLeS, x_hLeS, Int.natCast_zero, Int.natCast_add, Int.natCast_one, true_and, Nat.reduceAdd, Nat.reduceSub, Nat.reduceMul, Nat.reduceEqDiff, Nat.reduceLeDiff, Nat.reduceLT, Nat.reduceBEq, Int.reduceAdd, Int.reduceSub, Int.reduceMul, Int.reduceNeg, Int.reduceLT, Int.reduceLE, Int.reduceEq, Int.reduceToNat])
    · have hi : i = e.2.2.2.length := by omega
      subst hi
      rw [List.take_length]
      simp (disch := first | omega | (simp only [go_sem, true_and, and_true, List.length_append, List.length_take, List.length_set, List.length_drop, List.length_replicate, List.length_cons, List.length_nil, List.length_replicate] <;> omega)) only [go_sem, true_and, Nat.reduceAdd, Nat.reduceSub, Nat.reduceMul, Nat.reduceEqDiff, Nat.reduceLeDiff, Nat.reduceLT, Nat.reduceBEq, Int.reduceAdd, Int.reduceSub, Int.reduceMul, Int.reduceNeg, Int.reduceLT, Int.reduceLE, Int.reduceEq, Int.reduceToNat]
      refine fin_tmp hw ?_ (fin_eq hK ?_)
      · simp (disch := first | omega | (simp only [go_sem, true_and, and_true, List.length_append, List.length_take, List.length_set, List.length_drop, List.length_replicate, List.length_cons, List.length_nil, List.length_replicate] <;> omega)) only [go_sem, true_and, Nat.reduceAdd, Nat.reduceSub, Nat.reduceMul, Nat.reduceEqDiff, Nat.reduceLeDiff, Nat.reduceLT, Nat.reduceBEq, Int.reduceAdd, Int.reduceSub, Int.reduceMul, Int.reduceNeg, Int.reduceLT, Int.reduceLE, Int.reduceEq, Int.reduceToNat]
      · simp [oneV, nths, nth]
theorem cmp_lt (a b : List UInt8) : cmpS a b < 0 ↔ Op.bytesLess a b = true := by
  unfold cmpS
  split
  · simp [*]
  · rename_i h
    split
    · exact ⟨fun k => by omega, fun k => absurd k h⟩
    · exact ⟨fun k => by omega, fun k => absurd k h⟩
/-- What the fields ahead of a place are. -/
def okTo (X : List Fd) (i : Nat) : Prop := ∀ j < i, fieldB (X.getD j default).1 = true ∧ mayV (X.getD j default).2 = true ∧ (0 < j → Op.bytesLess (X.getD (j - 1) default).1 (X.getD j default).1 = true)
theorem mayFs_bad {X : List Fd} {i : Nat} (hi : i < X.length) (h : ¬ (fieldB (X.getD i default).1 = true ∧ mayV (X.getD i default).2 = true ∧ (0 < i → Op.bytesLess (X.getD (i - 1) default).1 (X.getD i default).1 = true))) : mayFs X = false := by
  rw [← Bool.not_eq_true]
  intro hm
  unfold mayFs at hm
  simp only [Bool.and_eq_true, Bool.not_eq_true', List.any_eq_false, Bool.or_eq_true, not_or, Bool.not_eq_false, decide_eq_true_eq] at hm
  have hx := hm.2.1 _ (getD_mem (X := X) hi)
  refine h ⟨by simpa using hx.1, by simpa using hx.2, fun h0 => ?_⟩
  have := risB_of hm.2.2 (i - 1) (by omega)
  rw [show i - 1 + 1 = i by omega] at this
  exact (cmp_lt _ _).1 this
theorem mayFs_ok {X : List Fd} (h : okTo X X.length) : mayFs X = decide (X.length ≤ 8) := by
  unfold mayFs
  have h1 : X.any (fun f => !fieldB f.1 || !mayV f.2) = false := by
    rw [List.any_eq_false]
    intro f hf
    obtain ⟨i, hi, rfl⟩ := List.mem_iff_getElem.1 hf
    have := h i hi
    rw [List.getD_eq_getElem?_getD, List.getElem?_eq_getElem hi] at this
    simp only [Option.getD_some] at this
    simp [this.1, this.2.1]
  have h2 : risB X = true := risB_true fun i hi => (cmp_lt _ _).2 (by have := (h (i + 1) hi).2.2 (by omega); simpa using this)
  rw [h1, h2]
  simp
theorem r_MayE {e : Ev} {H : List Entry} (he : evB e) : Pure AP n_trystref04_May [evV e] H (.bool (mayE e)) := by
  intro K hK
  refine a_trystref04_May fun hw => ?_
  obtain ⟨h0, h1, h2, h3, h4⟩ := he
  simp (disch := first | omega | (simp only [go_sem, true_and, and_true, List.length_append, List.length_take, List.length_set, List.length_drop, List.length_replicate, List.length_cons, List.length_nil, List.length_replicate] <;> omega)) only [go_sem, true_and, Nat.reduceAdd, Nat.reduceSub, Nat.reduceMul, Nat.reduceEqDiff, Nat.reduceLeDiff, Nat.reduceLT, Nat.reduceBEq, Int.reduceAdd, Int.reduceSub, Int.reduceMul, Int.reduceNeg, Int.reduceLT, Int.reduceLE, Int.reduceEq, Int.reduceToNat, c_trystref04_May]
  refine loop_in (fun m e' H' => ∃ i : Nat, m = e.2.2.2.length - i ∧ e' = slots 0 68 [(1, .ptr H.length 0), (3, .int .i64 (i : Int))] ∧ H' = H ++ [.box [.str e.1, .str e.2.1, .int .u64 e.2.2.1, .sl 4 (e.2.2.2.map fdV)]] ∧ i ≤ e.2.2.2.length ∧ okTo e.2.2.2 i) (n := e.2.2.2.length) ⟨0, rfl, rfl, rfl, by omega, fun j hj => by omega⟩ (by first | omega | (simp only [go_sem, List.length_append, List.length_set, List.length_take, List.length_drop, List.length_replicate, true_and, Nat.reduceAdd, Nat.reduceSub, Nat.reduceMul, Nat.reduceEqDiff, Nat.reduceLeDiff, Nat.reduceLT, Nat.reduceBEq, Int.reduceAdd, Int.reduceSub, Int.reduceMul, Int.reduceNeg, Int.reduceLT, Int.reduceLE, Int.reduceEq, Int.reduceToNat] <;> omega)) ?_ ?_ ?_
  · simp (disch := (simp only [go_sem, true_and, Nat.reduceAdd, Nat.reduceSub, Nat.reduceMul, Nat.reduceEqDiff, Nat.reduceLeDiff, Nat.reduceLT, Nat.reduceBEq, Int.reduceAdd, Int.reduceSub, Int.reduceMul, Int.reduceNeg, Int.reduceLT, Int.reduceLE, Int.reduceEq, Int.reduceToNat] <;> omega)) only [go_sem, x_eLeS, x_hLeS, Int.natCast_zero, Int.natCast_add, Int.natCast_one, true_and, Nat.reduceAdd, Nat.reduceSub, Nat.reduceMul, Nat.reduceEqDiff, Nat.reduceLeDiff, Nat.reduceLT, Nat.reduceBEq, Int.reduceAdd, Int.reduceSub, Int.reduceMul, Int.reduceNeg, Int.reduceLT, Int.reduceLE, Int.reduceEq, Int.reduceToNat]
  · exact hLe_app hw (by first | omega | (simp only [go_sem, List.length_append, List.length_set, List.length_take, List.length_drop, List.length_replicate, true_and, Nat.reduceAdd, Nat.reduceSub, Nat.reduceMul, Nat.reduceEqDiff, Nat.reduceLeDiff, Nat.reduceLT, Nat.reduceBEq, Int.reduceAdd, Int.reduceSub, Int.reduceMul, Int.reduceNeg, Int.reduceLT, Int.reduceLE, Int.reduceEq, Int.reduceToNat] <;> omega)) (by simp (disch := (simp only [go_sem, true_and, Nat.reduceAdd, Nat.reduceSub, Nat.reduceMul, Nat.reduceEqDiff, Nat.reduceLeDiff, Nat.reduceLT, Nat.reduceBEq, Int.reduceAdd, Int.reduceSub, Int.reduceMul, Int.reduceNeg, Int.reduceLT, Int.reduceLE, Int.reduceEq, Int.reduceToNat] <;> omega)) only [go_sem, x_eLeS, x_hLeS, Int.natCast_zero, Int.natCast_add, Int.natCast_one, true_and, Nat.reduceAdd, Nat.reduceSub, Nat.reduceMul, Nat.reduceEqDiff, Nat.reduceLeDiff, Nat.reduceLT, Nat.reduceBEq, Int.reduceAdd, Int.reduceSub, Int.reduceMul, Int.reduceNeg, Int.reduceLT, Int.reduceLE, Int.reduceEq, Int.reduceToNat])
  · rintro J hJ m e' H' ⟨i, rfl, rfl, rfl, hi1, hok⟩
    by_cases h : (i : Int) < e.2.2.2.length
    · have hf := h4 _ (getD_mem (X := e.2.2.2) (i := i) (by omega))
      have hbad := mayFs_bad (X := e.2.2.2) (i := i) (by omega)
      have hno : mayFs e.2.2.2 = false → mayE e = false := fun h => by unfold mayE; rw [h]; simp
      simp (disch := first | omega | (simp only [go_sem, true_and, and_true, List.length_append, List.length_take, List.length_set, List.length_drop, List.length_replicate, List.length_cons, List.length_nil, List.length_replicate] <;> omega)) only [go_sem, true_and, Nat.reduceAdd, Nat.reduceSub, Nat.reduceMul, Nat.reduceEqDiff, Nat.reduceLeDiff, Nat.reduceLT, Nat.reduceBEq, Int.reduceAdd, Int.reduceSub, Int.reduceMul, Int.reduceNeg, Int.reduceLT, Int.reduceLE, Int.reduceEq, Int.reduceToNat]
      refine (r_Field (s := (e.2.2.2.getD i default).1) hf.1).dcall ?_
      cases hb1 : fieldB (e.2.2.2.getD i default).1
      · simp (disch := first | omega | (simp only [go_sem, true_and, and_true, List.length_append, List.length_take, List.length_set, List.length_drop, List.length_replicate, List.length_cons, List.length_nil, List.length_replicate] <;> omega)) only [go_sem, true_and, Nat.reduceAdd, Nat.reduceSub, Nat.reduceMul, Nat.reduceEqDiff, Nat.reduceLeDiff, Nat.reduceLT, Nat.reduceBEq, Int.reduceAdd, Int.reduceSub, Int.reduceMul, Int.reduceNeg, Int.reduceLT, Int.reduceLE, Int.reduceEq, Int.reduceToNat, Bool.not_false]
        refine fin_tmp hw ?_ (fin_eq hK ?_)
        · simp (disch := first | omega | (simp only [go_sem, true_and, and_true, List.length_append, List.length_take, List.length_set, List.length_drop, List.length_replicate, List.length_cons, List.length_nil, List.length_replicate] <;> omega)) only [go_sem, true_and, Nat.reduceAdd, Nat.reduceSub, Nat.reduceMul, Nat.reduceEqDiff, Nat.reduceLeDiff, Nat.reduceLT, Nat.reduceBEq, Int.reduceAdd, Int.reduceSub, Int.reduceMul, Int.reduceNeg, Int.reduceLT, Int.reduceLE, Int.reduceEq, Int.reduceToNat]
        · simp (disch := first | omega | (simp only [go_sem, true_and, and_true, List.length_append, List.length_take, List.length_set, List.length_drop, List.length_replicate, List.length_cons, List.length_nil, List.length_replicate] <;> omega)) only [go_sem, true_and, Nat.reduceAdd, Nat.reduceSub, Nat.reduceMul, Nat.reduceEqDiff, Nat.reduceLeDiff, Nat.reduceLT, Nat.reduceBEq, Int.reduceAdd, Int.reduceSub, Int.reduceMul, Int.reduceNeg, Int.reduceLT, Int.reduceLE, Int.reduceEq, Int.reduceToNat, hno (hbad (by rw [hb1]; simp))]
      simp (disch := first | omega | (simp only [go_sem, true_and, and_true, List.length_append, List.length_take, List.length_set, List.length_drop, List.length_replicate, List.length_cons, List.length_nil, List.length_replicate] <;> omega)) only [go_sem, true_and, Nat.reduceAdd, Nat.reduceSub, Nat.reduceMul, Nat.reduceEqDiff, Nat.reduceLeDiff, Nat.reduceLT, Nat.reduceBEq, Int.reduceAdd, Int.reduceSub, Int.reduceMul, Int.reduceNeg, Int.reduceLT, Int.reduceLE, Int.reduceEq, Int.reduceToNat, Bool.not_true]
      refine (r_May3 (v := (e.2.2.2.getD i default).2) (by omega)).dcall ?_
      cases hb2 : mayV (e.2.2.2.getD i default).2
      · simp (disch := first | omega | (simp only [go_sem, true_and, and_true, List.length_append, List.length_take, List.length_set, List.length_drop, List.length_replicate, List.length_cons, List.length_nil, List.length_replicate] <;> omega)) only [go_sem, true_and, Nat.reduceAdd, Nat.reduceSub, Nat.reduceMul, Nat.reduceEqDiff, Nat.reduceLeDiff, Nat.reduceLT, Nat.reduceBEq, Int.reduceAdd, Int.reduceSub, Int.reduceMul, Int.reduceNeg, Int.reduceLT, Int.reduceLE, Int.reduceEq, Int.reduceToNat, Bool.not_false]
        refine fin_tmp hw ?_ (fin_eq hK ?_)
        · simp (disch := first | omega | (simp only [go_sem, true_and, and_true, List.length_append, List.length_take, List.length_set, List.length_drop, List.length_replicate, List.length_cons, List.length_nil, List.length_replicate] <;> omega)) only [go_sem, true_and, Nat.reduceAdd, Nat.reduceSub, Nat.reduceMul, Nat.reduceEqDiff, Nat.reduceLeDiff, Nat.reduceLT, Nat.reduceBEq, Int.reduceAdd, Int.reduceSub, Int.reduceMul, Int.reduceNeg, Int.reduceLT, Int.reduceLE, Int.reduceEq, Int.reduceToNat]
        · simp (disch := first | omega | (simp only [go_sem, true_and, and_true, List.length_append, List.length_take, List.length_set, List.length_drop, List.length_replicate, List.length_cons, List.length_nil, List.length_replicate] <;> omega)) only [go_sem, true_and, Nat.reduceAdd, Nat.reduceSub, Nat.reduceMul, Nat.reduceEqDiff, Nat.reduceLeDiff, Nat.reduceLT, Nat.reduceBEq, Int.reduceAdd, Int.reduceSub, Int.reduceMul, Int.reduceNeg, Int.reduceLT, Int.reduceLE, Int.reduceEq, Int.reduceToNat, hno (hbad (by rw [hb2]; simp))]
      simp (disch := first | omega | (simp only [go_sem, true_and, and_true, List.length_append, List.length_take, List.length_set, List.length_drop, List.length_replicate, List.length_cons, List.length_nil, List.length_replicate] <;> omega)) only [go_sem, true_and, Nat.reduceAdd, Nat.reduceSub, Nat.reduceMul, Nat.reduceEqDiff, Nat.reduceLeDiff, Nat.reduceLT, Nat.reduceBEq, Int.reduceAdd, Int.reduceSub, Int.reduceMul, Int.reduceNeg, Int.reduceLT, Int.reduceLE, Int.reduceEq, Int.reduceToNat, Bool.not_true]
      by_cases hi0 : i = 0
      · subst hi0
        simp (disch := first | omega | (simp only [go_sem, true_and, and_true, List.length_append, List.length_take, List.length_set, List.length_drop, List.length_replicate, List.length_cons, List.length_nil, List.length_replicate] <;> omega)) only [go_sem, true_and, Nat.reduceAdd, Nat.reduceSub, Nat.reduceMul, Nat.reduceEqDiff, Nat.reduceLeDiff, Nat.reduceLT, Nat.reduceBEq, Int.reduceAdd, Int.reduceSub, Int.reduceMul, Int.reduceNeg, Int.reduceLT, Int.reduceLE, Int.reduceEq, Int.reduceToNat]
        refine round_end (hJ _ _ _ ⟨1, rfl, rfl, rfl, by omega, fun j hj => ?_⟩) (by omega) (by first | omega | (simp only [go_sem, List.length_append, List.length_set, List.length_take, List.length_drop, List.length_replicate, true_and, Nat.reduceAdd, Nat.reduceSub, Nat.reduceMul, Nat.reduceEqDiff, Nat.reduceLeDiff, Nat.reduceLT, Nat.reduceBEq, Int.reduceAdd, Int.reduceSub, Int.reduceMul, Int.reduceNeg, Int.reduceLT, Int.reduceLE, Int.reduceEq, Int.reduceToNat] <;> omega)) ?_ ?_
        · obtain rfl : j = 0 := by omega
          exact ⟨hb1, hb2, fun h => by omega⟩
        · simp (disch := (simp only [go_sem, true_and, Nat.reduceAdd, Nat.reduceSub, Nat.reduceMul, Nat.reduceEqDiff, Nat.reduceLeDiff, Nat.reduceLT, Nat.reduceBEq, Int.reduceAdd, Int.reduceSub, Int.reduceMul, Int.reduceNeg, Int.reduceLT, Int.reduceLE, Int.reduceEq, Int.reduceToNat] <;> omega)) only [go_sem, x_eLeS, x_hLeS, Int.natCast_zero, Int.natCast_add, Int.natCast_one, true_and, Nat.reduceAdd, Nat.reduceSub, Nat.reduceMul, Nat.reduceEqDiff, Nat.reduceLeDiff, Nat.reduceLT, Nat.reduceBEq, Int.reduceAdd, Int.reduceSub, Int.reduceMul, Int.reduceNeg, Int.reduceLT, Int.reduceLE, Int.reduceEq, Int.reduceToNat]
        · exact hLe_app hw (by first | omega | (simp only [go_sem, List.length_append, List.length_set, List.length_take, List.length_drop, List.length_replicate, true_and, Nat.reduceAdd, Nat.reduceSub, Nat.reduceMul, Nat.reduceEqDiff, Nat.reduceLeDiff, Nat.reduceLT, Nat.reduceBEq, Int.reduceAdd, Int.reduceSub, Int.reduceMul, Int.reduceNeg, Int.reduceLT, Int.reduceLE, Int.reduceEq, Int.reduceToNat] <;> omega)) (by simp (disch := (simp only [go_sem, true_and, Nat.reduceAdd, Nat.reduceSub, Nat.reduceMul, Nat.reduceEqDiff, Nat.reduceLeDiff, Nat.reduceLT, Nat.reduceBEq, Int.reduceAdd, Int.reduceSub, Int.reduceMul, Int.reduceNeg, Int.reduceLT, Int.reduceLE, Int.reduceEq, Int.reduceToNat] <;> omega)) only [go_sem, x_eLeS, x_hLeS, Int.natCast_zero, Int.natCast_add, Int.natCast_one, true_and, Nat.reduceAdd, Nat.reduceSub, Nat.reduceMul, Nat.reduceEqDiff, Nat.reduceLeDiff, Nat.reduceLT, Nat.reduceBEq, Int.reduceAdd, Int.reduceSub, Int.reduceMul, Int.reduceNeg, Int.reduceLT, Int.reduceLE, Int.reduceEq, Int.reduceToNat])
      · have hj1 : ((i : Int) - 1).toNat = i - 1 := by omega
        have hlt : i - 1 < e.2.2.2.length := by omega
        cases hb3 : Op.bytesLess (e.2.2.2.getD (i - 1) default).1 (e.2.2.2.getD i default).1
        · simp (disch := first | omega | (simp only [go_sem, true_and, and_true, List.length_append, List.length_take, List.length_set, List.length_drop, List.length_replicate, List.length_cons, List.length_nil, List.length_replicate] <;> omega)) only [go_sem, true_and, Nat.reduceAdd, Nat.reduceSub, Nat.reduceMul, Nat.reduceEqDiff, Nat.reduceLeDiff, Nat.reduceLT, Nat.reduceBEq, Int.reduceAdd, Int.reduceSub, Int.reduceMul, Int.reduceNeg, Int.reduceLT, Int.reduceLE, Int.reduceEq, Int.reduceToNat, hj1, hb3, Bool.not_false]
          refine fin_tmp hw ?_ (fin_eq hK ?_)
          · simp (disch := first | omega | (simp only [go_sem, true_and, and_true, List.length_append, List.length_take, List.length_set, List.length_drop, List.length_replicate, List.length_cons, List.length_nil, List.length_replicate] <;> omega)) only [go_sem, true_and, Nat.reduceAdd, Nat.reduceSub, Nat.reduceMul, Nat.reduceEqDiff, Nat.reduceLeDiff, Nat.reduceLT, Nat.reduceBEq, Int.reduceAdd, Int.reduceSub, Int.reduceMul, Int.reduceNeg, Int.reduceLT, Int.reduceLE, Int.reduceEq, Int.reduceToNat]
          · simp (disch := first | omega | (simp only [go_sem, true_and, and_true, List.length_append, List.length_take, List.length_set, List.length_drop, List.length_replicate, List.length_cons, List.length_nil, List.length_replicate] <;> omega)) only [go_sem, true_and, Nat.reduceAdd, Nat.reduceSub, Nat.reduceMul, Nat.reduceEqDiff, Nat.reduceLeDiff, Nat.reduceLT, Nat.reduceBEq, Int.reduceAdd, Int.reduceSub, Int.reduceMul, Int.reduceNeg, Int.reduceLT, Int.reduceLE, Int.reduceEq, Int.reduceToNat, hno (hbad (by rw [hb3]; simp; omega))]
        · simp (disch := first | omega | (simp only [go_sem, true_and, and_true, List.length_append, List.length_take, List.length_set, List.length_drop, List.length_replicate, List.length_cons, List.length_nil, List.length_replicate] <;> omega)) only [go_sem, true_and, Nat.reduceAdd, Nat.reduceSub, Nat.reduceMul, Nat.reduceEqDiff, Nat.reduceLeDiff, Nat.reduceLT, Nat.reduceBEq, Int.reduceAdd, Int.reduceSub, Int.reduceMul, Int.reduceNeg, Int.reduceLT, Int.reduceLE, Int.reduceEq, Int.reduceToNat, hj1, hb3, Bool.not_true]
          refine round_end (hJ _ _ _ ⟨i + 1, rfl, rfl, rfl, by omega, fun k hk => ?_⟩) (by omega) (by first | omega | (simp only [go_sem, List.length_append, List.length_set, List.length_take, List.length_drop, List.length_replicate, true_and, Nat.reduceAdd, Nat.reduceSub, Nat.reduceMul, Nat.reduceEqDiff, Nat.reduceLeDiff, Nat.reduceLT, Nat.reduceBEq, Int.reduceAdd, Int.reduceSub, Int.reduceMul, Int.reduceNeg, Int.reduceLT, Int.reduceLE, Int.reduceEq, Int.reduceToNat] <;> omega)) ?_ ?_
          · rcases Nat.lt_succ_iff_lt_or_eq.1 hk with hk | rfl
            · exact hok k hk
            · exact ⟨hb1, hb2, fun _ => hb3⟩
          · simp (disch := (simp only [go_sem, true_and, Nat.reduceAdd, Nat.reduceSub, Nat.reduceMul, Nat.reduceEqDiff, Nat.reduceLeDiff, Nat.reduceLT, Nat.reduceBEq, Int.reduceAdd, Int.reduceSub, Int.reduceMul, Int.reduceNeg, Int.reduceLT, Int.reduceLE, Int.reduceEq, Int.reduceToNat] <;> omega)) only [go_sem, x_eLeS, x_hLeS, Int.natCast_zero, Int.natCast_add, Int.natCast_one, true_and, Nat.reduceAdd, Nat.reduceSub, Nat.reduceMul, Nat.reduceEqDiff, Nat.reduceLeDiff, Nat.reduceLT, Nat.reduceBEq, Int.reduceAdd, Int.reduceSub, Int.reduceMul, Int.reduceNeg, Int.reduceLT, Int.reduceLE, Int.reduceEq, Int.reduceToNat]
          · exact hLe_app hw (by first | omega | (simp only [go_sem, List.length_append, List.length_set, List.length_take, List.length_drop, List.length_replicate, true_and, Nat.reduceAdd, Nat.reduceSub, Nat.reduceMul, Nat.reduceEqDiff, Nat.reduceLeDiff, Nat.reduceLT, Nat.reduceBEq, Int.reduceAdd, Int.reduceSub, Int.reduceMul, Int.reduceNeg, Int.reduceLT, Int.reduceLE, Int.reduceEq, Int.reduceToNat] <;> omega)) (by simp (disch := (simp only [go_sem, true_and, Nat.reduceAdd, Nat.reduceSub, Nat.reduceMul, Nat.reduceEqDiff, Nat.reduceLeDiff, Nat.reduceLT, Nat.reduceBEq, Int.reduceAdd, Int.reduceSub, Int.reduceMul, Int.reduceNeg, Int.reduceLT, Int.reduceLE, Int.reduceEq, Int.reduceToNat] <;> omega)) only [go_sem, x_eLeS, x_hLeS, Int.natCast_zero, Int.natCast_add, Int.natCast_one, true_and, Nat.reduceAdd, Nat.reduceSub, Nat.reduceMul, Nat.reduceEqDiff, Nat.reduceLeDiff, Nat.reduceLT, Nat.reduceBEq, Int.reduceAdd, Int.reduceSub, Int.reduceMul, Int.reduceNeg, Int.reduceLT, Int.reduceLE, Int.reduceEq, Int.reduceToNat])
    · have hi : i = e.2.2.2.length := by omega
      subst hi
      have hF := mayFs_ok hok
      simp (disch := first | omega | (simp only [go_sem, true_and, and_true, List.length_append, List.length_take, List.length_set, List.length_drop, List.length_replicate, List.length_cons, List.length_nil, List.length_replicate] <;> omega)) only [go_sem, true_and, Nat.reduceAdd, Nat.reduceSub, Nat.reduceMul, Nat.reduceEqDiff, Nat.reduceLeDiff, Nat.reduceLT, Nat.reduceBEq, Int.reduceAdd, Int.reduceSub, Int.reduceMul, Int.reduceNeg, Int.reduceLT, Int.reduceLE, Int.reduceEq, Int.reduceToNat]
      refine r_Topic (s := e.1) h1 _ ?_
      unfold mayE at hK
      rw [hF] at hK
      cases ht : topicB e.1
      · rw [ht] at hK
        simp (disch := first | omega | (simp only [go_sem, true_and, and_true, List.length_append, List.length_take, List.length_set, List.length_drop, List.length_replicate, List.length_cons, List.length_nil, List.length_replicate] <;> omega)) only [go_sem, true_and, Nat.reduceAdd, Nat.reduceSub, Nat.reduceMul, Nat.reduceEqDiff, Nat.reduceLeDiff, Nat.reduceLT, Nat.reduceBEq, Int.reduceAdd, Int.reduceSub, Int.reduceMul, Int.reduceNeg, Int.reduceLT, Int.reduceLE, Int.reduceEq, Int.reduceToNat]
        refine fin_tmp hw ?_ (fin_eq hK ?_)
        · simp (disch := first | omega | (simp only [go_sem, true_and, and_true, List.length_append, List.length_take, List.length_set, List.length_drop, List.length_replicate, List.length_cons, List.length_nil, List.length_replicate] <;> omega)) only [go_sem, true_and, Nat.reduceAdd, Nat.reduceSub, Nat.reduceMul, Nat.reduceEqDiff, Nat.reduceLeDiff, Nat.reduceLT, Nat.reduceBEq, Int.reduceAdd, Int.reduceSub, Int.reduceMul, Int.reduceNeg, Int.reduceLT, Int.reduceLE, Int.reduceEq, Int.reduceToNat]
        · simp [oneV, nths, nth]
      rw [ht] at hK
      simp (disch := first | omega | (simp only [go_sem, true_and, and_true, List.length_append, List.length_take, List.length_set, List.length_drop, List.length_replicate, List.length_cons, List.length_nil, List.length_replicate] <;> omega)) only [go_sem, true_and, Nat.reduceAdd, Nat.reduceSub, Nat.reduceMul, Nat.reduceEqDiff, Nat.reduceLeDiff, Nat.reduceLT, Nat.reduceBEq, Int.reduceAdd, Int.reduceSub, Int.reduceMul, Int.reduceNeg, Int.reduceLT, Int.reduceLE, Int.reduceEq, Int.reduceToNat]
      refine r_Field (s := e.2.1) h2 _ ?_
      cases hp : fieldB e.2.1
      · rw [hp] at hK
        simp (disch := first | omega | (simp only [go_sem, true_and, and_true, List.length_append, List.length_take, List.length_set, List.length_drop, List.length_replicate, List.length_cons, List.length_nil, List.length_replicate] <;> omega)) only [go_sem, true_and, Nat.reduceAdd, Nat.reduceSub, Nat.reduceMul, Nat.reduceEqDiff, Nat.reduceLeDiff, Nat.reduceLT, Nat.reduceBEq, Int.reduceAdd, Int.reduceSub, Int.reduceMul, Int.reduceNeg, Int.reduceLT, Int.reduceLE, Int.reduceEq, Int.reduceToNat]
        refine fin_tmp hw ?_ (fin_eq hK ?_)
        · simp (disch := first | omega | (simp only [go_sem, true_and, and_true, List.length_append, List.length_take, List.length_set, List.length_drop, List.length_replicate, List.length_cons, List.length_nil, List.length_replicate] <;> omega)) only [go_sem, true_and, Nat.reduceAdd, Nat.reduceSub, Nat.reduceMul, Nat.reduceEqDiff, Nat.reduceLeDiff, Nat.reduceLT, Nat.reduceBEq, Int.reduceAdd, Int.reduceSub, Int.reduceMul, Int.reduceNeg, Int.reduceLT, Int.reduceLE, Int.reduceEq, Int.reduceToNat]
        · simp [oneV, nths, nth]
      rw [hp] at hK
      by_cases hq : 0 < e.2.2.1
      · simp (disch := first | omega | (simp only [go_sem, true_and, and_true, List.length_append, List.length_take, List.length_set, List.length_drop, List.length_replicate, List.length_cons, List.length_nil, List.length_replicate] <;> omega)) only [go_sem, true_and, Nat.reduceAdd, Nat.reduceSub, Nat.reduceMul, Nat.reduceEqDiff, Nat.reduceLeDiff, Nat.reduceLT, Nat.reduceBEq, Int.reduceAdd, Int.reduceSub, Int.reduceMul, Int.reduceNeg, Int.reduceLT, Int.reduceLE, Int.reduceEq, Int.reduceToNat, hq, decide_true]
        refine fin_tmp hw ?_ (fin_eq hK ?_)
        · simp (disch := first | omega | (simp only [go_sem, true_and, and_true, List.length_append, List.length_take, List.length_set, List.length_drop, List.length_replicate, List.length_cons, List.length_nil, List.length_replicate] <;> omega)) only [go_sem, true_and, Nat.reduceAdd, Nat.reduceSub, Nat.reduceMul, Nat.reduceEqDiff, Nat.reduceLeDiff, Nat.reduceLT, Nat.reduceBEq, Int.reduceAdd, Int.reduceSub, Int.reduceMul, Int.reduceNeg, Int.reduceLT, Int.reduceLE, Int.reduceEq, Int.reduceToNat]
        · have : 1 ≤ e.2.2.1 := by omega
          simp [oneV, nths, nth, this]
          omega
      · simp (disch := first | omega | (simp only [go_sem, true_and, and_true, List.length_append, List.length_take, List.length_set, List.length_drop, List.length_replicate, List.length_cons, List.length_nil, List.length_replicate] <;> omega)) only [go_sem, true_and, Nat.reduceAdd, Nat.reduceSub, Nat.reduceMul, Nat.reduceEqDiff, Nat.reduceLeDiff, Nat.reduceLT, Nat.reduceBEq, Int.reduceAdd, Int.reduceSub, Int.reduceMul, Int.reduceNeg, Int.reduceLT, Int.reduceLE, Int.reduceEq, Int.reduceToNat, hq, decide_false]
        refine fin_tmp hw ?_ (fin_eq hK ?_)
        · simp (disch := first | omega | (simp only [go_sem, true_and, and_true, List.length_append, List.length_take, List.length_set, List.length_drop, List.length_replicate, List.length_cons, List.length_nil, List.length_replicate] <;> omega)) only [go_sem, true_and, Nat.reduceAdd, Nat.reduceSub, Nat.reduceMul, Nat.reduceEqDiff, Nat.reduceLeDiff, Nat.reduceLT, Nat.reduceBEq, Int.reduceAdd, Int.reduceSub, Int.reduceMul, Int.reduceNeg, Int.reduceLT, Int.reduceLE, Int.reduceEq, Int.reduceToNat]
        · have : ¬ 1 ≤ e.2.2.1 := by omega
          simp [oneV, nths, nth, this]
end Go.Av
namespace Go.Av
open Go
set_option autoImplicit false
set_option linter.all false
theorem pkS_one {n : Int} (h : n < 128) : (pkS n).length = 1 := by
  unfold pkS
  rw [Go.Proofs.Ythonnheklgmkaaa.pkL_small _ (by omega)]
  rfl
theorem layFs_len2 : ∀ {L : List Fd}, (∀ f ∈ L, fB f ∧ f.1.length ≤ 16) → (layFs L).length ≤ 79 * L.length
  | [], _ => by simp [layFs]
  | f :: L, h => by
    have ih := layFs_len2 (L := L) fun x hx => h x (by simp [hx])
    obtain ⟨⟨h1, ⟨h2, h3⟩, h4⟩, h5⟩ := h f (by simp)
    have : layFs (f :: L) = layF f ++ layFs L := by simp [layFs]
    rw [this]
    have a1 : (layT f.1).length ≤ 17 := by
      unfold layT
      rw [List.length_append, pkS_one (by omega)]
      omega
    have a2 : (layV f.2).length ≤ 62 := by
      unfold layV
      split
      · have hf := Go.Proofs.Ythonnheklgmkaaa.foldZ_bd f.2.2.1 h3.1 h3.2
        have := pkS_len _ hf.1 hf.2
        simp; omega
      · rename_i hn
        unfold mayV at h4
        rw [if_neg hn] at h4
        simp only [Bool.and_eq_true, decide_eq_true_eq] at h4
        simp only [List.length_append, pkS_one (n := (f.2.2.2.length : Int)) (by omega), List.length_cons, List.length_nil]
        omega
    simp [layF]
    omega
theorem layE_len2 {e : Ev} (he : evB e) (hm : mayE e = true) : (layE e).length ≤ 800 := by
  obtain ⟨h1, h2, h3, h4⟩ := may_lens hm
  have h5 := layFs_len2 (L := e.2.2.2) fun f hf => ⟨may_fB he hm f hf, (h4 f hf).1⟩
  have h6 := pkS_len e.2.2.1 he.1.1 he.1.2
  unfold layE layT
  simp only [List.length_append, pkS_one (n := (e.1.length : Int)) (by omega), pkS_one (n := (e.2.1.length : Int)) (by omega), pkS_one (n := (e.2.2.2.length : Int)) (by omega)]
  omega
theorem takE_full {e : Ev} (he : evB e) (hm : mayE e = true) (r : List UInt8) : takE (layE e ++ r) = (e, ((layE e).length : Int), 0) := by
  have h := (rt_may he hm).full r
  have hl := layE_len2 he hm
  unfold takE
  simp only
  rw [h]
  simp only [if_true, hm, true_and, List.length_append]
  rw [if_pos (by omega)]
  simp
theorem law_lays {e g : Ev} {s : List UInt8} {H : List Entry} (he : evA e) (hg : evA g) (hs : s.length ≤ 9223372036854775807) : Pure AP n_trystlaw04_EventLays [evV e, evV g, .str s] H (.bool true) := by
  intro K hK
  refine a_trystlaw04_EventLays fun hw => ?_
  simp (disch := first | omega | (simp only [go_sem, true_and, and_true, List.length_append, List.length_take, List.length_set, List.length_drop, List.length_replicate, List.length_cons, List.length_nil, List.length_replicate] <;> omega)) only [go_sem, true_and, Nat.reduceAdd, Nat.reduceSub, Nat.reduceMul, Nat.reduceEqDiff, Nat.reduceLeDiff, Nat.reduceLT, Nat.reduceBEq, Int.reduceAdd, Int.reduceSub, Int.reduceMul, Int.reduceNeg, Int.reduceLT, Int.reduceLE, Int.reduceEq, Int.reduceToNat, c_trystlaw04_EventLays]
  refine (s_Few4 he.1).dcall ?_
  simp (disch := first | omega | (simp only [go_sem, true_and, and_true, List.length_append, List.length_take, List.length_set, List.length_drop, List.length_replicate, List.length_cons, List.length_nil, List.length_replicate] <;> omega)) only [go_sem, true_and, Nat.reduceAdd, Nat.reduceSub, Nat.reduceMul, Nat.reduceEqDiff, Nat.reduceLeDiff, Nat.reduceLT, Nat.reduceBEq, Int.reduceAdd, Int.reduceSub, Int.reduceMul, Int.reduceNeg, Int.reduceLT, Int.reduceLE, Int.reduceEq, Int.reduceToNat]
  refine (s_Few4 hg.1).dcall ?_
  simp (disch := first | omega | (simp only [go_sem, true_and, and_true, List.length_append, List.length_take, List.length_set, List.length_drop, List.length_replicate, List.length_cons, List.length_nil, List.length_replicate] <;> omega)) only [go_sem, true_and, Nat.reduceAdd, Nat.reduceSub, Nat.reduceMul, Nat.reduceEqDiff, Nat.reduceLeDiff, Nat.reduceLT, Nat.reduceBEq, Int.reduceAdd, Int.reduceSub, Int.reduceMul, Int.reduceNeg, Int.reduceLT, Int.reduceLE, Int.reduceEq, Int.reduceToNat]
  refine (s_Few2 hs).dcall ?_
  have hA := few_B he
  have hB := few_B hg
  have hS : (s.take 60).length ≤ 60 := by simp; omega
  simp (disch := first | omega | (simp only [go_sem, true_and, and_true, List.length_append, List.length_take, List.length_set, List.length_drop, List.length_replicate, List.length_cons, List.length_nil, List.length_replicate] <;> omega)) only [go_sem, true_and, Nat.reduceAdd, Nat.reduceSub, Nat.reduceMul, Nat.reduceEqDiff, Nat.reduceLeDiff, Nat.reduceLT, Nat.reduceBEq, Int.reduceAdd, Int.reduceSub, Int.reduceMul, Int.reduceNeg, Int.reduceLT, Int.reduceLE, Int.reduceEq, Int.reduceToNat]
  generalize fewE e = A at *
  generalize fewE g = B at *
  generalize s.take 60 = S at *
  have lA := hA.2.2.2.1
  have lB := hB.2.2.2.1
  refine (s_May (e := A) (evB_ok hA) (by omega)).dcall ?_
  simp (disch := first | omega | (simp only [go_sem, true_and, and_true, List.length_append, List.length_take, List.length_set, List.length_drop, List.length_replicate, List.length_cons, List.length_nil, List.length_replicate] <;> omega)) only [go_sem, true_and, Nat.reduceAdd, Nat.reduceSub, Nat.reduceMul, Nat.reduceEqDiff, Nat.reduceLeDiff, Nat.reduceLT, Nat.reduceBEq, Int.reduceAdd, Int.reduceSub, Int.reduceMul, Int.reduceNeg, Int.reduceLT, Int.reduceLE, Int.reduceEq, Int.reduceToNat]
  refine (r_MayE (e := A) hA).dcall ?_
  simp (disch := first | omega | (simp only [go_sem, true_and, and_true, List.length_append, List.length_take, List.length_set, List.length_drop, List.length_replicate, List.length_cons, List.length_nil, List.length_replicate] <;> omega)) only [go_sem, true_and, Nat.reduceAdd, Nat.reduceSub, Nat.reduceMul, Nat.reduceEqDiff, Nat.reduceLeDiff, Nat.reduceLT, Nat.reduceBEq, Int.reduceAdd, Int.reduceSub, Int.reduceMul, Int.reduceNeg, Int.reduceLT, Int.reduceLE, Int.reduceEq, Int.reduceToNat, bne_self_eq_false]
  refine (s_Same (a := A) (b := B) (by omega) (by omega)).dcall ?_
  simp (disch := first | omega | (simp only [go_sem, true_and, and_true, List.length_append, List.length_take, List.length_set, List.length_drop, List.length_replicate, List.length_cons, List.length_nil, List.length_replicate] <;> omega)) only [go_sem, true_and, Nat.reduceAdd, Nat.reduceSub, Nat.reduceMul, Nat.reduceEqDiff, Nat.reduceLeDiff, Nat.reduceLT, Nat.reduceBEq, Int.reduceAdd, Int.reduceSub, Int.reduceMul, Int.reduceNeg, Int.reduceLT, Int.reduceLE, Int.reduceEq, Int.reduceToNat]
  refine (r_Same (a := A) (b := B) (by omega) (by omega)).dcall ?_
  simp (disch := first | omega | (simp only [go_sem, true_and, and_true, List.length_append, List.length_take, List.length_set, List.length_drop, List.length_replicate, List.length_cons, List.length_nil, List.length_replicate] <;> omega)) only [go_sem, true_and, Nat.reduceAdd, Nat.reduceSub, Nat.reduceMul, Nat.reduceEqDiff, Nat.reduceLeDiff, Nat.reduceLT, Nat.reduceBEq, Int.reduceAdd, Int.reduceSub, Int.reduceMul, Int.reduceNeg, Int.reduceLT, Int.reduceLE, Int.reduceEq, Int.reduceToNat, bne_self_eq_false]
  refine (s_Field (s := S) (by omega)).dcall ?_
  simp (disch := first | omega | (simp only [go_sem, true_and, and_true, List.length_append, List.length_take, List.length_set, List.length_drop, List.length_replicate, List.length_cons, List.length_nil, List.length_replicate] <;> omega)) only [go_sem, true_and, Nat.reduceAdd, Nat.reduceSub, Nat.reduceMul, Nat.reduceEqDiff, Nat.reduceLeDiff, Nat.reduceLT, Nat.reduceBEq, Int.reduceAdd, Int.reduceSub, Int.reduceMul, Int.reduceNeg, Int.reduceLT, Int.reduceLE, Int.reduceEq, Int.reduceToNat]
  refine (r_Field (s := S) (by omega)).dcall ?_
  simp (disch := first | omega | (simp only [go_sem, true_and, and_true, List.length_append, List.length_take, List.length_set, List.length_drop, List.length_replicate, List.length_cons, List.length_nil, List.length_replicate] <;> omega)) only [go_sem, true_and, Nat.reduceAdd, Nat.reduceSub, Nat.reduceMul, Nat.reduceEqDiff, Nat.reduceLeDiff, Nat.reduceLT, Nat.reduceBEq, Int.reduceAdd, Int.reduceSub, Int.reduceMul, Int.reduceNeg, Int.reduceLT, Int.reduceLE, Int.reduceEq, Int.reduceToNat, bne_self_eq_false]
  refine (s_Same (a := A) (b := A) (by omega) (by omega)).dcall ?_
  rw [sameE_eq rfl]
  simp (disch := first | omega | (simp only [go_sem, true_and, and_true, List.length_append, List.length_take, List.length_set, List.length_drop, List.length_replicate, List.length_cons, List.length_nil, List.length_replicate] <;> omega)) only [go_sem, true_and, Nat.reduceAdd, Nat.reduceSub, Nat.reduceMul, Nat.reduceEqDiff, Nat.reduceLeDiff, Nat.reduceLT, Nat.reduceBEq, Int.reduceAdd, Int.reduceSub, Int.reduceMul, Int.reduceNeg, Int.reduceLT, Int.reduceLE, Int.reduceEq, Int.reduceToNat, Bool.not_true]
  refine s_Lay (e := A) hA _ ?_
  cases hm : mayE A
  · simp (disch := first | omega | (simp only [go_sem, true_and, and_true, List.length_append, List.length_take, List.length_set, List.length_drop, List.length_replicate, List.length_cons, List.length_nil, List.length_replicate] <;> omega)) only [go_sem, true_and, Nat.reduceAdd, Nat.reduceSub, Nat.reduceMul, Nat.reduceEqDiff, Nat.reduceLeDiff, Nat.reduceLT, Nat.reduceBEq, Int.reduceAdd, Int.reduceSub, Int.reduceMul, Int.reduceNeg, Int.reduceLT, Int.reduceLE, Int.reduceEq, Int.reduceToNat, Bool.false_eq_true, if_false]
    refine r_MayE (e := A) hA _ ?_
    rw [hm]
    simp (disch := first | omega | (simp only [go_sem, true_and, and_true, List.length_append, List.length_take, List.length_set, List.length_drop, List.length_replicate, List.length_cons, List.length_nil, List.length_replicate] <;> omega)) only [go_sem, true_and, Nat.reduceAdd, Nat.reduceSub, Nat.reduceMul, Nat.reduceEqDiff, Nat.reduceLeDiff, Nat.reduceLT, Nat.reduceBEq, Int.reduceAdd, Int.reduceSub, Int.reduceMul, Int.reduceNeg, Int.reduceLT, Int.reduceLE, Int.reduceEq, Int.reduceToNat, decide_true]
    refine awake_ok _ _ ?_
    simp (disch := first | omega | (simp only [go_sem, true_and, and_true, List.length_append, List.length_take, List.length_set, List.length_drop, List.length_replicate, List.length_cons, List.length_nil, List.length_replicate] <;> omega)) only [go_sem, true_and, Nat.reduceAdd, Nat.reduceSub, Nat.reduceMul, Nat.reduceEqDiff, Nat.reduceLeDiff, Nat.reduceLT, Nat.reduceBEq, Int.reduceAdd, Int.reduceSub, Int.reduceMul, Int.reduceNeg, Int.reduceLT, Int.reduceLE, Int.reduceEq, Int.reduceToNat]
    refine fin_tmp hw ?_ (fin_eq hK ?_)
    · simp (disch := first | omega | (simp only [go_sem, true_and, and_true, List.length_append, List.length_take, List.length_set, List.length_drop, List.length_replicate, List.length_cons, List.length_nil, List.length_replicate] <;> omega)) only [go_sem, true_and, Nat.reduceAdd, Nat.reduceSub, Nat.reduceMul, Nat.reduceEqDiff, Nat.reduceLeDiff, Nat.reduceLT, Nat.reduceBEq, Int.reduceAdd, Int.reduceSub, Int.reduceMul, Int.reduceNeg, Int.reduceLT, Int.reduceLE, Int.reduceEq, Int.reduceToNat]
    · simp (disch := first | omega | (simp only [go_sem, true_and, and_true, List.length_append, List.length_take, List.length_set, List.length_drop, List.length_replicate, List.length_cons, List.length_nil, List.length_replicate] <;> omega)) only [go_sem, true_and, Nat.reduceAdd, Nat.reduceSub, Nat.reduceMul, Nat.reduceEqDiff, Nat.reduceLeDiff, Nat.reduceLT, Nat.reduceBEq, Int.reduceAdd, Int.reduceSub, Int.reduceMul, Int.reduceNeg, Int.reduceLT, Int.reduceLE, Int.reduceEq, Int.reduceToNat]
  simp (disch := first | omega | (simp only [go_sem, true_and, and_true, List.length_append, List.length_take, List.length_set, List.length_drop, List.length_replicate, List.length_cons, List.length_nil, List.length_replicate] <;> omega)) only [go_sem, true_and, Nat.reduceAdd, Nat.reduceSub, Nat.reduceMul, Nat.reduceEqDiff, Nat.reduceLeDiff, Nat.reduceLT, Nat.reduceBEq, Int.reduceAdd, Int.reduceSub, Int.reduceMul, Int.reduceNeg, Int.reduceLT, Int.reduceLE, Int.reduceEq, Int.reduceToNat, if_true]
  refine r_MayE (e := A) hA _ ?_
  rw [hm]
  have l1 := layE_len2 hA hm
  simp (disch := first | omega | (simp only [go_sem, true_and, and_true, List.length_append, List.length_take, List.length_set, List.length_drop, List.length_replicate, List.length_cons, List.length_nil, List.length_replicate] <;> omega)) only [go_sem, true_and, Nat.reduceAdd, Nat.reduceSub, Nat.reduceMul, Nat.reduceEqDiff, Nat.reduceLeDiff, Nat.reduceLT, Nat.reduceBEq, Int.reduceAdd, Int.reduceSub, Int.reduceMul, Int.reduceNeg, Int.reduceLT, Int.reduceLE, Int.reduceEq, Int.reduceToNat]
  refine s_Take (by simp; omega) _ ?_
  rw [takE_full hA hm]
  simp (disch := first | omega | (simp only [go_sem, true_and, and_true, List.length_append, List.length_take, List.length_set, List.length_drop, List.length_replicate, List.length_cons, List.length_nil, List.length_replicate] <;> omega)) only [go_sem, true_and, Nat.reduceAdd, Nat.reduceSub, Nat.reduceMul, Nat.reduceEqDiff, Nat.reduceLeDiff, Nat.reduceLT, Nat.reduceBEq, Int.reduceAdd, Int.reduceSub, Int.reduceMul, Int.reduceNeg, Int.reduceLT, Int.reduceLE, Int.reduceEq, Int.reduceToNat]
  refine r_LayE (e := A) hA _ ?_
  simp (disch := first | omega | (simp only [go_sem, true_and, and_true, List.length_append, List.length_take, List.length_set, List.length_drop, List.length_replicate, List.length_cons, List.length_nil, List.length_replicate] <;> omega)) only [go_sem, true_and, Nat.reduceAdd, Nat.reduceSub, Nat.reduceMul, Nat.reduceEqDiff, Nat.reduceLeDiff, Nat.reduceLT, Nat.reduceBEq, Int.reduceAdd, Int.reduceSub, Int.reduceMul, Int.reduceNeg, Int.reduceLT, Int.reduceLE, Int.reduceEq, Int.reduceToNat, decide_true]
  refine r_Same (a := A) (b := A) (by omega) (by omega) _ ?_
  rw [sameE_eq rfl]
  simp (disch := first | omega | (simp only [go_sem, true_and, and_true, List.length_append, List.length_take, List.length_set, List.length_drop, List.length_replicate, List.length_cons, List.length_nil, List.length_replicate] <;> omega)) only [go_sem, true_and, Nat.reduceAdd, Nat.reduceSub, Nat.reduceMul, Nat.reduceEqDiff, Nat.reduceLeDiff, Nat.reduceLT, Nat.reduceBEq, Int.reduceAdd, Int.reduceSub, Int.reduceMul, Int.reduceNeg, Int.reduceLT, Int.reduceLE, Int.reduceEq, Int.reduceToNat, decide_true]
  refine awake_ok _ _ ?_
  simp (disch := first | omega | (simp only [go_sem, true_and, and_true, List.length_append, List.length_take, List.length_set, List.length_drop, List.length_replicate, List.length_cons, List.length_nil, List.length_replicate] <;> omega)) only [go_sem, true_and, Nat.reduceAdd, Nat.reduceSub, Nat.reduceMul, Nat.reduceEqDiff, Nat.reduceLeDiff, Nat.reduceLT, Nat.reduceBEq, Int.reduceAdd, Int.reduceSub, Int.reduceMul, Int.reduceNeg, Int.reduceLT, Int.reduceLE, Int.reduceEq, Int.reduceToNat]
  refine fin_tmp hw ?_ (fin_eq hK ?_)
  · simp (disch := first | omega | (simp only [go_sem, true_and, and_true, List.length_append, List.length_take, List.length_set, List.length_drop, List.length_replicate, List.length_cons, List.length_nil, List.length_replicate] <;> omega)) only [go_sem, true_and, Nat.reduceAdd, Nat.reduceSub, Nat.reduceMul, Nat.reduceEqDiff, Nat.reduceLeDiff, Nat.reduceLT, Nat.reduceBEq, Int.reduceAdd, Int.reduceSub, Int.reduceMul, Int.reduceNeg, Int.reduceLT, Int.reduceLE, Int.reduceEq, Int.reduceToNat]
  · simp (disch := first | omega | (simp only [go_sem, true_and, and_true, List.length_append, List.length_take, List.length_set, List.length_drop, List.length_replicate, List.length_cons, List.length_nil, List.length_replicate] <;> omega)) only [go_sem, true_and, Nat.reduceAdd, Nat.reduceSub, Nat.reduceMul, Nat.reduceEqDiff, Nat.reduceLeDiff, Nat.reduceLT, Nat.reduceBEq, Int.reduceAdd, Int.reduceSub, Int.reduceMul, Int.reduceNeg, Int.reduceLT, Int.reduceLE, Int.reduceEq, Int.reduceToNat]
end Go.Av
