/- A part of a way to reckon what a Go program does without its memory (E9). -/
import Derived.Test.YthonnheklgmkaaaE5
import Derived.Test.YthonnheklgmkaaaNumPack
import Derived.Test.YthonnheklgmkaaaNumSmall
import Derived.Test.YthonnheklgmkaaaNumMath2
namespace Go.Av
open Go Go.RowKit
set_option autoImplicit false
set_option linter.all false
/-! ### Octets -/
def pkS (n : Int) : List UInt8 := Go.Proofs.Ythonnheklgmkaaa.pkL n.toNat
theorem s_Pack {n : Int} {H : List Entry} (h0 : 0 ≤ n) (h1 : n ≤ 18446744073709551615) : Pure AP n_num_Pack [.int .u64 n] H (.str (pkS n)) := by
  refine pure_of (by kernel_rfl) fun C vals hH hC hv => ?_
  simp only [CRep, VRep] at hv
  obtain ⟨_, _, rfl, rfl, rfl⟩ := hv
  refine Calls.mono (Go.Proofs.Ythonnheklgmkaaa.pack_any n C.w h0 h1) ?_
  rintro e w' ⟨rfl, hb⟩
  exact ⟨_, rfl, hb, fun C' _ => by simp only [VRep, pkS]⟩
theorem s_Fold {a : Int} {H : List Entry} (h0 : -9223372036854775808 ≤ a) (h1 : a ≤ 9223372036854775807) : Pure AP n_num_Fold [.int .i64 a] H (.int .u64 (Go.Proofs.Ythonnheklgmkaaa.foldZ a)) := by
  refine pure_of (by kernel_rfl) fun C vals hH hC hv => ?_
  simp only [CRep, VRep] at hv
  obtain ⟨_, _, rfl, rfl, rfl⟩ := hv
  refine Calls.mono (Go.Proofs.Ythonnheklgmkaaa.fold_any a C.w h0 h1) ?_
  rintro e w' ⟨rfl, rfl⟩
  exact ⟨_, rfl, Below.refl _ _, fun C' _ => by simp only [VRep]⟩
theorem pkS_len (n : Int) (h0 : 0 ≤ n) (h1 : n ≤ 18446744073709551615) : (pkS n).length ≤ 10 := by
  have := Go.Proofs.Ythonnheklgmkaaa.pkW_le9 n.toNat (by omega)
  unfold pkS
  rw [Go.Proofs.Ythonnheklgmkaaa.pkL_length]
  omega
def layT (s : List UInt8) : List UInt8 := pkS (s.length : Int) ++ s
theorem s_layText {s : List UInt8} {H : List Entry} (hs : s.length ≤ 1000000) : Pure AP n_event_layText [.str s] H (.str (layT s)) := by
  intro K hK
  refine a_event_layText fun hw => ?_
  simp (disch := first | omega | (simp only [go_sem, true_and, and_true, List.length_append, List.length_take, List.length_set, List.length_drop, List.length_replicate, List.length_cons, List.length_nil, List.length_replicate] <;> omega)) only [go_sem, true_and, Nat.reduceAdd, Nat.reduceSub, Nat.reduceMul, Nat.reduceEqDiff, Nat.reduceLeDiff, Nat.reduceLT, Nat.reduceBEq, Int.reduceAdd, Int.reduceSub, Int.reduceMul, Int.reduceNeg, Int.reduceLT, Int.reduceLE, Int.reduceEq, Int.reduceToNat, c_event_layText]
  refine s_Pack (by omega) (by omega) _ ?_
  have hp := pkS_len (s.length : Int) (by omega) (by omega)
  simp (disch := first | omega | (simp only [go_sem, true_and, and_true, List.length_append, List.length_take, List.length_set, List.length_drop, List.length_replicate, List.length_cons, List.length_nil, List.length_replicate] <;> omega)) only [go_sem, true_and, Nat.reduceAdd, Nat.reduceSub, Nat.reduceMul, Nat.reduceEqDiff, Nat.reduceLeDiff, Nat.reduceLT, Nat.reduceBEq, Int.reduceAdd, Int.reduceSub, Int.reduceMul, Int.reduceNeg, Int.reduceLT, Int.reduceLE, Int.reduceEq, Int.reduceToNat]
  refine fin_tmp0 hw ?_ (fin_eq hK ?_)
  · simp (disch := first | omega | (simp only [go_sem, true_and, and_true, List.length_append, List.length_take, List.length_set, List.length_drop, List.length_replicate, List.length_cons, List.length_nil, List.length_replicate] <;> omega)) only [go_sem, true_and, Nat.reduceAdd, Nat.reduceSub, Nat.reduceMul, Nat.reduceEqDiff, Nat.reduceLeDiff, Nat.reduceLT, Nat.reduceBEq, Int.reduceAdd, Int.reduceSub, Int.reduceMul, Int.reduceNeg, Int.reduceLT, Int.reduceLE, Int.reduceEq, Int.reduceToNat]
  · simp (disch := first | omega | (simp only [go_sem, true_and, and_true, List.length_append, List.length_take, List.length_set, List.length_drop, List.length_replicate, List.length_cons, List.length_nil, List.length_replicate] <;> omega)) only [go_sem, true_and, Nat.reduceAdd, Nat.reduceSub, Nat.reduceMul, Nat.reduceEqDiff, Nat.reduceLeDiff, Nat.reduceLT, Nat.reduceBEq, Int.reduceAdd, Int.reduceSub, Int.reduceMul, Int.reduceNeg, Int.reduceLT, Int.reduceLE, Int.reduceEq, Int.reduceToNat, layT]
def layV (v : Vl) : List UInt8 := if v.1 = true then [1] ++ pkS (Go.Proofs.Ythonnheklgmkaaa.foldZ v.2.1) else [2] ++ pkS (v.2.2.length : Int) ++ v.2.2
theorem s_LayV {v : Vl} {H : List Entry} (hm : mayV v = true) (hs : v.2.2.length ≤ 1000000) (hz : -9223372036854775808 ≤ v.2.1 ∧ v.2.1 ≤ 9223372036854775807) : Pure AP n_val_Lay [vlV v] H (.tup [.str (layV v), .int .i64 0]) := by
  intro K hK
  refine a_val_Lay fun hw => ?_
  obtain ⟨b, z, s⟩ := v
  simp only at hs hz
  simp (disch := first | omega | (simp only [go_sem, true_and, and_true, List.length_append, List.length_take, List.length_set, List.length_drop, List.length_replicate, List.length_cons, List.length_nil, List.length_replicate] <;> omega)) only [go_sem, true_and, Nat.reduceAdd, Nat.reduceSub, Nat.reduceMul, Nat.reduceEqDiff, Nat.reduceLeDiff, Nat.reduceLT, Nat.reduceBEq, Int.reduceAdd, Int.reduceSub, Int.reduceMul, Int.reduceNeg, Int.reduceLT, Int.reduceLE, Int.reduceEq, Int.reduceToNat, c_val_Lay]
  refine s_MayV (v := (b, z, s)) (by simp only; omega) _ ?_
  rw [hm]
  cases b
  · simp (disch := first | omega | (simp only [go_sem, true_and, and_true, List.length_append, List.length_take, List.length_set, List.length_drop, List.length_replicate, List.length_cons, List.length_nil, List.length_replicate] <;> omega)) only [go_sem, true_and, Nat.reduceAdd, Nat.reduceSub, Nat.reduceMul, Nat.reduceEqDiff, Nat.reduceLeDiff, Nat.reduceLT, Nat.reduceBEq, Int.reduceAdd, Int.reduceSub, Int.reduceMul, Int.reduceNeg, Int.reduceLT, Int.reduceLE, Int.reduceEq, Int.reduceToNat, Bool.not_true]
    refine (s_Pack (by omega) (by omega)).dcall ?_
    have hp := pkS_len (s.length : Int) (by omega) (by omega)
    simp (disch := first | omega | (simp only [go_sem, true_and, and_true, List.length_append, List.length_take, List.length_set, List.length_drop, List.length_replicate, List.length_cons, List.length_nil, List.length_replicate] <;> omega)) only [go_sem, true_and, Nat.reduceAdd, Nat.reduceSub, Nat.reduceMul, Nat.reduceEqDiff, Nat.reduceLeDiff, Nat.reduceLT, Nat.reduceBEq, Int.reduceAdd, Int.reduceSub, Int.reduceMul, Int.reduceNeg, Int.reduceLT, Int.reduceLE, Int.reduceEq, Int.reduceToNat]
    refine fin_tmp hw ?_ (fin_eq hK ?_)
    · simp (disch := first | omega | (simp only [go_sem, true_and, and_true, List.length_append, List.length_take, List.length_set, List.length_drop, List.length_replicate, List.length_cons, List.length_nil, List.length_replicate] <;> omega)) only [go_sem, true_and, Nat.reduceAdd, Nat.reduceSub, Nat.reduceMul, Nat.reduceEqDiff, Nat.reduceLeDiff, Nat.reduceLT, Nat.reduceBEq, Int.reduceAdd, Int.reduceSub, Int.reduceMul, Int.reduceNeg, Int.reduceLT, Int.reduceLE, Int.reduceEq, Int.reduceToNat]
    · simp [oneV, nths, nth, layV]
  · simp (disch := first | omega | (simp only [go_sem, true_and, and_true, List.length_append, List.length_take, List.length_set, List.length_drop, List.length_replicate, List.length_cons, List.length_nil, List.length_replicate] <;> omega)) only [go_sem, true_and, Nat.reduceAdd, Nat.reduceSub, Nat.reduceMul, Nat.reduceEqDiff, Nat.reduceLeDiff, Nat.reduceLT, Nat.reduceBEq, Int.reduceAdd, Int.reduceSub, Int.reduceMul, Int.reduceNeg, Int.reduceLT, Int.reduceLE, Int.reduceEq, Int.reduceToNat, Bool.not_true]
    refine s_Fold hz.1 hz.2 _ ?_
    have hf : 0 ≤ Go.Proofs.Ythonnheklgmkaaa.foldZ z ∧ Go.Proofs.Ythonnheklgmkaaa.foldZ z ≤ 18446744073709551615 := by
      unfold Go.Proofs.Ythonnheklgmkaaa.foldZ
      split <;> omega
    simp (disch := first | omega | (simp only [go_sem, true_and, and_true, List.length_append, List.length_take, List.length_set, List.length_drop, List.length_replicate, List.length_cons, List.length_nil, List.length_replicate] <;> omega)) only [go_sem, true_and, Nat.reduceAdd, Nat.reduceSub, Nat.reduceMul, Nat.reduceEqDiff, Nat.reduceLeDiff, Nat.reduceLT, Nat.reduceBEq, Int.reduceAdd, Int.reduceSub, Int.reduceMul, Int.reduceNeg, Int.reduceLT, Int.reduceLE, Int.reduceEq, Int.reduceToNat]
    refine s_Pack hf.1 hf.2 _ ?_
    have hp := pkS_len _ hf.1 hf.2
    simp (disch := first | omega | (simp only [go_sem, true_and, and_true, List.length_append, List.length_take, List.length_set, List.length_drop, List.length_replicate, List.length_cons, List.length_nil, List.length_replicate] <;> omega)) only [go_sem, true_and, Nat.reduceAdd, Nat.reduceSub, Nat.reduceMul, Nat.reduceEqDiff, Nat.reduceLeDiff, Nat.reduceLT, Nat.reduceBEq, Int.reduceAdd, Int.reduceSub, Int.reduceMul, Int.reduceNeg, Int.reduceLT, Int.reduceLE, Int.reduceEq, Int.reduceToNat]
    refine fin_tmp hw ?_ (fin_eq hK ?_)
    · simp (disch := first | omega | (simp only [go_sem, true_and, and_true, List.length_append, List.length_take, List.length_set, List.length_drop, List.length_replicate, List.length_cons, List.length_nil, List.length_replicate] <;> omega)) only [go_sem, true_and, Nat.reduceAdd, Nat.reduceSub, Nat.reduceMul, Nat.reduceEqDiff, Nat.reduceLeDiff, Nat.reduceLT, Nat.reduceBEq, Int.reduceAdd, Int.reduceSub, Int.reduceMul, Int.reduceNeg, Int.reduceLT, Int.reduceLE, Int.reduceEq, Int.reduceToNat]
    · simp [oneV, nths, nth, layV]
def layF (f : Fd) : List UInt8 := layT f.1 ++ layV f.2
def layFs (L : List Fd) : List UInt8 := (L.map layF).flatten
def layE (e : Ev) : List UInt8 := layT e.1 ++ layT e.2.1 ++ pkS e.2.2.1 ++ pkS (e.2.2.2.length : Int) ++ layFs e.2.2.2
def evB (e : Ev) : Prop := (0 ≤ e.2.2.1 ∧ e.2.2.1 ≤ 18446744073709551615) ∧ e.1.length ≤ 60 ∧ e.2.1.length ≤ 60 ∧ e.2.2.2.length ≤ 10 ∧ ∀ f ∈ e.2.2.2, f.1.length ≤ 60 ∧ f.2.2.2.length ≤ 70 ∧ (-9223372036854775808 ≤ f.2.2.1 ∧ f.2.2.1 ≤ 9223372036854775807)
theorem evB_ok {e : Ev} (h : evB e) : evOk e := by
  obtain ⟨h0, h1, h2, h3, h4⟩ := h
  exact ⟨by omega, by omega, by omega, fun f hf => ⟨by have := (h4 f hf).1; omega, by have := (h4 f hf).2.1; omega⟩⟩
theorem layT_len (s : List UInt8) (h : s.length ≤ 1000000) : (layT s).length ≤ s.length + 10 := by
  have := pkS_len (s.length : Int) (by omega) (by omega)
  simp [layT]
  omega
theorem layV_len (v : Vl) (h : v.2.2.length ≤ 70) (hz : -9223372036854775808 ≤ v.2.1 ∧ v.2.1 ≤ 9223372036854775807) : (layV v).length ≤ 100 := by
  have h1 := pkS_len (v.2.2.length : Int) (by omega) (by omega)
  have hf := Go.Proofs.Ythonnheklgmkaaa.foldZ_bd v.2.1 hz.1 hz.2
  have h2 := pkS_len _ hf.1 hf.2
  unfold layV
  split <;> simp <;> omega
theorem s_Lay {e : Ev} {H : List Entry} (he : evB e) : Pure AP n_event_Lay [evV e] H (if mayE e = true then .tup [.str (layE e), .int .i64 0] else .tup [.str [], .int .i64 1]) := by
  intro K hK
  refine a_event_Lay fun hw => ?_
  have hok := evB_ok he
  obtain ⟨h0, h1, h2, h3, h4⟩ := he
  simp (disch := first | omega | (simp only [go_sem, true_and, and_true, List.length_append, List.length_take, List.length_set, List.length_drop, List.length_replicate, List.length_cons, List.length_nil, List.length_replicate] <;> omega)) only [go_sem, true_and, Nat.reduceAdd, Nat.reduceSub, Nat.reduceMul, Nat.reduceEqDiff, Nat.reduceLeDiff, Nat.reduceLT, Nat.reduceBEq, Int.reduceAdd, Int.reduceSub, Int.reduceMul, Int.reduceNeg, Int.reduceLT, Int.reduceLE, Int.reduceEq, Int.reduceToNat, c_event_Lay]
  refine s_May (e := e) hok (by omega) _ ?_
  cases hm : mayE e
  · rw [hm] at hK
    simp (disch := first | omega | (simp only [go_sem, true_and, and_true, List.length_append, List.length_take, List.length_set, List.length_drop, List.length_replicate, List.length_cons, List.length_nil, List.length_replicate] <;> omega)) only [go_sem, true_and, Nat.reduceAdd, Nat.reduceSub, Nat.reduceMul, Nat.reduceEqDiff, Nat.reduceLeDiff, Nat.reduceLT, Nat.reduceBEq, Int.reduceAdd, Int.reduceSub, Int.reduceMul, Int.reduceNeg, Int.reduceLT, Int.reduceLE, Int.reduceEq, Int.reduceToNat, Bool.not_false]
    refine fin_tmp hw ?_ (fin_eq hK ?_)
    · simp (disch := first | omega | (simp only [go_sem, true_and, and_true, List.length_append, List.length_take, List.length_set, List.length_drop, List.length_replicate, List.length_cons, List.length_nil, List.length_replicate] <;> omega)) only [go_sem, true_and, Nat.reduceAdd, Nat.reduceSub, Nat.reduceMul, Nat.reduceEqDiff, Nat.reduceLeDiff, Nat.reduceLT, Nat.reduceBEq, Int.reduceAdd, Int.reduceSub, Int.reduceMul, Int.reduceNeg, Int.reduceLT, Int.reduceLE, Int.reduceEq, Int.reduceToNat]
    · simp [oneV, nths, nth]
  rw [hm] at hK
  simp (disch := first | omega | (simp only [go_sem, true_and, and_true, List.length_append, List.length_take, List.length_set, List.length_drop, List.length_replicate, List.length_cons, List.length_nil, List.length_replicate] <;> omega)) only [go_sem, true_and, Nat.reduceAdd, Nat.reduceSub, Nat.reduceMul, Nat.reduceEqDiff, Nat.reduceLeDiff, Nat.reduceLT, Nat.reduceBEq, Int.reduceAdd, Int.reduceSub, Int.reduceMul, Int.reduceNeg, Int.reduceLT, Int.reduceLE, Int.reduceEq, Int.reduceToNat, Bool.not_true]
  have l1 := layT_len e.1 (by omega)
  have l2 := layT_len e.2.1 (by omega)
  have l3 := pkS_len e.2.2.1 h0.1 h0.2
  have l4 := pkS_len (e.2.2.2.length : Int) (by omega) (by omega)
  refine (s_layText (s := e.1) (by omega)).dcall ?_
  simp (disch := first | omega | (simp only [go_sem, true_and, and_true, List.length_append, List.length_take, List.length_set, List.length_drop, List.length_replicate, List.length_cons, List.length_nil, List.length_replicate] <;> omega)) only [go_sem, true_and, Nat.reduceAdd, Nat.reduceSub, Nat.reduceMul, Nat.reduceEqDiff, Nat.reduceLeDiff, Nat.reduceLT, Nat.reduceBEq, Int.reduceAdd, Int.reduceSub, Int.reduceMul, Int.reduceNeg, Int.reduceLT, Int.reduceLE, Int.reduceEq, Int.reduceToNat]
  refine (s_layText (s := e.2.1) (by omega)).dcall ?_
  simp (disch := first | omega | (simp only [go_sem, true_and, and_true, List.length_append, List.length_take, List.length_set, List.length_drop, List.length_replicate, List.length_cons, List.length_nil, List.length_replicate] <;> omega)) only [go_sem, true_and, Nat.reduceAdd, Nat.reduceSub, Nat.reduceMul, Nat.reduceEqDiff, Nat.reduceLeDiff, Nat.reduceLT, Nat.reduceBEq, Int.reduceAdd, Int.reduceSub, Int.reduceMul, Int.reduceNeg, Int.reduceLT, Int.reduceLE, Int.reduceEq, Int.reduceToNat]
  refine (s_Pack h0.1 h0.2).dcall ?_
  simp (disch := first | omega | (simp only [go_sem, true_and, and_true, List.length_append, List.length_take, List.length_set, List.length_drop, List.length_replicate, List.length_cons, List.length_nil, List.length_replicate] <;> omega)) only [go_sem, true_and, Nat.reduceAdd, Nat.reduceSub, Nat.reduceMul, Nat.reduceEqDiff, Nat.reduceLeDiff, Nat.reduceLT, Nat.reduceBEq, Int.reduceAdd, Int.reduceSub, Int.reduceMul, Int.reduceNeg, Int.reduceLT, Int.reduceLE, Int.reduceEq, Int.reduceToNat]
  refine (s_Pack (by omega) (by omega)).dcall ?_
  simp (disch := first | omega | (simp only [go_sem, true_and, and_true, List.length_append, List.length_take, List.length_set, List.length_drop, List.length_replicate, List.length_cons, List.length_nil, List.length_replicate] <;> omega)) only [go_sem, true_and, Nat.reduceAdd, Nat.reduceSub, Nat.reduceMul, Nat.reduceEqDiff, Nat.reduceLeDiff, Nat.reduceLT, Nat.reduceBEq, Int.reduceAdd, Int.reduceSub, Int.reduceMul, Int.reduceNeg, Int.reduceLT, Int.reduceLE, Int.reduceEq, Int.reduceToNat]
  have hz : (layT e.1 ++ layT e.2.1 ++ pkS e.2.2.1 ++ pkS (e.2.2.2.length : Int)).length ≤ 200 := by simp; omega
  have hE : layE e = layT e.1 ++ layT e.2.1 ++ pkS e.2.2.1 ++ pkS (e.2.2.2.length : Int) ++ layFs e.2.2.2 := rfl
  rw [hE] at hK
  generalize layT e.1 ++ layT e.2.1 ++ pkS e.2.2.1 ++ pkS (e.2.2.2.length : Int) = Z at *
  have hmv : ∀ f ∈ e.2.2.2, mayV f.2 = true := by
    unfold mayE mayFs at hm
    simp only [Bool.and_eq_true, Bool.not_eq_true', List.any_eq_false, Bool.or_eq_true, not_or, Bool.not_eq_false] at hm
    intro f hf
    have := (hm.2.2.2.2.1 f hf).2
    simpa using this
  have hst : ∀ i, i < e.2.2.2.length → layFs (e.2.2.2.take (i + 1)) = layFs (e.2.2.2.take i) ++ layF (e.2.2.2.getD i default) := fun i hi => by
    unfold layFs
    rw [List.take_add_one, List.map_append, List.flatten_append]
    simp [hi]
  have hfl : ∀ i, i ≤ e.2.2.2.length → (layFs (e.2.2.2.take i)).length ≤ 200 * i := by
    intro i
    induction i with
    | zero => intro _; simp [layFs]
    | succ i ih =>
      intro h
      have hi := ih (by omega)
      have hf := h4 _ (getD_mem (X := e.2.2.2) (i := i) (by omega))
      have a1 := layT_len (e.2.2.2.getD i default).1 (by omega)
      have a2 := layV_len (e.2.2.2.getD i default).2 hf.2.1 hf.2.2
      rw [hst i (by omega), List.length_append, layF, List.length_append]
      omega
  refine loop_in (fun m e' H' => ∃ i : Nat, m = e.2.2.2.length - i ∧ e' = slots 0 51 [(1, .ptr H.length 0), (4, .str (Z ++ layFs (e.2.2.2.take i))), (30, .sl 4 (e.2.2.2.map fdV)), (31, .int .i64 e.2.2.2.length), (32, .int .i64 (i : Int))] ∧ H' = H ++ [.box [.str e.1, .str e.2.1, .int .u64 e.2.2.1, .sl 4 (e.2.2.2.map fdV)]] ∧ i ≤ e.2.2.2.length) (n := e.2.2.2.length) ⟨0, rfl, rfl, rfl, by omega⟩ (by first | omega | (simp only [go_sem, List.length_append, List.length_set, List.length_take, List.length_drop, List.length_replicate, true_and, Nat.reduceAdd, Nat.reduceSub, Nat.reduceMul, Nat.reduceEqDiff, Nat.reduceLeDiff, Nat.reduceLT, Nat.reduceBEq, Int.reduceAdd, Int.reduceSub, Int.reduceMul, Int.reduceNeg, Int.reduceLT, Int.reduceLE, Int.reduceEq, Int.reduceToNat] <;> omega)) ?_ ?_ ?_
  · have h00 : layFs [] = [] := rfl
    simp (disch := (simp only [go_sem, true_and, Nat.reduceAdd, Nat.reduceSub, Nat.reduceMul, Nat.reduceEqDiff, Nat.reduceLeDiff, Nat.reduceLT, Nat.reduceBEq, Int.reduceAdd, Int.reduceSub, Int.reduceMul, Int.reduceNeg, Int.reduceLT, Int.reduceLE, Int.reduceEq, Int.reduceToNat, List.take_zero, h00, List.append_nil] <;> omega)) only [go_sem, x_eLeS, x_hLeS, Int.natCast_zero, Int.natCast_add, Int.natCast_one, true_and, Nat.reduceAdd, Nat.reduceSub, Nat.reduceMul, Nat.reduceEqDiff, Nat.reduceLeDiff, Nat.reduceLT, Nat.reduceBEq, Int.reduceAdd, Int.reduceSub, Int.reduceMul, Int.reduceNeg, Int.reduceLT, Int.reduceLE, Int.reduceEq, Int.reduceToNat, List.take_zero, h00, List.append_nil]
  · exact hLe_app hw (by first | omega | (simp only [go_sem, List.length_append, List.length_set, List.length_take, List.length_drop, List.length_replicate, true_and, Nat.reduceAdd, Nat.reduceSub, Nat.reduceMul, Nat.reduceEqDiff, Nat.reduceLeDiff, Nat.reduceLT, Nat.reduceBEq, Int.reduceAdd, Int.reduceSub, Int.reduceMul, Int.reduceNeg, Int.reduceLT, Int.reduceLE, Int.reduceEq, Int.reduceToNat] <;> omega)) (by simp (disch := (simp only [go_sem, true_and, Nat.reduceAdd, Nat.reduceSub, Nat.reduceMul, Nat.reduceEqDiff, Nat.reduceLeDiff, Nat.reduceLT, Nat.reduceBEq, Int.reduceAdd, Int.reduceSub, Int.reduceMul, Int.reduceNeg, Int.reduceLT, Int.reduceLE, Int.reduceEq, Int.reduceToNat] <;> omega)) only [go_sem, x_eLeS, x_hLeS, Int.natCast_zero, Int.natCast_add, Int.natCast_one, true_and, Nat.reduceAdd, Nat.reduceSub, Nat.reduceMul, Nat.reduceEqDiff, Nat.reduceLeDiff, Nat.reduceLT, Nat.reduceBEq, Int.reduceAdd, Int.reduceSub, Int.reduceMul, Int.reduceNeg, Int.reduceLT, Int.reduceLE, Int.reduceEq, Int.reduceToNat])
  · rintro J hJ m e' H' ⟨i, rfl, rfl, rfl, hi1⟩
    have hli := hfl i hi1
    by_cases h : (i : Int) < e.2.2.2.length
    · have hf := h4 _ (getD_mem (X := e.2.2.2) (i := i) (by omega))
      have hv := hmv _ (getD_mem (X := e.2.2.2) (i := i) (by omega))
      have hnx := hJ _ _ _ ⟨i + 1, rfl, rfl, rfl, by omega⟩
      have a1 := layT_len (e.2.2.2.getD i default).1 (by omega)
      have a2 := layV_len (e.2.2.2.getD i default).2 hf.2.1 hf.2.2
      rw [hst i (by omega), layF] at hnx
      simp (disch := first | omega | (simp only [go_sem, true_and, and_true, List.length_append, List.length_take, List.length_set, List.length_drop, List.length_replicate, List.length_cons, List.length_nil, List.length_replicate] <;> omega)) only [go_sem, true_and, Nat.reduceAdd, Nat.reduceSub, Nat.reduceMul, Nat.reduceEqDiff, Nat.reduceLeDiff, Nat.reduceLT, Nat.reduceBEq, Int.reduceAdd, Int.reduceSub, Int.reduceMul, Int.reduceNeg, Int.reduceLT, Int.reduceLE, Int.reduceEq, Int.reduceToNat]
      refine s_LayV (v := (e.2.2.2.getD i default).2) hv (by omega) hf.2.2 _ ?_
      simp (disch := first | omega | (simp only [go_sem, true_and, and_true, List.length_append, List.length_take, List.length_set, List.length_drop, List.length_replicate, List.length_cons, List.length_nil, List.length_replicate] <;> omega)) only [go_sem, true_and, Nat.reduceAdd, Nat.reduceSub, Nat.reduceMul, Nat.reduceEqDiff, Nat.reduceLeDiff, Nat.reduceLT, Nat.reduceBEq, Int.reduceAdd, Int.reduceSub, Int.reduceMul, Int.reduceNeg, Int.reduceLT, Int.reduceLE, Int.reduceEq, Int.reduceToNat]
      refine s_layText (s := (e.2.2.2.getD i default).1) (by omega) _ ?_
      simp (disch := first | omega | (simp only [go_sem, true_and, and_true, List.length_append, List.length_take, List.length_set, List.length_drop, List.length_replicate, List.length_cons, List.length_nil, List.length_replicate] <;> omega)) only [go_sem, true_and, Nat.reduceAdd, Nat.reduceSub, Nat.reduceMul, Nat.reduceEqDiff, Nat.reduceLeDiff, Nat.reduceLT, Nat.reduceBEq, Int.reduceAdd, Int.reduceSub, Int.reduceMul, Int.reduceNeg, Int.reduceLT, Int.reduceLE, Int.reduceEq, Int.reduceToNat]
      refine round_end hnx (by omega) (by first | omega | (simp only [go_sem, List.length_append, List.length_set, List.length_take, List.length_drop, List.length_replicate, true_and, Nat.reduceAdd, Nat.reduceSub, Nat.reduceMul, Nat.reduceEqDiff, Nat.reduceLeDiff, Nat.reduceLT, Nat.reduceBEq, Int.reduceAdd, Int.reduceSub, Int.reduceMul, Int.reduceNeg, Int.reduceLT, Int.reduceLE, Int.reduceEq, Int.reduceToNat] <;> omega)) ?_ ?_
      · simp (disch := (simp only [go_sem, true_and, Nat.reduceAdd, Nat.reduceSub, Nat.reduceMul, Nat.reduceEqDiff, Nat.reduceLeDiff, Nat.reduceLT, Nat.reduceBEq, Int.reduceAdd, Int.reduceSub, Int.reduceMul, Int.reduceNeg, Int.reduceLT, Int.reduceLE, Int.reduceEq, Int.reduceToNat, List.append_assoc] <;> omega)) only [go_sem, x_eLeS, x_hLeS, Int.natCast_zero, Int.natCast_add, Int.natCast_one, true_and, Nat.reduceAdd, Nat.reduceSub, Nat.reduceMul, Nat.reduceEqDiff, Nat.reduceLeDiff, Nat.reduceLT, Nat.reduceBEq, Int.reduceAdd, Int.reduceSub, Int.reduceMul, Int.reduceNeg, Int.reduceLT, Int.reduceLE, Int.reduceEq, Int.reduceToNat, List.append_assoc]
      · exact hLe_app hw (by first | omega | (simp only [go_sem, List.length_append, List.length_set, List.length_take, List.length_drop, List.length_replicate, true_and, Nat.reduceAdd, Nat.reduceSub, Nat.reduceMul, Nat.reduceEqDiff, Nat.reduceLeDiff, Nat.reduceLT, Nat.reduceBEq, Int.reduceAdd, Int.reduceSub, Int.reduceMul, Int.reduceNeg, Int.reduceLT, Int.reduceLE, Int.reduceEq, Int.reduceToNat] <;> omega)) (by simp (disch := (simp only [go_sem, true_and, Nat.reduceAdd, Nat.reduceSub, Nat.reduceMul, Nat.reduceEqDiff, Nat.reduceLeDiff, Nat.reduceLT, Nat.reduceBEq, Int.reduceAdd, Int.reduceSub, Int.reduceMul, Int.reduceNeg, Int.reduceLT, Int.reduceLE, Int.reduceEq, Int.reduceToNat] <;> omega)) only [go_sem, x_eLeS, x_hLeS, Int.natCast_zero, Int.natCast_add, Int.natCast_one, true_and, Nat.reduceAdd, Nat.reduceSub, Nat.reduceMul, Nat.reduceEqDiff, Nat.reduceLeDiff, Nat.reduceLT, Nat.reduceBEq, Int.reduceAdd, Int.reduceSub, Int.reduceMul, Int.reduceNeg, Int.reduceLT, Int.reduceLE, Int.reduceEq, Int.reduceToNat])
    · have hi : i = e.2.2.2.length := by omega
      subst hi
      rw [List.take_length]
      simp (disch := first | omega | (simp only [go_sem, true_and, and_true, List.length_append, List.length_take, List.length_set, List.length_drop, List.length_replicate, List.length_cons, List.length_nil, List.length_replicate] <;> omega)) only [go_sem, true_and, Nat.reduceAdd, Nat.reduceSub, Nat.reduceMul, Nat.reduceEqDiff, Nat.reduceLeDiff, Nat.reduceLT, Nat.reduceBEq, Int.reduceAdd, Int.reduceSub, Int.reduceMul, Int.reduceNeg, Int.reduceLT, Int.reduceLE, Int.reduceEq, Int.reduceToNat]
      refine fin_tmp hw ?_ (fin_eq hK ?_)
      · simp (disch := first | omega | (simp only [go_sem, true_and, and_true, List.length_append, List.length_take, List.length_set, List.length_drop, List.length_replicate, List.length_cons, List.length_nil, List.length_replicate] <;> omega)) only [go_sem, true_and, Nat.reduceAdd, Nat.reduceSub, Nat.reduceMul, Nat.reduceEqDiff, Nat.reduceLeDiff, Nat.reduceLT, Nat.reduceBEq, Int.reduceAdd, Int.reduceSub, Int.reduceMul, Int.reduceNeg, Int.reduceLT, Int.reduceLE, Int.reduceEq, Int.reduceToNat]
      · simp [oneV, nths, nth]
end Go.Av
