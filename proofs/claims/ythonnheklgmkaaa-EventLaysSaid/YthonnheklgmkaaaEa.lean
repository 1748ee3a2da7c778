/- A part of a way to reckon what a Go program does without its memory (Ea). -/
import Derived.Test.YthonnheklgmkaaaE9
import Derived.Test.YthonnheklgmkaaaE3
import Derived.Test.YthonnheklgmkaaaE0
namespace Go.Av
open Go
set_option autoImplicit false
set_option linter.all false
/-! ### No octets begin with others -/
theorem pk_pre {a b : Int} {r s : List UInt8} (ha : 0 ≤ a ∧ a ≤ 18446744073709551615) (hb : 0 ≤ b ∧ b ≤ 18446744073709551615) (h : pkS a ++ r = pkS b ++ s) : a = b ∧ r = s := by
  have key : a = b := by
    have e : ∀ {x y : Int} {u : List UInt8}, 0 ≤ x ∧ x ≤ 18446744073709551615 → 0 ≤ y ∧ y ≤ 18446744073709551615 → pkS y = pkS x ++ u → x = y := fun {x y u} hx hy h => by
      have := Go.Proofs.Ythonnheklgmkaaa.pkL_prefix x.toNat y.toNat u (by omega) (by omega) h
      omega
    rcases List.append_eq_append_iff.1 h with ⟨u, hu, _⟩ | ⟨u, hu, _⟩
    · exact e ha hb hu
    · exact (e hb ha hu).symm
  subst key
  exact ⟨rfl, List.append_cancel_left h⟩
theorem layT_pre {a b r s : List UInt8} (ha : a.length ≤ 1000000) (hb : b.length ≤ 1000000) (h : layT a ++ r = layT b ++ s) : a = b ∧ r = s := by
  unfold layT at h
  rw [List.append_assoc, List.append_assoc] at h
  obtain ⟨h1, h2⟩ := pk_pre (by omega) (by omega) h
  exact List.append_inj h2 (by omega)
def vB (v : Vl) : Prop := v.2.2.length ≤ 70 ∧ (-9223372036854775808 ≤ v.2.1 ∧ v.2.1 ≤ 9223372036854775807)
theorem layV_pre {v w : Vl} {r s : List UInt8} (hv : vB v) (hw : vB w) (mv : mayV v = true) (mw : mayV w = true) (h : layV v ++ r = layV w ++ s) : v = w ∧ r = s := by
  obtain ⟨b, z, t⟩ := v
  obtain ⟨c, y, u⟩ := w
  obtain ⟨hv1, hv2⟩ := hv
  obtain ⟨hw1, hw2⟩ := hw
  simp only at hv1 hv2 hw1 hw2
  cases b <;> cases c
  · simp [mayV] at mv mw
    simp only [layV, Bool.false_eq_true, if_false, List.append_assoc, List.cons_append, List.nil_append, List.cons.injEq, true_and] at h
    obtain ⟨h1, h2⟩ := pk_pre (a := (t.length : Int)) (b := (u.length : Int)) (by omega) (by omega) h
    obtain ⟨rfl, rfl⟩ := List.append_inj h2 (by omega)
    rw [mv.1, mw.1]
    exact ⟨rfl, rfl⟩
  · simp [layV] at h
  · simp [layV] at h
  · simp [mayV] at mv mw
    simp only [layV, if_true, List.append_assoc, List.cons_append, List.nil_append, List.cons.injEq, true_and] at h
    have f1 := Go.Proofs.Ythonnheklgmkaaa.foldZ_bd z hv2.1 hv2.2
    have f2 := Go.Proofs.Ythonnheklgmkaaa.foldZ_bd y hw2.1 hw2.2
    obtain ⟨h1, h2⟩ := pk_pre f1 f2 h
    have : z = y := by rw [← Go.Proofs.Ythonnheklgmkaaa.unfold_fold z, h1, Go.Proofs.Ythonnheklgmkaaa.unfold_fold]
    rw [this, mv, mw]
    exact ⟨rfl, h2⟩
def fB (f : Fd) : Prop := f.1.length ≤ 60 ∧ vB f.2 ∧ mayV f.2 = true
theorem layFs_pre : ∀ {A B : List Fd} {r s : List UInt8}, A.length = B.length → (∀ f ∈ A, fB f) → (∀ f ∈ B, fB f) → layFs A ++ r = layFs B ++ s → A = B ∧ r = s
  | [], [], _, _, _, _, _, h => ⟨rfl, h⟩
  | f :: A, g :: B, r, s, hl, hA, hB, h => by
    have hf := hA f (by simp)
    have hg := hB g (by simp)
    have h' : layT f.1 ++ (layV f.2 ++ (layFs A ++ r)) = layT g.1 ++ (layV g.2 ++ (layFs B ++ s)) := by
      simpa [layFs, layF, List.append_assoc] using h
    obtain ⟨h1, h2⟩ := layT_pre (by have := hf.1; omega) (by have := hg.1; omega) h'
    obtain ⟨h3, h4⟩ := layV_pre hf.2.1 hg.2.1 hf.2.2 hg.2.2 h2
    obtain ⟨h5, h6⟩ := layFs_pre (by simpa using hl) (fun x hx => hA x (by simp [hx])) (fun x hx => hB x (by simp [hx])) h4
    exact ⟨by rw [h5, show f = g from Prod.ext h1 h3], h6⟩
theorem may_fB {e : Ev} (he : evB e) (hm : mayE e = true) : ∀ f ∈ e.2.2.2, fB f := by
  unfold mayE mayFs at hm
  simp only [Bool.and_eq_true, Bool.not_eq_true', List.any_eq_false, Bool.or_eq_true, not_or, Bool.not_eq_false] at hm
  intro f hf
  have h1 := (hm.2.2.2.2.1 f hf).2
  have h2 := he.2.2.2.2 f hf
  exact ⟨h2.1, ⟨h2.2.1, h2.2.2⟩, by simpa using h1⟩
theorem layE_pre {a b : Ev} {r s : List UInt8} (ha : evB a) (hb : evB b) (ma : mayE a = true) (mb : mayE b = true) (h : layE a ++ r = layE b ++ s) : a = b ∧ r = s := by
  have fa := may_fB ha ma
  have fb := may_fB hb mb
  obtain ⟨a0, a1, a2, a3, _⟩ := ha
  obtain ⟨b0, b1, b2, b3, _⟩ := hb
  unfold layE at h
  simp only [List.append_assoc] at h
  obtain ⟨h1, h⟩ := layT_pre (by omega) (by omega) h
  obtain ⟨h2, h⟩ := layT_pre (by omega) (by omega) h
  obtain ⟨h3, h⟩ := pk_pre a0 b0 h
  obtain ⟨h4, h⟩ := pk_pre (by omega) (by omega) h
  obtain ⟨h5, h⟩ := layFs_pre (by omega) fa fb h
  exact ⟨Prod.ext h1 (Prod.ext h2 (Prod.ext h3 h5)), h⟩
end Go.Av
namespace Go.Av
open Go
set_option autoImplicit false
set_option linter.all false
def evA (e : Ev) : Prop := evOk e ∧ (0 ≤ e.2.2.1 ∧ e.2.2.1 ≤ 18446744073709551615) ∧ ∀ f ∈ e.2.2.2, -9223372036854775808 ≤ f.2.2.1 ∧ f.2.2.1 ≤ 9223372036854775807
theorem few_B {e : Ev} (h : evA e) : evB (fewE e) := by
  obtain ⟨_, h1, h2⟩ := h
  refine ⟨h1, by simp [fewE]; omega, by simp [fewE]; omega, by simp [fewE]; omega, fun f hf => ?_⟩
  simp only [fewE, List.mem_map] at hf
  obtain ⟨x, hx, rfl⟩ := hf
  have := h2 x (List.mem_of_mem_take hx)
  refine ⟨by simp [fewF]; omega, by simp [fewF, fewV]; omega, this⟩
theorem layFs_len : ∀ {L : List Fd}, (∀ f ∈ L, f.1.length ≤ 60 ∧ f.2.2.2.length ≤ 70 ∧ (-9223372036854775808 ≤ f.2.2.1 ∧ f.2.2.1 ≤ 9223372036854775807)) → (layFs L).length ≤ 200 * L.length
  | [], _ => by simp [layFs]
  | f :: L, h => by
    have ih := layFs_len (L := L) fun x hx => h x (by simp [hx])
    have hf := h f (by simp)
    have a1 := layT_len f.1 (by omega)
    have a2 := layV_len f.2 hf.2.1 hf.2.2
    have : layFs (f :: L) = layF f ++ layFs L := by simp [layFs]
    rw [this]
    simp [layF]
    omega
theorem layE_len {e : Ev} (h : evB e) : (layE e).length ≤ 5000 := by
  obtain ⟨h0, h1, h2, h3, h4⟩ := h
  have l1 := layT_len e.1 (by omega)
  have l2 := layT_len e.2.1 (by omega)
  have l3 := pkS_len e.2.2.1 h0.1 h0.2
  have l4 := pkS_len (e.2.2.2.length : Int) (by omega) (by omega)
  have l5 := layFs_len h4
  simp [layE]
  omega
theorem law_apart {a b : Ev} {H : List Entry} (ha : evA a) (hb : evA b) : Pure AP n_trystlaw04_EventApart [evV a, evV b] H (.bool true) := by
  intro K hK
  refine a_trystlaw04_EventApart fun hw => ?_
  simp (disch := first | omega | (simp only [go_sem, true_and, and_true, List.length_append, List.length_take, List.length_set, List.length_drop, List.length_replicate, List.length_cons, List.length_nil, List.length_replicate] <;> omega)) only [go_sem, true_and, Nat.reduceAdd, Nat.reduceSub, Nat.reduceMul, Nat.reduceEqDiff, Nat.reduceLeDiff, Nat.reduceLT, Nat.reduceBEq, Int.reduceAdd, Int.reduceSub, Int.reduceMul, Int.reduceNeg, Int.reduceLT, Int.reduceLE, Int.reduceEq, Int.reduceToNat, c_trystlaw04_EventApart]
  refine (s_Few4 ha.1).dcall ?_
  simp (disch := first | omega | (simp only [go_sem, true_and, and_true, List.length_append, List.length_take, List.length_set, List.length_drop, List.length_replicate, List.length_cons, List.length_nil, List.length_replicate] <;> omega)) only [go_sem, true_and, Nat.reduceAdd, Nat.reduceSub, Nat.reduceMul, Nat.reduceEqDiff, Nat.reduceLeDiff, Nat.reduceLT, Nat.reduceBEq, Int.reduceAdd, Int.reduceSub, Int.reduceMul, Int.reduceNeg, Int.reduceLT, Int.reduceLE, Int.reduceEq, Int.reduceToNat]
  refine (s_Few4 hb.1).dcall ?_
  have hA := few_B ha
  have hB := few_B hb
  simp (disch := first | omega | (simp only [go_sem, true_and, and_true, List.length_append, List.length_take, List.length_set, List.length_drop, List.length_replicate, List.length_cons, List.length_nil, List.length_replicate] <;> omega)) only [go_sem, true_and, Nat.reduceAdd, Nat.reduceSub, Nat.reduceMul, Nat.reduceEqDiff, Nat.reduceLeDiff, Nat.reduceLT, Nat.reduceBEq, Int.reduceAdd, Int.reduceSub, Int.reduceMul, Int.reduceNeg, Int.reduceLT, Int.reduceLE, Int.reduceEq, Int.reduceToNat]
  generalize fewE a = A at *
  generalize fewE b = B at *
  have lA := hA.2.2.2.1
  have lB := hB.2.2.2.1
  refine s_Lay (e := A) hA _ ?_
  cases hm : mayE A
  · simp (disch := first | omega | (simp only [go_sem, true_and, and_true, List.length_append, List.length_take, List.length_set, List.length_drop, List.length_replicate, List.length_cons, List.length_nil, List.length_replicate] <;> omega)) only [go_sem, true_and, Nat.reduceAdd, Nat.reduceSub, Nat.reduceMul, Nat.reduceEqDiff, Nat.reduceLeDiff, Nat.reduceLT, Nat.reduceBEq, Int.reduceAdd, Int.reduceSub, Int.reduceMul, Int.reduceNeg, Int.reduceLT, Int.reduceLE, Int.reduceEq, Int.reduceToNat, Bool.false_eq_true, if_false]
    refine s_Lay (e := B) hB _ ?_
    cases hn : mayE B
    · simp (disch := first | omega | (simp only [go_sem, true_and, and_true, List.length_append, List.length_take, List.length_set, List.length_drop, List.length_replicate, List.length_cons, List.length_nil, List.length_replicate] <;> omega)) only [go_sem, true_and, Nat.reduceAdd, Nat.reduceSub, Nat.reduceMul, Nat.reduceEqDiff, Nat.reduceLeDiff, Nat.reduceLT, Nat.reduceBEq, Int.reduceAdd, Int.reduceSub, Int.reduceMul, Int.reduceNeg, Int.reduceLT, Int.reduceLE, Int.reduceEq, Int.reduceToNat, Bool.false_eq_true, if_false, decide_false, Bool.not_false]
      refine awake_ok _ _ ?_
      simp (disch := first | omega | (simp only [go_sem, true_and, and_true, List.length_append, List.length_take, List.length_set, List.length_drop, List.length_replicate, List.length_cons, List.length_nil, List.length_replicate] <;> omega)) only [go_sem, true_and, Nat.reduceAdd, Nat.reduceSub, Nat.reduceMul, Nat.reduceEqDiff, Nat.reduceLeDiff, Nat.reduceLT, Nat.reduceBEq, Int.reduceAdd, Int.reduceSub, Int.reduceMul, Int.reduceNeg, Int.reduceLT, Int.reduceLE, Int.reduceEq, Int.reduceToNat]
      refine fin_tmp hw ?_ (fin_eq hK ?_)
      · simp (disch := first | omega | (simp only [go_sem, true_and, and_true, List.length_append, List.length_take, List.length_set, List.length_drop, List.length_replicate, List.length_cons, List.length_nil, List.length_replicate] <;> omega)) only [go_sem, true_and, Nat.reduceAdd, Nat.reduceSub, Nat.reduceMul, Nat.reduceEqDiff, Nat.reduceLeDiff, Nat.reduceLT, Nat.reduceBEq, Int.reduceAdd, Int.reduceSub, Int.reduceMul, Int.reduceNeg, Int.reduceLT, Int.reduceLE, Int.reduceEq, Int.reduceToNat]
      · simp (disch := first | omega | (simp only [go_sem, true_and, and_true, List.length_append, List.length_take, List.length_set, List.length_drop, List.length_replicate, List.length_cons, List.length_nil, List.length_replicate] <;> omega)) only [go_sem, true_and, Nat.reduceAdd, Nat.reduceSub, Nat.reduceMul, Nat.reduceEqDiff, Nat.reduceLeDiff, Nat.reduceLT, Nat.reduceBEq, Int.reduceAdd, Int.reduceSub, Int.reduceMul, Int.reduceNeg, Int.reduceLT, Int.reduceLE, Int.reduceEq, Int.reduceToNat]
    · simp (disch := first | omega | (simp only [go_sem, true_and, and_true, List.length_append, List.length_take, List.length_set, List.length_drop, List.length_replicate, List.length_cons, List.length_nil, List.length_replicate] <;> omega)) only [go_sem, true_and, Nat.reduceAdd, Nat.reduceSub, Nat.reduceMul, Nat.reduceEqDiff, Nat.reduceLeDiff, Nat.reduceLT, Nat.reduceBEq, Int.reduceAdd, Int.reduceSub, Int.reduceMul, Int.reduceNeg, Int.reduceLT, Int.reduceLE, Int.reduceEq, Int.reduceToNat, if_true, decide_false, Bool.not_false]
      refine awake_ok _ _ ?_
      simp (disch := first | omega | (simp only [go_sem, true_and, and_true, List.length_append, List.length_take, List.length_set, List.length_drop, List.length_replicate, List.length_cons, List.length_nil, List.length_replicate] <;> omega)) only [go_sem, true_and, Nat.reduceAdd, Nat.reduceSub, Nat.reduceMul, Nat.reduceEqDiff, Nat.reduceLeDiff, Nat.reduceLT, Nat.reduceBEq, Int.reduceAdd, Int.reduceSub, Int.reduceMul, Int.reduceNeg, Int.reduceLT, Int.reduceLE, Int.reduceEq, Int.reduceToNat]
      refine fin_tmp hw ?_ (fin_eq hK ?_)
      · simp (disch := first | omega | (simp only [go_sem, true_and, and_true, List.length_append, List.length_take, List.length_set, List.length_drop, List.length_replicate, List.length_cons, List.length_nil, List.length_replicate] <;> omega)) only [go_sem, true_and, Nat.reduceAdd, Nat.reduceSub, Nat.reduceMul, Nat.reduceEqDiff, Nat.reduceLeDiff, Nat.reduceLT, Nat.reduceBEq, Int.reduceAdd, Int.reduceSub, Int.reduceMul, Int.reduceNeg, Int.reduceLT, Int.reduceLE, Int.reduceEq, Int.reduceToNat]
      · simp (disch := first | omega | (simp only [go_sem, true_and, and_true, List.length_append, List.length_take, List.length_set, List.length_drop, List.length_replicate, List.length_cons, List.length_nil, List.length_replicate] <;> omega)) only [go_sem, true_and, Nat.reduceAdd, Nat.reduceSub, Nat.reduceMul, Nat.reduceEqDiff, Nat.reduceLeDiff, Nat.reduceLT, Nat.reduceBEq, Int.reduceAdd, Int.reduceSub, Int.reduceMul, Int.reduceNeg, Int.reduceLT, Int.reduceLE, Int.reduceEq, Int.reduceToNat]
  simp (disch := first | omega | (simp only [go_sem, true_and, and_true, List.length_append, List.length_take, List.length_set, List.length_drop, List.length_replicate, List.length_cons, List.length_nil, List.length_replicate] <;> omega)) only [go_sem, true_and, Nat.reduceAdd, Nat.reduceSub, Nat.reduceMul, Nat.reduceEqDiff, Nat.reduceLeDiff, Nat.reduceLT, Nat.reduceBEq, Int.reduceAdd, Int.reduceSub, Int.reduceMul, Int.reduceNeg, Int.reduceLT, Int.reduceLE, Int.reduceEq, Int.reduceToNat, if_true]
  refine s_Lay (e := B) hB _ ?_
  cases hn : mayE B
  · simp (disch := first | omega | (simp only [go_sem, true_and, and_true, List.length_append, List.length_take, List.length_set, List.length_drop, List.length_replicate, List.length_cons, List.length_nil, List.length_replicate] <;> omega)) only [go_sem, true_and, Nat.reduceAdd, Nat.reduceSub, Nat.reduceMul, Nat.reduceEqDiff, Nat.reduceLeDiff, Nat.reduceLT, Nat.reduceBEq, Int.reduceAdd, Int.reduceSub, Int.reduceMul, Int.reduceNeg, Int.reduceLT, Int.reduceLE, Int.reduceEq, Int.reduceToNat, Bool.false_eq_true, if_false, decide_true, decide_false, Bool.not_false, Bool.not_true]
    refine awake_ok _ _ ?_
    simp (disch := first | omega | (simp only [go_sem, true_and, and_true, List.length_append, List.length_take, List.length_set, List.length_drop, List.length_replicate, List.length_cons, List.length_nil, List.length_replicate] <;> omega)) only [go_sem, true_and, Nat.reduceAdd, Nat.reduceSub, Nat.reduceMul, Nat.reduceEqDiff, Nat.reduceLeDiff, Nat.reduceLT, Nat.reduceBEq, Int.reduceAdd, Int.reduceSub, Int.reduceMul, Int.reduceNeg, Int.reduceLT, Int.reduceLE, Int.reduceEq, Int.reduceToNat]
    refine fin_tmp hw ?_ (fin_eq hK ?_)
    · simp (disch := first | omega | (simp only [go_sem, true_and, and_true, List.length_append, List.length_take, List.length_set, List.length_drop, List.length_replicate, List.length_cons, List.length_nil, List.length_replicate] <;> omega)) only [go_sem, true_and, Nat.reduceAdd, Nat.reduceSub, Nat.reduceMul, Nat.reduceEqDiff, Nat.reduceLeDiff, Nat.reduceLT, Nat.reduceBEq, Int.reduceAdd, Int.reduceSub, Int.reduceMul, Int.reduceNeg, Int.reduceLT, Int.reduceLE, Int.reduceEq, Int.reduceToNat]
    · simp (disch := first | omega | (simp only [go_sem, true_and, and_true, List.length_append, List.length_take, List.length_set, List.length_drop, List.length_replicate, List.length_cons, List.length_nil, List.length_replicate] <;> omega)) only [go_sem, true_and, Nat.reduceAdd, Nat.reduceSub, Nat.reduceMul, Nat.reduceEqDiff, Nat.reduceLeDiff, Nat.reduceLT, Nat.reduceBEq, Int.reduceAdd, Int.reduceSub, Int.reduceMul, Int.reduceNeg, Int.reduceLT, Int.reduceLE, Int.reduceEq, Int.reduceToNat]
  simp (disch := first | omega | (simp only [go_sem, true_and, and_true, List.length_append, List.length_take, List.length_set, List.length_drop, List.length_replicate, List.length_cons, List.length_nil, List.length_replicate] <;> omega)) only [go_sem, true_and, Nat.reduceAdd, Nat.reduceSub, Nat.reduceMul, Nat.reduceEqDiff, Nat.reduceLeDiff, Nat.reduceLT, Nat.reduceBEq, Int.reduceAdd, Int.reduceSub, Int.reduceMul, Int.reduceNeg, Int.reduceLT, Int.reduceLE, Int.reduceEq, Int.reduceToNat, if_true, decide_true, Bool.not_true]
  refine r_Same (a := A) (b := B) (by omega) (by omega) _ ?_
  have l1 := layE_len hA
  have l2 := layE_len hB
  have hinj : layE A = layE B → A = B := fun h => (layE_pre (r := []) (s := []) hA hB hm hn (by rw [h])).1
  have hpre : ∀ u, layE B = layE A ++ u → A = B := fun u h => (layE_pre (r := u) (s := []) hA hB hm hn (by rw [List.append_nil]; exact h.symm)).1
  by_cases hs : A = B
  · have hl : layE A = layE B := by rw [hs]
    rw [sameE_eq hs]
    simp (disch := first | omega | (simp only [go_sem, true_and, and_true, List.length_append, List.length_take, List.length_set, List.length_drop, List.length_replicate, List.length_cons, List.length_nil, List.length_replicate] <;> omega)) only [go_sem, true_and, Nat.reduceAdd, Nat.reduceSub, Nat.reduceMul, Nat.reduceEqDiff, Nat.reduceLeDiff, Nat.reduceLT, Nat.reduceBEq, Int.reduceAdd, Int.reduceSub, Int.reduceMul, Int.reduceNeg, Int.reduceLT, Int.reduceLE, Int.reduceEq, Int.reduceToNat, hl, decide_true, beq_self_eq_true]
    refine awake_ok _ _ ?_
    simp (disch := first | omega | (simp only [go_sem, true_and, and_true, List.length_append, List.length_take, List.length_set, List.length_drop, List.length_replicate, List.length_cons, List.length_nil, List.length_replicate] <;> omega)) only [go_sem, true_and, Nat.reduceAdd, Nat.reduceSub, Nat.reduceMul, Nat.reduceEqDiff, Nat.reduceLeDiff, Nat.reduceLT, Nat.reduceBEq, Int.reduceAdd, Int.reduceSub, Int.reduceMul, Int.reduceNeg, Int.reduceLT, Int.reduceLE, Int.reduceEq, Int.reduceToNat]
    refine fin_tmp hw ?_ (fin_eq hK ?_)
    · simp (disch := first | omega | (simp only [go_sem, true_and, and_true, List.length_append, List.length_take, List.length_set, List.length_drop, List.length_replicate, List.length_cons, List.length_nil, List.length_replicate] <;> omega)) only [go_sem, true_and, Nat.reduceAdd, Nat.reduceSub, Nat.reduceMul, Nat.reduceEqDiff, Nat.reduceLeDiff, Nat.reduceLT, Nat.reduceBEq, Int.reduceAdd, Int.reduceSub, Int.reduceMul, Int.reduceNeg, Int.reduceLT, Int.reduceLE, Int.reduceEq, Int.reduceToNat]
    · simp (disch := first | omega | (simp only [go_sem, true_and, and_true, List.length_append, List.length_take, List.length_set, List.length_drop, List.length_replicate, List.length_cons, List.length_nil, List.length_replicate] <;> omega)) only [go_sem, true_and, Nat.reduceAdd, Nat.reduceSub, Nat.reduceMul, Nat.reduceEqDiff, Nat.reduceLeDiff, Nat.reduceLT, Nat.reduceBEq, Int.reduceAdd, Int.reduceSub, Int.reduceMul, Int.reduceNeg, Int.reduceLT, Int.reduceLE, Int.reduceEq, Int.reduceToNat]
  · have hl : ¬ layE A = layE B := fun h => hs (hinj h)
    rw [sameE_ne hs]
    by_cases hlen : (layE B).length < (layE A).length
    · simp (disch := first | omega | (simp only [go_sem, true_and, and_true, List.length_append, List.length_take, List.length_set, List.length_drop, List.length_replicate, List.length_cons, List.length_nil, List.length_replicate] <;> omega)) only [go_sem, true_and, Nat.reduceAdd, Nat.reduceSub, Nat.reduceMul, Nat.reduceEqDiff, Nat.reduceLeDiff, Nat.reduceLT, Nat.reduceBEq, Int.reduceAdd, Int.reduceSub, Int.reduceMul, Int.reduceNeg, Int.reduceLT, Int.reduceLE, Int.reduceEq, Int.reduceToNat, hl, decide_false, beq_self_eq_true]
      refine awake_ok _ _ ?_
      simp (disch := first | omega | (simp only [go_sem, true_and, and_true, List.length_append, List.length_take, List.length_set, List.length_drop, List.length_replicate, List.length_cons, List.length_nil, List.length_replicate] <;> omega)) only [go_sem, true_and, Nat.reduceAdd, Nat.reduceSub, Nat.reduceMul, Nat.reduceEqDiff, Nat.reduceLeDiff, Nat.reduceLT, Nat.reduceBEq, Int.reduceAdd, Int.reduceSub, Int.reduceMul, Int.reduceNeg, Int.reduceLT, Int.reduceLE, Int.reduceEq, Int.reduceToNat]
      refine fin_tmp hw ?_ (fin_eq hK ?_)
      · simp (disch := first | omega | (simp only [go_sem, true_and, and_true, List.length_append, List.length_take, List.length_set, List.length_drop, List.length_replicate, List.length_cons, List.length_nil, List.length_replicate] <;> omega)) only [go_sem, true_and, Nat.reduceAdd, Nat.reduceSub, Nat.reduceMul, Nat.reduceEqDiff, Nat.reduceLeDiff, Nat.reduceLT, Nat.reduceBEq, Int.reduceAdd, Int.reduceSub, Int.reduceMul, Int.reduceNeg, Int.reduceLT, Int.reduceLE, Int.reduceEq, Int.reduceToNat]
      · simp (disch := first | omega | (simp only [go_sem, true_and, and_true, List.length_append, List.length_take, List.length_set, List.length_drop, List.length_replicate, List.length_cons, List.length_nil, List.length_replicate] <;> omega)) only [go_sem, true_and, Nat.reduceAdd, Nat.reduceSub, Nat.reduceMul, Nat.reduceEqDiff, Nat.reduceLeDiff, Nat.reduceLT, Nat.reduceBEq, Int.reduceAdd, Int.reduceSub, Int.reduceMul, Int.reduceNeg, Int.reduceLT, Int.reduceLE, Int.reduceEq, Int.reduceToNat]
    · have ht : ¬ (layE B).take (layE A).length = layE A := fun h => hs (hpre ((layE B).drop (layE A).length) (by conv => lhs; rw [← List.take_append_drop (layE A).length (layE B), h]))
      simp (disch := first | omega | (simp only [go_sem, true_and, and_true, List.length_append, List.length_take, List.length_set, List.length_drop, List.length_replicate, List.length_cons, List.length_nil, List.length_replicate] <;> omega)) only [go_sem, true_and, Nat.reduceAdd, Nat.reduceSub, Nat.reduceMul, Nat.reduceEqDiff, Nat.reduceLeDiff, Nat.reduceLT, Nat.reduceBEq, Int.reduceAdd, Int.reduceSub, Int.reduceMul, Int.reduceNeg, Int.reduceLT, Int.reduceLE, Int.reduceEq, Int.reduceToNat, hl, ht, decide_false, beq_self_eq_true, Bool.not_false]
      refine awake_ok _ _ ?_
      simp (disch := first | omega | (simp only [go_sem, true_and, and_true, List.length_append, List.length_take, List.length_set, List.length_drop, List.length_replicate, List.length_cons, List.length_nil, List.length_replicate] <;> omega)) only [go_sem, true_and, Nat.reduceAdd, Nat.reduceSub, Nat.reduceMul, Nat.reduceEqDiff, Nat.reduceLeDiff, Nat.reduceLT, Nat.reduceBEq, Int.reduceAdd, Int.reduceSub, Int.reduceMul, Int.reduceNeg, Int.reduceLT, Int.reduceLE, Int.reduceEq, Int.reduceToNat]
      refine fin_tmp hw ?_ (fin_eq hK ?_)
      · simp (disch := first | omega | (simp only [go_sem, true_and, and_true, List.length_append, List.length_take, List.length_set, List.length_drop, List.length_replicate, List.length_cons, List.length_nil, List.length_replicate] <;> omega)) only [go_sem, true_and, Nat.reduceAdd, Nat.reduceSub, Nat.reduceMul, Nat.reduceEqDiff, Nat.reduceLeDiff, Nat.reduceLT, Nat.reduceBEq, Int.reduceAdd, Int.reduceSub, Int.reduceMul, Int.reduceNeg, Int.reduceLT, Int.reduceLE, Int.reduceEq, Int.reduceToNat]
      · simp (disch := first | omega | (simp only [go_sem, true_and, and_true, List.length_append, List.length_take, List.length_set, List.length_drop, List.length_replicate, List.length_cons, List.length_nil, List.length_replicate] <;> omega)) only [go_sem, true_and, Nat.reduceAdd, Nat.reduceSub, Nat.reduceMul, Nat.reduceEqDiff, Nat.reduceLeDiff, Nat.reduceLT, Nat.reduceBEq, Int.reduceAdd, Int.reduceSub, Int.reduceMul, Int.reduceNeg, Int.reduceLT, Int.reduceLE, Int.reduceEq, Int.reduceToNat]
end Go.Av
