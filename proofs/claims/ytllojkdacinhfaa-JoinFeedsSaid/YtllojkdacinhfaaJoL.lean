/- A part of a way to reckon what a Go program does without its memory (JoL). -/
import Derived.Test.YtllojkdacinhfaaJoK
namespace Go.Av
open Go
set_option autoImplicit false
set_option linter.all false
def tk : List Ke → Nat → List Int → List Ke × List Ke
  | [], _, _ => ([], [])
  | x :: l, k, [] => (x :: (tk l (k + 1) []).1, (tk l (k + 1) []).2)
  | x :: l, k, q :: Q => if q = (k : Int) then ((tk l (k + 1) Q).1, x :: (tk l (k + 1) Q).2) else (x :: (tk l (k + 1) (q :: Q)).1, (tk l (k + 1) (q :: Q)).2)
structure TkInv (X : List Ke) (P : List Int) (k : Nat) (L O : List Ke) (Q : List Int) : Prop where
  eq : tk X 0 P = (L ++ (tk (X.drop k) k Q).1, O ++ (tk (X.drop k) k Q).2)
  len : L.length + O.length = k
theorem drop_getD {X : List Ke} {k : Nat} (h : k < X.length) : X.drop k = X.getD k default :: X.drop (k + 1) := by
  rw [List.drop_eq_getElem_cons h]; simp [h]
theorem TkInv.start (X : List Ke) (P : List Int) : TkInv X P 0 [] [] P := ⟨by simp, rfl⟩
theorem TkInv.nil {X : List Ke} {P : List Int} {k : Nat} {L O : List Ke} (h : TkInv X P k L O []) (hk : k < X.length) : TkInv X P (k + 1) (L ++ [X.getD k default]) O [] :=
  ⟨by rw [h.eq, drop_getD hk]; simp [tk], by simp; have := h.len; omega⟩
theorem TkInv.hit {X : List Ke} {P Q : List Int} {k : Nat} {q : Int} {L O : List Ke} (h : TkInv X P k L O (q :: Q)) (hk : k < X.length) (e : q = (k : Int)) : TkInv X P (k + 1) L (O ++ [X.getD k default]) Q :=
  ⟨by rw [h.eq, drop_getD hk]; simp [tk, e], by simp; have := h.len; omega⟩
theorem TkInv.miss {X : List Ke} {P Q : List Int} {k : Nat} {q : Int} {L O : List Ke} (h : TkInv X P k L O (q :: Q)) (hk : k < X.length) (e : ¬ q = (k : Int)) : TkInv X P (k + 1) (L ++ [X.getD k default]) O (q :: Q) :=
  ⟨by rw [h.eq, drop_getD hk]; simp [tk, e], by simp; have := h.len; omega⟩
theorem TkInv.done {X : List Ke} {P Q : List Int} {L O : List Ke} {k : Nat} (h : TkInv X P k L O Q) (hk : X.length ≤ k) : tk X 0 P = (L, O) := by
  rw [h.eq, List.drop_eq_nil_of_le hk]; cases Q <;> simp [tk]
theorem elV_app (L : List Ke) (x : Ke) : L.map elV ++ [.agg [.int .i64 x.1, .int .u64 x.2.1, .int .i64 x.2.2]] = (L ++ [x]).map elV := by rw [List.map_append]; rfl
section
variable {X : List Ke} {H : List Entry} {a b : Nat}
theorem s_taken {P : List Int} (hX : X.length ≤ 1000000) (hP : P.length ≤ 1000000) : Pure AP n_join_taken [.sl 3 (X.map elV), .sl 1 (P.map iV)] H (.tup [.sl 3 ((tk X 0 P).1.map elV), .sl 3 ((tk X 0 P).2.map elV)]) := by
  intro K hK
  refine a_join_taken fun hw => ?_
  simp (disch := first | omega | (simp only [go_sem, List.length_append, List.length_take, List.length_drop, List.length_cons, List.length_nil] <;> omega)) only [go_sem, Nat.reduceAdd, Nat.reduceSub, Nat.reduceMul, Nat.reduceEqDiff, Nat.reduceLeDiff, Nat.reduceLT, Nat.reduceBEq, Int.reduceAdd, Int.reduceSub, Int.reduceMul, Int.reduceNeg, Int.reduceLT, Int.reduceLE, Int.reduceEq, Int.reduceToNat, c_join_taken]
  refine loop_adopt 4 27 3 rfl ?_
  simp (disch := first | omega | (simp only [go_sem, List.length_append, List.length_take, List.length_drop, List.length_cons, List.length_nil] <;> omega)) only [go_sem, Nat.reduceAdd, Nat.reduceSub, Nat.reduceMul, Nat.reduceEqDiff, Nat.reduceLeDiff, Nat.reduceLT, Nat.reduceBEq, Int.reduceAdd, Int.reduceSub, Int.reduceMul, Int.reduceNeg, Int.reduceLT, Int.reduceLE, Int.reduceEq, Int.reduceToNat]
  refine loop_adopt 5 27 3 rfl ?_
  simp (disch := first | omega | (simp only [go_sem, List.length_append, List.length_take, List.length_drop, List.length_cons, List.length_nil] <;> omega)) only [go_sem, Nat.reduceAdd, Nat.reduceSub, Nat.reduceMul, Nat.reduceEqDiff, Nat.reduceLeDiff, Nat.reduceLT, Nat.reduceBEq, Int.reduceAdd, Int.reduceSub, Int.reduceMul, Int.reduceNeg, Int.reduceLT, Int.reduceLE, Int.reduceEq, Int.reduceToNat]
  refine loop_in (fun m e H' => ∃ (i : Nat) (Q : List Int) (L O : List Ke), m = X.length - i ∧ e = slots 0 38 [(1, .sl 1 (Q.map iV)), (4, .own H.length L.length), (5, .own (H.length + 1) O.length), (8, .sl 3 (X.map elV)), (9, .int .i64 X.length), (10, .int .i64 i)] ∧ H' = H ++ [.row 27 3 (L.map elV), .row 27 3 (O.map elV)] ∧ i ≤ X.length ∧ TkInv X P i L O Q) (n := X.length) ⟨0, P, [], [], by omega, rfl, rfl, by omega, .start X P⟩ (by first | omega | (simp only [go_sem, List.length_append, List.length_take, List.length_drop, Nat.reduceAdd, Nat.reduceSub, Nat.reduceMul, Nat.reduceEqDiff, Nat.reduceLeDiff, Nat.reduceLT, Nat.reduceBEq, Int.reduceAdd, Int.reduceSub, Int.reduceMul, Int.reduceNeg, Int.reduceLT, Int.reduceLE, Int.reduceEq, Int.reduceToNat] <;> omega)) ?_ ?_ ?_
  · simp (disch := (simp only [go_sem, Nat.reduceAdd, Nat.reduceSub, Nat.reduceMul, Nat.reduceEqDiff, Nat.reduceLeDiff, Nat.reduceLT, Nat.reduceBEq, Int.reduceAdd, Int.reduceSub, Int.reduceMul, Int.reduceNeg, Int.reduceLT, Int.reduceLE, Int.reduceEq, Int.reduceToNat] <;> omega)) only [go_sem, x_eLeS, x_hLeS, Int.natCast_zero, Int.natCast_add, Int.natCast_one, Nat.reduceAdd, Nat.reduceSub, Nat.reduceMul, Nat.reduceEqDiff, Nat.reduceLeDiff, Nat.reduceLT, Nat.reduceBEq, Int.reduceAdd, Int.reduceSub, Int.reduceMul, Int.reduceNeg, Int.reduceLT, Int.reduceLE, Int.reduceEq, Int.reduceToNat]
  · exact hLe_app hw (by first | omega | (simp only [go_sem, List.length_append, List.length_take, List.length_drop, Nat.reduceAdd, Nat.reduceSub, Nat.reduceMul, Nat.reduceEqDiff, Nat.reduceLeDiff, Nat.reduceLT, Nat.reduceBEq, Int.reduceAdd, Int.reduceSub, Int.reduceMul, Int.reduceNeg, Int.reduceLT, Int.reduceLE, Int.reduceEq, Int.reduceToNat] <;> omega)) (by simp (disch := (simp only [go_sem, Nat.reduceAdd, Nat.reduceSub, Nat.reduceMul, Nat.reduceEqDiff, Nat.reduceLeDiff, Nat.reduceLT, Nat.reduceBEq, Int.reduceAdd, Int.reduceSub, Int.reduceMul, Int.reduceNeg, Int.reduceLT, Int.reduceLE, Int.reduceEq, Int.reduceToNat] <;> omega)) only [go_sem, x_eLeS, x_hLeS, Int.natCast_zero, Int.natCast_add, Int.natCast_one, Nat.reduceAdd, Nat.reduceSub, Nat.reduceMul, Nat.reduceEqDiff, Nat.reduceLeDiff, Nat.reduceLT, Nat.reduceBEq, Int.reduceAdd, Int.reduceSub, Int.reduceMul, Int.reduceNeg, Int.reduceLT, Int.reduceLE, Int.reduceEq, Int.reduceToNat])
  · rintro J hJ m e H' ⟨i, Q, L, O, rfl, rfl, rfl, hi1, hT⟩
    have hlen := hT.len
    simp (disch := first | omega | (simp only [go_sem, List.length_append, List.length_take, List.length_drop, List.length_cons, List.length_nil] <;> omega)) only [go_sem, Nat.reduceAdd, Nat.reduceSub, Nat.reduceMul, Nat.reduceEqDiff, Nat.reduceLeDiff, Nat.reduceLT, Nat.reduceBEq, Int.reduceAdd, Int.reduceSub, Int.reduceMul, Int.reduceNeg, Int.reduceLT, Int.reduceLE, Int.reduceEq, Int.reduceToNat]
    by_cases h2 : (i : Int) < X.length
    · cases Q with
      | nil =>
        simp (disch := first | omega | (simp only [go_sem, List.length_append, List.length_take, List.length_drop, List.length_cons, List.length_nil] <;> omega)) only [go_sem, Nat.reduceAdd, Nat.reduceSub, Nat.reduceMul, Nat.reduceEqDiff, Nat.reduceLeDiff, Nat.reduceLT, Nat.reduceBEq, Int.reduceAdd, Int.reduceSub, Int.reduceMul, Int.reduceNeg, Int.reduceLT, Int.reduceLE, Int.reduceEq, Int.reduceToNat, elV_app]
        refine round_end (hJ _ _ _ ⟨i + 1, [], L ++ [X.getD i default], O, rfl, rfl, rfl, by omega, hT.nil (by omega)⟩) (by omega) (by first | omega | (simp only [go_sem, List.length_append, List.length_take, List.length_drop, Nat.reduceAdd, Nat.reduceSub, Nat.reduceMul, Nat.reduceEqDiff, Nat.reduceLeDiff, Nat.reduceLT, Nat.reduceBEq, Int.reduceAdd, Int.reduceSub, Int.reduceMul, Int.reduceNeg, Int.reduceLT, Int.reduceLE, Int.reduceEq, Int.reduceToNat] <;> omega)) ?_ ?_
        · simp (disch := (simp only [go_sem, Nat.reduceAdd, Nat.reduceSub, Nat.reduceMul, Nat.reduceEqDiff, Nat.reduceLeDiff, Nat.reduceLT, Nat.reduceBEq, Int.reduceAdd, Int.reduceSub, Int.reduceMul, Int.reduceNeg, Int.reduceLT, Int.reduceLE, Int.reduceEq, Int.reduceToNat, List.length_append] <;> omega)) only [go_sem, x_eLeS, x_hLeS, Int.natCast_zero, Int.natCast_add, Int.natCast_one, Nat.reduceAdd, Nat.reduceSub, Nat.reduceMul, Nat.reduceEqDiff, Nat.reduceLeDiff, Nat.reduceLT, Nat.reduceBEq, Int.reduceAdd, Int.reduceSub, Int.reduceMul, Int.reduceNeg, Int.reduceLT, Int.reduceLE, Int.reduceEq, Int.reduceToNat, List.length_append]
        · exact hLe_app hw (by first | omega | (simp only [go_sem, List.length_append, List.length_take, List.length_drop, Nat.reduceAdd, Nat.reduceSub, Nat.reduceMul, Nat.reduceEqDiff, Nat.reduceLeDiff, Nat.reduceLT, Nat.reduceBEq, Int.reduceAdd, Int.reduceSub, Int.reduceMul, Int.reduceNeg, Int.reduceLT, Int.reduceLE, Int.reduceEq, Int.reduceToNat] <;> omega)) (by simp (disch := (simp only [go_sem, Nat.reduceAdd, Nat.reduceSub, Nat.reduceMul, Nat.reduceEqDiff, Nat.reduceLeDiff, Nat.reduceLT, Nat.reduceBEq, Int.reduceAdd, Int.reduceSub, Int.reduceMul, Int.reduceNeg, Int.reduceLT, Int.reduceLE, Int.reduceEq, Int.reduceToNat] <;> omega)) only [go_sem, x_eLeS, x_hLeS, Int.natCast_zero, Int.natCast_add, Int.natCast_one, Nat.reduceAdd, Nat.reduceSub, Nat.reduceMul, Nat.reduceEqDiff, Nat.reduceLeDiff, Nat.reduceLT, Nat.reduceBEq, Int.reduceAdd, Int.reduceSub, Int.reduceMul, Int.reduceNeg, Int.reduceLT, Int.reduceLE, Int.reduceEq, Int.reduceToNat])
      | cons q Q =>
        simp (disch := first | omega | (simp only [go_sem, List.length_append, List.length_take, List.length_drop, List.length_cons, List.length_nil] <;> omega)) only [go_sem, Nat.reduceAdd, Nat.reduceSub, Nat.reduceMul, Nat.reduceEqDiff, Nat.reduceLeDiff, Nat.reduceLT, Nat.reduceBEq, Int.reduceAdd, Int.reduceSub, Int.reduceMul, Int.reduceNeg, Int.reduceLT, Int.reduceLE, Int.reduceEq, Int.reduceToNat, List.getD_cons_zero]
        by_cases h3 : q = (i : Int)
        · simp (disch := first | omega | (simp only [go_sem, List.length_append, List.length_take, List.length_drop, List.length_cons, List.length_nil] <;> omega)) only [go_sem, Nat.reduceAdd, Nat.reduceSub, Nat.reduceMul, Nat.reduceEqDiff, Nat.reduceLeDiff, Nat.reduceLT, Nat.reduceBEq, Int.reduceAdd, Int.reduceSub, Int.reduceMul, Int.reduceNeg, Int.reduceLT, Int.reduceLE, Int.reduceEq, Int.reduceToNat, elV_app, List.map_cons, List.drop_succ_cons]
          refine round_end (hJ _ _ _ ⟨i + 1, Q, L, O ++ [X.getD i default], rfl, rfl, rfl, by omega, hT.hit (by omega) h3⟩) (by omega) (by first | omega | (simp only [go_sem, List.length_append, List.length_take, List.length_drop, Nat.reduceAdd, Nat.reduceSub, Nat.reduceMul, Nat.reduceEqDiff, Nat.reduceLeDiff, Nat.reduceLT, Nat.reduceBEq, Int.reduceAdd, Int.reduceSub, Int.reduceMul, Int.reduceNeg, Int.reduceLT, Int.reduceLE, Int.reduceEq, Int.reduceToNat] <;> omega)) ?_ ?_
          · simp (disch := (simp only [go_sem, Nat.reduceAdd, Nat.reduceSub, Nat.reduceMul, Nat.reduceEqDiff, Nat.reduceLeDiff, Nat.reduceLT, Nat.reduceBEq, Int.reduceAdd, Int.reduceSub, Int.reduceMul, Int.reduceNeg, Int.reduceLT, Int.reduceLE, Int.reduceEq, Int.reduceToNat, List.length_append] <;> omega)) only [go_sem, x_eLeS, x_hLeS, Int.natCast_zero, Int.natCast_add, Int.natCast_one, Nat.reduceAdd, Nat.reduceSub, Nat.reduceMul, Nat.reduceEqDiff, Nat.reduceLeDiff, Nat.reduceLT, Nat.reduceBEq, Int.reduceAdd, Int.reduceSub, Int.reduceMul, Int.reduceNeg, Int.reduceLT, Int.reduceLE, Int.reduceEq, Int.reduceToNat, List.length_append]
          · exact hLe_app hw (by first | omega | (simp only [go_sem, List.length_append, List.length_take, List.length_drop, Nat.reduceAdd, Nat.reduceSub, Nat.reduceMul, Nat.reduceEqDiff, Nat.reduceLeDiff, Nat.reduceLT, Nat.reduceBEq, Int.reduceAdd, Int.reduceSub, Int.reduceMul, Int.reduceNeg, Int.reduceLT, Int.reduceLE, Int.reduceEq, Int.reduceToNat] <;> omega)) (by simp (disch := (simp only [go_sem, Nat.reduceAdd, Nat.reduceSub, Nat.reduceMul, Nat.reduceEqDiff, Nat.reduceLeDiff, Nat.reduceLT, Nat.reduceBEq, Int.reduceAdd, Int.reduceSub, Int.reduceMul, Int.reduceNeg, Int.reduceLT, Int.reduceLE, Int.reduceEq, Int.reduceToNat] <;> omega)) only [go_sem, x_eLeS, x_hLeS, Int.natCast_zero, Int.natCast_add, Int.natCast_one, Nat.reduceAdd, Nat.reduceSub, Nat.reduceMul, Nat.reduceEqDiff, Nat.reduceLeDiff, Nat.reduceLT, Nat.reduceBEq, Int.reduceAdd, Int.reduceSub, Int.reduceMul, Int.reduceNeg, Int.reduceLT, Int.reduceLE, Int.reduceEq, Int.reduceToNat])
        · simp (disch := first | omega | (simp only [go_sem, List.length_append, List.length_take, List.length_drop, List.length_cons, List.length_nil] <;> omega)) only [go_sem, Nat.reduceAdd, Nat.reduceSub, Nat.reduceMul, Nat.reduceEqDiff, Nat.reduceLeDiff, Nat.reduceLT, Nat.reduceBEq, Int.reduceAdd, Int.reduceSub, Int.reduceMul, Int.reduceNeg, Int.reduceLT, Int.reduceLE, Int.reduceEq, Int.reduceToNat, elV_app]
          refine round_end (hJ _ _ _ ⟨i + 1, q :: Q, L ++ [X.getD i default], O, rfl, rfl, rfl, by omega, hT.miss (by omega) h3⟩) (by omega) (by first | omega | (simp only [go_sem, List.length_append, List.length_take, List.length_drop, Nat.reduceAdd, Nat.reduceSub, Nat.reduceMul, Nat.reduceEqDiff, Nat.reduceLeDiff, Nat.reduceLT, Nat.reduceBEq, Int.reduceAdd, Int.reduceSub, Int.reduceMul, Int.reduceNeg, Int.reduceLT, Int.reduceLE, Int.reduceEq, Int.reduceToNat] <;> omega)) ?_ ?_
          · simp (disch := (simp only [go_sem, Nat.reduceAdd, Nat.reduceSub, Nat.reduceMul, Nat.reduceEqDiff, Nat.reduceLeDiff, Nat.reduceLT, Nat.reduceBEq, Int.reduceAdd, Int.reduceSub, Int.reduceMul, Int.reduceNeg, Int.reduceLT, Int.reduceLE, Int.reduceEq, Int.reduceToNat, List.length_append] <;> omega)) only [go_sem, x_eLeS, x_hLeS, Int.natCast_zero, Int.natCast_add, Int.natCast_one, Nat.reduceAdd, Nat.reduceSub, Nat.reduceMul, Nat.reduceEqDiff, Nat.reduceLeDiff, Nat.reduceLT, Nat.reduceBEq, Int.reduceAdd, Int.reduceSub, Int.reduceMul, Int.reduceNeg, Int.reduceLT, Int.reduceLE, Int.reduceEq, Int.reduceToNat, List.length_append]
          · exact hLe_app hw (by first | omega | (simp only [go_sem, List.length_append, List.length_take, List.length_drop, Nat.reduceAdd, Nat.reduceSub, Nat.reduceMul, Nat.reduceEqDiff, Nat.reduceLeDiff, Nat.reduceLT, Nat.reduceBEq, Int.reduceAdd, Int.reduceSub, Int.reduceMul, Int.reduceNeg, Int.reduceLT, Int.reduceLE, Int.reduceEq, Int.reduceToNat] <;> omega)) (by simp (disch := (simp only [go_sem, Nat.reduceAdd, Nat.reduceSub, Nat.reduceMul, Nat.reduceEqDiff, Nat.reduceLeDiff, Nat.reduceLT, Nat.reduceBEq, Int.reduceAdd, Int.reduceSub, Int.reduceMul, Int.reduceNeg, Int.reduceLT, Int.reduceLE, Int.reduceEq, Int.reduceToNat] <;> omega)) only [go_sem, x_eLeS, x_hLeS, Int.natCast_zero, Int.natCast_add, Int.natCast_one, Nat.reduceAdd, Nat.reduceSub, Nat.reduceMul, Nat.reduceEqDiff, Nat.reduceLeDiff, Nat.reduceLT, Nat.reduceBEq, Int.reduceAdd, Int.reduceSub, Int.reduceMul, Int.reduceNeg, Int.reduceLT, Int.reduceLE, Int.reduceEq, Int.reduceToNat])
    · simp (disch := first | omega | (simp only [go_sem, List.length_append, List.length_take, List.length_drop, List.length_cons, List.length_nil] <;> omega)) only [go_sem, Nat.reduceAdd, Nat.reduceSub, Nat.reduceMul, Nat.reduceEqDiff, Nat.reduceLeDiff, Nat.reduceLT, Nat.reduceBEq, Int.reduceAdd, Int.reduceSub, Int.reduceMul, Int.reduceNeg, Int.reduceLT, Int.reduceLE, Int.reduceEq, Int.reduceToNat]
      have hd := hT.done (by omega)
      refine wk_own (H := H) 4 0 rfl rfl rfl (by simp) (wk_own (H := H) 5 1 rfl rfl rfl (by simp) ?_)
      simp (disch := first | omega | (simp only [go_sem, List.length_append, List.length_take, List.length_drop, List.length_cons, List.length_nil] <;> omega)) only [go_sem, Nat.reduceAdd, Nat.reduceSub, Nat.reduceMul, Nat.reduceEqDiff, Nat.reduceLeDiff, Nat.reduceLT, Nat.reduceBEq, Int.reduceAdd, Int.reduceSub, Int.reduceMul, Int.reduceNeg, Int.reduceLT, Int.reduceLE, Int.reduceEq, Int.reduceToNat]
      refine fin_tmp hw ?_ (fin_eq hK ?_)
      · simp (disch := first | omega | (simp only [go_sem, List.length_append, List.length_take, List.length_drop, List.length_cons, List.length_nil] <;> omega)) only [go_sem, Nat.reduceAdd, Nat.reduceSub, Nat.reduceMul, Nat.reduceEqDiff, Nat.reduceLeDiff, Nat.reduceLT, Nat.reduceBEq, Int.reduceAdd, Int.reduceSub, Int.reduceMul, Int.reduceNeg, Int.reduceLT, Int.reduceLE, Int.reduceEq, Int.reduceToNat]
      · simp (disch := first | omega | (simp only [go_sem, List.length_append, List.length_take, List.length_drop, List.length_cons, List.length_nil] <;> omega)) only [go_sem, Nat.reduceAdd, Nat.reduceSub, Nat.reduceMul, Nat.reduceEqDiff, Nat.reduceLeDiff, Nat.reduceLT, Nat.reduceBEq, Int.reduceAdd, Int.reduceSub, Int.reduceMul, Int.reduceNeg, Int.reduceLT, Int.reduceLE, Int.reduceEq, Int.reduceToNat]
        rw [hd]
def feedT (j : Jo) (A O : List Ke) : List Ke × List Ke × List Ke × Int :=
  if meetL j A = [] ∧ A.length = 30 then ([], [], [], 6) else ((tk A 0 (meetL j A)).1, (tk A 0 (meetL j A)).2, O, 0)
def feedD (j : Jo) (X : List Ke) (x : Ke) : List Ke × List Ke × List Ke × Int :=
  if checkB j X && keptB j.2.1 x then
    (if lateB X x.2.2 then ([], [], [], 8) else if hasB X x.2.1 then ([], [], [], 5) else
      feedT j (X.drop (X.findIdx (stillB j.2.2.2 x.2.2)) ++ [x]) (X.take (X.findIdx (stillB j.2.2.2 x.2.2))))
  else ([], [], [], 1)
def fdV (r : List Ke × List Ke × List Ke × Int) : V := .tup [.sl 3 (r.1.map elV), .sl 3 (r.2.1.map elV), .sl 3 (r.2.2.1.map elV), .int .i64 r.2.2.2]
theorem meet_len (j : Jo) (A : List Ke) (h : mayB j = true) : (meetL j A).length ≤ 30 := by
  obtain ⟨h1, h2, h3, _⟩ := may_bounds h
  unfold meetL
  split
  · unfold eachS
    split
    · simp
    · rw [show (msort (eachL A j.2.1.toNat)).length = (eachL A j.2.1.toNat).length from List.length_mergeSort _, eachL_len]; omega
  · split
    · unfold firstL
      split
      · simp
      · simp [upTo]
    · unfold firstL
      split
      · simp
      · rw [upTo_len]
        rcases need_cases h1 with ⟨_, k1, k2⟩ | ⟨_, k⟩ | ⟨_, k⟩ <;> omega
theorem no_end {j : Jo} {x : Ke} {K : KV} (hw : Wf H) {z : Int} (hK : K (fdV ([], [], [], z)) H) : ∀ (t : List Entry) (e : List V), nth e 6 = .nilsl → nth e 7 = .nilsl → nth e 8 = .nilsl → nth e 9 = .int .i64 z → WkP H.length (resK (rsT [6, 7, 8, 9]) [] K) e (H ++ t) := by
  intro t e h6 h7 h8 h9
  have hl6 : 6 < e.length := lt_of_nth (by rw [h6]; simp)
  have hl7 : 7 < e.length := lt_of_nth (by rw [h7]; simp)
  have hl8 : 8 < e.length := lt_of_nth (by rw [h8]; simp)
  refine wk_nil (H := H) 6 3 rfl h6 (wk_nil (H := H) 7 3 rfl (by rw [nth_setAt_ne (by omega)]; exact h7) (wk_nil (H := H) 8 3 rfl (by rw [nth_setAt_ne (by omega), nth_setAt_ne (by omega)]; exact h8) ?_))
  refine fin_tmp hw ?_ (fin_eq hK ?_)
  all_goals simp only [nths, nth_setAt_eq, nth_setAt_ne, ne_eq, Nat.reduceEqDiff, not_false_eq_true, setAt_length, hl6, hl7, hl8, h9]
  · rfl
  · rfl
theorem s_Feed {j : Jo} {x : Ke} (hX : X.length ≤ 1000) : Pure AP n_join_Feed [joV j, .sl 3 (X.map elV), elV x] H (fdV (feedD j X x)) := by
  intro K hK
  have hX' : X.length ≤ 1000000 := by omega
  refine k_join_Feed.callw [1, 1, 1, 1, 1, 1, 1] rfl fun hw => ?_
  simp (disch := first | omega | (simp only [go_sem, List.length_append, List.length_take, List.length_drop, List.length_cons, List.length_nil] <;> omega)) only [go_sem, Nat.reduceAdd, Nat.reduceSub, Nat.reduceMul, Nat.reduceEqDiff, Nat.reduceLeDiff, Nat.reduceLT, Nat.reduceBEq, Int.reduceAdd, Int.reduceSub, Int.reduceMul, Int.reduceNeg, Int.reduceLT, Int.reduceLE, Int.reduceEq, Int.reduceToNat, c_join_Feed, Nat.reduceSubDiff]
  refine s_Check (j := j) hX' _ ?_
  cases hc : checkB j X
  · have hf : feedD j X x = ([], [], [], 1) := by simp [feedD, hc]
    rw [hf] at hK
    simp (disch := first | omega | (simp only [go_sem, List.length_append, List.length_take, List.length_drop, List.length_cons, List.length_nil] <;> omega)) only [go_sem, Nat.reduceAdd, Nat.reduceSub, Nat.reduceMul, Nat.reduceEqDiff, Nat.reduceLeDiff, Nat.reduceLT, Nat.reduceBEq, Int.reduceAdd, Int.reduceSub, Int.reduceMul, Int.reduceNeg, Int.reduceLT, Int.reduceLE, Int.reduceEq, Int.reduceToNat]
    exact no_end (j := j) (x := x) hw hK [_, _] _ rfl rfl rfl rfl
  obtain ⟨c1, c2, c3, c4⟩ := check_kept hc
  simp (disch := first | omega | (simp only [go_sem, List.length_append, List.length_take, List.length_drop, List.length_cons, List.length_nil] <;> omega)) only [go_sem, Nat.reduceAdd, Nat.reduceSub, Nat.reduceMul, Nat.reduceEqDiff, Nat.reduceLeDiff, Nat.reduceLT, Nat.reduceBEq, Int.reduceAdd, Int.reduceSub, Int.reduceMul, Int.reduceNeg, Int.reduceLT, Int.reduceLE, Int.reduceEq, Int.reduceToNat]
  refine s_mayKept (j := j) (x := x) _ ?_
  simp (disch := first | omega | (simp only [go_sem, List.length_append, List.length_take, List.length_drop, List.length_cons, List.length_nil] <;> omega)) only [go_sem, Nat.reduceAdd, Nat.reduceSub, Nat.reduceMul, Nat.reduceEqDiff, Nat.reduceLeDiff, Nat.reduceLT, Nat.reduceBEq, Int.reduceAdd, Int.reduceSub, Int.reduceMul, Int.reduceNeg, Int.reduceLT, Int.reduceLE, Int.reduceEq, Int.reduceToNat]
  cases hk : keptB j.2.1 x
  · have hf : feedD j X x = ([], [], [], 1) := by simp [feedD, hk]
    rw [hf] at hK
    simp (disch := first | omega | (simp only [go_sem, List.length_append, List.length_take, List.length_drop, List.length_cons, List.length_nil] <;> omega)) only [go_sem, Nat.reduceAdd, Nat.reduceSub, Nat.reduceMul, Nat.reduceEqDiff, Nat.reduceLeDiff, Nat.reduceLT, Nat.reduceBEq, Int.reduceAdd, Int.reduceSub, Int.reduceMul, Int.reduceNeg, Int.reduceLT, Int.reduceLE, Int.reduceEq, Int.reduceToNat]
    exact no_end (j := j) (x := x) hw hK [_, _] _ rfl rfl rfl rfl
  simp (disch := first | omega | (simp only [go_sem, List.length_append, List.length_take, List.length_drop, List.length_cons, List.length_nil] <;> omega)) only [go_sem, Nat.reduceAdd, Nat.reduceSub, Nat.reduceMul, Nat.reduceEqDiff, Nat.reduceLeDiff, Nat.reduceLT, Nat.reduceBEq, Int.reduceAdd, Int.reduceSub, Int.reduceMul, Int.reduceNeg, Int.reduceLT, Int.reduceLE, Int.reduceEq, Int.reduceToNat]
  refine s_isLate hX' _ ?_
  simp (disch := first | omega | (simp only [go_sem, List.length_append, List.length_take, List.length_drop, List.length_cons, List.length_nil] <;> omega)) only [go_sem, Nat.reduceAdd, Nat.reduceSub, Nat.reduceMul, Nat.reduceEqDiff, Nat.reduceLeDiff, Nat.reduceLT, Nat.reduceBEq, Int.reduceAdd, Int.reduceSub, Int.reduceMul, Int.reduceNeg, Int.reduceLT, Int.reduceLE, Int.reduceEq, Int.reduceToNat]
  cases hl : lateB X x.2.2
  rotate_left
  · have hf : feedD j X x = ([], [], [], 8) := by simp [feedD, hc, hk, hl]
    rw [hf] at hK
    simp (disch := first | omega | (simp only [go_sem, List.length_append, List.length_take, List.length_drop, List.length_cons, List.length_nil] <;> omega)) only [go_sem, Nat.reduceAdd, Nat.reduceSub, Nat.reduceMul, Nat.reduceEqDiff, Nat.reduceLeDiff, Nat.reduceLT, Nat.reduceBEq, Int.reduceAdd, Int.reduceSub, Int.reduceMul, Int.reduceNeg, Int.reduceLT, Int.reduceLE, Int.reduceEq, Int.reduceToNat]
    exact no_end (j := j) (x := x) hw hK [_, _] _ rfl rfl rfl rfl
  simp (disch := first | omega | (simp only [go_sem, List.length_append, List.length_take, List.length_drop, List.length_cons, List.length_nil] <;> omega)) only [go_sem, Nat.reduceAdd, Nat.reduceSub, Nat.reduceMul, Nat.reduceEqDiff, Nat.reduceLeDiff, Nat.reduceLT, Nat.reduceBEq, Int.reduceAdd, Int.reduceSub, Int.reduceMul, Int.reduceNeg, Int.reduceLT, Int.reduceLE, Int.reduceEq, Int.reduceToNat]
  refine s_hasId hX' _ ?_
  simp (disch := first | omega | (simp only [go_sem, List.length_append, List.length_take, List.length_drop, List.length_cons, List.length_nil] <;> omega)) only [go_sem, Nat.reduceAdd, Nat.reduceSub, Nat.reduceMul, Nat.reduceEqDiff, Nat.reduceLeDiff, Nat.reduceLT, Nat.reduceBEq, Int.reduceAdd, Int.reduceSub, Int.reduceMul, Int.reduceNeg, Int.reduceLT, Int.reduceLE, Int.reduceEq, Int.reduceToNat]
  cases hh : hasB X x.2.1
  rotate_left
  · have hf : feedD j X x = ([], [], [], 5) := by simp [feedD, hc, hk, hl, hh]
    rw [hf] at hK
    simp (disch := first | omega | (simp only [go_sem, List.length_append, List.length_take, List.length_drop, List.length_cons, List.length_nil] <;> omega)) only [go_sem, Nat.reduceAdd, Nat.reduceSub, Nat.reduceMul, Nat.reduceEqDiff, Nat.reduceLeDiff, Nat.reduceLT, Nat.reduceBEq, Int.reduceAdd, Int.reduceSub, Int.reduceMul, Int.reduceNeg, Int.reduceLT, Int.reduceLE, Int.reduceEq, Int.reduceToNat]
    exact no_end (j := j) (x := x) hw hK [_, _] _ rfl rfl rfl rfl
  have hf : feedD j X x = feedT j (X.drop (X.findIdx (stillB j.2.2.2 x.2.2)) ++ [x]) (X.take (X.findIdx (stillB j.2.2.2 x.2.2))) := by simp [feedD, hc, hk, hl, hh]
  rw [hf] at hK
  have ht : timeB x.2.2 = true := by simp only [keptB, Bool.and_eq_true] at hk; exact hk.2.2
  have hq : X.findIdx (stillB j.2.2.2 x.2.2) ≤ X.length := List.findIdx_le_length
  simp (disch := first | omega | (simp only [go_sem, List.length_append, List.length_take, List.length_drop, List.length_cons, List.length_nil] <;> omega)) only [go_sem, Nat.reduceAdd, Nat.reduceSub, Nat.reduceMul, Nat.reduceEqDiff, Nat.reduceLeDiff, Nat.reduceLT, Nat.reduceBEq, Int.reduceAdd, Int.reduceSub, Int.reduceMul, Int.reduceNeg, Int.reduceLT, Int.reduceLE, Int.reduceEq, Int.reduceToNat]
  refine s_Expire (j := j) (now := x.2.2) hX' (by simp [expOk, hc, ht, hl]) ?_
  generalize X.findIdx (stillB j.2.2.2 x.2.2) = q at *
  simp (disch := first | omega | (simp only [go_sem, List.length_append, List.length_take, List.length_drop, List.length_cons, List.length_nil] <;> omega)) only [go_sem, Nat.reduceAdd, Nat.reduceSub, Nat.reduceMul, Nat.reduceEqDiff, Nat.reduceLeDiff, Nat.reduceLT, Nat.reduceBEq, Int.reduceAdd, Int.reduceSub, Int.reduceMul, Int.reduceNeg, Int.reduceLT, Int.reduceLE, Int.reduceEq, Int.reduceToNat, elV_app, List.length_drop, List.length_take]
  have hl1 : (X.drop q ++ [x]).length ≤ 1000000 := by simp; omega
  refine wk_own (H := H) 10 4 rfl rfl rfl (by first | omega | (simp only [go_sem, List.length_append, List.length_take, List.length_drop, Nat.reduceAdd, Nat.reduceSub, Nat.reduceMul, Nat.reduceEqDiff, Nat.reduceLeDiff, Nat.reduceLT, Nat.reduceBEq, Int.reduceAdd, Int.reduceSub, Int.reduceMul, Int.reduceNeg, Int.reduceLT, Int.reduceLE, Int.reduceEq, Int.reduceToNat] <;> omega)) (wk_refl ?_)
  generalize hA : X.drop q ++ [x] = A at *
  simp (disch := first | omega | (simp only [go_sem, List.length_append, List.length_take, List.length_drop, List.length_cons, List.length_nil] <;> omega)) only [go_sem, Nat.reduceAdd, Nat.reduceSub, Nat.reduceMul, Nat.reduceEqDiff, Nat.reduceLeDiff, Nat.reduceLT, Nat.reduceBEq, Int.reduceAdd, Int.reduceSub, Int.reduceMul, Int.reduceNeg, Int.reduceLT, Int.reduceLE, Int.reduceEq, Int.reduceToNat]
  refine s_meeting (j := j) c2 hl1 _ ?_
  simp (disch := first | omega | (simp only [go_sem, List.length_append, List.length_take, List.length_drop, List.length_cons, List.length_nil] <;> omega)) only [go_sem, Nat.reduceAdd, Nat.reduceSub, Nat.reduceMul, Nat.reduceEqDiff, Nat.reduceLeDiff, Nat.reduceLT, Nat.reduceBEq, Int.reduceAdd, Int.reduceSub, Int.reduceMul, Int.reduceNeg, Int.reduceLT, Int.reduceLE, Int.reduceEq, Int.reduceToNat]
  have hAl : X.length - q + 1 = A.length := by rw [← hA]; simp
  cases hm : meetL j A with
  | nil =>
    by_cases h30 : (A.length : Int) = 30
    · have hr : feedT j A (X.take q) = ([], [], [], 6) := by simp [feedT, hm]; omega
      rw [hr] at hK
      simp (disch := first | omega | (simp only [go_sem, List.length_append, List.length_take, List.length_drop, List.length_cons, List.length_nil] <;> omega)) only [go_sem, Nat.reduceAdd, Nat.reduceSub, Nat.reduceMul, Nat.reduceEqDiff, Nat.reduceLeDiff, Nat.reduceLT, Nat.reduceBEq, Int.reduceAdd, Int.reduceSub, Int.reduceMul, Int.reduceNeg, Int.reduceLT, Int.reduceLE, Int.reduceEq, Int.reduceToNat, h30]
      exact no_end (j := j) (x := x) hw hK [_, _, _, _, _, _] _ rfl rfl rfl rfl
    · have hr : feedT j A (X.take q) = ((tk A 0 []).1, (tk A 0 []).2, X.take q, 0) := by simp [feedT, hm]; omega
      rw [hr] at hK
      simp (disch := first | omega | (simp only [go_sem, List.length_append, List.length_take, List.length_drop, List.length_cons, List.length_nil] <;> omega)) only [go_sem, Nat.reduceAdd, Nat.reduceSub, Nat.reduceMul, Nat.reduceEqDiff, Nat.reduceLeDiff, Nat.reduceLT, Nat.reduceBEq, Int.reduceAdd, Int.reduceSub, Int.reduceMul, Int.reduceNeg, Int.reduceLT, Int.reduceLE, Int.reduceEq, Int.reduceToNat, h30]
      refine s_taken (P := []) hl1 (by simp) _ ?_
      simp (disch := first | omega | (simp only [go_sem, List.length_append, List.length_take, List.length_drop, List.length_cons, List.length_nil] <;> omega)) only [go_sem, Nat.reduceAdd, Nat.reduceSub, Nat.reduceMul, Nat.reduceEqDiff, Nat.reduceLeDiff, Nat.reduceLT, Nat.reduceBEq, Int.reduceAdd, Int.reduceSub, Int.reduceMul, Int.reduceNeg, Int.reduceLT, Int.reduceLE, Int.reduceEq, Int.reduceToNat]
      refine wk_own (H := H) 8 5 rfl rfl rfl (by first | omega | (simp only [go_sem, List.length_append, List.length_take, List.length_drop, Nat.reduceAdd, Nat.reduceSub, Nat.reduceMul, Nat.reduceEqDiff, Nat.reduceLeDiff, Nat.reduceLT, Nat.reduceBEq, Int.reduceAdd, Int.reduceSub, Int.reduceMul, Int.reduceNeg, Int.reduceLT, Int.reduceLE, Int.reduceEq, Int.reduceToNat] <;> omega)) ?_
      simp (disch := first | omega | (simp only [go_sem, List.length_append, List.length_take, List.length_drop, List.length_cons, List.length_nil] <;> omega)) only [go_sem, Nat.reduceAdd, Nat.reduceSub, Nat.reduceMul, Nat.reduceEqDiff, Nat.reduceLeDiff, Nat.reduceLT, Nat.reduceBEq, Int.reduceAdd, Int.reduceSub, Int.reduceMul, Int.reduceNeg, Int.reduceLT, Int.reduceLE, Int.reduceEq, Int.reduceToNat]
      refine fin_tmp hw ?_ (fin_eq hK ?_)
      · simp (disch := first | omega | (simp only [go_sem, List.length_append, List.length_take, List.length_drop, List.length_cons, List.length_nil] <;> omega)) only [go_sem, Nat.reduceAdd, Nat.reduceSub, Nat.reduceMul, Nat.reduceEqDiff, Nat.reduceLeDiff, Nat.reduceLT, Nat.reduceBEq, Int.reduceAdd, Int.reduceSub, Int.reduceMul, Int.reduceNeg, Int.reduceLT, Int.reduceLE, Int.reduceEq, Int.reduceToNat]
      · simp (disch := first | omega | (simp only [go_sem, List.length_append, List.length_take, List.length_drop, List.length_cons, List.length_nil] <;> omega)) only [go_sem, Nat.reduceAdd, Nat.reduceSub, Nat.reduceMul, Nat.reduceEqDiff, Nat.reduceLeDiff, Nat.reduceLT, Nat.reduceBEq, Int.reduceAdd, Int.reduceSub, Int.reduceMul, Int.reduceNeg, Int.reduceLT, Int.reduceLE, Int.reduceEq, Int.reduceToNat]
        rfl
  | cons z Z =>
    have hr : feedT j A (X.take q) = ((tk A 0 (z :: Z)).1, (tk A 0 (z :: Z)).2, X.take q, 0) := by simp [feedT, hm]
    have hZ : (z :: Z).length ≤ 1000000 := by rw [← hm]; exact Nat.le_trans (meet_len j A c2) (by omega)
    rw [hr] at hK
    simp (disch := first | omega | (simp only [go_sem, List.length_append, List.length_take, List.length_drop, List.length_cons, List.length_nil] <;> omega)) only [go_sem, Nat.reduceAdd, Nat.reduceSub, Nat.reduceMul, Nat.reduceEqDiff, Nat.reduceLeDiff, Nat.reduceLT, Nat.reduceBEq, Int.reduceAdd, Int.reduceSub, Int.reduceMul, Int.reduceNeg, Int.reduceLT, Int.reduceLE, Int.reduceEq, Int.reduceToNat]
    refine s_taken (P := z :: Z) hl1 hZ _ ?_
    simp (disch := first | omega | (simp only [go_sem, List.length_append, List.length_take, List.length_drop, List.length_cons, List.length_nil] <;> omega)) only [go_sem, Nat.reduceAdd, Nat.reduceSub, Nat.reduceMul, Nat.reduceEqDiff, Nat.reduceLeDiff, Nat.reduceLT, Nat.reduceBEq, Int.reduceAdd, Int.reduceSub, Int.reduceMul, Int.reduceNeg, Int.reduceLT, Int.reduceLE, Int.reduceEq, Int.reduceToNat]
    refine wk_own (H := H) 8 5 rfl rfl rfl (by first | omega | (simp only [go_sem, List.length_append, List.length_take, List.length_drop, Nat.reduceAdd, Nat.reduceSub, Nat.reduceMul, Nat.reduceEqDiff, Nat.reduceLeDiff, Nat.reduceLT, Nat.reduceBEq, Int.reduceAdd, Int.reduceSub, Int.reduceMul, Int.reduceNeg, Int.reduceLT, Int.reduceLE, Int.reduceEq, Int.reduceToNat] <;> omega)) ?_
    simp (disch := first | omega | (simp only [go_sem, List.length_append, List.length_take, List.length_drop, List.length_cons, List.length_nil] <;> omega)) only [go_sem, Nat.reduceAdd, Nat.reduceSub, Nat.reduceMul, Nat.reduceEqDiff, Nat.reduceLeDiff, Nat.reduceLT, Nat.reduceBEq, Int.reduceAdd, Int.reduceSub, Int.reduceMul, Int.reduceNeg, Int.reduceLT, Int.reduceLE, Int.reduceEq, Int.reduceToNat]
    refine fin_tmp hw ?_ (fin_eq hK ?_)
    · simp (disch := first | omega | (simp only [go_sem, List.length_append, List.length_take, List.length_drop, List.length_cons, List.length_nil] <;> omega)) only [go_sem, Nat.reduceAdd, Nat.reduceSub, Nat.reduceMul, Nat.reduceEqDiff, Nat.reduceLeDiff, Nat.reduceLT, Nat.reduceBEq, Int.reduceAdd, Int.reduceSub, Int.reduceMul, Int.reduceNeg, Int.reduceLT, Int.reduceLE, Int.reduceEq, Int.reduceToNat]
    · simp (disch := first | omega | (simp only [go_sem, List.length_append, List.length_take, List.length_drop, List.length_cons, List.length_nil] <;> omega)) only [go_sem, Nat.reduceAdd, Nat.reduceSub, Nat.reduceMul, Nat.reduceEqDiff, Nat.reduceLeDiff, Nat.reduceLT, Nat.reduceBEq, Int.reduceAdd, Int.reduceSub, Int.reduceMul, Int.reduceNeg, Int.reduceLT, Int.reduceLE, Int.reduceEq, Int.reduceToNat]
      rfl
end
end Go.Av
