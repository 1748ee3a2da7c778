/- A part of a way to reckon what a Go program does without its memory (O9). -/
import Derived.Test.YtoicgilcdlakkaaO8
namespace Go.Av
open Go
set_option autoImplicit false
set_option linter.all false
/-! ### One that comes again -/
def aftI (n : Int) (x : Ot) : Bool := decide (n < x.1)
def tryO (x : Ot) (now : Int) : Ot := (x.1, x.2.1, x.2.2.1, 0, now)
def withO (X : List Ot) (x : Ot) : List Ot := X.take (plc (aftI x.1) X) ++ [x] ++ X.drop (plc (aftI x.1) X)
noncomputable def againO (X : List Ot) (x : Ot) (now : Int) : List Ot × Int :=
  if chkO X = true ∧ timeB now = true ∧ ownB x = true then (if 0 ≤ idx (isI x.1) X then ([], 5) else if X.length = 100 then ([], 6) else (withO X (tryO x now), 0)) else ([], 1)
theorem s_again1 {y x : Ot} {H : List Entry} {g : Nat} (hg : H[g]? = some (.box [.int .u64 x.1, .str x.2.1, .sl 1 (x.2.2.1.map u64V), .int .i64 x.2.2.2.1, .int .i64 x.2.2.2.2])) : Pure AP n_outbox_Again_1 [otV y, .ptr g 0] H (.bool (aftI x.1 y)) := by
  intro K hK
  refine a_outbox_Again_1 fun hw => ?_
  have hl := (List.getElem?_eq_some_iff.1 hg).1
  simp (disch := first | omega | (simp only [go_sem, push_cast, and_true] <;> omega) | fail) only [go_sem, c_outbox_Again_1, List.getElem?_append_left hl, hg]
  all_goals (first | refine fin_tmp hw ?_ (fin_eq hK ?_) | refine fin_tmp0 hw ?_ (fin_eq hK ?_))
  all_goals simp (disch := first | omega | (simp only [go_sem, push_cast, and_true] <;> omega) | fail) only [go_sem]
  all_goals first | (simp_all [aftI]; done) | (simp_all [aftI]; omega) | (simp_all [aftI]; intros; omega)
theorem s_Again {X : List Ot} {x : Ot} {now : Int} {H : List Entry} (hX : osB X) (hx : otB x) : Pure AP n_outbox_Again [.sl 5 (X.map otV), otV x, .int .i64 now] H (.tup [.sl 5 ((againO X x now).1.map otV), .int .i64 (againO X x now).2]) := by
  intro K hK
  refine a_outbox_Again fun hw => ?_
  have hl : X.length ≤ 101 := hX.1
  have fin : ∀ {e : List V} {G : List Entry} {z : Int}, K (.tup [.sl 5 [], .int .i64 z]) H → nth e 6 = .nilsl → nth e 7 = .int .i64 z → WkP H.length (resK (rsT [6, 7]) [] K) e (H ++ G) := fun {e G z} hk h6 h7 => by
    have hlt : 7 < e.length := lt_of_nth (by rw [h7]; simp)
    refine wk_nil (H := H) (t := G) 6 5 rfl h6 ?_
    refine fin_tmp hw ?_ (fin_eq hk ?_)
    · simp [nths, nth_setAt_eq (e := e) (i := 6) (v := .sl 5 []) (by omega), nth_setAt_ne (e := e) (i := 6) (j := 7) (v := .sl 5 []) (by omega), h7, idsLts, idsLt]
    · simp [nths, nth_setAt_eq (e := e) (i := 6) (v := .sl 5 []) (by omega), nth_setAt_ne (e := e) (i := 6) (j := 7) (v := .sl 5 []) (by omega), h7, oneV]
  unfold againO at hK
  simp (disch := first | omega | (simp only [go_sem, push_cast, and_true] <;> omega) | fail) only [go_sem, c_outbox_Again]
  refine s_Check hX _ ?_
  by_cases hc : chkO X = true
  rotate_left
  · rw [if_neg (fun h => hc h.1)] at hK
    simp (disch := first | omega | (simp only [go_sem, push_cast, and_true] <;> omega) | fail) only [go_sem, if_neg hc, decide_false, Bool.not_false]
    exact fin hK rfl rfl
  simp (disch := first | omega | (simp only [go_sem, push_cast, and_true] <;> omega) | fail) only [go_sem, if_pos hc, decide_true, Bool.not_true]
  refine s_isTime _ ?_
  cases ht : timeB now
  · rw [if_neg (fun h => by rw [ht] at h; cases h.2.1)] at hK
    simp (disch := first | omega | (simp only [go_sem, push_cast, and_true] <;> omega) | fail) only [go_sem, Bool.not_false]
    exact fin hK rfl rfl
  simp (disch := first | omega | (simp only [go_sem, push_cast, and_true] <;> omega) | fail) only [go_sem, Bool.not_true]
  refine s_may hx _ ?_
  cases ho : ownB x
  · rw [if_neg (fun h => by rw [ho] at h; cases h.2.2)] at hK
    simp (disch := first | omega | (simp only [go_sem, push_cast, and_true] <;> omega) | fail) only [go_sem, Bool.not_false]
    exact fin hK rfl rfl
  rw [if_pos ⟨hc, ht, ho⟩] at hK
  simp (disch := first | omega | (simp only [go_sem, push_cast, and_true] <;> omega) | fail) only [go_sem, Bool.not_true]
  refine s_Find (by omega) _ ?_
  have hb := idx_bounds (isI x.1) X
  by_cases h5 : 0 ≤ idx (isI x.1) X
  · rw [if_pos h5] at hK
    simp (disch := first | omega | (simp only [go_sem, push_cast, and_true] <;> omega) | fail) only [go_sem]
    exact fin hK rfl rfl
  rw [if_neg h5] at hK
  simp (disch := first | omega | (simp only [go_sem, push_cast, and_true] <;> omega) | fail) only [go_sem]
  by_cases h6 : X.length = 100
  · rw [if_pos h6] at hK
    simp (disch := first | omega | (simp only [go_sem, push_cast, and_true] <;> omega) | fail) only [go_sem, h6, Int.cast_ofNat_Int, decide_true]
    exact fin hK rfl rfl
  rw [if_neg h6] at hK
  have h6' : ¬ (X.length : Int) = 100 := by omega
  simp (disch := first | omega | (simp only [go_sem, push_cast, and_true] <;> omega) | fail) only [go_sem, h6', decide_false]
  refine s_PlaceO (p := aftI x.1) (by omega) (fun y _ => s_again1 (x := tryO x now) (by simp [tryO])) (by simp (disch := first | omega | (simp only [go_sem, push_cast, and_true] <;> omega) | fail) only [go_sem]) (by simp (disch := first | omega | (simp only [go_sem, push_cast, and_true] <;> omega) | fail) only [go_sem]; omega) _ ?_
  have hp := plc_le (aftI x.1) X
  simp (disch := first | omega | (simp only [go_sem, push_cast, and_true] <;> omega) | fail) only [go_sem]
  refine s_WithO (X := X) (x := tryO x now) (p := plc (aftI x.1) X) (by omega) (by omega) _ ?_
  simp (disch := first | omega | (simp only [go_sem, push_cast, and_true] <;> omega) | fail) only [go_sem]
  refine fin_tmp hw ?_ (fin_eq hK ?_)
  · simp (disch := first | omega | (simp only [go_sem, push_cast, and_true] <;> omega) | fail) only [go_sem]
  · simp (disch := first | omega | (simp only [go_sem, push_cast, and_true] <;> omega) | fail) only [go_sem, withO, tryO]
/-! ### Where it goes -/
theorem asc_lt {X : List Ot} (h : Asc X) {i j : Nat} (hij : i < j) (hj : j < X.length) : (X.getD i default).1 < (X.getD j default).1 := by
  have := (List.pairwise_iff_getElem.1 h) i j (by omega) hj hij
  simpa [show i < X.length by omega, hj] using this
theorem plc_is {X : List Ot} {p : Ot → Bool} {i : Nat} (hi : i ≤ X.length) (hn : ∀ j < i, p (X.getD j default) = false) (hp : i < X.length → p (X.getD i default) = true) : plc p X = i := by
  by_cases h : i < X.length
  · have := idx_some h (hp h) hn
    simp [plc, this]
  · have : idx p X = -1 := idx_none fun j hj => hn j (by omega)
    simp [plc, this]
    omega
theorem del_get {X : List Ot} {i j : Nat} (hi : i < X.length) : (delO X i).getD j default = if j < i then X.getD j default else X.getD (j + 1) default := by
  unfold delO
  simp only [List.getD_eq_getElem?_getD]
  by_cases h : j < i
  · rw [if_pos h, List.getElem?_append_left (by simp; omega), List.getElem?_take, if_pos h]
  · rw [if_neg h, List.getElem?_append_right (by simp; omega), List.getElem?_drop]
    congr 2
    simp
    omega
theorem del_len {X : List Ot} {i : Nat} (hi : i < X.length) : (delO X i).length + 1 = X.length := by
  simp [delO]; omega
/-- What is taken out, and put in again, is where it was. -/
theorem del_with {X : List Ot} {i : Nat} {x : Ot} (ha : Asc X) (hi : i < X.length) (hx : x.1 = (X.getD i default).1) : withO (delO X i) x = X.set i x := by
  have hl := del_len hi
  have hp : plc (aftI x.1) (delO X i) = i := by
    refine plc_is (by omega) (fun j hj => ?_) fun h => ?_
    · rw [del_get hi, if_pos hj]
      have := asc_lt ha (i := j) (j := i) hj hi
      simp only [aftI, hx, decide_eq_false_iff_not]
      omega
    · rw [del_get hi, if_neg (by omega)]
      have := asc_lt ha (i := i) (j := i + 1) (by omega) (by omega)
      simpa [aftI, hx] using this
  unfold withO
  rw [hp]
  have e1 : (delO X i).take i = X.take i := by
    unfold delO
    rw [List.take_append, List.length_take, Nat.min_eq_left (by omega), Nat.sub_self, List.take_zero, List.append_nil, List.take_take, Nat.min_self]
  have e2 : (delO X i).drop i = X.drop (i + 1) := by
    unfold delO
    rw [List.drop_append, List.length_take, Nat.min_eq_left (by omega), Nat.sub_self, List.drop_zero, List.drop_eq_nil_of_le (by simp; omega), List.nil_append]
  rw [e1, e2, List.set_eq_take_append_cons_drop, if_pos hi]
  simp
end Go.Av
namespace Go.Av
open Go
set_option autoImplicit false
set_option linter.all false
set_option maxRecDepth 100000 in
theorem law_back {X : List Ot} {n now : Int} {H : List Entry} (hX : X.length ≤ 9223372036854775807) (hx : ∀ x ∈ X, otA x) : Pure AP n_trystlaw15_OutboxBack [.sl 5 (X.map otV), .int .u64 n, .int .i64 now] H (.bool true) := by
  intro K hK
  refine a_trystlaw15_OutboxBack fun hw => ?_
  simp (disch := first | omega | (simp only [go_sem, push_cast, and_true] <;> omega) | fail) only [go_sem, c_trystlaw15_OutboxBack]
  refine s_FewO hX (fun x h => (hx x h).1) _ ?_
  have hY := few_osB hx
  generalize fewO X = Y at *
  have hl := hY.1
  have fin : ∀ {e : List V} {G : List Entry}, nth e 6 = .bool true → WkP H.length (resK (rsT [6]) [] K) e (H ++ G) := fun {e G} h => by
    refine fin_tmp hw ?_ (fin_eq hK ?_)
    · simp [nths, h, idsLts, idsLt]
    · simp [oneV, nths, h]
  have fin0 : ∀ {e : List V}, nth e 6 = .bool true → WkP H.length (resK (rsT [6]) [] K) e H := fun {e} h => by
    have := fin (G := []) h
    simpa using this
  simp (disch := first | omega | (simp only [go_sem, push_cast, and_true] <;> omega) | fail) only [go_sem]
  refine s_Find (by omega) _ ?_
  simp (disch := first | omega | (simp only [go_sem, push_cast, and_true] <;> omega) | fail) only [go_sem]
  refine s_Ack hY _ ?_
  have hb := idx_bounds (isI n) Y
  rw [ack_eq]
  by_cases hc : chkO Y = true
  rotate_left
  · simp (disch := first | omega | (simp only [go_sem, push_cast, and_true] <;> omega) | fail) only [go_sem, if_neg hc, decide_true, Bool.not_true, decide_false, Bool.not_false]
    refine awake_ok _ _ ?_
    simp (disch := first | omega | (simp only [go_sem, push_cast, and_true] <;> omega) | fail) only [go_sem]
    exact fin0 rfl
  by_cases hh : hasI Y n = true
  rotate_left
  · simp (disch := first | omega | (simp only [go_sem, push_cast, and_true] <;> omega) | fail) only [go_sem, if_pos hc, if_neg hh, decide_true, Bool.not_true, decide_false, Bool.not_false]
    refine awake_ok _ _ ?_
    simp (disch := first | omega | (simp only [go_sem, push_cast, and_true] <;> omega) | fail) only [go_sem]
    exact fin0 rfl
  obtain ⟨i, hi⟩ : ∃ i : Nat, idx (isI n) Y = (i : Int) := ⟨(idx (isI n) Y).toNat, by have := has_iff.1 hh; omega⟩
  have ha := (chk_iff.1 hc).2.2
  obtain ⟨hd, hlt, hid⟩ := del_filter ha hi
  have hdl := del_len hlt
  have hOut : outI Y n = delO Y i := hd.symm
  rw [hOut, hi]
  have hm := getD_mem (X := Y) (i := i) hlt
  have hob := hY.2 _ hm
  have how := (chk_iff.1 hc).2.1 _ hm
  have hcd : chkO (delO Y i) = true := by rw [hd]; exact chk_filter hc
  have hod : osB (delO Y i) := by rw [hd]; exact osB_filter hY
  have h5 : ¬ 0 ≤ idx (isI (Y.getD i default).1) (delO Y i) := by
    rw [← has_iff, hid, hd, show Y.filter (fun x => !isI n x) = outI Y n from rfl, has_out]
    simp
  simp (disch := first | omega | (simp only [go_sem, push_cast, and_true] <;> omega) | fail) only [go_sem, if_pos hc, if_pos hh, decide_true, Bool.not_true, decide_false, Bool.not_false]
  refine s_Again (x := Y.getD i default) hod hob _ ?_
  by_cases ht : timeB now = true
  rotate_left
  · have hf : againO (delO Y i) (Y.getD i default) now = ([], 1) := by
      unfold againO
      rw [if_neg (fun h => ht h.2.1)]
    rw [hf]
    by_cases h0 : now < 0
    · simp (disch := first | omega | (simp only [go_sem, push_cast, and_true] <;> omega) | fail) only [go_sem, h0, decide_true, List.map_nil, List.length_nil, Int.natCast_zero]
      refine awake_ok _ _ ?_
      simp (disch := first | omega | (simp only [go_sem, push_cast, and_true] <;> omega) | fail) only [go_sem]
      exact fin0 rfl
    · have h1 : 1099511627775 < now := by
        unfold timeB at ht
        simp only [Bool.and_eq_true, decide_eq_true_eq] at ht
        omega
      simp (disch := first | omega | (simp only [go_sem, push_cast, and_true] <;> omega) | fail) only [go_sem, h0, h1, decide_true, decide_false, List.map_nil, List.length_nil, Int.natCast_zero]
      refine awake_ok _ _ ?_
      simp (disch := first | omega | (simp only [go_sem, push_cast, and_true] <;> omega) | fail) only [go_sem]
      exact fin0 rfl
  have htt := ht
  unfold timeB at htt
  simp only [Bool.and_eq_true, decide_eq_true_eq] at htt
  have h0 : ¬ now < 0 := by omega
  have h1 : ¬ 1099511627775 < now := by omega
  have h100 := (chk_iff.1 hc).1
  have hf : againO (delO Y i) (Y.getD i default) now = (Y.set i (tryO (Y.getD i default) now), 0) := by
    unfold againO
    rw [if_pos ⟨hcd, ht, how⟩, if_neg h5, if_neg (by omega), del_with ha hlt (by simp [tryO])]
  rw [hf]
  simp (disch := first | omega | (simp only [go_sem, push_cast, and_true] <;> omega) | fail) only [go_sem, h0, h1, decide_true, decide_false, Bool.not_true]
  have hfi : idx (isI n) (Y.set i (tryO (Y.getD i default) now)) = (i : Int) := by
    refine idx_some (by simpa using hlt) ?_ fun j hj => ?_
    · simp [List.getD_eq_getElem?_getD, hlt, isI, tryO]
      simpa [hlt] using hid
    · have := asc_lt ha (i := j) (j := i) hj hlt
      rw [List.getD_eq_getElem?_getD, List.getElem?_set_ne (by omega), ← List.getD_eq_getElem?_getD]
      simp only [isI, decide_eq_false_iff_not]
      omega
  refine s_Find (by simp; omega) _ ?_
  rw [hfi]
  simp (disch := first | omega | (simp only [go_sem, push_cast, and_true] <;> omega) | fail) only [go_sem, List.length_set, decide_true, decide_false, Bool.not_true]
  refine loop_in (fun m e' H' => ∃ k : Nat, m = Y.length - k ∧ e' = slots 0 104 [(0, .sl 5 (Y.map otV)), (2, .int .i64 now), (7, .int .i64 (i : Int)), (10, .sl 5 ((Y.set i (tryO (Y.getD i default) now)).map otV)), (12, .int .i64 (k : Int))] ∧ H' = H ∧ k ≤ Y.length) (n := Y.length) ⟨0, rfl, rfl, rfl, by omega⟩ (by first | omega | (simp only [go_sem, push_cast] <;> omega)) ?_ hw ?_
  · simp (disch := first | (simp only [go_sem] <;> omega) | fail) only [go_sem, x_eLeS, x_hLeS, Int.natCast_zero, Int.natCast_add, Int.natCast_one]
  · rintro J hJ m e' H' ⟨k, rfl, rfl, rfl, hk⟩
    by_cases h : (k : Int) < Y.length
    · have hmk := hY.2 _ (getD_mem (X := Y) (i := k) (by omega))
      have hsl : k < (Y.set i (tryO (Y.getD i default) now)).length := by simp; omega
      by_cases hki : k = i
      · subst hki
        have e1 : (Y.set k (tryO (Y.getD k default) now)).getD k default = tryO (Y.getD k default) now := by simp [List.getD_eq_getElem?_getD, hlt]
        simp (disch := first | omega | (simp only [go_sem, push_cast, and_true] <;> omega) | fail) only [go_sem, decide_true, e1]
        refine (r_SameOne (x := tryO (Y.getD k default) now) (y := tryO (Y.getD k default) now) (by simp only [tryO]; have := hmk.2.1; omega) (by simp only [tryO]; have := hmk.2.1; omega)).dcall ?_
        rw [sameO_eq rfl]
        simp (disch := first | omega | (simp only [go_sem, push_cast, and_true] <;> omega) | fail) only [go_sem, Bool.not_true]
        refine round_end (hJ _ _ _ ⟨k + 1, rfl, rfl, rfl, by omega⟩) (by omega) (by first | omega | (simp only [go_sem, push_cast] <;> omega)) ?_ (hLe_drop hw)
        simp (disch := first | (simp only [go_sem] <;> omega) | fail) only [go_sem, x_eLeS, x_hLeS, Int.natCast_zero, Int.natCast_add, Int.natCast_one]
      · have hki' : ¬ (k : Int) = (i : Int) := by omega
        have e1 : (Y.set i (tryO (Y.getD i default) now)).getD k default = Y.getD k default := by
          rw [List.getD_eq_getElem?_getD, List.getElem?_set_ne (by omega), ← List.getD_eq_getElem?_getD]
        simp (disch := first | omega | (simp only [go_sem, push_cast, and_true] <;> omega) | fail) only [go_sem, hki', decide_false, e1]
        refine (r_SameOne (x := Y.getD k default) (y := Y.getD k default) (by have := hmk.2.1; omega) (by have := hmk.2.1; omega)).dcall ?_
        rw [sameO_eq rfl]
        simp (disch := first | omega | (simp only [go_sem, push_cast, and_true] <;> omega) | fail) only [go_sem, Bool.not_true]
        refine round_end (hJ _ _ _ ⟨k + 1, rfl, rfl, rfl, by omega⟩) (by omega) (by first | omega | (simp only [go_sem, push_cast] <;> omega)) ?_ (hLe_drop hw)
        simp (disch := first | (simp only [go_sem] <;> omega) | fail) only [go_sem, x_eLeS, x_hLeS, Int.natCast_zero, Int.natCast_add, Int.natCast_one]
    · simp (disch := first | omega | (simp only [go_sem, push_cast, and_true] <;> omega) | fail) only [go_sem]
      refine awake_ok _ _ ?_
      simp (disch := first | omega | (simp only [go_sem, push_cast, and_true] <;> omega) | fail) only [go_sem]
      exact fin0 rfl
end Go.Av
