/- A part of a way to reckon what a Go program does without its memory (T4). -/
import Derived.Test.YtoicgilcdlakkaaT3
namespace Go.Av
open Go
set_option autoImplicit false
set_option linter.all false
/-! ### One that is refused, and the document's Next, Ack, Nack -/
def waitZ (t : Int) : Int := if t = 1 then 2 else if t = 2 then 4 else if t = 3 then 8 else 16
def nackX (x : Ot) (now : Int) : Ot := (x.1, x.2.1, x.2.2.1, x.2.2.2.1 + 1, if 1099511627775 < now + waitZ (x.2.2.2.1 + 1) then 1099511627775 else now + waitZ (x.2.2.2.1 + 1))
noncomputable def nackO (X : List Ot) (n now : Int) : List Ot × Bool × Int :=
  if timeB now = true then (if (findO X n).2 = 0 then (if (X.getD (findO X n).1.toNat default).2.2.2.1 + 1 = 5 then (delO X (findO X n).1.toNat, true, 0) else (X.set (findO X n).1.toNat (nackX (X.getD (findO X n).1.toNat default) now), false, 0)) else ([], false, (findO X n).2)) else ([], false, 1)
theorem own_tries {x : Ot} (h : ownB x = true) : 0 ≤ x.2.2.2.1 ∧ x.2.2.2.1 < 5 := by
  unfold ownB at h
  simp only [Bool.and_eq_true, decide_eq_true_eq] at h
  exact ⟨h.2.2.2.2.1, h.2.2.2.2.2.1⟩
theorem shl_w {t : Int} (h0 : 0 ≤ t) (h1 : t < 4) : shlI .i64 1 (t + 1) = waitZ (t + 1) := by
  have : t = 0 ∨ t = 1 ∨ t = 2 ∨ t = 3 := by omega
  rcases this with rfl | rfl | rfl | rfl <;> decide
theorem wait_bd (t : Int) : 2 ≤ waitZ t ∧ waitZ t ≤ 16 := by
  unfold waitZ
  repeat' split
  all_goals omega
theorem find_ok {X : List Ot} {n : Int} (h : (findO X n).2 = 0) : chkO X = true ∧ ∃ p : Nat, (findO X n).1 = (p : Int) ∧ p < X.length ∧ (X.getD p default).1 = n ∧ idx (isI n) X = (p : Int) := by
  unfold findO at h ⊢
  by_cases hc : chkO X = true
  · rw [if_pos hc] at h ⊢
    by_cases h2 : 0 ≤ idx (isI n) X
    · rw [if_pos h2] at h ⊢
      obtain ⟨p, hp⟩ : ∃ p : Nat, idx (isI n) X = (p : Int) := ⟨(idx (isI n) X).toNat, by omega⟩
      obtain ⟨_, h3, h4⟩ := del_filter (chk_iff.1 hc).2.2 hp
      exact ⟨hc, p, hp, h3, h4, hp⟩
    · rw [if_neg h2] at h
      cases h
  · rw [if_neg hc] at h
    cases h
theorem fin_nil3 {H : List Entry} {K : KV} (hw : Wf H) {e : List V} {G : List Entry} {b : Bool} {z : Int} (hk : K (.tup [.sl 5 [], .bool b, .int .i64 z]) H) (h6 : nth e 6 = .nilsl) (h7 : nth e 7 = .bool b) (h8 : nth e 8 = .int .i64 z) : WkP H.length (resK (rsT [6, 7, 8]) [] K) e (H ++ G) := by
  have hlt : 6 < e.length := lt_of_nth (by rw [h6]; simp)
  refine wk_nil (H := H) (t := G) 6 5 rfl h6 ?_
  refine fin_tmp hw ?_ (fin_eq hk ?_)
  · simp [nths, nth_setAt_eq (e := e) (i := 6) (v := .sl 5 []) hlt, nth_setAt_ne (e := e) (i := 6) (j := 7) (v := .sl 5 []) (by decide), nth_setAt_ne (e := e) (i := 6) (j := 8) (v := .sl 5 []) (by decide), h7, h8, idsLts, idsLt]
  · simp [nths, nth_setAt_eq (e := e) (i := 6) (v := .sl 5 []) hlt, nth_setAt_ne (e := e) (i := 6) (j := 7) (v := .sl 5 []) (by decide), nth_setAt_ne (e := e) (i := 6) (j := 8) (v := .sl 5 []) (by decide), h7, h8, oneV]
theorem fin_nil30 {H : List Entry} {K : KV} (hw : Wf H) {e : List V} {b : Bool} {z : Int} (hk : K (.tup [.sl 5 [], .bool b, .int .i64 z]) H) (h6 : nth e 6 = .nilsl) (h7 : nth e 7 = .bool b) (h8 : nth e 8 = .int .i64 z) : WkP H.length (resK (rsT [6, 7, 8]) [] K) e H := by
  have := fin_nil3 (G := []) hw hk h6 h7 h8
  simpa using this
theorem s_Nack {X : List Ot} {n now : Int} {H : List Entry} (hX : osB X) : Pure AP n_outbox_Nack [.sl 5 (X.map otV), .int .u64 n, .int .i64 now] H (.tup [.sl 5 ((nackO X n now).1.map otV), .bool (nackO X n now).2.1, .int .i64 (nackO X n now).2.2]) := by
  intro K hK
  refine a_outbox_Nack fun hw => ?_
  have hl : X.length ≤ 101 := hX.1
  unfold nackO at hK
  simp (disch := first | omega | (simp only [go_sem, push_cast, and_true] <;> omega) | fail) only [go_sem, c_outbox_Nack]
  refine s_isTime _ ?_
  by_cases ht : timeB now = true
  rotate_left
  · rw [if_neg ht] at hK
    have ht' : timeB now = false := by simpa using ht
    simp (disch := first | omega | (simp only [go_sem, push_cast, and_true] <;> omega) | fail) only [go_sem, ht', Bool.not_false]
    exact fin_nil30 hw hK rfl rfl rfl
  have htt := ht
  unfold timeB at htt
  simp only [Bool.and_eq_true, decide_eq_true_eq] at htt
  rw [if_pos ht] at hK
  simp (disch := first | omega | (simp only [go_sem, push_cast, and_true] <;> omega) | fail) only [go_sem, ht, Bool.not_true]
  refine s_find hX _ ?_
  by_cases hf : (findO X n).2 = 0
  rotate_left
  · rw [if_neg hf] at hK
    simp (disch := first | omega | (simp only [go_sem, push_cast, and_true] <;> omega) | fail) only [go_sem, hf, decide_false, Bool.not_false]
    exact fin_nil30 hw hK rfl rfl rfl
  obtain ⟨hc, p, hp, hlt, hid, hix⟩ := find_ok hf
  rw [if_pos hf, hp, Int.toNat_natCast] at hK
  rw [hp]
  have hm := (chk_iff.1 hc).2.1 _ (getD_mem (X := X) (i := p) hlt)
  have htr := own_tries hm
  simp (disch := first | omega | (simp only [go_sem, push_cast, and_true] <;> omega) | fail) only [go_sem, hf, decide_true, Bool.not_true]
  by_cases h5 : (X.getD p default).2.2.2.1 + 1 = 5
  · rw [if_pos h5] at hK
    simp (disch := first | omega | (simp only [go_sem, push_cast, and_true] <;> omega) | fail) only [go_sem, h5, decide_true]
    refine s_WithoutO (X := X) (p := p) (by omega) hlt _ ?_
    simp (disch := first | omega | (simp only [go_sem, push_cast, and_true] <;> omega) | fail) only [go_sem]
    refine fin_tmp hw ?_ (fin_eq hK ?_)
    · simp (disch := first | omega | (simp only [go_sem, push_cast, and_true] <;> omega) | fail) only [go_sem]
    · simp (disch := first | omega | (simp only [go_sem, push_cast, and_true] <;> omega) | fail) only [go_sem, delO]
  · rw [if_neg h5] at hK
    have hsh := shl_w (t := (X.getD p default).2.2.2.1) htr.1 (by omega)
    have hwb := wait_bd ((X.getD p default).2.2.2.1 + 1)
    simp (disch := first | omega | (simp only [go_sem, push_cast, and_true] <;> omega) | fail) only [go_sem, h5, decide_false, hsh]
    refine s_SetO (X := X) (x := nackX (X.getD p default) now) (i := p) (by omega) hlt _ ?_
    simp (disch := first | omega | (simp only [go_sem, push_cast, and_true] <;> omega) | fail) only [go_sem]
    refine fin_tmp hw ?_ (fin_eq hK ?_)
    · simp (disch := first | omega | (simp only [go_sem, push_cast, and_true] <;> omega) | fail) only [go_sem]
    · simp (disch := first | omega | (simp only [go_sem, push_cast, and_true] <;> omega) | fail) only [go_sem]
theorem r_AckO {X : List Ot} {n : Int} {H : List Entry} (hX : osB X) : Pure AP n_trystref15_Ack [.sl 5 (X.map otV), .int .u64 n] H (.tup [.sl 5 ((ackO X n).1.map otV), .int .i64 (ackO X n).2]) := by
  intro K hK
  refine a_trystref15_Ack fun hw => ?_
  have hl : X.length ≤ 101 := hX.1
  rw [ack_eq] at hK
  simp (disch := first | omega | (simp only [go_sem, push_cast, and_true] <;> omega) | fail) only [go_sem, c_trystref15_Ack]
  refine r_MayO hX _ ?_
  have fin0 : ∀ {e : List V} {z : Int}, K (.tup [.sl 5 [], .int .i64 z]) H → nth e 4 = .nilsl → nth e 5 = .int .i64 z → WkP H.length (resK (rsT [4, 5]) [] K) e H := fun {e z} hk h6 h7 => by
    have := fin_nil (G := []) hw (by decide : (4 : Nat) ≠ 5) hk h6 h7
    simpa using this
  by_cases hc : chkO X = true
  rotate_left
  · rw [if_neg hc] at hK
    have hc' : chkO X = false := by simpa using hc
    simp (disch := first | omega | (simp only [go_sem, push_cast, and_true] <;> omega) | fail) only [go_sem, hc', Bool.not_false]
    exact fin0 hK rfl rfl
  rw [if_pos hc] at hK
  simp (disch := first | omega | (simp only [go_sem, push_cast, and_true] <;> omega) | fail) only [go_sem, hc, Bool.not_true]
  refine r_Find (by omega) _ ?_
  have hb := idx_bounds (isI n) X
  by_cases h4 : hasI X n = true
  rotate_left
  · rw [if_neg h4] at hK
    have hn : ¬ 0 ≤ idx (isI n) X := fun k => h4 (has_iff.2 k)
    have : idx (isI n) X < 0 := by omega
    simp (disch := first | omega | (simp only [go_sem, push_cast, and_true] <;> omega) | fail) only [go_sem, this, decide_true]
    exact fin0 hK rfl rfl
  rw [if_pos h4] at hK
  have h0 := has_iff.1 h4
  simp (disch := first | omega | (simp only [go_sem, push_cast, and_true] <;> omega) | fail) only [go_sem]
  refine loop_adopt 6 26 5 rfl ?_
  have hfl : ∀ (p : Ot → Bool) (i : Nat), ((X.take i).filter p).length ≤ 101 := fun p i => by
    have := List.length_filter_le p (X.take i)
    rw [List.length_take] at this
    omega
  simp (disch := first | omega | (simp only [go_sem, push_cast, and_true] <;> omega) | fail) only [go_sem]
  refine loop_in (fun m e' H' => ∃ i : Nat, m = X.length - i ∧ e' = slots 0 36 [(0, .sl 5 (X.map otV)), (1, .int .u64 n), (6, .own H.length ((X.take i).filter (fun x => !isI n x)).length), (7, .int .i64 (i : Int))] ∧ H' = H ++ [.row 26 5 (((X.take i).filter (fun x => !isI n x)).map otV)] ∧ i ≤ X.length) (n := X.length) ⟨0, rfl, rfl, rfl, by omega⟩ (by first | omega | (simp only [go_sem, push_cast] <;> omega)) ?_ ?_ ?_
  · simp (disch := first | (simp only [go_sem, List.take_zero, List.filter_nil, List.length_nil] <;> omega) | fail) only [go_sem, x_eLeS, x_hLeS, Int.natCast_zero, Int.natCast_add, Int.natCast_one, List.take_zero, List.filter_nil, List.length_nil]
  · simp only [List.take_zero, List.filter_nil, List.map_nil]
    exact hLe_app hw (by first | omega | (simp only [go_sem, push_cast] <;> omega)) (by simp (disch := first | (simp only [go_sem] <;> omega) | fail) only [go_sem, x_eLeS, x_hLeS, Int.natCast_zero, Int.natCast_add, Int.natCast_one])
  · rintro J hJ m e' H' ⟨i, rfl, rfl, rfl, hi1⟩
    have hli := hfl (fun x => !isI n x) i
    by_cases h : (i : Int) < X.length
    · have hs := fil_step (X := X) (p := fun x => !isI n x) (i := i) (by omega)
      have hnx := hJ _ _ _ ⟨i + 1, rfl, rfl, rfl, by omega⟩
      rw [hs] at hnx
      by_cases hp : (X.getD i default).1 = n
      · rw [if_neg (by simp only [isI, hp]; simp), List.append_nil] at hnx
        simp (disch := first | omega | (simp only [go_sem, push_cast, and_true] <;> omega) | fail) only [go_sem, hp, decide_true, Bool.not_true]
        refine round_end hnx (by omega) (by first | omega | (simp only [go_sem, push_cast] <;> omega)) ?_ ?_
        · simp (disch := first | (simp only [go_sem] <;> omega) | fail) only [go_sem, x_eLeS, x_hLeS, Int.natCast_zero, Int.natCast_add, Int.natCast_one]
        · exact hLe_app hw (by first | omega | (simp only [go_sem, push_cast] <;> omega)) (by simp (disch := first | (simp only [go_sem] <;> omega) | fail) only [go_sem, x_eLeS, x_hLeS, Int.natCast_zero, Int.natCast_add, Int.natCast_one])
      · rw [if_pos (by simp only [isI, hp]; simp)] at hnx
        generalize (X.take i).filter (fun x => !isI n x) = B at *
        have e1 : B.map otV ++ [otV (X.getD i default)] = (B ++ [X.getD i default]).map otV := by simp
        rw [otV_def] at e1
        simp (disch := first | omega | (simp only [go_sem, push_cast, and_true] <;> omega) | fail) only [go_sem, hp, decide_false, Bool.not_false]
        rw [e1]
        refine round_end hnx (by omega) (by first | omega | (simp only [go_sem, push_cast] <;> omega)) ?_ ?_
        · simp (disch := first | (simp only [go_sem, List.length_append, List.length_cons, List.length_nil, Nat.zero_add] <;> omega) | fail) only [go_sem, x_eLeS, x_hLeS, Int.natCast_zero, Int.natCast_add, Int.natCast_one, List.length_append, List.length_cons, List.length_nil, Nat.zero_add]
        · exact hLe_app hw (by first | omega | (simp only [go_sem, push_cast] <;> omega)) (by simp (disch := first | (simp only [go_sem] <;> omega) | fail) only [go_sem, x_eLeS, x_hLeS, Int.natCast_zero, Int.natCast_add, Int.natCast_one])
    · have hi : i = X.length := by omega
      subst hi
      rw [List.take_length] at hli ⊢
      simp (disch := first | omega | (simp only [go_sem, push_cast, and_true] <;> omega) | fail) only [go_sem]
      refine wk_own (H := H) 4 0 rfl rfl rfl (by first | omega | (simp only [go_sem, push_cast] <;> omega)) ?_
      refine fin_tmp hw ?_ (fin_eq hK ?_)
      · simp (disch := first | omega | (simp only [go_sem, push_cast, and_true] <;> omega) | fail) only [go_sem]
      · simp (disch := first | omega | (simp only [go_sem, push_cast, and_true] <;> omega) | fail) only [go_sem, outI]
theorem r_Nack {X : List Ot} {n now : Int} {H : List Entry} (hX : osB X) : Pure AP n_trystref15_Nack [.sl 5 (X.map otV), .int .u64 n, .int .i64 now] H (.tup [.sl 5 ((nackO X n now).1.map otV), .bool (nackO X n now).2.1, .int .i64 (nackO X n now).2.2]) := by
  intro K hK
  refine a_trystref15_Nack fun hw => ?_
  have hl : X.length ≤ 101 := hX.1
  unfold nackO at hK
  simp (disch := first | omega | (simp only [go_sem, push_cast, and_true] <;> omega) | fail) only [go_sem, c_trystref15_Nack]
  refine r_MayO hX _ ?_
  by_cases hc : chkO X = true
  rotate_left
  · have hc' : chkO X = false := by simpa using hc
    have hf : findO X n = (0, 1) := by unfold findO; rw [if_neg hc]
    have hK' : K (.tup [.sl 5 [], .bool false, .int .i64 1]) H := by
      rw [hf] at hK
      split at hK
      · simpa using hK
      · simpa using hK
    simp (disch := first | omega | (simp only [go_sem, push_cast, and_true] <;> omega) | fail) only [go_sem, hc', Bool.not_false]
    exact fin_nil30 hw hK' rfl rfl rfl
  simp (disch := first | omega | (simp only [go_sem, push_cast, and_true] <;> omega) | fail) only [go_sem, hc, Bool.not_true]
  by_cases ht : timeB now = true
  rotate_left
  · rw [if_neg ht] at hK
    by_cases h0 : now < 0
    · simp (disch := first | omega | (simp only [go_sem, push_cast, and_true] <;> omega) | fail) only [go_sem, h0, decide_true]
      exact fin_nil30 hw hK rfl rfl rfl
    · have h1 : 1099511627775 < now := by
        unfold timeB at ht
        simp only [Bool.and_eq_true, decide_eq_true_eq] at ht
        omega
      simp (disch := first | omega | (simp only [go_sem, push_cast, and_true] <;> omega) | fail) only [go_sem, h0, h1, decide_true, decide_false]
      exact fin_nil30 hw hK rfl rfl rfl
  rw [if_pos ht] at hK
  unfold timeB at ht
  simp only [Bool.and_eq_true, decide_eq_true_eq] at ht
  have h0 : ¬ now < 0 := by omega
  have h1 : ¬ 1099511627775 < now := by omega
  simp (disch := first | omega | (simp only [go_sem, push_cast, and_true] <;> omega) | fail) only [go_sem, h0, h1, decide_true, decide_false]
  refine r_Find (by omega) _ ?_
  have hb := idx_bounds (isI n) X
  by_cases h4 : 0 ≤ idx (isI n) X
  rotate_left
  · have hf : findO X n = (0, 4) := by unfold findO; rw [if_pos hc, if_neg h4]
    rw [hf, if_neg (by simp)] at hK
    simp (disch := first | omega | (simp only [go_sem, push_cast, and_true] <;> omega) | fail) only [go_sem]
    exact fin_nil30 hw hK rfl rfl rfl
  have hf : findO X n = (idx (isI n) X, 0) := by unfold findO; rw [if_pos hc, if_pos h4]
  obtain ⟨p, hp⟩ : ∃ p : Nat, idx (isI n) X = (p : Int) := ⟨(idx (isI n) X).toNat, by omega⟩
  have ha := (chk_iff.1 hc).2.2
  obtain ⟨hdf, hlt, hid⟩ := del_filter ha hp
  rw [hf, hp] at hK
  rw [hp]
  simp only [if_true, Int.toNat_natCast] at hK
  have hm := (chk_iff.1 hc).2.1 _ (getD_mem (X := X) (i := p) hlt)
  have htr := own_tries hm
  by_cases h5 : (X.getD p default).2.2.2.1 = 4
  · rw [if_pos (by omega)] at hK
    simp (disch := first | omega | (simp only [go_sem, push_cast, and_true] <;> omega) | fail) only [go_sem, h5, decide_true]
    refine r_AckO hX _ ?_
    rw [ack_eq, if_pos hc, if_pos (has_iff.2 h4), show outI X n = delO X p from hdf.symm]
    simp (disch := first | omega | (simp only [go_sem, push_cast, and_true] <;> omega) | fail) only [go_sem]
    refine fin_tmp hw ?_ (fin_eq hK ?_)
    · simp (disch := first | omega | (simp only [go_sem, push_cast, and_true] <;> omega) | fail) only [go_sem]
    · simp (disch := first | omega | (simp only [go_sem, push_cast, and_true] <;> omega) | fail) only [go_sem]
  · rw [if_neg (by omega), ← with_set ha hlt (by simp [nackX])] at hK
    have h4' : (X.getD p default).2.2.2.1 = 0 ∨ (X.getD p default).2.2.2.1 = 1 ∨ (X.getD p default).2.2.2.1 = 2 ∨ (X.getD p default).2.2.2.1 = 3 := by omega
    have hwb := wait_bd ((X.getD p default).2.2.2.1 + 1)
    have hlit : ∃ w : Int, w = waitZ ((X.getD p default).2.2.2.1 + 1) ∧ nth [V.int .i64 0, V.int .i64 2, V.int .i64 4, V.int .i64 8, V.int .i64 16] ((X.getD p default).2.2.2.1 + 1).toNat = .int .i64 w := by
      rcases h4' with h | h | h | h <;> (rw [h]; exact ⟨_, rfl, rfl⟩)
    obtain ⟨w, hw1, hw2⟩ := hlit
    simp (disch := first | omega | (simp only [go_sem, push_cast, and_true] <;> omega) | fail) only [go_sem, h5, decide_false, hw2]
    by_cases hq : 1099511627775 < now + w
    · have hx : nackX (X.getD p default) now = ((X.getD p default).1, (X.getD p default).2.1, (X.getD p default).2.2.1, (X.getD p default).2.2.2.1 + 1, 1099511627775) := by
        unfold nackX
        rw [← hw1, if_pos hq]
      rw [hx] at hK
      simp (disch := first | omega | (simp only [go_sem, push_cast, and_true] <;> omega) | fail) only [go_sem, hq, decide_true]
      refine r_With (X := X) (x := ((X.getD p default).1, (X.getD p default).2.1, (X.getD p default).2.2.1, (X.getD p default).2.2.2.1 + 1, 1099511627775)) (by omega) _ ?_
      simp (disch := first | omega | (simp only [go_sem, push_cast, and_true] <;> omega) | fail) only [go_sem]
      refine fin_tmp hw ?_ (fin_eq hK ?_)
      · simp (disch := first | omega | (simp only [go_sem, push_cast, and_true] <;> omega) | fail) only [go_sem]
      · simp (disch := first | omega | (simp only [go_sem, push_cast, and_true] <;> omega) | fail) only [go_sem]
    · have hx : nackX (X.getD p default) now = ((X.getD p default).1, (X.getD p default).2.1, (X.getD p default).2.2.1, (X.getD p default).2.2.2.1 + 1, now + w) := by
        unfold nackX
        rw [← hw1, if_neg hq]
      rw [hx] at hK
      simp (disch := first | omega | (simp only [go_sem, push_cast, and_true] <;> omega) | fail) only [go_sem, hq, decide_false]
      refine r_With (X := X) (x := ((X.getD p default).1, (X.getD p default).2.1, (X.getD p default).2.2.1, (X.getD p default).2.2.2.1 + 1, now + w)) (by omega) _ ?_
      simp (disch := first | omega | (simp only [go_sem, push_cast, and_true] <;> omega) | fail) only [go_sem]
      refine fin_tmp hw ?_ (fin_eq hK ?_)
      · simp (disch := first | omega | (simp only [go_sem, push_cast, and_true] <;> omega) | fail) only [go_sem]
      · simp (disch := first | omega | (simp only [go_sem, push_cast, and_true] <;> omega) | fail) only [go_sem]
theorem r_Next {X : List Ot} {now : Int} {H : List Entry} (hX : osB X) : Pure AP n_trystref15_Next [.sl 5 (X.map otV), .int .i64 now] H (.tup [otV (nextO X now).1, .int .i64 (nextO X now).2]) := by
  intro K hK
  refine a_trystref15_Next fun hw => ?_
  have hl : X.length ≤ 101 := hX.1
  unfold nextO at hK
  simp (disch := first | omega | (simp only [go_sem, push_cast, and_true] <;> omega) | fail) only [go_sem, c_trystref15_Next]
  refine r_MayO hX _ ?_
  by_cases hc : chkO X = true
  rotate_left
  · rw [if_neg hc] at hK
    have hc' : chkO X = false := by simpa using hc
    simp (disch := first | omega | (simp only [go_sem, push_cast, and_true] <;> omega) | fail) only [go_sem, hc', Bool.not_false]
    refine end_less [.agg [.int .u64 0, .str [], .sl 1 [], .int .i64 0, .int .i64 0], .int .i64 1] (by repeat' (first | exact .nil _ | exact .slx _ _ | exact .refl _ | exact .nil | refine .cons ?_ ?_ | refine .agg ?_ | refine .tup ?_)) ?_
    refine fin_res hw ?_ (fin_eq hK ?_)
    · simp (disch := first | omega | (simp only [go_sem, push_cast, and_true] <;> omega) | fail) only [go_sem]
    · simp [oneV, otV, z0]
  rw [if_pos hc] at hK
  simp (disch := first | omega | (simp only [go_sem, push_cast, and_true] <;> omega) | fail) only [go_sem, hc, Bool.not_true]
  refine loop_in (fun m e' H' => ∃ (i : Nat) (b : Int), m = X.length - i ∧ e' = slots 0 50 [(0, .sl 5 (X.map otV)), (1, .int .i64 now), (4, .ptr H.length 0), (5, .int .i64 0), (6, .int .i64 b), (7, .int .i64 (i : Int))] ∧ H' = H ++ [.box [.int .u64 0, .str [], .nilsl, .int .i64 0, .int .i64 0]] ∧ i ≤ X.length ∧ (b = -1 ∧ (∀ j < i, now < (X.getD j default).2.2.2.2) ∨ ∃ p : Nat, b = (p : Int) ∧ p < i ∧ (X.getD p default).2.2.2.2 ≤ now ∧ ∀ j < i, (X.getD p default).2.2.2.2 ≤ (X.getD j default).2.2.2.2 ∧ (j < p → (X.getD p default).2.2.2.2 < (X.getD j default).2.2.2.2))) (n := X.length) ⟨0, -1, rfl, rfl, rfl, by omega, .inl ⟨rfl, fun j hj => by omega⟩⟩ (by first | omega | (simp only [go_sem, push_cast] <;> omega)) ?_ ?_ ?_
  · simp (disch := first | (simp only [go_sem] <;> omega) | fail) only [go_sem, x_eLeS, x_hLeS, Int.natCast_zero, Int.natCast_add, Int.natCast_one]
  · refine hLe_app hw (by simp) ?_
    simp (disch := first | (simp only [go_sem] <;> omega) | fail) only [go_sem, x_eLeS, x_hLeS, Int.natCast_zero, Int.natCast_add, Int.natCast_one]
  · rintro J hJ m e' H' ⟨i, b, rfl, rfl, rfl, hi1, hb⟩
    by_cases h : (i : Int) < X.length
    · by_cases hd : (X.getD i default).2.2.2.2 ≤ now
      · rcases hb with ⟨rfl, hn⟩ | ⟨p, rfl, hpi, hpn, hn⟩
        · simp (disch := first | omega | (simp only [go_sem, push_cast, and_true] <;> omega) | fail) only [go_sem, hd, decide_true]
          refine round_end (hJ _ _ _ ⟨i + 1, (i : Int), rfl, rfl, rfl, by omega, .inr ⟨i, rfl, by omega, hd, fun j hj => ?_⟩⟩) (by omega) (by first | omega | (simp only [go_sem, push_cast] <;> omega)) ?_ ?_
          · rcases Nat.lt_succ_iff_lt_or_eq.1 hj with k | rfl
            · have := hn j k
              exact ⟨by omega, fun _ => by omega⟩
            · exact ⟨Int.le_refl _, fun h => by omega⟩
          · simp (disch := first | (simp only [go_sem] <;> omega) | fail) only [go_sem, x_eLeS, x_hLeS, Int.natCast_zero, Int.natCast_add, Int.natCast_one]
          · refine hLe_app hw (by simp) ?_
            simp (disch := first | (simp only [go_sem] <;> omega) | fail) only [go_sem, x_eLeS, x_hLeS, Int.natCast_zero, Int.natCast_add, Int.natCast_one]
        · have hp0 : ¬ (p : Int) < 0 := by omega
          have hplt : p < X.length := by omega
          by_cases hlt : (X.getD i default).2.2.2.2 < (X.getD p default).2.2.2.2
          · simp (disch := first | omega | (simp only [go_sem, push_cast, and_true] <;> omega) | fail) only [go_sem, hd, hp0, hlt, decide_true, decide_false]
            refine round_end (hJ _ _ _ ⟨i + 1, (i : Int), rfl, rfl, rfl, by omega, .inr ⟨i, rfl, by omega, hd, fun j hj => ?_⟩⟩) (by omega) (by first | omega | (simp only [go_sem, push_cast] <;> omega)) ?_ ?_
            · rcases Nat.lt_succ_iff_lt_or_eq.1 hj with k | rfl
              · have := (hn j k).1
                exact ⟨by omega, fun _ => by omega⟩
              · exact ⟨Int.le_refl _, fun h => by omega⟩
            · simp (disch := first | (simp only [go_sem] <;> omega) | fail) only [go_sem, x_eLeS, x_hLeS, Int.natCast_zero, Int.natCast_add, Int.natCast_one]
            · refine hLe_app hw (by simp) ?_
              simp (disch := first | (simp only [go_sem] <;> omega) | fail) only [go_sem, x_eLeS, x_hLeS, Int.natCast_zero, Int.natCast_add, Int.natCast_one]
          · simp (disch := first | omega | (simp only [go_sem, push_cast, and_true] <;> omega) | fail) only [go_sem, hd, hp0, hlt, decide_true, decide_false]
            refine round_end (hJ _ _ _ ⟨i + 1, (p : Int), rfl, rfl, rfl, by omega, .inr ⟨p, rfl, by omega, hpn, fun j hj => ?_⟩⟩) (by omega) (by first | omega | (simp only [go_sem, push_cast] <;> omega)) ?_ ?_
            · rcases Nat.lt_succ_iff_lt_or_eq.1 hj with k | rfl
              · exact hn j k
              · exact ⟨by omega, fun h => by omega⟩
            · simp (disch := first | (simp only [go_sem] <;> omega) | fail) only [go_sem, x_eLeS, x_hLeS, Int.natCast_zero, Int.natCast_add, Int.natCast_one]
            · refine hLe_app hw (by simp) ?_
              simp (disch := first | (simp only [go_sem] <;> omega) | fail) only [go_sem, x_eLeS, x_hLeS, Int.natCast_zero, Int.natCast_add, Int.natCast_one]
      · simp (disch := first | omega | (simp only [go_sem, push_cast, and_true] <;> omega) | fail) only [go_sem, hd, decide_false]
        refine round_end (hJ _ _ _ ⟨i + 1, b, rfl, rfl, rfl, by omega, ?_⟩) (by omega) (by first | omega | (simp only [go_sem, push_cast] <;> omega)) ?_ ?_
        · rcases hb with ⟨rfl, hn⟩ | ⟨p, rfl, hpi, hpn, hn⟩
          · refine .inl ⟨rfl, fun j hj => ?_⟩
            rcases Nat.lt_succ_iff_lt_or_eq.1 hj with k | rfl
            · exact hn j k
            · omega
          · refine .inr ⟨p, rfl, by omega, hpn, fun j hj => ?_⟩
            rcases Nat.lt_succ_iff_lt_or_eq.1 hj with k | rfl
            · exact hn j k
            · exact ⟨by omega, fun h => by omega⟩
        · simp (disch := first | (simp only [go_sem] <;> omega) | fail) only [go_sem, x_eLeS, x_hLeS, Int.natCast_zero, Int.natCast_add, Int.natCast_one]
        · refine hLe_app hw (by simp) ?_
          simp (disch := first | (simp only [go_sem] <;> omega) | fail) only [go_sem, x_eLeS, x_hLeS, Int.natCast_zero, Int.natCast_add, Int.natCast_one]
    · have hi : i = X.length := by omega
      subst hi
      rcases hb with ⟨rfl, hn⟩ | ⟨p, rfl, hpi, hpn, hn⟩
      · have hK' : K (.tup [otV z0, .int .i64 4]) H := by
          cases hb : bestO X with
          | none => rw [hb] at hK; exact hK
          | some x =>
            rw [hb] at hK
            obtain ⟨j, hj, rfl⟩ := List.mem_iff_getElem.1 (bestO_mem hb)
            have := hn j hj
            simp [hj] at this
            simp only at hK
            rw [if_pos (by omega)] at hK
            exact hK
        simp (disch := first | omega | (simp only [go_sem, push_cast, and_true] <;> omega) | fail) only [go_sem]
        refine end_less [.agg [.int .u64 0, .str [], .sl 1 [], .int .i64 0, .int .i64 0], .int .i64 4] (by repeat' (first | exact .nil _ | exact .slx _ _ | exact .refl _ | exact .nil | refine .cons ?_ ?_ | refine .agg ?_ | refine .tup ?_)) ?_
        refine fin_res hw ?_ (fin_eq hK' ?_)
        · simp (disch := first | omega | (simp only [go_sem, push_cast, and_true] <;> omega) | fail) only [go_sem]
        · simp [oneV, otV, z0]
      · rw [bestO_is (p := p) ⟨hpi, hn⟩] at hK
        simp only at hK
        rw [if_neg (by omega)] at hK
        have hp0 : ¬ (p : Int) < 0 := by omega
        simp (disch := first | omega | (simp only [go_sem, push_cast, and_true] <;> omega) | fail) only [go_sem, hp0, decide_false]
        refine fin_res hw ?_ (fin_eq hK ?_)
        · simp (disch := first | omega | (simp only [go_sem, push_cast, and_true] <;> omega) | fail) only [go_sem]
        · simp [oneV, otV]
end Go.Av
