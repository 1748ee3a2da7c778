/- A part of a way to reckon what a Go program does without its memory (P2). -/
import Derived.Test.YtoicgilcdlakkaaP1
namespace Go.Av
open Go
set_option autoImplicit false
set_option linter.all false
/-! ### Added, and come again: both are the same -/
theorem plc_cons {p : Ot → Bool} {y : Ot} {X : List Ot} : plc p (y :: X) = if p y = true then 0 else plc p X + 1 := by
  unfold plc idx
  rw [List.findIdx?_cons]
  by_cases h : p y = true
  · simp [h]
  · have hb := idx_bounds p X
    unfold idx at hb
    cases hf : X.findIdx? p with
    | none => simp [h, hf]
    | some q => simp [h, hf]; omega
theorem fil_none {X : List Ot} {p : Ot → Bool} (h : ∀ y ∈ X, p y = false) : X.filter p = [] := by
  rw [List.filter_eq_nil_iff]
  intro y hy
  simp [h y hy]
theorem fil_all {X : List Ot} {p : Ot → Bool} (h : ∀ y ∈ X, p y = true) : X.filter p = X := List.filter_eq_self.2 h
theorem with_new : ∀ {X : List Ot} {x : Ot}, Asc X → hasI X x.1 = false → withO X x = withR X x
  | [], x, _, _ => by simp [withO, withR, plc, idx]
  | y :: X, x, ha, hn => by
    obtain ⟨h1, h2⟩ := List.pairwise_cons.1 ha
    have hn1 : ¬ y.1 = x.1 := fun h => by simp [hasI, isI, h] at hn
    have hn2 : hasI X x.1 = false := by
      simp only [hasI, List.any_cons, Bool.or_eq_false_iff] at hn
      exact hn.2
    by_cases h : x.1 < y.1
    · unfold withO withR
      rw [plc_cons, if_pos (by simpa [aftI] using h), fil_none (p := befI x.1), fil_all (p := aftI x.1)]
      · simp
      · intro z hz
        rcases List.mem_cons.1 hz with rfl | hz
        · simpa [aftI] using h
        · have := h1 z hz; simp [aftI]; omega
      · intro z hz
        rcases List.mem_cons.1 hz with rfl | hz
        · simp [befI]; omega
        · have := h1 z hz; simp [befI]; omega
    · have ih := with_new (x := x) h2 hn2
      unfold withO withR at ih ⊢
      rw [plc_cons, if_neg (by simpa [aftI] using h), List.filter_cons_of_pos (by simp [befI]; omega), List.filter_cons_of_neg (by simpa [aftI] using h)]
      simp only [List.take_succ_cons, List.drop_succ_cons, List.cons_append]
      rw [ih]
theorem with_set : ∀ {X : List Ot} {x : Ot} {i : Nat}, Asc X → i < X.length → (X.getD i default).1 = x.1 → withR X x = X.set i x
  | [], x, i, _, h, _ => by simp at h
  | y :: X, x, 0, ha, _, he => by
    obtain ⟨h1, h2⟩ := List.pairwise_cons.1 ha
    have he : y.1 = x.1 := by simpa using he
    unfold withR
    rw [List.filter_cons_of_neg (by simp [befI]; omega), List.filter_cons_of_neg (by simp [aftI]; omega), fil_none (p := befI x.1), fil_all (p := aftI x.1)]
    · simp
    · intro z hz
      have := h1 z hz; simp [aftI]; omega
    · intro z hz
      have := h1 z hz; simp [befI]; omega
  | y :: X, x, i + 1, ha, hi, he => by
    obtain ⟨h1, h2⟩ := List.pairwise_cons.1 ha
    have hi' : i < X.length := by simpa using hi
    have he' : (X.getD i default).1 = x.1 := by simpa using he
    have ih := with_set (x := x) h2 hi' he'
    have hy := h1 _ (getD_mem hi')
    unfold withR at ih ⊢
    rw [List.filter_cons_of_pos (by simp only [befI, decide_eq_true_eq]; omega), List.filter_cons_of_neg (by simp only [aftI, decide_eq_true_eq]; omega)]
    simp only [List.cons_append, List.set_cons_succ]
    rw [ih]
theorem with_last {X : List Ot} {x : Ot} (h : ∀ y ∈ X, y.1 < x.1) : withR X x = X ++ [x] := by
  unfold withR
  rw [fil_none (p := aftI x.1), fil_all (p := befI x.1)]
  · simp
  · intro z hz
    have := h z hz; simpa [befI] using this
  · intro z hz
    have := h z hz; simp [aftI]; omega
noncomputable def addO (X : List Ot) (x : Ot) : List Ot × Int :=
  if chkO X = true ∧ ownB x = true then (if 0 < X.length ∧ x.1 ≤ (X.getD (X.length - 1) default).1 then ([], 8) else if X.length = 100 then ([], 6) else (X ++ [x], 0)) else ([], 1)
theorem fin_nil {H : List Entry} {K : KV} (hw : Wf H) {a b : Nat} (hab : a ≠ b) {e : List V} {G : List Entry} {z : Int} (hk : K (.tup [.sl 5 [], .int .i64 z]) H) (h6 : nth e a = .nilsl) (h7 : nth e b = .int .i64 z) : WkP H.length (resK (rsT [a, b]) [] K) e (H ++ G) := by
  have hlt : a < e.length := lt_of_nth (by rw [h6]; simp)
  refine wk_nil (H := H) (t := G) a 5 rfl h6 ?_
  refine fin_tmp hw ?_ (fin_eq hk ?_)
  · simp [nths, nth_setAt_eq (e := e) (i := a) (v := .sl 5 []) hlt, nth_setAt_ne (e := e) (i := a) (j := b) (v := .sl 5 []) hab, h7, idsLts, idsLt]
  · simp [nths, nth_setAt_eq (e := e) (i := a) (v := .sl 5 []) hlt, nth_setAt_ne (e := e) (i := a) (j := b) (v := .sl 5 []) hab, h7, oneV]
theorem s_Add {X : List Ot} {x : Ot} {H : List Entry} (hX : osB X) (hx : otB x) : Pure AP n_outbox_Add [.sl 5 (X.map otV), otV x] H (.tup [.sl 5 ((addO X x).1.map otV), .int .i64 (addO X x).2]) := by
  intro K hK
  refine a_outbox_Add fun hw => ?_
  have hl : X.length ≤ 101 := hX.1
  unfold addO at hK
  simp (disch := first | omega | (simp only [go_sem, push_cast, and_true] <;> omega) | fail) only [go_sem, c_outbox_Add]
  refine s_Check hX _ ?_
  by_cases hc : chkO X = true
  rotate_left
  · rw [if_neg (fun h => hc h.1)] at hK
    simp (disch := first | omega | (simp only [go_sem, push_cast, and_true] <;> omega) | fail) only [go_sem, if_neg hc, decide_false, Bool.not_false]
    exact fin_nil hw (by decide) hK rfl rfl
  simp (disch := first | omega | (simp only [go_sem, push_cast, and_true] <;> omega) | fail) only [go_sem, if_pos hc, decide_true, Bool.not_true]
  refine s_may hx _ ?_
  cases ho : ownB x
  · rw [if_neg (fun h => by rw [ho] at h; cases h.2)] at hK
    simp (disch := first | omega | (simp only [go_sem, push_cast, and_true] <;> omega) | fail) only [go_sem, Bool.not_false]
    exact fin_nil hw (by decide) hK rfl rfl
  rw [if_pos ⟨hc, ho⟩] at hK
  have tail : ¬ (0 < X.length ∧ x.1 ≤ (X.getD (X.length - 1) default).1) → True := fun _ => trivial
  by_cases h0 : 0 < X.length
  · have hj1 : ((X.length : Int) - 1).toNat = X.length - 1 := by omega
    have hlt : X.length - 1 < X.length := by omega
    by_cases hle : x.1 ≤ (X.getD (X.length - 1) default).1
    · rw [if_pos ⟨h0, hle⟩] at hK
      simp (disch := first | omega | (simp only [go_sem, push_cast, and_true] <;> omega) | fail) only [go_sem, Bool.not_true, hj1, hle, decide_true]
      exact fin_nil hw (by decide) hK rfl rfl
    · rw [if_neg (fun h => hle h.2)] at hK
      by_cases h6 : X.length = 100
      · rw [if_pos h6] at hK
        simp (disch := first | omega | (simp only [go_sem, push_cast, and_true] <;> omega) | fail) only [go_sem, Bool.not_true, hj1, hle, decide_false]
        simp (disch := first | omega | (simp only [go_sem, push_cast, and_true] <;> omega) | fail) only [go_sem, h6, Int.cast_ofNat_Int, decide_true]
        exact fin_nil hw (by decide) hK rfl rfl
      · rw [if_neg h6] at hK
        have h6' : ¬ (X.length : Int) = 100 := by omega
        simp (disch := first | omega | (simp only [go_sem, push_cast, and_true] <;> omega) | fail) only [go_sem, Bool.not_true, hj1, hle, decide_false, h6']
        refine s_WithO (X := X) (x := x) (p := X.length) (by omega) (by omega) _ ?_
        simp (disch := first | omega | (simp only [go_sem, push_cast, and_true] <;> omega) | fail) only [go_sem]
        refine fin_tmp hw ?_ (fin_eq hK ?_)
        · simp (disch := first | omega | (simp only [go_sem, push_cast, and_true] <;> omega) | fail) only [go_sem]
        · simp (disch := first | omega | (simp only [go_sem, push_cast, and_true] <;> omega) | fail) only [go_sem, List.take_length, List.drop_length, List.append_nil]
  · have he : X = [] := List.eq_nil_of_length_eq_zero (by omega)
    subst he
    rw [if_neg (fun h => h0 h.1), if_neg (by simp)] at hK
    simp (disch := first | omega | (simp only [go_sem, push_cast, and_true] <;> omega) | fail) only [go_sem, Bool.not_true, List.map_nil, List.length_nil, Int.natCast_zero, Int.cast_ofNat_Int, decide_false]
    refine s_WithO (X := []) (x := x) (p := 0) (by simp) (by simp) _ ?_
    simp (disch := first | omega | (simp only [go_sem, push_cast, and_true] <;> omega) | fail) only [go_sem]
    refine fin_tmp hw ?_ (fin_eq hK ?_)
    · simp (disch := first | omega | (simp only [go_sem, push_cast, and_true] <;> omega) | fail) only [go_sem]
    · simp [oneV, nths, nth]
theorem r_Add {X : List Ot} {x : Ot} {H : List Entry} (hX : osB X) (hx : otB x) : Pure AP n_trystref15_Add [.sl 5 (X.map otV), otV x] H (.tup [.sl 5 ((addO X x).1.map otV), .int .i64 (addO X x).2]) := by
  intro K hK
  refine a_trystref15_Add fun hw => ?_
  have hl : X.length ≤ 101 := hX.1
  unfold addO at hK
  simp (disch := first | omega | (simp only [go_sem, push_cast, and_true] <;> omega) | fail) only [go_sem, c_trystref15_Add]
  refine r_MayO hX _ ?_
  by_cases hc : chkO X = true
  rotate_left
  · rw [if_neg (fun h => hc h.1)] at hK
    have hc' : chkO X = false := by simpa using hc
    simp (disch := first | omega | (simp only [go_sem, push_cast, and_true] <;> omega) | fail) only [go_sem, hc', Bool.not_false]
    exact fin_nil hw (by decide) hK rfl rfl
  simp (disch := first | omega | (simp only [go_sem, push_cast, and_true] <;> omega) | fail) only [go_sem, hc, Bool.not_true]
  refine r_Own hx _ ?_
  cases ho : ownB x
  · rw [if_neg (fun h => by rw [ho] at h; cases h.2)] at hK
    simp (disch := first | omega | (simp only [go_sem, push_cast, and_true] <;> omega) | fail) only [go_sem, Bool.not_false]
    exact fin_nil hw (by decide) hK rfl rfl
  rw [if_pos ⟨hc, ho⟩] at hK
  have ha := (chk_iff.1 hc).2.2
  simp (disch := first | omega | (simp only [go_sem, push_cast, and_true] <;> omega) | fail) only [go_sem, Bool.not_true]
  refine loop_in (fun m e' H' => ∃ i : Nat, m = X.length - i ∧ e' = slots 0 35 [(0, .sl 5 (X.map otV)), (3, .ptr H.length 0), (4, .nilsl), (6, .int .i64 (i : Int))] ∧ H' = H ++ [.box [.int .u64 x.1, .str x.2.1, .sl 1 (x.2.2.1.map u64V), .int .i64 x.2.2.2.1, .int .i64 x.2.2.2.2]] ∧ i ≤ X.length ∧ ∀ j < i, (X.getD j default).1 < x.1) (n := X.length) ⟨0, rfl, rfl, rfl, by omega, fun j hj => by omega⟩ (by first | omega | (simp only [go_sem, push_cast] <;> omega)) ?_ ?_ ?_
  · simp (disch := first | (simp only [go_sem] <;> omega) | fail) only [go_sem, x_eLeS, x_hLeS, Int.natCast_zero, Int.natCast_add, Int.natCast_one]
  · exact hLe_app hw (by first | omega | (simp only [go_sem, push_cast] <;> omega)) (by simp (disch := first | (simp only [go_sem] <;> omega) | fail) only [go_sem, x_eLeS, x_hLeS, Int.natCast_zero, Int.natCast_add, Int.natCast_one])
  · rintro J hJ m e' H' ⟨i, rfl, rfl, rfl, hi1, hn⟩
    by_cases h : (i : Int) < X.length
    · by_cases hp : x.1 ≤ (X.getD i default).1
      · have hge : x.1 ≤ (X.getD (X.length - 1) default).1 := by
          by_cases hi : i = X.length - 1
          · rw [← hi]; exact hp
          · have := asc_lt ha (i := i) (j := X.length - 1) (by omega) (by omega)
            omega
        rw [if_pos ⟨by omega, hge⟩] at hK
        simp (disch := first | omega | (simp only [go_sem, push_cast, and_true] <;> omega) | fail) only [go_sem, hp, decide_true]
        exact fin_nil hw (by decide) hK rfl rfl
      · simp (disch := first | omega | (simp only [go_sem, push_cast, and_true] <;> omega) | fail) only [go_sem, hp, decide_false]
        refine round_end (hJ _ _ _ ⟨i + 1, rfl, rfl, rfl, by omega, fun j hj => ?_⟩) (by omega) (by first | omega | (simp only [go_sem, push_cast] <;> omega)) ?_ ?_
        · rcases Nat.lt_succ_iff_lt_or_eq.1 hj with k | rfl
          · exact hn j k
          · omega
        · simp (disch := first | (simp only [go_sem] <;> omega) | fail) only [go_sem, x_eLeS, x_hLeS, Int.natCast_zero, Int.natCast_add, Int.natCast_one]
        · exact hLe_app hw (by first | omega | (simp only [go_sem, push_cast] <;> omega)) (by simp (disch := first | (simp only [go_sem] <;> omega) | fail) only [go_sem, x_eLeS, x_hLeS, Int.natCast_zero, Int.natCast_add, Int.natCast_one])
    · have hi : i = X.length := by omega
      subst hi
      rw [if_neg (fun h => by have := hn (X.length - 1) (by omega); omega)] at hK
      by_cases h6 : X.length = 100
      · rw [if_pos h6] at hK
        simp (disch := first | omega | (simp only [go_sem, push_cast, and_true] <;> omega) | fail) only [go_sem]
        exact fin_nil hw (by decide) hK rfl rfl
      · rw [if_neg h6] at hK
        have h100 := (chk_iff.1 hc).1
        simp (disch := first | omega | (simp only [go_sem, push_cast, and_true] <;> omega) | fail) only [go_sem]
        refine r_With (X := X) (x := x) (by omega) _ ?_
        have hwl : withR X x = X ++ [x] := with_last fun y hy => by
          obtain ⟨j, hj, rfl⟩ := List.mem_iff_getElem.1 hy
          have := hn j hj
          simpa [hj] using this
        rw [hwl]
        simp (disch := first | omega | (simp only [go_sem, push_cast, and_true] <;> omega) | fail) only [go_sem]
        refine fin_tmp hw ?_ (fin_eq hK ?_)
        · simp (disch := first | omega | (simp only [go_sem, push_cast, and_true] <;> omega) | fail) only [go_sem]
        · simp (disch := first | omega | (simp only [go_sem, push_cast, and_true] <;> omega) | fail) only [go_sem]
theorem r_Again {X : List Ot} {x : Ot} {now : Int} {H : List Entry} (hX : osB X) (hx : otB x) : Pure AP n_trystref15_Again [.sl 5 (X.map otV), otV x, .int .i64 now] H (.tup [.sl 5 ((againO X x now).1.map otV), .int .i64 (againO X x now).2]) := by
  intro K hK
  refine a_trystref15_Again fun hw => ?_
  have hl : X.length ≤ 101 := hX.1
  unfold againO at hK
  simp (disch := first | omega | (simp only [go_sem, push_cast, and_true] <;> omega) | fail) only [go_sem, c_trystref15_Again]
  refine r_MayO hX _ ?_
  by_cases hc : chkO X = true
  rotate_left
  · rw [if_neg (fun h => hc h.1)] at hK
    have hc' : chkO X = false := by simpa using hc
    simp (disch := first | omega | (simp only [go_sem, push_cast, and_true] <;> omega) | fail) only [go_sem, hc', Bool.not_false]
    exact fin_nil hw (by decide) hK rfl rfl
  simp (disch := first | omega | (simp only [go_sem, push_cast, and_true] <;> omega) | fail) only [go_sem, hc, Bool.not_true]
  refine r_Own hx _ ?_
  cases ho : ownB x
  · rw [if_neg (fun h => by rw [ho] at h; cases h.2.2)] at hK
    simp (disch := first | omega | (simp only [go_sem, push_cast, and_true] <;> omega) | fail) only [go_sem, Bool.not_false]
    exact fin_nil hw (by decide) hK rfl rfl
  by_cases h0 : now < 0
  · rw [if_neg (fun h => by have := h.2.1; simp [timeB] at this; omega)] at hK
    simp (disch := first | omega | (simp only [go_sem, push_cast, and_true] <;> omega) | fail) only [go_sem, Bool.not_true, h0, decide_true]
    exact fin_nil hw (by decide) hK rfl rfl
  by_cases h1 : 1099511627775 < now
  · rw [if_neg (fun h => by have := h.2.1; simp [timeB] at this; omega)] at hK
    simp (disch := first | omega | (simp only [go_sem, push_cast, and_true] <;> omega) | fail) only [go_sem, Bool.not_true, h0, h1, decide_true, decide_false]
    exact fin_nil hw (by decide) hK rfl rfl
  rw [if_pos ⟨hc, by simp [timeB]; omega, ho⟩] at hK
  simp (disch := first | omega | (simp only [go_sem, push_cast, and_true] <;> omega) | fail) only [go_sem, Bool.not_true, h0, h1, decide_false]
  refine r_Find (by omega) _ ?_
  have hb := idx_bounds (isI x.1) X
  by_cases h5 : 0 ≤ idx (isI x.1) X
  · rw [if_pos h5] at hK
    simp (disch := first | omega | (simp only [go_sem, push_cast, and_true] <;> omega) | fail) only [go_sem]
    exact fin_nil hw (by decide) hK rfl rfl
  rw [if_neg h5] at hK
  have h100 := (chk_iff.1 hc).1
  by_cases h6 : X.length = 100
  · rw [if_pos h6] at hK
    simp (disch := first | omega | (simp only [go_sem, push_cast, and_true] <;> omega) | fail) only [go_sem]
    exact fin_nil hw (by decide) hK rfl rfl
  rw [if_neg h6, with_new (chk_iff.1 hc).2.2 (by simp only [tryO]; rw [← Bool.not_eq_true, has_iff]; exact h5)] at hK
  simp (disch := first | omega | (simp only [go_sem, push_cast, and_true] <;> omega) | fail) only [go_sem]
  refine r_With (X := X) (x := tryO x now) (by omega) _ ?_
  simp (disch := first | omega | (simp only [go_sem, push_cast, and_true] <;> omega) | fail) only [go_sem]
  refine fin_tmp hw ?_ (fin_eq hK ?_)
  · simp (disch := first | omega | (simp only [go_sem, push_cast, and_true] <;> omega) | fail) only [go_sem]
  · simp (disch := first | omega | (simp only [go_sem, push_cast, and_true] <;> omega) | fail) only [go_sem]
end Go.Av
