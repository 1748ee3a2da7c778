/- A part of a way to reckon what a Go program does without its memory (T5). -/
import Derived.Test.YtoicgilcdlakkaaT4
import Derived.Test.YtoicgilcdlakkaaP3
namespace Go.Av
open Go
set_option autoImplicit false
set_option linter.all false
theorem next_ids {X : List Ot} {now : Int} (hX : osB X) : (nextO X now).1.2.2.1.length ≤ 1000000 := by
  have h1 := osB_ids hX
  unfold nextO
  split
  · cases hb : bestO X with
    | none => simp [z0]
    | some x =>
      simp only
      split
      · simp [z0]
      · exact h1 _ (bestO_mem hb)
  · simp [z0]
theorem del_ids {X : List Ot} {p : Nat} (h : idsOk X) : idsOk (delO X p) := fun y hy => by
  rcases List.mem_append.1 hy with hy | hy
  · exact h y (List.mem_of_mem_take hy)
  · exact h y (List.mem_of_mem_drop hy)
theorem ack_ids {X : List Ot} {n : Int} (hX : osB X) : idsOk (ackO X n).1 ∧ (ackO X n).1.length ≤ 200 := by
  have h1 := osB_ids hX
  have h2 := hX.1
  unfold ackO
  split
  · exact ⟨del_ids h1, by simp [delO]; omega⟩
  · exact ⟨fun y hy => by simp at hy, by simp⟩
theorem nack_ids {X : List Ot} {n now : Int} (hX : osB X) : idsOk (nackO X n now).1 ∧ (nackO X n now).1.length ≤ 200 := by
  have h1 := osB_ids hX
  have h2 := hX.1
  unfold nackO
  split
  · split
    · rename_i hf
      obtain ⟨hc, p, hp, hlt, _, _⟩ := find_ok hf
      rw [hp, Int.toNat_natCast]
      split
      · exact ⟨del_ids h1, by simp [delO]; omega⟩
      · refine ⟨fun y hy => ?_, by simp; omega⟩
        rcases List.mem_or_eq_of_mem_set hy with hy | rfl
        · exact h1 y hy
        · have := h1 _ (getD_mem (X := X) (i := p) hlt)
          simpa [nackX] using this
    · exact ⟨fun y hy => by simp at hy, by simp⟩
  · exact ⟨fun y hy => by simp at hy, by simp⟩
set_option maxRecDepth 100000 in
theorem law_takes {X : List Ot} {n now : Int} {H : List Entry} (hX : X.length ≤ 9223372036854775807) (hx : ∀ x ∈ X, otA x) : Pure AP n_trystlaw15_OutboxTakes [.sl 5 (X.map otV), .int .u64 n, .int .i64 now] H (.bool true) := by
  intro K hK
  refine a_trystlaw15_OutboxTakes fun hw => ?_
  simp (disch := first | omega | (simp only [go_sem, push_cast, and_true] <;> omega) | fail) only [go_sem, c_trystlaw15_OutboxTakes]
  refine s_FewO hX (fun x h => (hx x h).1) _ ?_
  have hY := few_osB hx
  have hid := few_idem X
  have hok : ∀ y ∈ fewO X, otOk y := fun y hy => by
    have := hY.2 y hy
    exact ⟨by have := this.1; omega, by have := this.2.1; omega⟩
  generalize fewO X = Y at *
  have hl := hY.1
  have iY := osB_ids hY
  have in1 := next_ids (now := now) hY
  obtain ⟨ia, la⟩ := ack_ids (n := n) hY
  obtain ⟨ig, lg⟩ := nack_ids (n := n) (now := now) hY
  simp (disch := first | omega | (simp only [go_sem, push_cast, and_true] <;> omega) | fail) only [go_sem]
  refine s_FewO (by omega) hok _ ?_
  rw [hid]
  simp (disch := first | omega | (simp only [go_sem, push_cast, and_true] <;> omega) | fail) only [go_sem]
  refine s_Next hY _ ?_
  simp (disch := first | omega | (simp only [go_sem, push_cast, and_true] <;> omega) | fail) only [go_sem]
  refine r_Next hY _ ?_
  simp (disch := first | omega | (simp only [go_sem, push_cast, and_true] <;> omega) | fail) only [go_sem]
  refine s_Ack hY _ ?_
  simp (disch := first | omega | (simp only [go_sem, push_cast, and_true] <;> omega) | fail) only [go_sem]
  refine r_AckO hY _ ?_
  simp (disch := first | omega | (simp only [go_sem, push_cast, and_true] <;> omega) | fail) only [go_sem]
  refine s_Nack hY _ ?_
  simp (disch := first | omega | (simp only [go_sem, push_cast, and_true] <;> omega) | fail) only [go_sem]
  refine r_Nack hY _ ?_
  simp (disch := first | omega | (simp only [go_sem, push_cast, and_true] <;> omega) | fail) only [go_sem]
  refine r_SameOne (x := (nextO Y now).1) (y := (nextO Y now).1) in1 in1 _ ?_
  rw [sameO_eq rfl]
  simp (disch := first | omega | (simp only [go_sem, push_cast, and_true] <;> omega) | fail) only [go_sem, decide_true]
  refine r_Same (by omega) (by omega) ia ia _ ?_
  rw [sameL_eq rfl]
  simp (disch := first | omega | (simp only [go_sem, push_cast, and_true] <;> omega) | fail) only [go_sem, decide_true]
  refine r_Same (by omega) (by omega) ig ig _ ?_
  rw [sameL_eq rfl]
  simp (disch := first | omega | (simp only [go_sem, push_cast, and_true] <;> omega) | fail) only [go_sem, decide_true, beq_self_eq_true]
  refine r_Same (by omega) (by omega) iY iY _ ?_
  rw [sameL_eq rfl]
  simp (disch := first | omega | (simp only [go_sem, push_cast, and_true] <;> omega) | fail) only [go_sem]
  refine awake_ok _ _ ?_
  simp (disch := first | omega | (simp only [go_sem, push_cast, and_true] <;> omega) | fail) only [go_sem]
  refine fin_tmp hw ?_ (fin_eq hK ?_)
  · simp (disch := first | omega | (simp only [go_sem, push_cast, and_true] <;> omega) | fail) only [go_sem]
  · simp (disch := first | omega | (simp only [go_sem, push_cast, and_true] <;> omega) | fail) only [go_sem]
theorem chk_one {x : Ot} (h : ownB x = true) : chkO [x] = true := chk_iff.2 ⟨by simp, by simpa using h, by simp [Asc]⟩
theorem chk_nil : chkO [] = true := chk_iff.2 ⟨by simp, by simp, by simp [Asc]⟩
theorem own_like {x : Ot} {t d : Int} (h : ownB x = true) (h0 : 0 ≤ t) (h1 : t < 5) (hd : timeB d = true) : ownB (x.1, x.2.1, x.2.2.1, t, d) = true := by
  unfold ownB at h ⊢
  simp only [Bool.and_eq_true, decide_eq_true_eq] at h ⊢
  exact ⟨h.1, h.2.1, h.2.2.1, h.2.2.2.1, h0, h1, hd⟩
theorem find_one {x : Ot} (h : ownB x = true) : findO [x] x.1 = (0, 0) := by
  have e : idx (isI x.1) [x] = ((0 : Nat) : Int) := idx_some (by simp) (by simp [isI]) fun j hj => by omega
  unfold findO
  rw [if_pos (chk_one h), e]
  simp
set_option maxRecDepth 100000 in
theorem law_waits {s : List UInt8} {L : List Int} {n : Int} {H : List Entry} (hs : s.length ≤ 9223372036854775807) (hL : L.length ≤ 9223372036854775807) (hn : 0 ≤ n ∧ n ≤ 4294967295) : Pure AP n_trystlaw15_OutboxWaits [.str s, .sl 1 (L.map u64V), .int .u32 n] H (.bool true) := by
  intro K hK
  refine a_trystlaw15_OutboxWaits fun hw => ?_
  simp (disch := first | omega | (simp only [go_sem, push_cast, and_true] <;> omega) | fail) only [go_sem, c_trystlaw15_OutboxWaits]
  refine bcall_less (b := [otV (1, s, L, 0, 0)]) (s_One (x := (1, s, L, 0, 0)) ⟨hs, hL⟩ _ ?_) (by repeat' (first | exact .nil _ | exact .slx _ _ | exact .refl _ | exact .nil | refine .cons ?_ ?_ | refine .agg ?_ | refine .tup ?_))
  have hz : otB (oneO (1, s, L, 0, 0)) := one_B ⟨⟨hs, hL⟩, by omega, by simp⟩
  have hz1 : (oneO (1, s, L, 0, 0)).1 = 1 := rfl
  have hz2 : (oneO (1, s, L, 0, 0)).2.2.2.1 = 0 := rfl
  have hz3 : (oneO (1, s, L, 0, 0)).2.2.2.2 = 0 := rfl
  generalize oneO (1, s, L, 0, 0) = z at *
  simp (disch := first | omega | (simp only [go_sem, push_cast, and_true] <;> omega) | fail) only [go_sem]
  have hA := s_Add (X := []) (x := z) (H := H) ⟨by simp, by simp⟩ hz
  refine bcall_less (b := [.sl 5 (([] : List Ot).map otV), otV z]) (hA _ ?_) (by
    refine .cons ?_ ?_
    · exact .nil _
    · refine .cons ?_ .nil
      exact .refl _)
  cases ho : ownB z
  · have ha : addO [] z = ([], 1) := by unfold addO; rw [if_neg (fun h => by rw [ho] at h; cases h.2)]
    rw [ha]
    simp (disch := first | omega | (simp only [go_sem, push_cast, and_true] <;> omega) | fail) only [go_sem, List.map_nil, List.length_nil, Int.natCast_zero, decide_true, decide_false, Bool.not_false]
    refine awake_ok _ _ ?_
    simp (disch := first | omega | (simp only [go_sem, push_cast, and_true] <;> omega) | fail) only [go_sem]
    refine fin_tmp0 hw ?_ (fin_eq hK ?_)
    · simp (disch := first | omega | (simp only [go_sem, push_cast, and_true] <;> omega) | fail) only [go_sem]
    · simp (disch := first | omega | (simp only [go_sem, push_cast, and_true] <;> omega) | fail) only [go_sem]
  have ha : addO [] z = ([z], 0) := by
    unfold addO
    rw [if_pos ⟨chk_nil, ho⟩]
    simp
  rw [ha]
  simp (disch := first | omega | (simp only [go_sem, push_cast, and_true] <;> omega) | fail) only [go_sem, decide_true, Bool.not_true]
  refine loop_in (fun m e' H' => ∃ (i : Nat) (a w d : Int), m = 4 - i ∧ e' = slots 0 127 [(7, .sl 5 ([((1, z.2.1, z.2.2.1, (i : Int), d) : Ot)].map otV)), (9, .int .i64 a), (10, .int .i64 w), (11, .int .i64 (i : Int))] ∧ H' = H ∧ timeB d = true ∧ (i = 0 ∧ a = n ∧ w = 2 ∨ i = 1 ∧ a = n + 2 ∧ w = 4 ∨ i = 2 ∧ a = n + 6 ∧ w = 8 ∨ i = 3 ∧ a = n + 14 ∧ w = 16 ∨ i = 4 ∧ a = n + 30 ∧ w = 32)) (n := 4) ⟨0, n, 2, 0, rfl, rfl, rfl, by decide, .inl ⟨rfl, rfl, rfl⟩⟩ (by first | omega | (simp only [go_sem, push_cast] <;> omega)) ?_ hw ?_
  · simp (disch := first | (simp only [go_sem, List.map_cons, List.map_nil, hz1, hz2, hz3] <;> omega) | fail) only [go_sem, x_eLeS, x_hLeS, Int.natCast_zero, Int.natCast_add, Int.natCast_one, List.map_cons, List.map_nil, hz1, hz2, hz3]
  · rintro J hJ m e' H' ⟨i, a, w, d, rfl, rfl, rfl, hd, hi⟩
    have hown : ownB (1, z.2.1, z.2.2.1, (i : Int), d) = true := by
      have := own_like (t := (i : Int)) (d := d) ho (by omega) (by omega) hd
      rwa [hz1] at this
    have hta : timeB a = true := by simp [timeB]; omega
    have hos : osB [((1, z.2.1, z.2.2.1, (i : Int), d) : Ot)] := ⟨by simp, fun x hx => by
      simp at hx
      subst hx
      exact ⟨hz.1, hz.2.1, by omega, by simp⟩⟩
    have hf : findO [((1, z.2.1, z.2.2.1, (i : Int), d) : Ot)] 1 = (0, 0) := find_one hown
    by_cases h4 : i = 4
    · have hk : nackO [((1, z.2.1, z.2.2.1, (i : Int), d) : Ot)] 1 a = ([], true, 0) := by
        unfold nackO
        rw [if_pos hta, hf]
        simp [h4, delO]
      have h4' : ¬ (i : Int) < 4 := by omega
      simp (disch := first | omega | (simp only [go_sem, push_cast, and_true] <;> omega) | fail) only [go_sem, h4']
      refine s_Nack hos _ ?_
      rw [hk]
      simp (disch := first | omega | (simp only [go_sem, push_cast, and_true] <;> omega) | fail) only [go_sem, List.map_nil, List.length_nil, Int.natCast_zero, decide_true]
      refine awake_ok _ _ ?_
      simp (disch := first | omega | (simp only [go_sem, push_cast, and_true] <;> omega) | fail) only [go_sem]
      refine fin_tmp0 hw ?_ (fin_eq hK ?_)
      · simp (disch := first | omega | (simp only [go_sem, push_cast, and_true] <;> omega) | fail) only [go_sem]
      · simp (disch := first | omega | (simp only [go_sem, push_cast, and_true] <;> omega) | fail) only [go_sem]
    · have hw2 : waitZ ((i : Int) + 1) = w := by
        rcases hi with ⟨rfl, _, rfl⟩ | ⟨rfl, _, rfl⟩ | ⟨rfl, _, rfl⟩ | ⟨rfl, _, rfl⟩ | ⟨h, _⟩
        · decide
        · decide
        · decide
        · decide
        · exact absurd h h4
      have hk : nackO [((1, z.2.1, z.2.2.1, (i : Int), d) : Ot)] 1 a = ([(1, z.2.1, z.2.2.1, (i : Int) + 1, a + w)], false, 0) := by
        unfold nackO
        rw [if_pos hta, hf]
        have h5 : ¬ (i : Int) + 1 = 5 := by omega
        have h6 : ¬ 1099511627775 < a + w := by omega
        simp [h5, nackX, hw2, h6]
      have hd2 : timeB (a + w) = true := by simp [timeB]; omega
      have hown2 : ownB (1, z.2.1, z.2.2.1, (i : Int) + 1, a + w) = true := by
        have := own_like (t := (i : Int) + 1) (d := a + w) ho (by omega) (by omega) hd2
        rwa [hz1] at this
      have hos2 : osB [((1, z.2.1, z.2.2.1, (i : Int) + 1, a + w) : Ot)] := ⟨by simp, fun x hx => by
        simp at hx
        subst hx
        exact ⟨hz.1, hz.2.1, by omega, by simp⟩⟩
      have hx1 : nextO [((1, z.2.1, z.2.2.1, (i : Int) + 1, a + w) : Ot)] (a + w - 1) = (z0, 4) := by
        unfold nextO
        rw [if_pos (chk_one hown2)]
        simp only [bestO]
        rw [if_pos (by omega)]
      have hx2 : nextO [((1, z.2.1, z.2.2.1, (i : Int) + 1, a + w) : Ot)] (a + w) = ((1, z.2.1, z.2.2.1, (i : Int) + 1, a + w), 0) := by
        unfold nextO
        rw [if_pos (chk_one hown2)]
        simp only [bestO]
        rw [if_neg (by omega)]
      have h4' : (i : Int) < 4 := by omega
      have hi2 : i + 1 = 0 ∧ a + w = n ∧ 2 * w = 2 ∨ i + 1 = 1 ∧ a + w = n + 2 ∧ 2 * w = 4 ∨ i + 1 = 2 ∧ a + w = n + 6 ∧ 2 * w = 8 ∨ i + 1 = 3 ∧ a + w = n + 14 ∧ 2 * w = 16 ∨ i + 1 = 4 ∧ a + w = n + 30 ∧ 2 * w = 32 := by
        rcases hi with ⟨rfl, rfl, rfl⟩ | ⟨rfl, rfl, rfl⟩ | ⟨rfl, rfl, rfl⟩ | ⟨rfl, rfl, rfl⟩ | ⟨h, _⟩
        · exact .inr (.inl ⟨rfl, rfl, rfl⟩)
        · exact .inr (.inr (.inl ⟨rfl, by omega, rfl⟩))
        · exact .inr (.inr (.inr (.inl ⟨rfl, by omega, rfl⟩)))
        · exact .inr (.inr (.inr (.inr ⟨rfl, by omega, rfl⟩)))
        · exact absurd h h4
      have hnx := hJ (4 - (i + 1)) _ _ ⟨i + 1, a + w, 2 * w, a + w, rfl, rfl, rfl, hd2, hi2⟩
      have hlt : 4 - (i + 1) < 4 - i := by omega
      have hwb : 2 ≤ w ∧ w ≤ 16 := by omega
      have hab : 0 ≤ a ∧ a ≤ 5000000000 := by omega
      have hib : i ≤ 4 := by omega
      clear hJ hi2
      simp (disch := first | omega | (simp only [go_sem, push_cast, and_true] <;> omega) | fail) only [go_sem, h4']
      refine s_Nack hos _ ?_
      rw [hk]
      simp (disch := first | omega | (simp only [go_sem, push_cast, and_true] <;> omega) | fail) only [go_sem]
      refine s_Next hos2 _ ?_
      rw [hx1]
      simp (disch := first | omega | (simp only [go_sem, push_cast, and_true] <;> omega) | fail) only [go_sem]
      refine s_Next hos2 _ ?_
      rw [hx2]
      simp (disch := first | omega | (simp only [go_sem, push_cast, and_true] <;> omega) | fail) only [go_sem, decide_true, decide_false, Bool.not_true, Bool.not_false]
      refine round_end hnx hlt (by first | omega | (simp only [go_sem, push_cast] <;> omega)) ?_ (hLe_drop hw)
      clear hi
      simp (disch := first | (simp only [go_sem] <;> omega) | fail) only [go_sem, x_eLeS, x_hLeS, Int.natCast_zero, Int.natCast_add, Int.natCast_one]
end Go.Av
