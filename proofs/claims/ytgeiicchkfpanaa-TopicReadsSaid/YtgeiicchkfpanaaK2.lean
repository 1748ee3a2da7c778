/- A part of a way to reckon what a Go program does without its memory (K2). -/
import Derived.Test.YtgeiicchkfpanaaK1
namespace Go.Av
open Go Go.RowKit
set_option autoImplicit false
set_option linter.all false
theorem textR_most {most : Int} {r : Rs} (h : (textR most r).2.2 = 0) (h0 : 0 ≤ most) : ((textR most r).1.length : Int) ≤ most := by
  unfold textR at h ⊢
  simp only at h ⊢
  by_cases hz : (sizeR most r).2.2 = 0
  · have hn : (sizeR most r).1 ≤ most := by
      by_cases hk : most < (sizeR most r).1
      · have := sizeR_err most r
        unfold sizeR at hk hz ⊢
        by_cases h1 : most < (numR r).1
        · rw [if_pos h1] at hz
          cases hz
        · rw [if_neg h1]
          omega
      · omega
    rw [if_pos hz] at h ⊢
    by_cases hl : ((sizeR most r).2.1.length : Int) < (sizeR most r).1
    · rw [if_pos hl] at h
      cases h
    · rw [if_neg hl]
      simp only [List.length_take]
      have := sizeR_pos most r
      omega
  · rw [if_neg hz]
    simp
    exact h0
theorem tkV_60 (s : List UInt8) : (tkV s).1.2.2.length ≤ 60 := by
  unfold tkV
  split
  · simp [v0]
  · split
    · simp [v0]
    · split
      · simp [v0]
      · split
        · simp
        · unfold tkT
          split
          · simp
          · split
            · simp
            · have := unp_bd (s.drop 1)
              have := unp_le (s.drop 1)
              simp only [List.length_drop, List.length_take]
              omega
/-- What is left is the text behind a place. -/
def Suf (s : List UInt8) (l : List UInt8) : Prop := l.length ≤ s.length ∧ l = s.drop (s.length - l.length)
theorem suf_self (s : List UInt8) : Suf s s := ⟨Nat.le_refl _, by simp⟩
theorem suf_drop {s l : List UInt8} (h : Suf s l) (k : Nat) : Suf s (l.drop k) := by
  obtain ⟨h1, h2⟩ := h
  refine ⟨by simp; omega, ?_⟩
  rw [List.length_drop]
  by_cases hk : k ≤ l.length
  · conv => lhs; rw [h2]
    rw [List.drop_drop]
    congr 1
    omega
  · rw [List.drop_eq_nil_of_le (by omega), List.drop_eq_nil_of_le (by omega)]
theorem suf_num {s : List UInt8} {r : Rs} (h : Suf s r.1) : Suf s (numR r).2.1 := by
  unfold numR
  split
  · exact suf_drop h _
  · exact h
theorem suf_size {s : List UInt8} {most : Int} {r : Rs} (h : Suf s r.1) : Suf s (sizeR most r).2.1 := by
  have := suf_num h
  unfold sizeR
  split <;> exact this
theorem suf_text {s : List UInt8} {most : Int} {r : Rs} (h : Suf s r.1) : Suf s (textR most r).2.1 := by
  have := suf_size (most := most) h
  unfold textR
  simp only
  split
  · split
    · exact this
    · exact suf_drop this _
  · exact this
theorem suf_val {s : List UInt8} {r : Rs} (h : Suf s r.1) : Suf s (valR r).2.1 := by
  unfold valR
  split
  · exact suf_drop h _
  · exact h
theorem word_suf {s l : List UInt8} {most : Int} (h : Suf s l) : wordR s ((s.length : Int) - l.length) most = if (textR most (l, 0)).2.2 = 0 then ((textR most (l, 0)).1, (s.length : Int) - (textR most (l, 0)).2.1.length, 0) else ([], 0, (textR most (l, 0)).2.2) := by
  obtain ⟨h1, h2⟩ := h
  have e : ((s.length : Int) - l.length).toNat = s.length - l.length := by omega
  unfold wordR
  rw [e, ← h2]
theorem r_wordS {s l : List UInt8} {most : Int} {H : List Entry} (hs : s.length ≤ 900) (h : Suf s l) (hm : 0 ≤ most ∧ most ≤ 1000) : Pure AP n_trystref04_word [.str s, .int .i64 ((s.length : Int) - l.length), .int .i64 most] H (if (textR most (l, 0)).2.2 = 0 then .tup [.str (textR most (l, 0)).1, .int .i64 ((s.length : Int) - (textR most (l, 0)).2.1.length), .int .i64 0] else .tup [.str [], .int .i64 0, .int .i64 (textR most (l, 0)).2.2]) := by
  intro K hK
  have := h.1
  refine r_word hs (by omega) hm K ?_
  rw [word_suf h]
  by_cases h0 : (textR most (l, 0)).2.2 = 0
  · rw [if_pos h0] at hK ⊢
    exact hK
  · rw [if_neg h0] at hK ⊢
    exact hK
theorem takE_err {s : List UInt8} {e : Int} (he : e ≠ 0) (h : (evR (s, 0)).2.2 = e) : takE s = (z0, 0, e) := by
  unfold takE
  simp only
  rw [if_neg (by rw [h]; exact he), h]
theorem takE_ok {s l : List UInt8} {e : Ev} (h : evR (s, 0) = (e, (l, 0))) : takE s = if mayE e = true ∧ (s.length : Int) - l.length ≤ 800 then (e, (s.length : Int) - l.length, 0) else (z0, 0, 2) := by
  unfold takE
  simp only
  rw [h, if_pos rfl]
theorem wk_frzT {n0 : Nat} {f : K1} {e : List V} {H t : List Entry} {cs : List V} (i : Nat) (ht : t[i]? = some (.box cs)) (hk : (fzsW (fz 8) (H ++ t) cs).2[H.length + i]? = some (.box cs))
    (h : WkP n0 f e ((fzsW (fz 8) (H ++ t) cs).2.set (H.length + i) (.box (fzsW (fz 8) (H ++ t) cs).1))) : WkP n0 f e (H ++ t) :=
  wk_wk (.frzB (H.length + i) (by rw [List.getElem?_append_right (Nat.le_add_right _ _)]; simpa using ht) hk) h
set_option maxHeartbeats 2000000 in
set_option maxRecDepth 100000 in
theorem r_TakeE {s : List UInt8} {H : List Entry} (hs : s.length ≤ 900) : Pure AP n_trystref04_Take [.str s] H (.tup [evV (takE s).1, .int .i64 (takE s).2.1, .int .i64 (takE s).2.2]) := by
  intro K hK
  refine k_trystref04_Take.callw [1, 1, 1, 1, 1, 1, 1, 1, 1, 1, 1, 1, 1, 1, 0] rfl fun hw => ?_
  have fail : ∀ {e : Int} {G : List Entry}, e ≠ 0 → (evR (s, 0)).2.2 = e → endW H.length [.agg [.str [], .str [], .int .u64 0, .nilsl], .int .i64 0, .int .i64 e] K (H ++ G) := fun {e G} he h => by
    rw [takE_err he h] at hK
    refine end_less [.agg [.str [], .str [], .int .u64 0, .sl 4 []], .int .i64 0, .int .i64 e] (by repeat' (first | exact .nil _ | exact .slx _ _ | exact .refl _ | exact .nil | refine .cons ?_ ?_ | refine .agg ?_ | refine .tup ?_)) ?_
    refine fin_res hw ?_ (fin_eq hK ?_)
    · simp (disch := first | omega | (simp only [go_sem, push_cast, and_true] <;> omega) | fail) only [go_sem]
    · simp [oneV, evV, z0]
  have hs0 : Suf s s := suf_self s
  have hz0 : (s.length : Int) - (s.length : Int) = 0 := by omega
  have hw1 := fun (H : List Entry) => r_wordS (most := 40) (H := H) hs hs0 (by omega)
  rw [hz0] at hw1
  simp (disch := first | omega | (simp only [go_sem, push_cast, and_true] <;> omega) | fail) only [go_sem, c_trystref04_Take]
  refine hw1 _ _ ?_
  have sa := suf_text (most := 40) (r := (s, 0)) hs0
  have ma := textR_most (most := 40) (r := (s, 0))
  have hev : evR (s, 0) = (fun (a : List UInt8 × Rs) => (fun (b : List UInt8 × Rs) => (fun (c : Int × Rs) => (fun (d : Int × Rs) => (((a.1, b.1, c.1, (fdsR d.1.toNat d.2).1), (fdsR d.1.toNat d.2).2) : Ev × Rs)) (sizeR 8 c.2)) (numR b.2)) (textR 16 a.2)) (textR 40 (s, 0)) := rfl
  generalize hA : textR 40 (s, 0) = a at *
  obtain ⟨t, al, ae⟩ := a
  simp only at sa ma hev
  by_cases h1 : ae = 0
  rotate_left
  · have he : (evR (s, 0)).2.2 = ae := by
      rw [hev]
      simp only
      have e1 := st_text (most := 16) (by omega) (al, ae) h1
      have e2 := st_num (textR 16 (al, ae)).2 (by rw [e1]; exact h1)
      have e3 := st_size (most := 8) (by omega) (numR (textR 16 (al, ae)).2).2 (by rw [e2, e1]; exact h1)
      rw [st_fds _ _ (by rw [e3, e2, e1]; exact h1), e3, e2, e1]
    simp (disch := first | omega | (simp only [go_sem, push_cast, and_true] <;> omega) | fail) only [go_sem, if_neg h1, h1, decide_false, Bool.not_false]
    exact fail h1 he
  subst h1
  simp (disch := first | omega | (simp only [go_sem, push_cast, and_true] <;> omega) | fail) only [go_sem, if_true, decide_true, Bool.not_true]
  refine r_wordS (most := 16) hs sa (by omega) _ ?_
  have sb := suf_text (most := 16) (r := (al, 0)) sa
  have mb := textR_most (most := 16) (r := (al, 0))
  generalize hB : textR 16 (al, 0) = b at *
  obtain ⟨w, bl, be⟩ := b
  simp only at sb mb hev
  by_cases h2 : be = 0
  rotate_left
  · have he : (evR (s, 0)).2.2 = be := by
      rw [hev]
      simp only
      have e2 := st_num (bl, be) h2
      have e3 := st_size (most := 8) (by omega) (numR (bl, be)).2 (by rw [e2]; exact h2)
      rw [st_fds _ _ (by rw [e3, e2]; exact h2), e3, e2]
    simp (disch := first | omega | (simp only [go_sem, push_cast, and_true] <;> omega) | fail) only [go_sem, if_neg h2, h2, decide_false, Bool.not_false]
    exact fail h2 he
  subst h2
  simp (disch := first | omega | (simp only [go_sem, push_cast, and_true] <;> omega) | fail) only [go_sem, if_true, decide_true, Bool.not_true]
  have cutS : ∀ {l : List UInt8}, Suf s l → ((s.length : Int) - l.length).toNat = s.length - l.length ∧ s.drop (s.length - l.length) = l ∧ l.length ≤ s.length := fun {l} h => ⟨by have := h.1; omega, h.2.symm, h.1⟩
  obtain ⟨b1, b2, b3⟩ := cutS sb
  have hslt : s.take s.length = s := List.take_length
  simp (disch := first | omega | (simp only [go_sem, push_cast, and_true] <;> omega) | fail) only [go_sem, b1, b2, hslt]
  refine r_Unpack (s := bl) (by omega) _ ?_
  have hu := unp_le bl
  have hub := unp_bd bl
  have huz := unp_zero (s := bl)
  have hnum : numR (bl, 0) = ((unp bl).1, (bl.drop (unp bl).2.1.toNat, (unp bl).2.2)) := by simp [numR]
  rw [hnum] at hev
  have sc : Suf s (bl.drop (unp bl).2.1.toNat) := suf_drop sb _
  generalize hU : unp bl = u at *
  obtain ⟨n, k, e3⟩ := u
  simp only at hu hub huz hev sc
  obtain ⟨k, rfl⟩ : ∃ k' : Nat, k = (k' : Int) := ⟨k.toNat, by omega⟩
  rw [Int.toNat_natCast] at hev sc
  by_cases h3 : e3 = 0
  rotate_left
  · have he : (evR (s, 0)).2.2 = e3 := by
      rw [hev]
      simp only
      have q3 := st_size (most := 8) (by omega) (bl.drop k, e3) h3
      rw [st_fds _ _ (by rw [q3]; exact h3), q3]
    simp (disch := first | omega | (simp only [go_sem, push_cast, and_true] <;> omega) | fail) only [go_sem, h3, decide_false, Bool.not_false]
    exact fail h3 he
  subst h3
  obtain ⟨c1, c2, c3⟩ := cutS sc
  have hat : (s.length : Int) - bl.length + k = (s.length : Int) - (bl.drop k).length := by rw [List.length_drop]; omega
  simp (disch := first | omega | (simp only [go_sem, push_cast, and_true] <;> omega) | fail) only [go_sem, decide_true, Bool.not_true, hat, c1, c2, hslt]
  generalize hcl : bl.drop k = cl at *
  refine r_Unpack (s := cl) (by omega) _ ?_
  have hv := unp_le cl
  have hvb := unp_bd cl
  have hvz := unp_zero (s := cl)
  have hnum2 : numR (cl, 0) = ((unp cl).1, (cl.drop (unp cl).2.1.toNat, (unp cl).2.2)) := by simp [numR]
  have hsz : sizeR 8 (cl, 0) = if 8 < (unp cl).1 then ((unp cl).1, (cl.drop (unp cl).2.1.toNat, 2)) else ((unp cl).1, (cl.drop (unp cl).2.1.toNat, (unp cl).2.2)) := by unfold sizeR; rw [hnum2]
  rw [hsz] at hev
  have sd : Suf s (cl.drop (unp cl).2.1.toNat) := suf_drop sc _
  generalize hU2 : unp cl = u2 at *
  obtain ⟨m, j, e4⟩ := u2
  simp only at hv hvb hvz hev sd
  obtain ⟨j, rfl⟩ : ∃ k' : Nat, j = (k' : Int) := ⟨j.toNat, by omega⟩
  rw [Int.toNat_natCast] at hev sd
  by_cases h4 : e4 = 0
  rotate_left
  · have hm0 : ¬ 8 < m := by have := hvz h4; omega
    have he : (evR (s, 0)).2.2 = e4 := by
      rw [hev, if_neg hm0]
      simp only
      rw [st_fds _ _ h4]
    simp (disch := first | omega | (simp only [go_sem, push_cast, and_true] <;> omega) | fail) only [go_sem, h4, decide_false, Bool.not_false]
    exact fail h4 he
  subst h4
  by_cases h8 : 8 < m
  · have he : (evR (s, 0)).2.2 = 2 := by
      rw [hev, if_pos h8]
      simp only
      rw [st_fds _ _ (show (2 : Int) ≠ 0 by decide)]
    simp (disch := first | omega | (simp only [go_sem, push_cast, and_true] <;> omega) | fail) only [go_sem, h8, decide_true, Bool.not_true]
    exact fail (by decide) he
  rw [if_neg h8] at hev
  obtain ⟨k0, rfl⟩ : ∃ k' : Nat, m = (k' : Int) := ⟨m.toNat, by omega⟩
  simp only [Int.toNat_natCast] at hev
  have hat2 : (s.length : Int) - cl.length + j = (s.length : Int) - (cl.drop j).length := by rw [List.length_drop]; omega
  generalize hdl : cl.drop j = dl at *
  have hat3' : (s.length : Int) - bl.length + k + j = (s.length : Int) - dl.length := by rw [hat]; exact hat2
  simp (disch := first | omega | (simp only [go_sem, push_cast, and_true] <;> omega) | fail) only [go_sem, h8, decide_true, decide_false, Bool.not_true, hat2, hat3', hat]
  refine loop_adoptB (H := H) (t := [_, _]) 1 3 66 4 rfl rfl ?_
  simp (disch := first | omega | (simp only [go_sem, push_cast, and_true] <;> omega) | fail) only [go_sem]
  refine loop_in (fun mm e' H' => ∃ (i : Nat) (L : List Fd) (l : List UInt8), mm = k0 - i ∧ e' = slots 0 134 [(0, .str s), (2, .ptr H.length 0), (5, .ptr (H.length + 1) 0), (7, .int .i64 ((s.length : Int) - l.length)), (13, .int .u64 (k0 : Int)), (15, .int .i64 (i : Int))] ∧ H' = H ++ [.box [.str [], .str [], .int .u64 0, .nilsl], .box [.str t, .str w, .int .u64 n, .own (H.length + 2) L.length], .row 66 4 (L.map fdV)] ∧ Suf s l ∧ i ≤ k0 ∧ L.length = i ∧ fdsR k0 (dl, 0) = (L ++ (fdsR (k0 - i) (l, 0)).1, (fdsR (k0 - i) (l, 0)).2) ∧ ∀ f ∈ L, f.1.length ≤ 60 ∧ f.2.2.2.length ≤ 70) (n := k0) ⟨0, [], dl, rfl, rfl, rfl, sd, by omega, rfl, by simp, by simp⟩ (by first | omega | (simp only [go_sem, push_cast] <;> omega)) ?_ ?_ ?_
  · simp (disch := first | (simp only [go_sem, List.length_nil] <;> omega) | fail) only [go_sem, x_eLeS, x_hLeS, Int.natCast_zero, Int.natCast_add, Int.natCast_one, List.length_nil]
  · refine hLe_app hw (by simp) ?_
    simp (disch := first | (simp only [go_sem] <;> omega) | fail) only [go_sem, x_eLeS, x_hLeS, Int.natCast_zero, Int.natCast_add, Int.natCast_one]
  · rintro J hJ mm e' H' ⟨i, L, l, rfl, rfl, rfl, sl, hi, hL, hf, hB2⟩
    obtain ⟨d1, d2, d3⟩ := cutS sl
    by_cases hik : (i : Int) < k0
    · obtain ⟨j2, hj2⟩ : ∃ j2, k0 - i = j2 + 1 := ⟨k0 - i - 1, by omega⟩
      have hstep : fdsR (k0 - i) (l, 0) = (((textR 16 (l, 0)).1, (valR (textR 16 (l, 0)).2).1) :: (fdsR j2 (valR (textR 16 (l, 0)).2).2).1, (fdsR j2 (valR (textR 16 (l, 0)).2).2).2) := by rw [hj2]; simp [fdsR]
      rw [hstep] at hf
      have hev2 : (evR (s, 0)).2.2 = (fdsR j2 (valR (textR 16 (l, 0)).2).2).2.2 := by rw [hev]; simp only; rw [hf]
      have hnx := fun (L' : List Fd) (l' : List UInt8) (q1 : Suf s l') (q2 : L'.length = i + 1) (q3 : fdsR k0 (dl, 0) = (L' ++ (fdsR (k0 - (i + 1)) (l', 0)).1, (fdsR (k0 - (i + 1)) (l', 0)).2)) (q4 : ∀ f ∈ L', f.1.length ≤ 60 ∧ f.2.2.2.length ≤ 70) => hJ (k0 - (i + 1)) _ _ ⟨i + 1, L', l', rfl, rfl, rfl, q1, by omega, q2, q3, q4⟩
      clear hJ
      simp (disch := first | omega | (simp only [go_sem, push_cast, and_true] <;> omega) | fail) only [go_sem, hL]
      refine r_wordS (most := 16) hs sl (by omega) _ ?_
      have sx := suf_text (most := 16) (r := (l, 0)) sl
      have mx := textR_most (most := 16) (r := (l, 0))
      generalize hX : textR 16 (l, 0) = x at *
      obtain ⟨x1, xl, xe⟩ := x
      simp only at sx mx hf hev2
      by_cases hx0 : xe = 0
      rotate_left
      · have he : (evR (s, 0)).2.2 = xe := by
          rw [hev2]
          have e1 := st_val (xl, xe) hx0
          rw [st_fds _ _ (by rw [e1]; exact hx0), e1]
        simp (disch := first | omega | (simp only [go_sem, push_cast, and_true] <;> omega) | fail) only [go_sem, if_neg hx0, hx0, decide_false, Bool.not_false]
        exact fail hx0 he
      subst hx0
      obtain ⟨f1, f2, f3⟩ := cutS sx
      simp (disch := first | omega | (simp only [go_sem, push_cast, and_true] <;> omega) | fail) only [go_sem, if_true, decide_true, Bool.not_true, f1, f2, hslt]
      refine r_TakeV (s := xl) (by omega) _ ?_
      have ht := tkV_le xl
      have h60 := tkV_60 xl
      have hval : valR (xl, 0) = ((tkV xl).1, (xl.drop (tkV xl).2.1.toNat, (tkV xl).2.2)) := by simp [valR]
      rw [hval] at hf hev2
      have sy : Suf s (xl.drop (tkV xl).2.1.toNat) := suf_drop sx _
      generalize hY : tkV xl = y at *
      obtain ⟨v, vk, ve⟩ := y
      simp only at ht h60 hf hev2 sy
      obtain ⟨vk, rfl⟩ : ∃ k' : Nat, vk = (k' : Int) := ⟨vk.toNat, by omega⟩
      rw [Int.toNat_natCast] at hf hev2 sy
      by_cases hv0 : ve = 0
      rotate_left
      · have he : (evR (s, 0)).2.2 = ve := by
          rw [hev2, st_fds _ _ hv0]
        simp (disch := first | omega | (simp only [go_sem, push_cast, and_true] <;> omega) | fail) only [go_sem, hv0, decide_false, Bool.not_false]
        exact fail hv0 he
      subst hv0
      have hat3 : (s.length : Int) - xl.length + vk = (s.length : Int) - (xl.drop vk).length := by rw [List.length_drop]; omega
      have e2 : L.map fdV ++ [.agg [.str x1, .bool v.1, .int .i64 v.2.1, .str v.2.2]] = (L ++ [(x1, v)]).map fdV := by simp [fdV]
      have e3 : (L ++ [(x1, v)]).length = i + 1 := by simp [hL]
      have hn2 := hnx (L ++ [(x1, v)]) (xl.drop vk) sy e3 (by rw [hf, show k0 - (i + 1) = j2 by omega]; simp) (fun f hfm => by
        rcases List.mem_append.1 hfm with hfm | hfm
        · exact hB2 f hfm
        · simp at hfm
          subst hfm
          have := mx rfl (by omega)
          exact ⟨by simp only; omega, by simp only; omega⟩)
      rw [e3] at hn2
      clear hnx
      simp (disch := first | omega | (simp only [go_sem, push_cast, and_true] <;> omega) | fail) only [go_sem, decide_true, Bool.not_true, hat3, hL]
      rw [e2]
      refine round_end hn2 (by omega) (by first | omega | (simp only [go_sem, push_cast] <;> omega)) ?_ ?_
      · simp (disch := first | (simp only [go_sem] <;> omega) | fail) only [go_sem, x_eLeS, x_hLeS, Int.natCast_zero, Int.natCast_add, Int.natCast_one]
      · refine hLe_app hw (by simp) ?_
        simp (disch := first | (simp only [go_sem] <;> omega) | fail) only [go_sem, x_eLeS, x_hLeS, Int.natCast_zero, Int.natCast_add, Int.natCast_one]
    · have hi0 : k0 - i = 0 := by omega
      have hf0 : fdsR (k0 - i) (l, 0) = ([], (l, 0)) := by rw [hi0]; rfl
      rw [hf0, List.append_nil] at hf
      rw [hf] at hev
      have hLl : (L.map fdV).length = i := by simp [hL]
      clear hJ
      have hok := takE_ok hev
      have hmy : evC (t, w, n, L) := ⟨by have := ma rfl (by omega); simp only; omega, by have := mb rfl (by omega); simp only; omega, by simp only; omega, hB2⟩
      simp (disch := first | omega | (simp only [go_sem, push_cast, and_true] <;> omega) | fail) only [go_sem, hL]
      refine wk_frzT (H := H) 1 rfl ?_ ?_
      · simp (disch := first | omega | (simp only [go_sem, push_cast, and_true] <;> omega) | fail) only [go_sem, fz, fzsW, fzRow, List.length_map, if_true, hL]
      · simp (disch := first | omega | (simp only [go_sem, push_cast, and_true] <;> omega) | fail) only [go_sem, fz, fzsW, fzRow, List.length_map, if_true, hL]
        refine wk_refl ?_
        simp (disch := first | omega | (simp only [go_sem, push_cast, and_true] <;> omega) | fail) only [go_sem]
        refine r_MayE (e := (t, w, n, L)) hmy _ ?_
        cases hm : mayE (t, w, n, L)
        · rw [hm, if_neg (by simp)] at hok
          rw [hok] at hK
          simp (disch := first | omega | (simp only [go_sem, push_cast, and_true] <;> omega) | fail) only [go_sem]
          refine end_less [.agg [.str [], .str [], .int .u64 0, .sl 4 []], .int .i64 0, .int .i64 2] (by repeat' (first | exact .nil _ | exact .slx _ _ | exact .refl _ | exact .nil | refine .cons ?_ ?_ | refine .agg ?_ | refine .tup ?_)) ?_
          refine fin_res hw ?_ (fin_eq hK ?_)
          · simp (disch := first | omega | (simp only [go_sem, push_cast, and_true] <;> omega) | fail) only [go_sem]
          · simp [oneV, evV, z0]
        · by_cases h800 : (s.length : Int) - l.length ≤ 800
          · rw [hm, if_pos ⟨rfl, h800⟩] at hok
            rw [hok] at hK
            simp (disch := first | omega | (simp only [go_sem, push_cast, and_true] <;> omega) | fail) only [go_sem]
            refine fin_res hw ?_ (fin_eq hK ?_)
            · simp (disch := first | omega | (simp only [go_sem, push_cast, and_true] <;> omega) | fail) only [go_sem]
            · simp [oneV, evV]
          · rw [hm, if_neg (by simp [h800])] at hok
            rw [hok] at hK
            simp (disch := first | omega | (simp only [go_sem, push_cast, and_true] <;> omega) | fail) only [go_sem]
            refine end_less [.agg [.str [], .str [], .int .u64 0, .sl 4 []], .int .i64 0, .int .i64 2] (by repeat' (first | exact .nil _ | exact .slx _ _ | exact .refl _ | exact .nil | refine .cons ?_ ?_ | refine .agg ?_ | refine .tup ?_)) ?_
            refine fin_res hw ?_ (fin_eq hK ?_)
            · simp (disch := first | omega | (simp only [go_sem, push_cast, and_true] <;> omega) | fail) only [go_sem]
            · simp [oneV, evV, z0]
end Go.Av
