/- A part of a way to reckon what a Go program does without its memory (K4). -/
import Derived.Test.YtgeiicchkfpanaaK3
namespace Go.Av
open Go
set_option autoImplicit false
set_option linter.all false
/-! ### Stage 12: the document's Read -/
theorem r_ReadT {X : List Tp} {n : List UInt8} {a : Int} {H : List Entry} (hX : tsB X) (ha : -9223372036854775808 ≤ a ∧ a ≤ 9223372036854775807) : Pure AP n_trystref12_Read [.sl 3 (X.map tpV), .str n, .int .i64 a] H (.tup [evV (readT X n a).1, .int .i64 (readT X n a).2]) := by
  intro K hK
  refine a_trystref12_Read fun hw => ?_
  have hl : X.length ≤ 21 := hX.1
  unfold readT at hK
  simp (disch := first | omega | (simp only [go_sem, push_cast, and_true] <;> omega) | fail) only [go_sem, c_trystref12_Read]
  refine r_MayT hX _ ?_
  by_cases hc : chkT X = true
  rotate_left
  · have hf : findT X n = (0, 1) := by unfold findT; rw [if_neg hc]
    rw [hf, if_neg (by decide)] at hK
    have hc' : chkT X = false := by simpa using hc
    simp (disch := first | omega | (simp only [go_sem, push_cast, and_true] <;> omega) | fail) only [go_sem, hc', Bool.not_false]
    refine end_less [.agg [.str [], .str [], .int .u64 0, .sl 4 []], .int .i64 1] (by repeat' (first | exact .nil _ | exact .slx _ _ | exact .refl _ | exact .nil | refine .cons ?_ ?_ | refine .agg ?_ | refine .tup ?_)) ?_
    refine fin_res hw ?_ (fin_eq hK ?_)
    · simp (disch := first | omega | (simp only [go_sem, push_cast, and_true] <;> omega) | fail) only [go_sem]
    · simp [oneV, evV, z0]
  simp (disch := first | omega | (simp only [go_sem, push_cast, and_true] <;> omega) | fail) only [go_sem, hc, Bool.not_true]
  refine r_FindT (by omega) _ ?_
  by_cases hi : 0 ≤ idx (isNT n) X
  rotate_left
  · have hf : findT X n = (0, 4) := by unfold findT; rw [if_pos hc, if_neg hi]
    rw [hf, if_neg (by decide)] at hK
    simp (disch := first | omega | (simp only [go_sem, push_cast, and_true] <;> omega) | fail) only [go_sem, hi, decide_false, Bool.not_false]
    refine end_less [.agg [.str [], .str [], .int .u64 0, .sl 4 []], .int .i64 4] (by repeat' (first | exact .nil _ | exact .slx _ _ | exact .refl _ | exact .nil | refine .cons ?_ ?_ | refine .agg ?_ | refine .tup ?_)) ?_
    refine fin_res hw ?_ (fin_eq hK ?_)
    · simp (disch := first | omega | (simp only [go_sem, push_cast, and_true] <;> omega) | fail) only [go_sem]
    · simp [oneV, evV, z0]
  have hf : findT X n = (idx (isNT n) X, 0) := by unfold findT; rw [if_pos hc, if_pos hi]
  have hmx : mxZ (idx (isNT n) X) = idx (isNT n) X := by simp [mxZ, hi]
  obtain ⟨_, p, hp, hlt⟩ := findT_ok (X := X) (n := n) (by rw [hf])
  rw [hf] at hp
  simp only at hp
  rw [hf, if_pos rfl] at hK
  simp only [hp, Int.toNat_natCast] at hK
  rw [hmx, hp]
  have hm := getD_mem (X := X) (i := p) hlt
  obtain ⟨b1, b2, b3, b4⟩ := hX.2 _ hm
  obtain ⟨he, hel⟩ := chkT_el hc hm
  generalize hD : X.getD p default = D at *
  by_cases h1 : a < D.2.1
  · rw [if_pos h1] at hK
    simp (disch := first | omega | (simp only [go_sem, push_cast, and_true] <;> omega) | fail) only [go_sem, hD, h1, decide_true, Bool.not_true]
    refine end_less [.agg [.str [], .str [], .int .u64 0, .sl 4 []], .int .i64 8] (by repeat' (first | exact .nil _ | exact .slx _ _ | exact .refl _ | exact .nil | refine .cons ?_ ?_ | refine .agg ?_ | refine .tup ?_)) ?_
    refine fin_res hw ?_ (fin_eq hK ?_)
    · simp (disch := first | omega | (simp only [go_sem, push_cast, and_true] <;> omega) | fail) only [go_sem]
    · simp [oneV, evV, z0]
  rw [if_neg h1] at hK
  simp (disch := first | omega | (simp only [go_sem, push_cast, and_true] <;> omega) | fail) only [go_sem, hD, h1, decide_true, decide_false, Bool.not_true]
  by_cases h2 : D.2.1 + (D.2.2.length : Int) ≤ a
  · rw [if_pos h2] at hK
    simp (disch := first | omega | (simp only [go_sem, push_cast, and_true] <;> omega) | fail) only [go_sem, hD, h2, decide_true]
    refine end_less [.agg [.str [], .str [], .int .u64 0, .sl 4 []], .int .i64 9] (by repeat' (first | exact .nil _ | exact .slx _ _ | exact .refl _ | exact .nil | refine .cons ?_ ?_ | refine .agg ?_ | refine .tup ?_)) ?_
    refine fin_res hw ?_ (fin_eq hK ?_)
    · simp (disch := first | omega | (simp only [go_sem, push_cast, and_true] <;> omega) | fail) only [go_sem]
    · simp [oneV, evV, z0]
  rw [if_neg h2] at hK
  obtain ⟨q, hq, hql⟩ : ∃ q : Nat, a - D.2.1 = (q : Int) ∧ q < D.2.2.length := ⟨(a - D.2.1).toNat, by omega, by omega⟩
  rw [hq, Int.toNat_natCast] at hK
  have hmq := getD_mem (X := D.2.2) (i := q) hql
  have hs := b3 _ hmq
  rw [(hel _ hmq).1] at hK
  simp (disch := first | omega | (simp only [go_sem, push_cast, and_true] <;> omega) | fail) only [go_sem, hD, h2, decide_false, hq]
  refine Pure.pcall (fun H => r_TakeE (s := D.2.2.getD q default) hs) ?_
  simp (disch := first | omega | (simp only [go_sem, push_cast, and_true] <;> omega) | fail) only [go_sem]
  refine fin_res hw ?_ (fin_eq hK ?_)
  · simp (disch := first | omega | (simp only [go_sem, push_cast, and_true] <;> omega) | fail) only [go_sem]
  · simp [oneV, evV]
end Go.Av
namespace Go.Av
open Go
set_option autoImplicit false
set_option linter.all false
/-! ### Stage 12: the document's With -/
noncomputable def befN (n : List UInt8) (x : Tp) : Bool := lessB x.1 n
noncomputable def aftN (n : List UInt8) (x : Tp) : Bool := lessB n x.1
theorem gtB (a b : List UInt8) : (Op.bytesLess a b || decide (a = b)) = !Op.bytesLess b a := by
  cases h : Op.bytesLess b a
  · cases h2 : Op.bytesLess a b
    · by_cases h3 : a = b
      · simp [h3]
      · have := less_tot a b (by rw [show lessB a b = false from h2]; decide) h3
        rw [show lessB b a = false from h] at this
        cases this
    · rfl
  · have h2 : Op.bytesLess a b = false := by
      rw [← Bool.not_eq_true]
      exact less_asym (x := b) (y := a) h
    have h3 : a ≠ b := fun k => less_ne (x := b) (y := a) h k.symm
    rw [h2]
    simp [h3]
noncomputable def withT (X : List Tp) (x : Tp) : List Tp := X.filter (befN x.1) ++ [x] ++ X.filter (aftN x.1)
theorem fil_stepT {X : List Tp} {p : Tp → Bool} {i : Nat} (hi : i < X.length) : (X.take (i + 1)).filter p = (X.take i).filter p ++ (if p (X.getD i default) = true then [X.getD i default] else []) := by
  rw [getD_take hi, List.filter_append, List.filter_cons, List.filter_nil]
theorem r_WithT {X : List Tp} {x : Tp} {H : List Entry} (hX : X.length ≤ 10000) : Pure AP n_trystref12_With [.sl 3 (X.map tpV), tpV x] H (.sl 3 ((withT X x).map tpV)) := by
  intro K hK
  refine a_trystref12_With fun hw => ?_
  simp (disch := first | omega | (simp only [go_sem, push_cast, and_true] <;> omega) | fail) only [go_sem, c_trystref12_With]
  refine loop_adopt 5 45 3 rfl ?_
  have hfl : ∀ (p : Tp → Bool) (i : Nat), ((X.take i).filter p).length ≤ 10000 := fun p i => by
    have := List.length_filter_le p (X.take i)
    rw [List.length_take] at this
    omega
  simp (disch := first | omega | (simp only [go_sem, push_cast, and_true] <;> omega) | fail) only [go_sem]
  refine loop_in (fun m e' H' => ∃ i : Nat, m = X.length - i ∧ e' = slots 0 55 [(0, .sl 3 (X.map tpV)), (3, .ptr H.length 0), (5, .own (H.length + 1) ((X.take i).filter (befN x.1)).length), (6, .int .i64 (i : Int))] ∧ H' = H ++ [.box [.str x.1, .int .i64 x.2.1, .sl 1 (x.2.2.map stV)], .row 45 3 (((X.take i).filter (befN x.1)).map tpV)] ∧ i ≤ X.length) (n := X.length) ⟨0, rfl, rfl, rfl, by omega⟩ (by first | omega | (simp only [go_sem, push_cast] <;> omega)) ?_ ?_ ?_
  · simp (disch := first | (simp only [go_sem, List.take_zero, List.filter_nil, List.length_nil] <;> omega) | fail) only [go_sem, x_eLeS, x_hLeS, Int.natCast_zero, Int.natCast_add, Int.natCast_one, List.take_zero, List.filter_nil, List.length_nil]
  · simp only [List.take_zero, List.filter_nil, List.map_nil]
    exact hLe_app hw (by first | omega | (simp only [go_sem, push_cast] <;> omega)) (by simp (disch := first | (simp only [go_sem] <;> omega) | fail) only [go_sem, x_eLeS, x_hLeS, Int.natCast_zero, Int.natCast_add, Int.natCast_one])
  · rintro J hJ m e' H' ⟨i, rfl, rfl, rfl, hi1⟩
    have hli := hfl (befN x.1) i
    by_cases h : (i : Int) < X.length
    · have hs := fil_stepT (X := X) (p := befN x.1) (i := i) (by omega)
      have hnx := hJ _ _ _ ⟨i + 1, rfl, rfl, rfl, by omega⟩
      rw [hs] at hnx
      by_cases hp : Op.bytesLess (X.getD i default).1 x.1 = true
      · have e1 : ((X.take i).filter (befN x.1)).map tpV ++ [tpV (X.getD i default)] = ((X.take i).filter (befN x.1) ++ [X.getD i default]).map tpV := by simp
        rw [if_pos (by exact hp)] at hnx
        rw [tpV_def] at e1
        simp (disch := first | omega | (simp only [go_sem, push_cast, and_true] <;> omega) | fail) only [go_sem, hp]
        rw [e1]
        refine round_end hnx (by omega) (by first | omega | (simp only [go_sem, push_cast] <;> omega)) ?_ ?_
        · simp (disch := first | (simp only [go_sem, List.length_append, List.length_cons, List.length_nil, Nat.zero_add] <;> omega) | fail) only [go_sem, x_eLeS, x_hLeS, Int.natCast_zero, Int.natCast_add, Int.natCast_one, List.length_append, List.length_cons, List.length_nil, Nat.zero_add]
        · exact hLe_app hw (by first | omega | (simp only [go_sem, push_cast] <;> omega)) (by simp (disch := first | (simp only [go_sem] <;> omega) | fail) only [go_sem, x_eLeS, x_hLeS, Int.natCast_zero, Int.natCast_add, Int.natCast_one])
      · have hp' : Op.bytesLess (X.getD i default).1 x.1 = false := by simpa using hp
        rw [if_neg (by simp only [befN]; rw [show lessB (X.getD i default).1 x.1 = false from hp']; decide), List.append_nil] at hnx
        simp (disch := first | omega | (simp only [go_sem, push_cast, and_true] <;> omega) | fail) only [go_sem, hp']
        refine round_end hnx (by omega) (by first | omega | (simp only [go_sem, push_cast] <;> omega)) ?_ ?_
        · simp (disch := first | (simp only [go_sem] <;> omega) | fail) only [go_sem, x_eLeS, x_hLeS, Int.natCast_zero, Int.natCast_add, Int.natCast_one]
        · exact hLe_app hw (by first | omega | (simp only [go_sem, push_cast] <;> omega)) (by simp (disch := first | (simp only [go_sem] <;> omega) | fail) only [go_sem, x_eLeS, x_hLeS, Int.natCast_zero, Int.natCast_add, Int.natCast_one])
    · have hi : i = X.length := by omega
      subst hi
      rw [List.take_length] at hli ⊢
      generalize hA : X.filter (befN x.1) = A at *
      have e1 : A.map tpV ++ [tpV x] = (A ++ [x]).map tpV := by simp
      rw [tpV_def] at e1
      simp (disch := first | omega | (simp only [go_sem, push_cast, and_true] <;> omega) | fail) only [go_sem]
      rw [e1]
      refine loop_in (fun m e' H' => ∃ i : Nat, m = X.length - i ∧ e' = slots 0 55 [(0, .sl 3 (X.map tpV)), (3, .ptr H.length 0), (5, .own (H.length + 1) (A ++ [x] ++ (X.take i).filter (aftN x.1)).length), (7, .int .i64 (i : Int))] ∧ H' = H ++ [.box [.str x.1, .int .i64 x.2.1, .sl 1 (x.2.2.map stV)], .row 45 3 ((A ++ [x] ++ (X.take i).filter (aftN x.1)).map tpV)] ∧ i ≤ X.length) (n := X.length) ⟨0, rfl, rfl, rfl, by omega⟩ (by first | omega | (simp only [go_sem, push_cast] <;> omega)) ?_ ?_ ?_
      · simp (disch := first | (simp only [go_sem, List.take_zero, List.filter_nil, List.append_nil, List.length_append, List.length_cons, List.length_nil, Nat.zero_add] <;> omega) | fail) only [go_sem, x_eLeS, x_hLeS, Int.natCast_zero, Int.natCast_add, Int.natCast_one, List.take_zero, List.filter_nil, List.append_nil, List.length_append, List.length_cons, List.length_nil, Nat.zero_add]
      · simp only [List.take_zero, List.filter_nil, List.append_nil]
        exact hLe_app hw (by first | omega | (simp only [go_sem, push_cast] <;> omega)) (by simp (disch := first | (simp only [go_sem] <;> omega) | fail) only [go_sem, x_eLeS, x_hLeS, Int.natCast_zero, Int.natCast_add, Int.natCast_one])
      · rintro J hJ m e' H' ⟨i, rfl, rfl, rfl, hi1⟩
        have hlj := hfl (aftN x.1) i
        by_cases h : (i : Int) < X.length
        · have hs := fil_stepT (X := X) (p := aftN x.1) (i := i) (by omega)
          have hnx := hJ _ _ _ ⟨i + 1, rfl, rfl, rfl, by omega⟩
          rw [hs] at hnx
          have hll : (A ++ [x] ++ (X.take i).filter (aftN x.1)).length ≤ 30000 := by simp; omega
          by_cases hp : Op.bytesLess x.1 (X.getD i default).1 = true
          · rw [if_pos (by exact hp), ← List.append_assoc] at hnx
            generalize A ++ [x] ++ (X.take i).filter (aftN x.1) = B at *
            have e2 : B.map tpV ++ [tpV (X.getD i default)] = (B ++ [X.getD i default]).map tpV := by simp
            rw [tpV_def] at e2
            simp (disch := first | omega | (simp only [go_sem, push_cast, and_true] <;> omega) | fail) only [go_sem, gtB, hp, Bool.not_true, Bool.not_false]
            rw [e2]
            refine round_end hnx (by omega) (by first | omega | (simp only [go_sem, push_cast] <;> omega)) ?_ ?_
            · simp (disch := first | (simp only [go_sem, List.length_append, List.length_cons, List.length_nil, Nat.zero_add] <;> omega) | fail) only [go_sem, x_eLeS, x_hLeS, Int.natCast_zero, Int.natCast_add, Int.natCast_one, List.length_append, List.length_cons, List.length_nil, Nat.zero_add]
            · exact hLe_app hw (by first | omega | (simp only [go_sem, push_cast] <;> omega)) (by simp (disch := first | (simp only [go_sem] <;> omega) | fail) only [go_sem, x_eLeS, x_hLeS, Int.natCast_zero, Int.natCast_add, Int.natCast_one])
          · have hp' : Op.bytesLess x.1 (X.getD i default).1 = false := by simpa using hp
            rw [if_neg (by simp only [aftN]; rw [show lessB x.1 (X.getD i default).1 = false from hp']; decide), List.append_nil] at hnx
            generalize A ++ [x] ++ (X.take i).filter (aftN x.1) = B at *
            simp (disch := first | omega | (simp only [go_sem, push_cast, and_true] <;> omega) | fail) only [go_sem, gtB, hp', Bool.not_true, Bool.not_false]
            refine round_end hnx (by omega) (by first | omega | (simp only [go_sem, push_cast] <;> omega)) ?_ ?_
            · simp (disch := first | (simp only [go_sem] <;> omega) | fail) only [go_sem, x_eLeS, x_hLeS, Int.natCast_zero, Int.natCast_add, Int.natCast_one]
            · exact hLe_app hw (by first | omega | (simp only [go_sem, push_cast] <;> omega)) (by simp (disch := first | (simp only [go_sem] <;> omega) | fail) only [go_sem, x_eLeS, x_hLeS, Int.natCast_zero, Int.natCast_add, Int.natCast_one])
        · have hi : i = X.length := by omega
          subst hi
          rw [List.take_length] at hlj ⊢
          have hB : A ++ [x] ++ X.filter (aftN x.1) = withT X x := by rw [withT, hA]
          rw [hB]
          simp (disch := first | omega | (simp only [go_sem, push_cast, and_true] <;> omega) | fail) only [go_sem]
          refine wk_own (H := H) 4 1 rfl rfl rfl (by first | omega | (simp only [go_sem, push_cast] <;> omega)) ?_
          refine fin_tmp hw ?_ (fin_eq hK ?_)
          · simp (disch := first | omega | (simp only [go_sem, push_cast, and_true] <;> omega) | fail) only [go_sem]
          · simp (disch := first | omega | (simp only [go_sem, push_cast, and_true] <;> omega) | fail) only [go_sem]
end Go.Av
namespace Go.Av
open Go
set_option autoImplicit false
set_option linter.all false

theorem s_CloneFP {xs : List V} {H : List Entry} {K : KV} (hx : xs.length ≤ 1000000) (hK : K (.own H.length xs.length) (H ++ [.row 45 3 xs])) : BCall AP n_slices_Clone_api_Topic_api_Topic [.sl 3 xs] H K := by
  refine a_slices_Clone_api_Topic_api_Topic fun hw => ?_
  cases xs with
  | nil =>
    simp (disch := first | omega | (simp only [go_sem, push_cast, and_true] <;> omega) | fail) only [go_sem, c_slices_Clone_api_Topic_api_Topic]
    intro c
    cases c
    · simp (disch := first | omega | (simp only [go_sem, push_cast, and_true] <;> omega) | fail) only [go_sem]
      refine fin_all ?_
      simp (disch := first | omega | (simp only [go_sem, push_cast, and_true] <;> omega) | fail) only [go_sem]
      simpa using hK
    · simp (disch := first | omega | (simp only [go_sem, push_cast, and_true] <;> omega) | fail) only [go_sem]
      refine wk_adopt 2 45 3 (by simp (disch := first | omega | (simp only [go_sem, push_cast, and_true] <;> omega) | fail) only [go_sem]) (fin_all ?_)
      simp (disch := first | omega | (simp only [go_sem, push_cast, and_true] <;> omega) | fail) only [go_sem]
      simpa using hK
  | cons x xs =>
    simp only [List.length_cons] at hx
    simp (disch := first | omega | (simp only [go_sem, push_cast, and_true] <;> omega) | fail) only [go_sem, c_slices_Clone_api_Topic_api_Topic]
    refine fin_all ?_
    simp (disch := first | omega | (simp only [go_sem, push_cast, and_true] <;> omega) | fail) only [go_sem]
    simpa using hK
theorem s_SetP {X : List Tp} {x : Tp} {i : Nat} {H : List Entry} (hX : X.length ≤ 1000000) (hi : i < X.length) : Pure AP n_list_Set_api_Topic [.sl 3 (X.map tpV), .int .i64 (i : Int), tpV x] H (.sl 3 ((X.set i x).map tpV)) := by
  intro K hK
  refine a_list_Set_api_Topic fun hw => ?_
  simp (disch := first | omega | (simp only [go_sem, push_cast, and_true] <;> omega) | fail) only [go_sem, c_list_Set_api_Topic]
  refine s_CloneFP (by simpa using hX) ?_
  have hm : ((X.map tpV).set i (V.agg [.str x.1, .int .i64 x.2.1, .sl 1 (x.2.2.map stV)])) = (X.set i x).map tpV := by rw [List.map_set]; rfl
  simp (disch := first | omega | (simp only [go_sem, push_cast, and_true] <;> omega) | fail) only [go_sem, hm]
  refine wk_own (H := H) 6 1 rfl rfl rfl (by first | omega | (simp only [go_sem, push_cast] <;> omega)) ?_
  refine fin_tmp hw ?_ (fin_eq hK ?_)
  · simp (disch := first | omega | (simp only [go_sem, push_cast, and_true] <;> omega) | fail) only [go_sem]
  · simp (disch := first | omega | (simp only [go_sem, push_cast, and_true] <;> omega) | fail) only [go_sem]
end Go.Av
namespace Go.Av
open Go
set_option autoImplicit false
set_option linter.all false

theorem s_CloneFS {xs : List V} {H : List Entry} {K : KV} (hx : xs.length ≤ 1000000) (hK : K (.own H.length xs.length) (H ++ [.row 9 1 xs])) : BCall AP n_slices_Clone_string_string [.sl 1 xs] H K := by
  refine a_slices_Clone_string_string fun hw => ?_
  cases xs with
  | nil =>
    simp (disch := first | omega | (simp only [go_sem, push_cast, and_true] <;> omega) | fail) only [go_sem, c_slices_Clone_string_string]
    intro c
    cases c
    · simp (disch := first | omega | (simp only [go_sem, push_cast, and_true] <;> omega) | fail) only [go_sem]
      refine fin_all ?_
      simp (disch := first | omega | (simp only [go_sem, push_cast, and_true] <;> omega) | fail) only [go_sem]
      simpa using hK
    · simp (disch := first | omega | (simp only [go_sem, push_cast, and_true] <;> omega) | fail) only [go_sem]
      refine wk_adopt 2 9 1 (by simp (disch := first | omega | (simp only [go_sem, push_cast, and_true] <;> omega) | fail) only [go_sem]) (fin_all ?_)
      simp (disch := first | omega | (simp only [go_sem, push_cast, and_true] <;> omega) | fail) only [go_sem]
      simpa using hK
  | cons x xs =>
    simp only [List.length_cons] at hx
    simp (disch := first | omega | (simp only [go_sem, push_cast, and_true] <;> omega) | fail) only [go_sem, c_slices_Clone_string_string]
    refine fin_all ?_
    simp (disch := first | omega | (simp only [go_sem, push_cast, and_true] <;> omega) | fail) only [go_sem]
    simpa using hK
end Go.Av
namespace Go.Av
open Go
set_option autoImplicit false
set_option linter.all false
/-! ### Stage 12: Trim -/
theorem fin_nilT {H : List Entry} {K : KV} (hw : Wf H) {a b : Nat} (hab : a ≠ b) {e : List V} {G : List Entry} {z : Int} (hk : K (.tup [.sl 3 [], .int .i64 z]) H) (h6 : nth e a = .nilsl) (h7 : nth e b = .int .i64 z) : WkP H.length (resK (rsT [a, b]) [] K) e (H ++ G) := by
  have hlt : a < e.length := lt_of_nth (by rw [h6]; simp)
  refine wk_nil (H := H) (t := G) a 3 rfl h6 ?_
  refine fin_tmp hw ?_ (fin_eq hk ?_)
  · simp [nths, nth_setAt_eq (e := e) (i := a) (v := .sl 3 []) hlt, nth_setAt_ne (e := e) (i := a) (j := b) (v := .sl 3 []) hab, h7, idsLts, idsLt]
  · simp [nths, nth_setAt_eq (e := e) (i := a) (v := .sl 3 []) hlt, nth_setAt_ne (e := e) (i := a) (j := b) (v := .sl 3 []) hab, h7, oneV]
theorem fin_nilT0 {H : List Entry} {K : KV} (hw : Wf H) {a b : Nat} (hab : a ≠ b) {e : List V} {z : Int} (hk : K (.tup [.sl 3 [], .int .i64 z]) H) (h6 : nth e a = .nilsl) (h7 : nth e b = .int .i64 z) : WkP H.length (resK (rsT [a, b]) [] K) e H := by
  have := fin_nilT (G := []) hw hab hk h6 h7
  rwa [List.append_nil] at this
def trD (D : Tp) (a : Int) : Tp := (D.1, (if D.2.1 < a then a else D.2.1), D.2.2.drop (a - D.2.1).toNat)
noncomputable def trimT (X : List Tp) (n : List UInt8) (a : Int) : List Tp × Int :=
  if (findT X n).2 = 0 then
    (if a < 0 ∨ (X.getD (findT X n).1.toNat default).2.1 + (X.getD (findT X n).1.toNat default).2.2.length < a then ([], 1)
    else (X.set (findT X n).1.toNat (trD (X.getD (findT X n).1.toNat default) a), 0))
  else ([], (findT X n).2)
set_option maxHeartbeats 1000000 in
theorem s_TrimT {X : List Tp} {n : List UInt8} {a : Int} {H : List Entry} (hX : tsB X) (ha : -9223372036854775808 ≤ a ∧ a ≤ 9223372036854775807) : Pure AP n_topic_Trim [.sl 3 (X.map tpV), .str n, .int .i64 a] H (.tup [.sl 3 ((trimT X n a).1.map tpV), .int .i64 (trimT X n a).2]) := by
  intro K hK
  refine k_topic_Trim.callw [1, 1, 1, 1, 1, 1, 0] rfl fun hw => ?_
  have hl : X.length ≤ 21 := hX.1
  unfold trimT at hK
  simp (disch := first | omega | (simp only [go_sem, push_cast, and_true] <;> omega) | fail) only [go_sem, c_topic_Trim]
  refine s_findT hX _ ?_
  by_cases hf : (findT X n).2 = 0
  rotate_left
  · rw [if_neg hf] at hK
    simp (disch := first | omega | (simp only [go_sem, push_cast, and_true] <;> omega) | fail) only [go_sem, hf, decide_false, Bool.not_false]
    exact fin_nilT0 hw (a := 6) (b := 7) (by decide) hK rfl rfl
  obtain ⟨hc, p, hp, hlt⟩ := findT_ok hf
  rw [if_pos hf, hp, Int.toNat_natCast] at hK
  rw [hp]
  have hm := getD_mem (X := X) (i := p) hlt
  obtain ⟨b1, b2, b3, b4⟩ := hX.2 _ hm
  have he := (chkT_el hc hm).1
  generalize hD : X.getD p default = D at *
  by_cases h1 : a < 0
  · rw [if_pos (.inl h1)] at hK
    simp (disch := first | omega | (simp only [go_sem, push_cast, and_true] <;> omega) | fail) only [go_sem, hf, hD, h1, decide_true, Bool.not_true]
    exact fin_nilT hw (a := 6) (b := 7) (by decide) hK rfl rfl
  simp (disch := first | omega | (simp only [go_sem, push_cast, and_true] <;> omega) | fail) only [go_sem, hf, hD, h1, decide_true, decide_false, Bool.not_true]
  refine s_endOf (t := D) b2 (by omega) _ ?_
  by_cases h2 : D.2.1 + (D.2.2.length : Int) < a
  · rw [if_pos (.inr h2)] at hK
    simp (disch := first | omega | (simp only [go_sem, push_cast, and_true] <;> omega) | fail) only [go_sem, h2, decide_true]
    exact fin_nilT hw (a := 6) (b := 7) (by decide) hK rfl rfl
  rw [if_neg (by omega)] at hK
  by_cases h3 : D.2.1 < a
  · obtain ⟨q, hq, hql⟩ : ∃ q : Nat, a - D.2.1 = (q : Int) ∧ q ≤ D.2.2.length := ⟨(a - D.2.1).toNat, by omega, by omega⟩
    have hT : trD D a = (D.1, a, D.2.2.drop q) := by
      unfold trD
      rw [if_pos h3, hq, Int.toNat_natCast]
    rw [hT] at hK
    simp (disch := first | omega | (simp only [go_sem, push_cast, and_true] <;> omega) | fail) only [go_sem, h2, h3, decide_false, decide_true, hq]
    have hlq : (D.2.2.drop q).length = D.2.2.length - q := List.length_drop
    generalize D.2.2.drop q = W at *
    refine s_CloneFS (by simp; omega) ?_
    simp only [List.length_map]
    simp (disch := first | omega | (simp only [go_sem, push_cast, and_true] <;> omega) | fail) only [go_sem]
    refine wk_frzT (H := H) 0 rfl ?_ ?_
    · simp (disch := first | omega | (simp only [go_sem, push_cast, and_true] <;> omega) | fail) only [go_sem, fz, fzsW, fzRow, List.length_map, if_true]
    · simp (disch := first | omega | (simp only [go_sem, push_cast, and_true] <;> omega) | fail) only [go_sem, fz, fzsW, fzRow, List.length_map, if_true]
      refine wk_refl ?_
      simp (disch := first | omega | (simp only [go_sem, push_cast, and_true] <;> omega) | fail) only [go_sem]
      refine s_SetP (X := X) (x := (D.1, a, W)) (i := p) (by omega) hlt _ ?_
      simp (disch := first | omega | (simp only [go_sem, push_cast, and_true] <;> omega) | fail) only [go_sem]
      refine fin_tmp hw ?_ (fin_eq hK ?_)
      · simp (disch := first | omega | (simp only [go_sem, push_cast, and_true] <;> omega) | fail) only [go_sem]
      · simp [oneV, nths, nth]
  · have hT : trD D a = D := by
      unfold trD
      rw [if_neg h3, show (a - D.2.1).toNat = 0 by omega]
      rfl
    rw [hT] at hK
    simp (disch := first | omega | (simp only [go_sem, push_cast, and_true] <;> omega) | fail) only [go_sem, h2, h3, decide_false]
    refine wk_refl ?_
    simp (disch := first | omega | (simp only [go_sem, push_cast, and_true] <;> omega) | fail) only [go_sem]
    refine s_SetP (X := X) (x := D) (i := p) (by omega) hlt _ ?_
    simp (disch := first | omega | (simp only [go_sem, push_cast, and_true] <;> omega) | fail) only [go_sem]
    refine fin_tmp hw ?_ (fin_eq hK ?_)
    · simp (disch := first | omega | (simp only [go_sem, push_cast, and_true] <;> omega) | fail) only [go_sem]
    · simp [oneV, nths, nth]
end Go.Av
