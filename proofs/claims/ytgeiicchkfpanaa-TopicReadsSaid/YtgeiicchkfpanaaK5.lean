/- A part of a way to reckon what a Go program does without its memory (K5). -/
import Derived.Test.YtgeiicchkfpanaaK4
import Derived.Test.YtgeiicchkfpanaaT5
namespace Go.Av
open Go
set_option autoImplicit false
set_option linter.all false
/-! ### Stage 12: the document's Trim -/
theorem idx_spec {α : Type} [Inhabited α] {p : α → Bool} {X : List α} (h : 0 ≤ idx p X) : (idx p X).toNat < X.length ∧ p (X.getD (idx p X).toNat default) = true ∧ ∀ j < (idx p X).toNat, p (X.getD j default) = false := by
  unfold idx at h ⊢
  cases hf : X.findIdx? p with
  | none => rw [hf] at h; simp at h
  | some i =>
    rw [List.findIdx?_eq_some_iff_getElem] at hf
    obtain ⟨hi, hp, hn⟩ := hf
    simp only [Option.elim_some, Int.toNat_natCast]
    refine ⟨hi, by simpa [hi] using hp, fun j hj => ?_⟩
    have hjl : j < X.length := by omega
    simpa [hjl] using hn j hj
theorem chkT_lt {X : List Tp} (h : chkT X = true) {i j : Nat} (hij : i < j) (hj : j < X.length) : lessB (X.getD i default).1 (X.getD j default).1 = true := by
  unfold chkT at h
  simp only [Bool.and_eq_true] at h
  have hr := risBP_of h.2.1
  have key : ∀ d j : Nat, j + d + 1 < X.length → lessB (X.getD j default).1 (X.getD (j + d + 1) default).1 = true := by
    intro d
    induction d with
    | zero => intro j hj; exact cmpS_neg (hr j hj)
    | succ d ih =>
      intro j hj
      exact less_trans _ _ _ (ih j (by omega)) (cmpS_neg (hr (j + d + 1) hj))
  have := key (j - i - 1) i (by omega)
  rwa [show i + (j - i - 1) + 1 = j by omega] at this
theorem withT_set {X : List Tp} (h : chkT X = true) {p : Nat} (hp : p < X.length) {x : Tp} (hx : x.1 = (X.getD p default).1) : withT X x = X.set p x := by
  have e1 : X.filter (befN x.1) = X.take p := by
    conv => lhs; rw [← List.take_append_drop p X]
    rw [List.filter_append, List.filter_eq_self.2, List.filter_eq_nil_iff.2, List.append_nil]
    · intro y hy
      obtain ⟨j, hj, rfl⟩ := List.mem_iff_getElem.1 hy
      rw [List.length_drop] at hj
      rw [List.getElem_drop, hx, befN]
      have e : X[p + j] = X.getD (p + j) default := by simp [List.getD_eq_getElem?_getD, List.getElem?_eq_getElem (show p + j < X.length by omega)]
      rw [e]
      by_cases h0 : j = 0
      · subst h0
        exact less_irr _
      · exact less_asym (chkT_lt h (by omega) (by omega))
    · intro y hy
      obtain ⟨j, hj, rfl⟩ := List.mem_iff_getElem.1 hy
      rw [List.length_take] at hj
      rw [List.getElem_take, hx, befN]
      have e : X[j]'(by omega) = X.getD j default := by simp [List.getD_eq_getElem?_getD, List.getElem?_eq_getElem (show j < X.length by omega)]
      rw [e]
      exact chkT_lt h (by omega) (by omega)
  have e2 : X.filter (aftN x.1) = X.drop (p + 1) := by
    conv => lhs; rw [← List.take_append_drop (p + 1) X]
    rw [List.filter_append, List.filter_eq_nil_iff.2, List.filter_eq_self.2, List.nil_append]
    · intro y hy
      obtain ⟨j, hj, rfl⟩ := List.mem_iff_getElem.1 hy
      rw [List.length_drop] at hj
      rw [List.getElem_drop, hx, aftN]
      have e : X[p + 1 + j] = X.getD (p + 1 + j) default := by simp [List.getD_eq_getElem?_getD, List.getElem?_eq_getElem (show p + 1 + j < X.length by omega)]
      rw [e]
      exact chkT_lt h (by omega) (by omega)
    · intro y hy
      obtain ⟨j, hj, rfl⟩ := List.mem_iff_getElem.1 hy
      rw [List.length_take] at hj
      rw [List.getElem_take, hx, aftN]
      have e : X[j]'(by omega) = X.getD j default := by simp [List.getD_eq_getElem?_getD, List.getElem?_eq_getElem (show j < X.length by omega)]
      rw [e]
      by_cases h0 : j = p
      · subst h0
        exact less_irr _
      · exact less_asym (chkT_lt h (by omega) (by omega))
  rw [withT, e1, e2, List.set_eq_take_append_cons_drop, if_pos hp]
  simp
theorem td_step {L : List (List UInt8)} {q k : Nat} (hk : k < L.length) : (L.take (k + 1)).drop q = (L.take k).drop q ++ (if q ≤ k then [L.getD k default] else []) := by
  have e : L.take (k + 1) = L.take k ++ [L.getD k default] := by
    rw [List.take_succ, List.getElem?_eq_getElem hk]
    simp [List.getD_eq_getElem?_getD, List.getElem?_eq_getElem hk]
  have hl : (L.take k).length = k := by simp; omega
  rw [e]
  by_cases h : q ≤ k
  · rw [if_pos h, List.drop_append_of_le_length (by omega)]
  · rw [if_neg h, List.append_nil, List.drop_eq_nil_of_le (by simp; omega), List.drop_eq_nil_of_le (by simp; omega)]
set_option maxHeartbeats 2000000 in
set_option maxRecDepth 100000 in
theorem r_TrimT {X : List Tp} {n : List UInt8} {a : Int} {H : List Entry} (hX : tsB X) (ha : -9223372036854775808 ≤ a ∧ a ≤ 9223372036854775807) : Pure AP n_trystref12_Trim [.sl 3 (X.map tpV), .str n, .int .i64 a] H (.tup [.sl 3 ((trimT X n a).1.map tpV), .int .i64 (trimT X n a).2]) := by
  intro K hK
  refine k_trystref12_Trim.callw [1, 1, 1, 1, 1, 1, 1, 1, 1, 0] rfl fun hw => ?_
  have hl : X.length ≤ 21 := hX.1
  unfold trimT at hK
  simp (disch := first | omega | (simp only [go_sem, push_cast, and_true] <;> omega) | fail) only [go_sem, c_trystref12_Trim]
  refine r_MayT hX _ ?_
  by_cases hc : chkT X = true
  rotate_left
  · have hf : findT X n = (0, 1) := by unfold findT; rw [if_neg hc]
    rw [hf, if_neg (by decide)] at hK
    have hc' : chkT X = false := by simpa using hc
    simp (disch := first | omega | (simp only [go_sem, push_cast, and_true] <;> omega) | fail) only [go_sem, hc', Bool.not_false]
    exact fin_nilT0 hw (a := 6) (b := 7) (by decide) hK rfl rfl
  simp (disch := first | omega | (simp only [go_sem, push_cast, and_true] <;> omega) | fail) only [go_sem, hc, Bool.not_true]
  refine r_FindT (by omega) _ ?_
  by_cases hi : 0 ≤ idx (isNT n) X
  rotate_left
  · have hf : findT X n = (0, 4) := by unfold findT; rw [if_pos hc, if_neg hi]
    rw [hf, if_neg (by decide)] at hK
    simp (disch := first | omega | (simp only [go_sem, push_cast, and_true] <;> omega) | fail) only [go_sem, hi, decide_false, Bool.not_false]
    exact fin_nilT0 hw (a := 6) (b := 7) (by decide) hK rfl rfl
  have hf : findT X n = (idx (isNT n) X, 0) := by unfold findT; rw [if_pos hc, if_pos hi]
  have hmx : mxZ (idx (isNT n) X) = idx (isNT n) X := by simp [mxZ, hi]
  have hsp := (idx_spec hi).2.1
  obtain ⟨_, p, hp, hlt⟩ := findT_ok (X := X) (n := n) (by rw [hf])
  rw [hf] at hp
  simp only at hp
  rw [hf, if_pos rfl] at hK
  simp only [hp, Int.toNat_natCast] at hK hsp
  rw [hmx, hp]
  have hm := getD_mem (X := X) (i := p) hlt
  obtain ⟨b1, b2, b3, b4⟩ := hX.2 _ hm
  have he := (chkT_el hc hm).1
  generalize hD : X.getD p default = D at *
  have hn : n = D.1 := by simpa [isNT, eq_comm] using hsp
  by_cases h1 : a < 0
  · rw [if_pos (.inl h1)] at hK
    simp (disch := first | omega | (simp only [go_sem, push_cast, and_true] <;> omega) | fail) only [go_sem, hD, h1, decide_true, Bool.not_true]
    exact fin_nilT hw (a := 6) (b := 7) (by decide) hK rfl rfl
  by_cases h2 : D.2.1 + (D.2.2.length : Int) < a
  · rw [if_pos (.inr h2)] at hK
    simp (disch := first | omega | (simp only [go_sem, push_cast, and_true] <;> omega) | fail) only [go_sem, hD, h1, h2, decide_true, decide_false, Bool.not_true]
    exact fin_nilT hw (a := 6) (b := 7) (by decide) hK rfl rfl
  rw [if_neg (by omega)] at hK
  obtain ⟨q, hq⟩ : ∃ q : Nat, q = (a - D.2.1).toNat := ⟨_, rfl⟩
  by_cases h3 : D.2.1 < a
  · have hT : trD D a = (n, a, D.2.2.drop q) := by
      unfold trD
      rw [if_pos h3, hq, hn]
    rw [hT] at hK
    simp (disch := first | omega | (simp only [go_sem, push_cast, and_true] <;> omega) | fail) only [go_sem, hD, h1, h2, h3, decide_false, decide_true, Bool.not_true]
    refine loop_adoptB (H := H) (t := [_, _]) 1 2 9 1 rfl rfl ?_
    simp (disch := first | omega | (simp only [go_sem, push_cast, and_true] <;> omega) | fail) only [go_sem]
    refine loop_in (fun m e' H' => ∃ k : Nat, m = D.2.2.length - k ∧ e' = slots 0 76 [(0, .sl 3 (X.map tpV)), (2, .int .i64 a), (10, .ptr H.length 0), (11, .ptr (H.length + 1) 0), (12, .int .i64 (k : Int))] ∧ H' = H ++ [.box [.str D.1, .int .i64 D.2.1, .sl 1 (D.2.2.map stV)], .box [.str n, .int .i64 a, .own (H.length + 2) ((D.2.2.take k).drop q).length], .row 9 1 (((D.2.2.take k).drop q).map stV)] ∧ k ≤ D.2.2.length) (n := D.2.2.length) ⟨0, rfl, rfl, rfl, by omega⟩ (by first | omega | (simp only [go_sem, push_cast] <;> omega)) ?_ ?_ ?_
    · simp (disch := first | (simp only [go_sem] <;> omega) | fail) only [go_sem, x_eLeS, x_hLeS, Int.natCast_zero, Int.natCast_add, Int.natCast_one]
    · simp only [List.take_zero, List.drop_nil, List.map_nil, List.length_nil]
      refine hLe_app hw (by simp) ?_
      simp (disch := first | (simp only [go_sem] <;> omega) | fail) only [go_sem, x_eLeS, x_hLeS, Int.natCast_zero, Int.natCast_add, Int.natCast_one]
    · rintro J hJ m e' H' ⟨k, rfl, rfl, rfl, hk1⟩
      by_cases hk : (k : Int) < D.2.2.length
      · have hnx := hJ (D.2.2.length - (k + 1)) _ _ ⟨k + 1, rfl, rfl, rfl, by omega⟩
        clear hJ
        have hst := td_step (L := D.2.2) (q := q) (k := k) (by omega)
        have hll : ((D.2.2.take k).drop q).length ≤ 101 := by simp; omega
        rw [hst] at hnx
        generalize (D.2.2.take k).drop q = W at *
        by_cases hc2 : a ≤ D.2.1 + (k : Int)
        · rw [if_pos (by omega)] at hnx
          have e2 : W.map stV ++ [.str (D.2.2.getD k default)] = (W ++ [D.2.2.getD k default]).map stV := by simp [stV]
          have e3 : (W ++ [D.2.2.getD k default]).length = W.length + 1 := by simp
          rw [e3] at hnx
          simp (disch := first | omega | (simp only [go_sem, push_cast, and_true] <;> omega) | fail) only [go_sem, hc2, decide_true]
          rw [e2]
          refine round_end hnx (by omega) (by first | omega | (simp only [go_sem, push_cast] <;> omega)) ?_ ?_
          · simp (disch := first | (simp only [go_sem] <;> omega) | fail) only [go_sem, x_eLeS, x_hLeS, Int.natCast_zero, Int.natCast_add, Int.natCast_one]
          · refine hLe_app hw (by simp) ?_
            simp (disch := first | (simp only [go_sem] <;> omega) | fail) only [go_sem, x_eLeS, x_hLeS, Int.natCast_zero, Int.natCast_add, Int.natCast_one]
        · rw [if_neg (by omega), List.append_nil] at hnx
          simp (disch := first | omega | (simp only [go_sem, push_cast, and_true] <;> omega) | fail) only [go_sem, hc2, decide_false]
          refine round_end hnx (by omega) (by first | omega | (simp only [go_sem, push_cast] <;> omega)) ?_ ?_
          · simp (disch := first | (simp only [go_sem] <;> omega) | fail) only [go_sem, x_eLeS, x_hLeS, Int.natCast_zero, Int.natCast_add, Int.natCast_one]
          · refine hLe_app hw (by simp) ?_
            simp (disch := first | (simp only [go_sem] <;> omega) | fail) only [go_sem, x_eLeS, x_hLeS, Int.natCast_zero, Int.natCast_add, Int.natCast_one]
      · have hk2 : k = D.2.2.length := by omega
        subst hk2
        clear hJ
        rw [List.take_length]
        have hll : (D.2.2.drop q).length ≤ 101 := by simp; omega
        generalize D.2.2.drop q = W at *
        simp (disch := first | omega | (simp only [go_sem, push_cast, and_true] <;> omega) | fail) only [go_sem]
        refine wk_frzT (H := H) 1 rfl ?_ ?_
        · simp (disch := first | omega | (simp only [go_sem, push_cast, and_true] <;> omega) | fail) only [go_sem, fz, fzsW, fzRow, List.length_map, if_true]
        · simp (disch := first | omega | (simp only [go_sem, push_cast, and_true] <;> omega) | fail) only [go_sem, fz, fzsW, fzRow, List.length_map, if_true]
          refine wk_refl ?_
          simp (disch := first | omega | (simp only [go_sem, push_cast, and_true] <;> omega) | fail) only [go_sem]
          refine r_WithT (X := X) (x := (n, a, W)) (by omega) _ ?_
          rw [withT_set hc hlt (x := (n, a, W)) (by rw [hD, hn])]
          simp (disch := first | omega | (simp only [go_sem, push_cast, and_true] <;> omega) | fail) only [go_sem]
          refine fin_tmp hw ?_ (fin_eq hK ?_)
          · simp (disch := first | omega | (simp only [go_sem, push_cast, and_true] <;> omega) | fail) only [go_sem]
          · simp [oneV, nths, nth]
  · have hT : trD D a = (n, D.2.1, D.2.2.drop q) := by
      unfold trD
      rw [if_neg h3, hq, hn]
    rw [hT] at hK
    simp (disch := first | omega | (simp only [go_sem, push_cast, and_true] <;> omega) | fail) only [go_sem, hD, h1, h2, h3, decide_false, decide_true, Bool.not_true]
    refine loop_adoptB (H := H) (t := [_, _]) 1 2 9 1 rfl rfl ?_
    simp (disch := first | omega | (simp only [go_sem, push_cast, and_true] <;> omega) | fail) only [go_sem]
    refine loop_in (fun m e' H' => ∃ k : Nat, m = D.2.2.length - k ∧ e' = slots 0 76 [(0, .sl 3 (X.map tpV)), (2, .int .i64 a), (10, .ptr H.length 0), (11, .ptr (H.length + 1) 0), (12, .int .i64 (k : Int))] ∧ H' = H ++ [.box [.str D.1, .int .i64 D.2.1, .sl 1 (D.2.2.map stV)], .box [.str n, .int .i64 D.2.1, .own (H.length + 2) ((D.2.2.take k).drop q).length], .row 9 1 (((D.2.2.take k).drop q).map stV)] ∧ k ≤ D.2.2.length) (n := D.2.2.length) ⟨0, rfl, rfl, rfl, by omega⟩ (by first | omega | (simp only [go_sem, push_cast] <;> omega)) ?_ ?_ ?_
    · simp (disch := first | (simp only [go_sem] <;> omega) | fail) only [go_sem, x_eLeS, x_hLeS, Int.natCast_zero, Int.natCast_add, Int.natCast_one]
    · simp only [List.take_zero, List.drop_nil, List.map_nil, List.length_nil]
      refine hLe_app hw (by simp) ?_
      simp (disch := first | (simp only [go_sem] <;> omega) | fail) only [go_sem, x_eLeS, x_hLeS, Int.natCast_zero, Int.natCast_add, Int.natCast_one]
    · rintro J hJ m e' H' ⟨k, rfl, rfl, rfl, hk1⟩
      by_cases hk : (k : Int) < D.2.2.length
      · have hnx := hJ (D.2.2.length - (k + 1)) _ _ ⟨k + 1, rfl, rfl, rfl, by omega⟩
        clear hJ
        have hst := td_step (L := D.2.2) (q := q) (k := k) (by omega)
        have hll : ((D.2.2.take k).drop q).length ≤ 101 := by simp; omega
        rw [hst] at hnx
        generalize (D.2.2.take k).drop q = W at *
        by_cases hc2 : a ≤ D.2.1 + (k : Int)
        · rw [if_pos (by omega)] at hnx
          have e2 : W.map stV ++ [.str (D.2.2.getD k default)] = (W ++ [D.2.2.getD k default]).map stV := by simp [stV]
          have e3 : (W ++ [D.2.2.getD k default]).length = W.length + 1 := by simp
          rw [e3] at hnx
          simp (disch := first | omega | (simp only [go_sem, push_cast, and_true] <;> omega) | fail) only [go_sem, hc2, decide_true]
          rw [e2]
          refine round_end hnx (by omega) (by first | omega | (simp only [go_sem, push_cast] <;> omega)) ?_ ?_
          · simp (disch := first | (simp only [go_sem] <;> omega) | fail) only [go_sem, x_eLeS, x_hLeS, Int.natCast_zero, Int.natCast_add, Int.natCast_one]
          · refine hLe_app hw (by simp) ?_
            simp (disch := first | (simp only [go_sem] <;> omega) | fail) only [go_sem, x_eLeS, x_hLeS, Int.natCast_zero, Int.natCast_add, Int.natCast_one]
        · rw [if_neg (by omega), List.append_nil] at hnx
          simp (disch := first | omega | (simp only [go_sem, push_cast, and_true] <;> omega) | fail) only [go_sem, hc2, decide_false]
          refine round_end hnx (by omega) (by first | omega | (simp only [go_sem, push_cast] <;> omega)) ?_ ?_
          · simp (disch := first | (simp only [go_sem] <;> omega) | fail) only [go_sem, x_eLeS, x_hLeS, Int.natCast_zero, Int.natCast_add, Int.natCast_one]
          · refine hLe_app hw (by simp) ?_
            simp (disch := first | (simp only [go_sem] <;> omega) | fail) only [go_sem, x_eLeS, x_hLeS, Int.natCast_zero, Int.natCast_add, Int.natCast_one]
      · have hk2 : k = D.2.2.length := by omega
        subst hk2
        clear hJ
        rw [List.take_length]
        have hll : (D.2.2.drop q).length ≤ 101 := by simp; omega
        generalize D.2.2.drop q = W at *
        simp (disch := first | omega | (simp only [go_sem, push_cast, and_true] <;> omega) | fail) only [go_sem]
        refine wk_frzT (H := H) 1 rfl ?_ ?_
        · simp (disch := first | omega | (simp only [go_sem, push_cast, and_true] <;> omega) | fail) only [go_sem, fz, fzsW, fzRow, List.length_map, if_true]
        · simp (disch := first | omega | (simp only [go_sem, push_cast, and_true] <;> omega) | fail) only [go_sem, fz, fzsW, fzRow, List.length_map, if_true]
          refine wk_refl ?_
          simp (disch := first | omega | (simp only [go_sem, push_cast, and_true] <;> omega) | fail) only [go_sem]
          refine r_WithT (X := X) (x := (n, D.2.1, W)) (by omega) _ ?_
          rw [withT_set hc hlt (x := (n, D.2.1, W)) (by rw [hD, hn])]
          simp (disch := first | omega | (simp only [go_sem, push_cast, and_true] <;> omega) | fail) only [go_sem]
          refine fin_tmp hw ?_ (fin_eq hK ?_)
          · simp (disch := first | omega | (simp only [go_sem, push_cast, and_true] <;> omega) | fail) only [go_sem]
          · simp [oneV, nths, nth]
end Go.Av
namespace Go.Av
open Go
set_option autoImplicit false
set_option linter.all false
noncomputable def sameE (a b : Ev) : Bool := @decide (a = b) (Classical.propDecidable _)
theorem sameE_eq {a b : Ev} (h : a = b) : sameE a b = true := by simp [sameE, h]
theorem sameE_ne {a b : Ev} (h : a ≠ b) : sameE a b = false := by simp [sameE, h]
theorem r_Same {a b : Ev} {H : List Entry} (ha : a.2.2.2.length ≤ 1000000) (hb : b.2.2.2.length ≤ 1000000) : Pure AP n_trystref04_Same [evV a, evV b] H (.bool (sameE a b)) := by
  intro K hK
  refine a_trystref04_Same fun hw => ?_
  by_cases h1 : a.1 = b.1
  rotate_left
  · have hne : a ≠ b := fun h => h1 (by rw [h])
    simp (disch := first | omega | (simp only [go_sem, push_cast, and_true] <;> omega) | fail) only [go_sem, c_trystref04_Same, h1, decide_false, decide_true, Bool.not_false, Bool.not_true]
    refine fin_tmp hw ?_ (fin_eq hK ?_)
    · simp (disch := first | omega | (simp only [go_sem, push_cast, and_true] <;> omega) | fail) only [go_sem]
    · simp (disch := first | omega | (simp only [go_sem, push_cast, and_true] <;> omega) | fail) only [go_sem, sameE_ne hne]
  by_cases h2 : a.2.1 = b.2.1
  rotate_left
  · have hne : a ≠ b := fun h => h2 (by rw [h])
    simp (disch := first | omega | (simp only [go_sem, push_cast, and_true] <;> omega) | fail) only [go_sem, c_trystref04_Same, h1, h2, decide_false, decide_true, Bool.not_false, Bool.not_true]
    refine fin_tmp hw ?_ (fin_eq hK ?_)
    · simp (disch := first | omega | (simp only [go_sem, push_cast, and_true] <;> omega) | fail) only [go_sem]
    · simp (disch := first | omega | (simp only [go_sem, push_cast, and_true] <;> omega) | fail) only [go_sem, sameE_ne hne]
  by_cases h3 : a.2.2.1 = b.2.2.1
  rotate_left
  · have hne : a ≠ b := fun h => h3 (by rw [h])
    simp (disch := first | omega | (simp only [go_sem, push_cast, and_true] <;> omega) | fail) only [go_sem, c_trystref04_Same, h1, h2, h3, decide_false, decide_true, Bool.not_false, Bool.not_true]
    refine fin_tmp hw ?_ (fin_eq hK ?_)
    · simp (disch := first | omega | (simp only [go_sem, push_cast, and_true] <;> omega) | fail) only [go_sem]
    · simp (disch := first | omega | (simp only [go_sem, push_cast, and_true] <;> omega) | fail) only [go_sem, sameE_ne hne]
  by_cases h4 : a.2.2.2.length = b.2.2.2.length
  rotate_left
  · have hne : a ≠ b := fun h => h4 (by rw [h])
    have h4' : ¬ ((a.2.2.2.length : Int) = b.2.2.2.length) := by omega
    simp (disch := first | omega | (simp only [go_sem, push_cast, and_true] <;> omega) | fail) only [go_sem, c_trystref04_Same, h1, h2, h3, h4', decide_false, decide_true, Bool.not_false, Bool.not_true]
    refine fin_tmp hw ?_ (fin_eq hK ?_)
    · simp (disch := first | omega | (simp only [go_sem, push_cast, and_true] <;> omega) | fail) only [go_sem]
    · simp (disch := first | omega | (simp only [go_sem, push_cast, and_true] <;> omega) | fail) only [go_sem, sameE_ne hne]
  simp (disch := first | omega | (simp only [go_sem, push_cast, and_true] <;> omega) | fail) only [go_sem, c_trystref04_Same, h1, h2, h3, h4, decide_false, decide_true, Bool.not_false, Bool.not_true]
  refine loop_in (fun m e' H' => ∃ i : Nat, m = b.2.2.2.length - i ∧ e' = slots 0 52 [(2, .ptr H.length 0), (3, .ptr (H.length + 1) 0), (5, .int .i64 (i : Int))] ∧ H' = H ++ [.box [.str b.1, .str b.2.1, .int .u64 b.2.2.1, .sl 4 (a.2.2.2.map fdV)], .box [.str b.1, .str b.2.1, .int .u64 b.2.2.1, .sl 4 (b.2.2.2.map fdV)]] ∧ i ≤ b.2.2.2.length ∧ ∀ j < i, a.2.2.2.getD j default = b.2.2.2.getD j default) (n := b.2.2.2.length) ⟨0, rfl, rfl, rfl, by omega, fun j hj => by omega⟩ (by first | omega | (simp only [go_sem, push_cast] <;> omega)) ?_ ?_ ?_
  · simp (disch := first | (simp only [go_sem] <;> omega) | fail) only [go_sem, x_eLeS, x_hLeS, Int.natCast_zero, Int.natCast_add, Int.natCast_one]
  · exact hLe_app hw (by first | omega | (simp only [go_sem, push_cast] <;> omega)) (by simp (disch := first | (simp only [go_sem] <;> omega) | fail) only [go_sem, x_eLeS, x_hLeS, Int.natCast_zero, Int.natCast_add, Int.natCast_one])
  · rintro J hJ m e' H' ⟨i, rfl, rfl, rfl, hi1, hn⟩
    simp (disch := first | omega | (simp only [go_sem, push_cast, and_true] <;> omega) | fail) only [go_sem]
    by_cases h : (i : Int) < b.2.2.2.length
    · simp (disch := first | omega | (simp only [go_sem, push_cast, and_true] <;> omega) | fail) only [go_sem, h4]
      by_cases hp : a.2.2.2.getD i default = b.2.2.2.getD i default
      · simp (disch := first | omega | (simp only [go_sem, push_cast, and_true] <;> omega) | fail) only [go_sem, hp, beq_self_eq_true]
        refine round_end (hJ _ _ _ ⟨i + 1, rfl, rfl, rfl, by omega, fun j hj => ?_⟩) (by omega) (by first | omega | (simp only [go_sem, push_cast] <;> omega)) ?_ ?_
        · rcases Nat.lt_succ_iff_lt_or_eq.1 hj with k | rfl
          · exact hn j k
          · exact hp
        · simp (disch := first | (simp only [go_sem] <;> omega) | fail) only [go_sem, x_eLeS, x_hLeS, Int.natCast_zero, Int.natCast_add, Int.natCast_one]
        · exact hLe_app hw (by first | omega | (simp only [go_sem, push_cast] <;> omega)) (by simp (disch := first | (simp only [go_sem] <;> omega) | fail) only [go_sem, x_eLeS, x_hLeS, Int.natCast_zero, Int.natCast_add, Int.natCast_one])
      · have hne : a ≠ b := fun h => hp (by rw [h])
        have hq : ∀ c, c = decide ((a.2.2.2.getD i default).1 = (b.2.2.2.getD i default).1) → True := fun _ _ => trivial
        by_cases q1 : (a.2.2.2.getD i default).1 = (b.2.2.2.getD i default).1
        · by_cases q2 : (a.2.2.2.getD i default).2.1 = (b.2.2.2.getD i default).2.1
          · by_cases q3 : (a.2.2.2.getD i default).2.2.1 = (b.2.2.2.getD i default).2.2.1
            · have q4 : ¬ (a.2.2.2.getD i default).2.2.2 = (b.2.2.2.getD i default).2.2.2 := fun q4 => hp (Prod.ext q1 (Prod.ext q2 (Prod.ext q3 q4)))
              simp (disch := first | omega | (simp only [go_sem, push_cast, and_true] <;> omega) | fail) only [go_sem, q1, q2, q3, q4, beq_self_eq_true]
              refine fin_tmp hw ?_ (fin_eq hK ?_)
              · simp (disch := first | omega | (simp only [go_sem, push_cast, and_true] <;> omega) | fail) only [go_sem]
              · simp (disch := first | omega | (simp only [go_sem, push_cast, and_true] <;> omega) | fail) only [go_sem, sameE_ne hne]
            · simp (disch := first | omega | (simp only [go_sem, push_cast, and_true] <;> omega) | fail) only [go_sem, q1, q2, q3, beq_self_eq_true]
              refine fin_tmp hw ?_ (fin_eq hK ?_)
              · simp (disch := first | omega | (simp only [go_sem, push_cast, and_true] <;> omega) | fail) only [go_sem]
              · simp (disch := first | omega | (simp only [go_sem, push_cast, and_true] <;> omega) | fail) only [go_sem, sameE_ne hne]
          · have q2' : ((a.2.2.2.getD i default).2.1 == (b.2.2.2.getD i default).2.1) = false := by simpa using q2
            simp (disch := first | omega | (simp only [go_sem, push_cast, and_true] <;> omega) | fail) only [go_sem, q1, q2', beq_self_eq_true]
            refine fin_tmp hw ?_ (fin_eq hK ?_)
            · simp (disch := first | omega | (simp only [go_sem, push_cast, and_true] <;> omega) | fail) only [go_sem]
            · simp (disch := first | omega | (simp only [go_sem, push_cast, and_true] <;> omega) | fail) only [go_sem, sameE_ne hne]
        · simp (disch := first | omega | (simp only [go_sem, push_cast, and_true] <;> omega) | fail) only [go_sem, q1, beq_self_eq_true]
          refine fin_tmp hw ?_ (fin_eq hK ?_)
          · simp (disch := first | omega | (simp only [go_sem, push_cast, and_true] <;> omega) | fail) only [go_sem]
          · simp (disch := first | omega | (simp only [go_sem, push_cast, and_true] <;> omega) | fail) only [go_sem, sameE_ne hne]
    · have hab : a = b := by
        obtain ⟨a1, a2, a3, a4⟩ := a
        obtain ⟨b1, b2, b3, b4⟩ := b
        simp only at h1 h2 h3 h4 hi1 h hn
        subst h1 h2 h3
        have : a4 = b4 := List.ext_getElem h4 fun j h5 h6 => by
          have := hn j (by omega)
          simpa [h5, h6] using this
        rw [this]
      simp (disch := first | omega | (simp only [go_sem, push_cast, and_true] <;> omega) | fail) only [go_sem, h4]
      refine fin_tmp hw ?_ (fin_eq hK ?_)
      · simp (disch := first | omega | (simp only [go_sem, push_cast, and_true] <;> omega) | fail) only [go_sem]
      · simp (disch := first | omega | (simp only [go_sem, push_cast, and_true] <;> omega) | fail) only [go_sem, sameE_eq hab]
end Go.Av
namespace Go.Av
open Go
set_option autoImplicit false
set_option linter.all false
/-! ### Stage 12: what is read, and trimmed -/
theorem takE_len (s : List UInt8) : (takE s).1.2.2.2.length ≤ 8 := by
  unfold takE
  simp only
  split
  · split
    · rename_i h
      have h2 := h.1
      unfold mayE mayFs at h2
      simp only [Bool.and_eq_true, decide_eq_true_eq] at h2
      exact h2.2.2.2.1
    · simp [z0]
  · simp [z0]
theorem readT_len {X : List Tp} {n : List UInt8} {a : Int} : (readT X n a).1.2.2.2.length ≤ 1000000 := by
  unfold readT
  split
  · split
    · simp [z0]
    · split
      · simp [z0]
      · exact Nat.le_trans (takE_len _) (by decide)
  · simp [z0]
theorem trimT_len {X : List Tp} {n : List UInt8} {a : Int} (hX : tsB X) : (trimT X n a).1.length ≤ 1000000 ∧ lgOk (trimT X n a).1 := by
  obtain ⟨h1, h2⟩ := hX
  unfold trimT
  split
  · rename_i hf
    split
    · exact ⟨by simp, fun x hx => by simp at hx⟩
    · obtain ⟨hc, p, hp, hlt⟩ := findT_ok hf
      simp only [hp, Int.toNat_natCast]
      refine ⟨by simp; omega, fun x hx => ?_⟩
      rcases List.mem_or_eq_of_mem_set hx with hx | rfl
      · have := (h2 x hx).2.1
        omega
      · have := (h2 _ (getD_mem (X := X) (i := p) hlt)).2.1
        simp only [trD, List.length_drop]
        omega
  · exact ⟨by simp, fun x hx => by simp at hx⟩
set_option maxHeartbeats 2000000 in
set_option maxRecDepth 100000 in
theorem law_reads {X : List Tp} {n : List UInt8} {a : Int} {H : List Entry} (hX : X.length ≤ 9223372036854775807) (hx : ∀ x ∈ X, tpI x) (hn : n.length ≤ 9223372036854775807) (ha : -9223372036854775808 ≤ a ∧ a ≤ 9223372036854775807) : Pure AP n_trystlaw12_TopicReads [.sl 3 (X.map tpV), .str n, .int .i64 a] H (.bool true) := by
  intro K hK
  refine a_trystlaw12_TopicReads fun hw => ?_
  simp (disch := first | omega | (simp only [go_sem, push_cast, and_true] <;> omega) | fail) only [go_sem, c_trystlaw12_TopicReads]
  refine s_FewTs hX (fun x h => (hx x h).1) _ ?_
  have hY := few_tsB hx
  generalize fewTs X = Y at *
  simp (disch := first | omega | (simp only [go_sem, push_cast, and_true] <;> omega) | fail) only [go_sem]
  refine s_Few2 hn _ ?_
  generalize n.take 60 = n2 at *
  simp (disch := first | omega | (simp only [go_sem, push_cast, and_true] <;> omega) | fail) only [go_sem]
  refine s_ReadT hY _ ?_
  simp (disch := first | omega | (simp only [go_sem, push_cast, and_true] <;> omega) | fail) only [go_sem]
  refine r_ReadT hY ha _ ?_
  simp (disch := first | omega | (simp only [go_sem, push_cast, and_true] <;> omega) | fail) only [go_sem]
  refine s_TrimT hY ha _ ?_
  simp (disch := first | omega | (simp only [go_sem, push_cast, and_true] <;> omega) | fail) only [go_sem]
  refine r_TrimT hY ha _ ?_
  have hr := readT_len (X := Y) (n := n2) (a := a)
  obtain ⟨ht1, ht2⟩ := trimT_len (n := n2) (a := a) hY
  generalize readT Y n2 a = r at *
  generalize trimT Y n2 a = t at *
  simp (disch := first | omega | (simp only [go_sem, push_cast, and_true] <;> omega) | fail) only [go_sem]
  refine r_Same (a := r.1) (b := r.1) hr hr _ ?_
  simp (disch := first | omega | (simp only [go_sem, push_cast, and_true] <;> omega) | fail) only [go_sem, sameE_eq (a := r.1) (b := r.1) rfl, decide_true, beq_self_eq_true]
  refine r_SameT (A := t.1) (B := t.1) ht1 ht1 ht2 ht2 _ ?_
  simp (disch := first | omega | (simp only [go_sem, push_cast, and_true] <;> omega) | fail) only [go_sem, sameL_eq (A := t.1) (B := t.1) rfl, decide_true, beq_self_eq_true]
  refine awake_ok _ _ ?_
  simp (disch := first | omega | (simp only [go_sem, push_cast, and_true] <;> omega) | fail) only [go_sem]
  refine fin_tmp hw ?_ (fin_eq hK ?_)
  · simp (disch := first | omega | (simp only [go_sem, push_cast, and_true] <;> omega) | fail) only [go_sem]
  · simp [oneV, nths, nth]
end Go.Av
