/- A part of a way to reckon what a Go program does without its memory (D7). -/
import Derived.Test.YtgbfjihcfeolaaaD6
import Derived.Test.YtgbfjihcfeolaaaD0
namespace Go.Av
open Go
set_option autoImplicit false
set_option linter.all false
/-! ### DiskFuels -/
/-- A drive of five cells, with so much fuel. -/
structure FuOk (d : Dr) (n : Nat) (k : Nat) : Prop where
  X : d.1.length = 5
  c : ∀ x ∈ d.1, x.length = 64
  q : ∀ w ∈ d.2.1, 0 ≤ w.1 ∧ w.1 < 5 ∧ w.2.length = 64
  f : d.2.2.1 = n
  o : d.2.2.2 = false
  l : d.2.1.length ≤ k
theorem FuOk.may {d : Dr} {n k : Nat} (h : FuOk d n k) : mayD d = true := by
  obtain ⟨X, Q, f, o⟩ := d
  obtain ⟨h1, h2, h3, h4, h5, h6⟩ := h
  simp only at *
  exact may_of (by omega) (by omega) h2 (by rw [h1]; exact h3)
theorem FuOk.fits {d : Dr} {n k : Nat} (h : FuOk d n k) (hn : n ≤ 1000) (hk : k ≤ 10000) : DFits d := by
  obtain ⟨h1, h2, h3, h4, h5, h6⟩ := h
  exact ⟨by omega, by omega, by omega, by omega⟩
theorem fu_burn {d : Dr} {n k : Nat} (h : FuOk d (n + 1) k) : burnO d = true ∧ FuOk (burnD d) n k := by
  obtain ⟨X, Q, f, o⟩ := d
  obtain ⟨h1, h2, h3, h4, h5, h6⟩ := h
  simp only at *
  subst h4 h5
  have hb : burnF ((n + 1 : Nat) : Int) false = (true, ((n + 1 : Nat) : Int) - 1, false) := by
    unfold burnF
    rw [if_neg (by simp; omega), if_pos (by omega)]
  refine ⟨by simp only [burnO, hb], h1, h2, h3, by simp only [burnD, hb]; omega, by simp only [burnD, hb], h6⟩
theorem fu_out {d : Dr} {k : Nat} (h : FuOk d 0 k) : burnO d = false ∧ (burnD d).1 = d.1 ∧ (burnD d).2.1 = d.2.1 ∧ (burnD d).2.2.1 = 0 ∧ (burnD d).2.2.2 = true := by
  obtain ⟨X, Q, f, o⟩ := d
  obtain ⟨h1, h2, h3, h4, h5, h6⟩ := h
  simp only at *
  subst h4 h5
  have hb : burnF ((0 : Nat) : Int) false = (false, 0, true) := by unfold burnF; rw [if_pos (.inr rfl)]; rfl
  simp only [burnO, burnD, hb, and_self]
/-- What a drive is whose power is off. -/
structure OffOk (d : Dr) : Prop where
  X : d.1.length = 5
  c : ∀ x ∈ d.1, x.length = 64
  q : ∀ w ∈ d.2.1, 0 ≤ w.1 ∧ w.1 < 5 ∧ w.2.length = 64
  f : d.2.2.1 = 0
  o : d.2.2.2 = true
  l : d.2.1.length ≤ 5000
theorem fu_flush {d : Dr} {n k : Nat} (h : FuOk d n k) (hk : k ≤ 5000) : if 1 ≤ n then (flushD d).2 = 0 ∧ FuOk (flushD d).1 (n - 1) 0 else (flushD d).2 = 10 ∧ OffOk (flushD d).1 := by
  unfold flushD
  rw [h.may]
  cases n with
  | zero =>
    obtain ⟨b1, b2, b3, b4, b5⟩ := fu_out h
    simp only [b1, if_true, Bool.false_eq_true, if_false]
    exact ⟨trivial, by rw [b2]; exact h.X, by rw [b2]; exact h.c, by rw [b3]; exact h.q, b4, b5, by rw [b3]; exact Nat.le_trans h.l hk⟩
  | succ n =>
    obtain ⟨b1, b2⟩ := fu_burn h
    simp only [b1, if_true]
    rw [if_pos (by omega)]
    refine ⟨trivial, by simp only [setD, stl_len]; exact b2.X, ?_, by simp [setD], b2.f, b2.o, by simp [setD]⟩
    exact stl_64 wr0 (fun _ _ _ _ h => h) _ 0 _ b2.c fun w hw => ⟨(b2.q w hw).1, by rw [b2.X]; exact (b2.q w hw).2.1, (b2.q w hw).2.2⟩
theorem fu_wr {p : Int} {s : B8} {M : Nat} (hs : ∀ i, i < M → (slc64 s i).length = 64) (hp : 0 ≤ p) (hM : p + M ≤ 5) : ∀ (m i n k : Nat) (d : Dr), FuOk d n k → i + m ≤ M → k + m ≤ 5000 →
    if m ≤ n then (wr p s i m d).2 = 0 ∧ FuOk (wr p s i m d).1 (n - m) (k + m) else (wr p s i m d).2 = 10 ∧ OffOk (wr p s i m d).1
  | 0, i, n, k, d, h, _, _ => by simpa [wr] using h
  | m + 1, i, n, k, d, h, h3, hk => by
    cases n with
    | zero =>
      obtain ⟨b1, b2, b3, b4, b5⟩ := fu_out h
      rw [if_neg (by omega)]
      simp only [wr, b1, Bool.false_eq_true, if_false]
      exact ⟨trivial, by rw [b2]; exact h.X, by rw [b2]; exact h.c, by rw [b3]; exact h.q, b4, b5, by rw [b3]; have := h.l; omega⟩
    | succ n =>
      obtain ⟨b1, b2⟩ := fu_burn h
      have hd : FuOk (pushD (burnD d) (p + i, slc64 s i)) n (k + 1) := by
        refine ⟨b2.X, b2.c, ?_, b2.f, b2.o, by have := b2.l; simp only [pushD, List.length_append, List.length_cons, List.length_nil]; omega⟩
        intro w hw
        simp only [pushD, List.mem_append, List.mem_singleton] at hw
        rcases hw with hw | rfl
        · exact b2.q w hw
        · exact ⟨by simp only; omega, by simp only; omega, hs i (by omega)⟩
      have ih := fu_wr hs hp hM m (i + 1) n (k + 1) _ hd (by omega) (by omega)
      simp only [wr, b1, if_true]
      by_cases hmn : m ≤ n
      · rw [if_pos hmn] at ih
        rw [if_pos (by omega), show n + 1 - (m + 1) = n - m by omega, show k + (m + 1) = k + 1 + m by omega]
        exact ih
      · rw [if_neg hmn] at ih
        rw [if_neg (by omega)]
        exact ih
theorem fu_write {d : Dr} {n k m : Nat} {p c : Int} (h : FuOk d n k) (hm : 1 ≤ m ∧ m ≤ 3) (hp : 0 ≤ p ∧ p ≤ 1) (hk : k + m ≤ 5000) :
    if m ≤ n then (writeD d p (allB c m)).2 = 0 ∧ FuOk (writeD d p (allB c m)).1 (n - m) (k + m) else (writeD d p (allB c m)).2 = 10 ∧ OffOk (writeD d p (allB c m)).1 := by
  have h1 : allB c m ≠ [] := by
    intro hh
    have := congrArg List.length hh
    rw [all_len] at this; simp at this; omega
  have hw : writeD d p (allB c m) = wr p (allB c m) 0 m d := by
    unfold writeD
    rw [h.may, all_len, Nat.mul_div_cancel_left _ (by decide : 0 < 64), hasC_of (by rw [h.X]; omega)]
    simp only [h1, decide_false, Bool.not_false, Bool.true_and, Nat.mul_mod_right, decide_true, if_true]
  rw [hw]
  exact fu_wr (M := m) (fun i hi => by rw [all_slc c m i hi, all_len]) hp.1 (by omega) m 0 n k d h (by omega) hk
theorem off_may {d : Dr} (h : OffOk d) : mayD d = true := by
  obtain ⟨X, Q, f, o⟩ := d
  obtain ⟨h1, h2, h3, h4, h5, h6⟩ := h
  simp only at *
  exact may_of (by omega) (by omega) h2 (by rw [h1]; exact h3)
theorem off_read {d : Dr} (h : OffOk d) (l : Ls) : (readD d 0 1).2 = 10 ∧ (readD (crashD d l) 0 1).2 = 0 := by
  have hm := off_may h
  refine ⟨?_, ?_⟩
  · unfold readD
    rw [hm, hasC_of (by rw [h.X]; omega), h.o]; rfl
  · unfold crashD
    rw [hm]
    have hX : (stl (afterB l) 0 d.1 d.2.1).length = 5 := by rw [stl_len]; exact h.X
    have hc := stl_64 (afterB l) (after_64 l) d.2.1 0 d.1 h.c fun w hw => ⟨(h.q w hw).1, by rw [h.X]; exact (h.q w hw).2.1, (h.q w hw).2.2⟩
    have hm2 : mayD (stl (afterB l) 0 d.1 d.2.1, [], -1, false) = true := may_of (by omega) (by omega) hc (by simp)
    unfold readD
    simp only [if_true, hm2]
    rw [hasC_of (by rw [hX]; omega)]; rfl
theorem off_fits {d : Dr} (h : OffOk d) : DFits d := by
  obtain ⟨h1, h2, h3, h4, h5, h6⟩ := h
  exact ⟨by omega, by omega, by omega, by omega⟩
theorem fu_new (n : Nat) : (newD 5).2 = 0 ∧ (fuelD (newD 5).1 (n : Int)).2 = 0 ∧ FuOk (fuelD (newD 5).1 (n : Int)).1 n 0 := by
  have hn : newD 5 = ((List.replicate 5 zs, [], -1, false), 0) := rfl
  have hm : mayD (List.replicate 5 zs, [], -1, false) = true := may_of (by simp) (by omega) (by intro x hx; rw [List.eq_of_mem_replicate hx]; exact zs_len) (by simp)
  have hf : fuelD (newD 5).1 (n : Int) = ((List.replicate 5 zs, [], (n : Int), false), 0) := by
    rw [hn]; unfold fuelD; rw [hm]
    have : decide (-1 ≤ (n : Int)) = true := decide_eq_true (by omega)
    rw [this]; rfl
  rw [hf]
  refine ⟨rfl, rfl, by simp, ?_, by simp, rfl, rfl, by simp⟩
  intro x hx; rw [List.eq_of_mem_replicate hx]; exact zs_len
set_option maxRecDepth 20000 in
set_option maxHeartbeats 2000000 in
theorem law_fuels {fu : Int} {ks : List Int} {H : List Entry} (hfu : 0 ≤ fu ∧ fu ≤ 255) (hks : ∀ z ∈ ks, 0 ≤ z ∧ z ≤ 255) (hkl : ks.length ≤ 9223372036854775807) : Pure AP n_trystlaw17_DiskFuels [.int .u8 fu, .sl 1 (ks.map uV)] H (.bool true) := by
  intro K hK
  refine a_trystlaw17_DiskFuels fun hw => ?_
  obtain ⟨n0, hn0⟩ : ∃ n : Nat, fu % 24 = n := ⟨(fu % 24).toNat, by omega⟩
  have hn24 : n0 < 24 := by omega
  obtain ⟨z1, z2, z3⟩ := fu_new n0
  have fN : DFits (newD 5).1 := ⟨by decide, by decide, by decide, by decide⟩
  simp (disch := first | omega | (simp only [go_sem, List.length_append, List.length_take, List.length_drop, List.length_replicate, List.length_cons, List.length_nil, List.length_replicate] <;> omega)) only [go_sem, true_and, Nat.reduceAdd, Nat.reduceSub, Nat.reduceMul, Nat.reduceEqDiff, Nat.reduceLeDiff, Nat.reduceLT, Nat.reduceBEq, Int.reduceAdd, Int.reduceSub, Int.reduceMul, Int.reduceNeg, Int.reduceLT, Int.reduceLE, Int.reduceEq, Int.reduceToNat, c_trystlaw17_DiskFuels]
  refine s_New (n := 5) _ ?_
  obtain ⟨⟨⟨X0, Q0, f0, o0⟩, e0⟩, hr⟩ : ∃ r, newD 5 = r := ⟨_, rfl⟩
  rw [hr] at z1 z2 z3 fN ⊢
  replace z1 : e0 = 0 := z1
  replace z2 : (fuelD (X0, Q0, f0, o0) (n0 : Int)).2 = 0 := z2
  replace z3 : FuOk (fuelD (X0, Q0, f0, o0) (n0 : Int)).1 n0 0 := z3
  replace fN : DFits (X0, Q0, f0, o0) := fN
  subst z1
  simp (disch := first | omega | (simp only [go_sem, List.length_append, List.length_take, List.length_drop, List.length_replicate, List.length_cons, List.length_nil, List.length_replicate] <;> omega)) only [go_sem, true_and, Nat.reduceAdd, Nat.reduceSub, Nat.reduceMul, Nat.reduceEqDiff, Nat.reduceLeDiff, Nat.reduceLT, Nat.reduceBEq, Int.reduceAdd, Int.reduceSub, Int.reduceMul, Int.reduceNeg, Int.reduceLT, Int.reduceLE, Int.reduceEq, Int.reduceToNat, hn0]
  refine s_Fuel (d := (X0, Q0, f0, o0)) (n := (n0 : Int)) fN _ ?_
  obtain ⟨⟨d1, e1⟩, hr1⟩ : ∃ r, fuelD (X0, Q0, f0, o0) (n0 : Int) = r := ⟨_, rfl⟩
  rw [hr1] at z2 z3 ⊢
  replace z2 : e1 = 0 := z2
  replace z3 : FuOk d1 n0 0 := z3
  subst z2
  simp (disch := first | omega | (simp only [go_sem, List.length_append, List.length_take, List.length_drop, List.length_replicate, List.length_cons, List.length_nil, List.length_replicate] <;> omega)) only [go_sem, true_and, Nat.reduceAdd, Nat.reduceSub, Nat.reduceMul, Nat.reduceEqDiff, Nat.reduceLeDiff, Nat.reduceLT, Nat.reduceBEq, Int.reduceAdd, Int.reduceSub, Int.reduceMul, Int.reduceNeg, Int.reduceLT, Int.reduceLE, Int.reduceEq, Int.reduceToNat]
  refine loop_in (fun m e H' => ∃ (i : Nat) (d' : Dr) (n' : Nat), m = 30 - i ∧ e = slots 0 124 [(1, .sl 1 (ks.map uV)), (4, .bool false), (5, .ptr H.length 0), (7, .int .i64 (n' : Int)), (9, .int .i64 (i : Int))] ∧ H' = H ++ [.box [.sl 1 (d'.1.map sV), .sl 2 (d'.2.1.map wV), .int .i64 d'.2.2.1, .bool d'.2.2.2]] ∧ i ≤ 30 ∧ FuOk d' n' (3 * i) ∧ n' ≤ 24) (n := 30) ⟨0, d1, n0, rfl, rfl, rfl, by omega, z3, by omega⟩ (by first | omega | (simp only [go_sem, List.length_append, List.length_take, List.length_drop, List.length_replicate, true_and, Nat.reduceAdd, Nat.reduceSub, Nat.reduceMul, Nat.reduceEqDiff, Nat.reduceLeDiff, Nat.reduceLT, Nat.reduceBEq, Int.reduceAdd, Int.reduceSub, Int.reduceMul, Int.reduceNeg, Int.reduceLT, Int.reduceLE, Int.reduceEq, Int.reduceToNat] <;> omega)) ?_ ?_ ?_
  · simp (disch := (simp only [go_sem, true_and, Nat.reduceAdd, Nat.reduceSub, Nat.reduceMul, Nat.reduceEqDiff, Nat.reduceLeDiff, Nat.reduceLT, Nat.reduceBEq, Int.reduceAdd, Int.reduceSub, Int.reduceMul, Int.reduceNeg, Int.reduceLT, Int.reduceLE, Int.reduceEq, Int.reduceToNat] <;> omega)) only [go_sem, x_eLeS, x_hLeS, Int.natCast_zero, Int.natCast_add, Int.natCast_one, true_and, Nat.reduceAdd, Nat.reduceSub, Nat.reduceMul, Nat.reduceEqDiff, Nat.reduceLeDiff, Nat.reduceLT, Nat.reduceBEq, Int.reduceAdd, Int.reduceSub, Int.reduceMul, Int.reduceNeg, Int.reduceLT, Int.reduceLE, Int.reduceEq, Int.reduceToNat]
  · exact hLe_app hw (by first | omega | (simp only [go_sem, List.length_append, List.length_take, List.length_drop, List.length_replicate, true_and, Nat.reduceAdd, Nat.reduceSub, Nat.reduceMul, Nat.reduceEqDiff, Nat.reduceLeDiff, Nat.reduceLT, Nat.reduceBEq, Int.reduceAdd, Int.reduceSub, Int.reduceMul, Int.reduceNeg, Int.reduceLT, Int.reduceLE, Int.reduceEq, Int.reduceToNat] <;> omega)) (by simp (disch := (simp only [go_sem, true_and, Nat.reduceAdd, Nat.reduceSub, Nat.reduceMul, Nat.reduceEqDiff, Nat.reduceLeDiff, Nat.reduceLT, Nat.reduceBEq, Int.reduceAdd, Int.reduceSub, Int.reduceMul, Int.reduceNeg, Int.reduceLT, Int.reduceLE, Int.reduceEq, Int.reduceToNat] <;> omega)) only [go_sem, x_eLeS, x_hLeS, Int.natCast_zero, Int.natCast_add, Int.natCast_one, true_and, Nat.reduceAdd, Nat.reduceSub, Nat.reduceMul, Nat.reduceEqDiff, Nat.reduceLeDiff, Nat.reduceLT, Nat.reduceBEq, Int.reduceAdd, Int.reduceSub, Int.reduceMul, Int.reduceNeg, Int.reduceLT, Int.reduceLE, Int.reduceEq, Int.reduceToNat])
  · rintro J hJ m e H' ⟨i, d', n', rfl, rfl, rfl, hi, hF, hn'⟩
    have hfit := hF.fits (by omega) (by omega)
    simp (disch := first | omega | (simp only [go_sem, List.length_append, List.length_take, List.length_drop, List.length_replicate, List.length_cons, List.length_nil, List.length_replicate] <;> omega)) only [go_sem, true_and, Nat.reduceAdd, Nat.reduceSub, Nat.reduceMul, Nat.reduceEqDiff, Nat.reduceLeDiff, Nat.reduceLT, Nat.reduceBEq, Int.reduceAdd, Int.reduceSub, Int.reduceMul, Int.reduceNeg, Int.reduceLT, Int.reduceLE, Int.reduceEq, Int.reduceToNat]
    by_cases h1 : (i : Int) < ks.length
    rotate_left
    · simp (disch := first | omega | (simp only [go_sem, List.length_append, List.length_take, List.length_drop, List.length_replicate, List.length_cons, List.length_nil, List.length_replicate] <;> omega)) only [go_sem, true_and, Nat.reduceAdd, Nat.reduceSub, Nat.reduceMul, Nat.reduceEqDiff, Nat.reduceLeDiff, Nat.reduceLT, Nat.reduceBEq, Int.reduceAdd, Int.reduceSub, Int.reduceMul, Int.reduceNeg, Int.reduceLT, Int.reduceLE, Int.reduceEq, Int.reduceToNat]
      refine awake_ok _ _ ?_
      simp (disch := first | omega | (simp only [go_sem, List.length_append, List.length_take, List.length_drop, List.length_replicate, List.length_cons, List.length_nil, List.length_replicate] <;> omega)) only [go_sem, true_and, Nat.reduceAdd, Nat.reduceSub, Nat.reduceMul, Nat.reduceEqDiff, Nat.reduceLeDiff, Nat.reduceLT, Nat.reduceBEq, Int.reduceAdd, Int.reduceSub, Int.reduceMul, Int.reduceNeg, Int.reduceLT, Int.reduceLE, Int.reduceEq, Int.reduceToNat]
      refine fin_tmp hw ?_ (fin_eq hK ?_)
      · simp (disch := first | omega | (simp only [go_sem, List.length_append, List.length_take, List.length_drop, List.length_replicate, List.length_cons, List.length_nil, List.length_replicate] <;> omega)) only [go_sem, true_and, Nat.reduceAdd, Nat.reduceSub, Nat.reduceMul, Nat.reduceEqDiff, Nat.reduceLeDiff, Nat.reduceLT, Nat.reduceBEq, Int.reduceAdd, Int.reduceSub, Int.reduceMul, Int.reduceNeg, Int.reduceLT, Int.reduceLE, Int.reduceEq, Int.reduceToNat]
      · simp (disch := first | omega | (simp only [go_sem, List.length_append, List.length_take, List.length_drop, List.length_replicate, List.length_cons, List.length_nil, List.length_replicate] <;> omega)) only [go_sem, true_and, Nat.reduceAdd, Nat.reduceSub, Nat.reduceMul, Nat.reduceEqDiff, Nat.reduceLeDiff, Nat.reduceLT, Nat.reduceBEq, Int.reduceAdd, Int.reduceSub, Int.reduceMul, Int.reduceNeg, Int.reduceLT, Int.reduceLE, Int.reduceEq, Int.reduceToNat]
    by_cases h2 : (i : Int) < 30
    rotate_left
    · simp (disch := first | omega | (simp only [go_sem, List.length_append, List.length_take, List.length_drop, List.length_replicate, List.length_cons, List.length_nil, List.length_replicate] <;> omega)) only [go_sem, true_and, Nat.reduceAdd, Nat.reduceSub, Nat.reduceMul, Nat.reduceEqDiff, Nat.reduceLeDiff, Nat.reduceLT, Nat.reduceBEq, Int.reduceAdd, Int.reduceSub, Int.reduceMul, Int.reduceNeg, Int.reduceLT, Int.reduceLE, Int.reduceEq, Int.reduceToNat]
      refine awake_ok _ _ ?_
      simp (disch := first | omega | (simp only [go_sem, List.length_append, List.length_take, List.length_drop, List.length_replicate, List.length_cons, List.length_nil, List.length_replicate] <;> omega)) only [go_sem, true_and, Nat.reduceAdd, Nat.reduceSub, Nat.reduceMul, Nat.reduceEqDiff, Nat.reduceLeDiff, Nat.reduceLT, Nat.reduceBEq, Int.reduceAdd, Int.reduceSub, Int.reduceMul, Int.reduceNeg, Int.reduceLT, Int.reduceLE, Int.reduceEq, Int.reduceToNat]
      refine fin_tmp hw ?_ (fin_eq hK ?_)
      · simp (disch := first | omega | (simp only [go_sem, List.length_append, List.length_take, List.length_drop, List.length_replicate, List.length_cons, List.length_nil, List.length_replicate] <;> omega)) only [go_sem, true_and, Nat.reduceAdd, Nat.reduceSub, Nat.reduceMul, Nat.reduceEqDiff, Nat.reduceLeDiff, Nat.reduceLT, Nat.reduceBEq, Int.reduceAdd, Int.reduceSub, Int.reduceMul, Int.reduceNeg, Int.reduceLT, Int.reduceLE, Int.reduceEq, Int.reduceToNat]
      · simp (disch := first | omega | (simp only [go_sem, List.length_append, List.length_take, List.length_drop, List.length_replicate, List.length_cons, List.length_nil, List.length_replicate] <;> omega)) only [go_sem, true_and, Nat.reduceAdd, Nat.reduceSub, Nat.reduceMul, Nat.reduceEqDiff, Nat.reduceLeDiff, Nat.reduceLT, Nat.reduceBEq, Int.reduceAdd, Int.reduceSub, Int.reduceMul, Int.reduceNeg, Int.reduceLT, Int.reduceLE, Int.reduceEq, Int.reduceToNat]
    have hk := hks _ (getD_mem (X := ks) (i := i) (by omega))
    simp (disch := first | omega | (simp only [go_sem, List.length_append, List.length_take, List.length_drop, List.length_replicate, List.length_cons, List.length_nil, List.length_replicate] <;> omega)) only [go_sem, true_and, Nat.reduceAdd, Nat.reduceSub, Nat.reduceMul, Nat.reduceEqDiff, Nat.reduceLeDiff, Nat.reduceLT, Nat.reduceBEq, Int.reduceAdd, Int.reduceSub, Int.reduceMul, Int.reduceNeg, Int.reduceLT, Int.reduceLE, Int.reduceEq, Int.reduceToNat]
    refine s_Flush (d := d') hfit _ ?_
    obtain ⟨m, hm⟩ : ∃ m : Nat, ks.getD i default % 4 = m := ⟨(ks.getD i default % 4).toNat, by omega⟩
    by_cases h3 : 0 < ks.getD i default % 4
    · generalize flushD d' = fd at *
      simp (disch := first | omega | (simp only [go_sem, List.length_append, List.length_take, List.length_drop, List.length_replicate, List.length_cons, List.length_nil, List.length_replicate] <;> omega)) only [go_sem, true_and, Nat.reduceAdd, Nat.reduceSub, Nat.reduceMul, Nat.reduceEqDiff, Nat.reduceLeDiff, Nat.reduceLT, Nat.reduceBEq, Int.reduceAdd, Int.reduceSub, Int.reduceMul, Int.reduceNeg, Int.reduceLT, Int.reduceLE, Int.reduceEq, Int.reduceToNat, hm]
      refine (s_All (c := 97) (n := m) (by omega) (by omega)).dcall ?_
      simp (disch := first | omega | (simp only [go_sem, List.length_append, List.length_take, List.length_drop, List.length_replicate, List.length_cons, List.length_nil, List.length_replicate] <;> omega)) only [go_sem, true_and, Nat.reduceAdd, Nat.reduceSub, Nat.reduceMul, Nat.reduceEqDiff, Nat.reduceLeDiff, Nat.reduceLT, Nat.reduceBEq, Int.reduceAdd, Int.reduceSub, Int.reduceMul, Int.reduceNeg, Int.reduceLT, Int.reduceLE, Int.reduceEq, Int.reduceToNat]
      obtain ⟨p, hp⟩ : ∃ p : Int, ks.getD i default / 4 % 2 = p := ⟨_, rfl⟩
      rw [hp]
      refine (s_Write (d := d') (p := p) (s := allB 97 m) hfit (by omega) (by rw [all_len]; omega)).dcall ?_
      have hres := fu_write (p := p) (c := 97) hF (m := m) (by omega) (by omega) (by omega)
      obtain ⟨⟨d2, e2⟩, hr2⟩ : ∃ r, writeD d' p (allB 97 m) = r := ⟨_, rfl⟩
      rw [hr2] at hres ⊢
      simp only at hres
      by_cases hle : m ≤ n'
      · rw [if_pos hle] at hres
        obtain ⟨rfl, hF2⟩ := hres
        have hle2 : (m : Int) ≤ n' := by omega
        have hdec : decide ((m : Int) ≤ (n' : Int)) = true := by simpa using hle2
        have e9 : ((n' - m : Nat) : Int) = (n' : Int) - m := by omega
        simp (disch := first | omega | (simp only [go_sem, List.length_append, List.length_take, List.length_drop, List.length_replicate, List.length_cons, List.length_nil, List.length_replicate] <;> omega)) only [go_sem, true_and, Nat.reduceAdd, Nat.reduceSub, Nat.reduceMul, Nat.reduceEqDiff, Nat.reduceLeDiff, Nat.reduceLT, Nat.reduceBEq, Int.reduceAdd, Int.reduceSub, Int.reduceMul, Int.reduceNeg, Int.reduceLT, Int.reduceLE, Int.reduceEq, Int.reduceToNat, hdec, bne_self_eq_false]
        refine round_end (hJ _ _ _ ⟨i + 1, d2, n' - m, rfl, rfl, rfl, by omega, ⟨hF2.X, hF2.c, hF2.q, hF2.f, hF2.o, by have := hF2.l; omega⟩, by omega⟩) (by omega) (by first | omega | (simp only [go_sem, List.length_append, List.length_take, List.length_drop, List.length_replicate, true_and, Nat.reduceAdd, Nat.reduceSub, Nat.reduceMul, Nat.reduceEqDiff, Nat.reduceLeDiff, Nat.reduceLT, Nat.reduceBEq, Int.reduceAdd, Int.reduceSub, Int.reduceMul, Int.reduceNeg, Int.reduceLT, Int.reduceLE, Int.reduceEq, Int.reduceToNat] <;> omega)) ?_ ?_
        · rw [e9]
          simp (disch := (simp only [go_sem, true_and, Nat.reduceAdd, Nat.reduceSub, Nat.reduceMul, Nat.reduceEqDiff, Nat.reduceLeDiff, Nat.reduceLT, Nat.reduceBEq, Int.reduceAdd, Int.reduceSub, Int.reduceMul, Int.reduceNeg, Int.reduceLT, Int.reduceLE, Int.reduceEq, Int.reduceToNat] <;> omega)) only [go_sem, x_eLeS, x_hLeS, Int.natCast_zero, Int.natCast_add, Int.natCast_one, true_and, Nat.reduceAdd, Nat.reduceSub, Nat.reduceMul, Nat.reduceEqDiff, Nat.reduceLeDiff, Nat.reduceLT, Nat.reduceBEq, Int.reduceAdd, Int.reduceSub, Int.reduceMul, Int.reduceNeg, Int.reduceLT, Int.reduceLE, Int.reduceEq, Int.reduceToNat]
        · exact hLe_app hw (by first | omega | (simp only [go_sem, List.length_append, List.length_take, List.length_drop, List.length_replicate, true_and, Nat.reduceAdd, Nat.reduceSub, Nat.reduceMul, Nat.reduceEqDiff, Nat.reduceLeDiff, Nat.reduceLT, Nat.reduceBEq, Int.reduceAdd, Int.reduceSub, Int.reduceMul, Int.reduceNeg, Int.reduceLT, Int.reduceLE, Int.reduceEq, Int.reduceToNat] <;> omega)) (by simp (disch := (simp only [go_sem, true_and, Nat.reduceAdd, Nat.reduceSub, Nat.reduceMul, Nat.reduceEqDiff, Nat.reduceLeDiff, Nat.reduceLT, Nat.reduceBEq, Int.reduceAdd, Int.reduceSub, Int.reduceMul, Int.reduceNeg, Int.reduceLT, Int.reduceLE, Int.reduceEq, Int.reduceToNat] <;> omega)) only [go_sem, x_eLeS, x_hLeS, Int.natCast_zero, Int.natCast_add, Int.natCast_one, true_and, Nat.reduceAdd, Nat.reduceSub, Nat.reduceMul, Nat.reduceEqDiff, Nat.reduceLeDiff, Nat.reduceLT, Nat.reduceBEq, Int.reduceAdd, Int.reduceSub, Int.reduceMul, Int.reduceNeg, Int.reduceLT, Int.reduceLE, Int.reduceEq, Int.reduceToNat])
      · rw [if_neg hle] at hres
        obtain ⟨rfl, hF2⟩ := hres
        have hle2 : ¬ (m : Int) ≤ n' := by omega
        have hdec : decide ((m : Int) ≤ (n' : Int)) = false := by simpa using hle2
        have hd2 := off_fits hF2
        obtain ⟨r1, r2⟩ := off_read hF2 (0, 0, 0)
        have o1 := hF2.f
        have o2 := hF2.o
        simp (disch := first | omega | (simp only [go_sem, List.length_append, List.length_take, List.length_drop, List.length_replicate, List.length_cons, List.length_nil, List.length_replicate] <;> omega)) only [go_sem, true_and, Nat.reduceAdd, Nat.reduceSub, Nat.reduceMul, Nat.reduceEqDiff, Nat.reduceLeDiff, Nat.reduceLT, Nat.reduceBEq, Int.reduceAdd, Int.reduceSub, Int.reduceMul, Int.reduceNeg, Int.reduceLT, Int.reduceLE, Int.reduceEq, Int.reduceToNat, hdec, bne_self_eq_false]
        refine s_Read (d := d2) (p := 0) (n := 1) hd2 (by omega) (by omega) _ ?_
        rw [r1]
        simp (disch := first | omega | (simp only [go_sem, List.length_append, List.length_take, List.length_drop, List.length_replicate, List.length_cons, List.length_nil, List.length_replicate] <;> omega)) only [go_sem, true_and, Nat.reduceAdd, Nat.reduceSub, Nat.reduceMul, Nat.reduceEqDiff, Nat.reduceLeDiff, Nat.reduceLT, Nat.reduceBEq, Int.reduceAdd, Int.reduceSub, Int.reduceMul, Int.reduceNeg, Int.reduceLT, Int.reduceLE, Int.reduceEq, Int.reduceToNat]
        refine s_Crash (d := d2) (l := (0, 0, 0)) hd2 (by simp) _ ?_
        have hc2 := fits_crash (l := (0, 0, 0)) hd2
        generalize crashD d2 (0, 0, 0) = d3 at *
        simp (disch := first | omega | (simp only [go_sem, List.length_append, List.length_take, List.length_drop, List.length_replicate, List.length_cons, List.length_nil, List.length_replicate] <;> omega)) only [go_sem, true_and, Nat.reduceAdd, Nat.reduceSub, Nat.reduceMul, Nat.reduceEqDiff, Nat.reduceLeDiff, Nat.reduceLT, Nat.reduceBEq, Int.reduceAdd, Int.reduceSub, Int.reduceMul, Int.reduceNeg, Int.reduceLT, Int.reduceLE, Int.reduceEq, Int.reduceToNat]
        refine s_Read (d := d3) (p := 0) (n := 1) hc2 (by omega) (by omega) _ ?_
        rw [r2]
        simp (disch := first | omega | (simp only [go_sem, List.length_append, List.length_take, List.length_drop, List.length_replicate, List.length_cons, List.length_nil, List.length_replicate] <;> omega)) only [go_sem, true_and, Nat.reduceAdd, Nat.reduceSub, Nat.reduceMul, Nat.reduceEqDiff, Nat.reduceLeDiff, Nat.reduceLT, Nat.reduceBEq, Int.reduceAdd, Int.reduceSub, Int.reduceMul, Int.reduceNeg, Int.reduceLT, Int.reduceLE, Int.reduceEq, Int.reduceToNat, o1, o2]
        refine awake_ok _ _ ?_
        simp (disch := first | omega | (simp only [go_sem, List.length_append, List.length_take, List.length_drop, List.length_replicate, List.length_cons, List.length_nil, List.length_replicate] <;> omega)) only [go_sem, true_and, Nat.reduceAdd, Nat.reduceSub, Nat.reduceMul, Nat.reduceEqDiff, Nat.reduceLeDiff, Nat.reduceLT, Nat.reduceBEq, Int.reduceAdd, Int.reduceSub, Int.reduceMul, Int.reduceNeg, Int.reduceLT, Int.reduceLE, Int.reduceEq, Int.reduceToNat]
        refine fin_tmp hw ?_ (fin_eq hK ?_)
        · simp (disch := first | omega | (simp only [go_sem, List.length_append, List.length_take, List.length_drop, List.length_replicate, List.length_cons, List.length_nil, List.length_replicate] <;> omega)) only [go_sem, true_and, Nat.reduceAdd, Nat.reduceSub, Nat.reduceMul, Nat.reduceEqDiff, Nat.reduceLeDiff, Nat.reduceLT, Nat.reduceBEq, Int.reduceAdd, Int.reduceSub, Int.reduceMul, Int.reduceNeg, Int.reduceLT, Int.reduceLE, Int.reduceEq, Int.reduceToNat]
        · simp (disch := first | omega | (simp only [go_sem, List.length_append, List.length_take, List.length_drop, List.length_replicate, List.length_cons, List.length_nil, List.length_replicate] <;> omega)) only [go_sem, true_and, Nat.reduceAdd, Nat.reduceSub, Nat.reduceMul, Nat.reduceEqDiff, Nat.reduceLeDiff, Nat.reduceLT, Nat.reduceBEq, Int.reduceAdd, Int.reduceSub, Int.reduceMul, Int.reduceNeg, Int.reduceLT, Int.reduceLE, Int.reduceEq, Int.reduceToNat]
    · have hm0 : m = 0 := by omega
      subst hm0
      have hres := fu_flush hF (by omega)
      obtain ⟨⟨d2, e2⟩, hr2⟩ : ∃ r, flushD d' = r := ⟨_, rfl⟩
      rw [hr2] at hres ⊢
      simp only at hres
      simp (disch := first | omega | (simp only [go_sem, List.length_append, List.length_take, List.length_drop, List.length_replicate, List.length_cons, List.length_nil, List.length_replicate] <;> omega)) only [go_sem, true_and, Nat.reduceAdd, Nat.reduceSub, Nat.reduceMul, Nat.reduceEqDiff, Nat.reduceLeDiff, Nat.reduceLT, Nat.reduceBEq, Int.reduceAdd, Int.reduceSub, Int.reduceMul, Int.reduceNeg, Int.reduceLT, Int.reduceLE, Int.reduceEq, Int.reduceToNat, hm]
      by_cases hle : 1 ≤ n'
      · rw [if_pos hle] at hres
        obtain ⟨rfl, hF2⟩ := hres
        have hle2 : (1 : Int) ≤ n' := by omega
        have hdec : decide ((1 : Int) ≤ (n' : Int)) = true := by simpa using hle2
        have e9 : ((n' - 1 : Nat) : Int) = (n' : Int) - 1 := by omega
        simp (disch := first | omega | (simp only [go_sem, List.length_append, List.length_take, List.length_drop, List.length_replicate, List.length_cons, List.length_nil, List.length_replicate] <;> omega)) only [go_sem, true_and, Nat.reduceAdd, Nat.reduceSub, Nat.reduceMul, Nat.reduceEqDiff, Nat.reduceLeDiff, Nat.reduceLT, Nat.reduceBEq, Int.reduceAdd, Int.reduceSub, Int.reduceMul, Int.reduceNeg, Int.reduceLT, Int.reduceLE, Int.reduceEq, Int.reduceToNat, hdec, bne_self_eq_false]
        refine round_end (hJ _ _ _ ⟨i + 1, d2, n' - 1, rfl, rfl, rfl, by omega, ⟨hF2.X, hF2.c, hF2.q, hF2.f, hF2.o, by have := hF2.l; omega⟩, by omega⟩) (by omega) (by first | omega | (simp only [go_sem, List.length_append, List.length_take, List.length_drop, List.length_replicate, true_and, Nat.reduceAdd, Nat.reduceSub, Nat.reduceMul, Nat.reduceEqDiff, Nat.reduceLeDiff, Nat.reduceLT, Nat.reduceBEq, Int.reduceAdd, Int.reduceSub, Int.reduceMul, Int.reduceNeg, Int.reduceLT, Int.reduceLE, Int.reduceEq, Int.reduceToNat] <;> omega)) ?_ ?_
        · rw [e9]
          simp (disch := (simp only [go_sem, true_and, Nat.reduceAdd, Nat.reduceSub, Nat.reduceMul, Nat.reduceEqDiff, Nat.reduceLeDiff, Nat.reduceLT, Nat.reduceBEq, Int.reduceAdd, Int.reduceSub, Int.reduceMul, Int.reduceNeg, Int.reduceLT, Int.reduceLE, Int.reduceEq, Int.reduceToNat] <;> omega)) only [go_sem, x_eLeS, x_hLeS, Int.natCast_zero, Int.natCast_add, Int.natCast_one, true_and, Nat.reduceAdd, Nat.reduceSub, Nat.reduceMul, Nat.reduceEqDiff, Nat.reduceLeDiff, Nat.reduceLT, Nat.reduceBEq, Int.reduceAdd, Int.reduceSub, Int.reduceMul, Int.reduceNeg, Int.reduceLT, Int.reduceLE, Int.reduceEq, Int.reduceToNat]
        · exact hLe_app hw (by first | omega | (simp only [go_sem, List.length_append, List.length_take, List.length_drop, List.length_replicate, true_and, Nat.reduceAdd, Nat.reduceSub, Nat.reduceMul, Nat.reduceEqDiff, Nat.reduceLeDiff, Nat.reduceLT, Nat.reduceBEq, Int.reduceAdd, Int.reduceSub, Int.reduceMul, Int.reduceNeg, Int.reduceLT, Int.reduceLE, Int.reduceEq, Int.reduceToNat] <;> omega)) (by simp (disch := (simp only [go_sem, true_and, Nat.reduceAdd, Nat.reduceSub, Nat.reduceMul, Nat.reduceEqDiff, Nat.reduceLeDiff, Nat.reduceLT, Nat.reduceBEq, Int.reduceAdd, Int.reduceSub, Int.reduceMul, Int.reduceNeg, Int.reduceLT, Int.reduceLE, Int.reduceEq, Int.reduceToNat] <;> omega)) only [go_sem, x_eLeS, x_hLeS, Int.natCast_zero, Int.natCast_add, Int.natCast_one, true_and, Nat.reduceAdd, Nat.reduceSub, Nat.reduceMul, Nat.reduceEqDiff, Nat.reduceLeDiff, Nat.reduceLT, Nat.reduceBEq, Int.reduceAdd, Int.reduceSub, Int.reduceMul, Int.reduceNeg, Int.reduceLT, Int.reduceLE, Int.reduceEq, Int.reduceToNat])
      · rw [if_neg hle] at hres
        obtain ⟨rfl, hF2⟩ := hres
        have hle2 : ¬ (1 : Int) ≤ n' := by omega
        have hdec : decide ((1 : Int) ≤ (n' : Int)) = false := by simpa using hle2
        have hd2 := off_fits hF2
        obtain ⟨r1, r2⟩ := off_read hF2 (0, 0, 0)
        have o1 := hF2.f
        have o2 := hF2.o
        simp (disch := first | omega | (simp only [go_sem, List.length_append, List.length_take, List.length_drop, List.length_replicate, List.length_cons, List.length_nil, List.length_replicate] <;> omega)) only [go_sem, true_and, Nat.reduceAdd, Nat.reduceSub, Nat.reduceMul, Nat.reduceEqDiff, Nat.reduceLeDiff, Nat.reduceLT, Nat.reduceBEq, Int.reduceAdd, Int.reduceSub, Int.reduceMul, Int.reduceNeg, Int.reduceLT, Int.reduceLE, Int.reduceEq, Int.reduceToNat, hdec, bne_self_eq_false]
        refine s_Read (d := d2) (p := 0) (n := 1) hd2 (by omega) (by omega) _ ?_
        rw [r1]
        simp (disch := first | omega | (simp only [go_sem, List.length_append, List.length_take, List.length_drop, List.length_replicate, List.length_cons, List.length_nil, List.length_replicate] <;> omega)) only [go_sem, true_and, Nat.reduceAdd, Nat.reduceSub, Nat.reduceMul, Nat.reduceEqDiff, Nat.reduceLeDiff, Nat.reduceLT, Nat.reduceBEq, Int.reduceAdd, Int.reduceSub, Int.reduceMul, Int.reduceNeg, Int.reduceLT, Int.reduceLE, Int.reduceEq, Int.reduceToNat]
        refine s_Crash (d := d2) (l := (0, 0, 0)) hd2 (by simp) _ ?_
        have hc2 := fits_crash (l := (0, 0, 0)) hd2
        generalize crashD d2 (0, 0, 0) = d3 at *
        simp (disch := first | omega | (simp only [go_sem, List.length_append, List.length_take, List.length_drop, List.length_replicate, List.length_cons, List.length_nil, List.length_replicate] <;> omega)) only [go_sem, true_and, Nat.reduceAdd, Nat.reduceSub, Nat.reduceMul, Nat.reduceEqDiff, Nat.reduceLeDiff, Nat.reduceLT, Nat.reduceBEq, Int.reduceAdd, Int.reduceSub, Int.reduceMul, Int.reduceNeg, Int.reduceLT, Int.reduceLE, Int.reduceEq, Int.reduceToNat]
        refine s_Read (d := d3) (p := 0) (n := 1) hc2 (by omega) (by omega) _ ?_
        rw [r2]
        simp (disch := first | omega | (simp only [go_sem, List.length_append, List.length_take, List.length_drop, List.length_replicate, List.length_cons, List.length_nil, List.length_replicate] <;> omega)) only [go_sem, true_and, Nat.reduceAdd, Nat.reduceSub, Nat.reduceMul, Nat.reduceEqDiff, Nat.reduceLeDiff, Nat.reduceLT, Nat.reduceBEq, Int.reduceAdd, Int.reduceSub, Int.reduceMul, Int.reduceNeg, Int.reduceLT, Int.reduceLE, Int.reduceEq, Int.reduceToNat, o1, o2]
        refine awake_ok _ _ ?_
        simp (disch := first | omega | (simp only [go_sem, List.length_append, List.length_take, List.length_drop, List.length_replicate, List.length_cons, List.length_nil, List.length_replicate] <;> omega)) only [go_sem, true_and, Nat.reduceAdd, Nat.reduceSub, Nat.reduceMul, Nat.reduceEqDiff, Nat.reduceLeDiff, Nat.reduceLT, Nat.reduceBEq, Int.reduceAdd, Int.reduceSub, Int.reduceMul, Int.reduceNeg, Int.reduceLT, Int.reduceLE, Int.reduceEq, Int.reduceToNat]
        refine fin_tmp hw ?_ (fin_eq hK ?_)
        · simp (disch := first | omega | (simp only [go_sem, List.length_append, List.length_take, List.length_drop, List.length_replicate, List.length_cons, List.length_nil, List.length_replicate] <;> omega)) only [go_sem, true_and, Nat.reduceAdd, Nat.reduceSub, Nat.reduceMul, Nat.reduceEqDiff, Nat.reduceLeDiff, Nat.reduceLT, Nat.reduceBEq, Int.reduceAdd, Int.reduceSub, Int.reduceMul, Int.reduceNeg, Int.reduceLT, Int.reduceLE, Int.reduceEq, Int.reduceToNat]
        · simp (disch := first | omega | (simp only [go_sem, List.length_append, List.length_take, List.length_drop, List.length_replicate, List.length_cons, List.length_nil, List.length_replicate] <;> omega)) only [go_sem, true_and, Nat.reduceAdd, Nat.reduceSub, Nat.reduceMul, Nat.reduceEqDiff, Nat.reduceLeDiff, Nat.reduceLT, Nat.reduceBEq, Int.reduceAdd, Int.reduceSub, Int.reduceMul, Int.reduceNeg, Int.reduceLT, Int.reduceLE, Int.reduceEq, Int.reduceToNat]
end Go.Av
