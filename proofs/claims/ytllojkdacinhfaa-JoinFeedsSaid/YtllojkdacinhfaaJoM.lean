/- A part of a way to reckon what a Go program does without its memory (JoM). -/
import Derived.Test.YtllojkdacinhfaaJoI
namespace Go.Av
open Go
set_option autoImplicit false
set_option linter.all false
/-! ### Which fire, by the program and by the document -/
def pos (j : Jo) (A : List Ke) : List Nat := (List.range A.length).filter (fireB j A)
theorem filter_lt (n d : Nat) : (List.range n).filter (fun i => decide (i < d)) = List.range (min n d) := by
  induction n with
  | zero => simp
  | succ n ih =>
    rw [List.range_succ, List.filter_append, ih]
    by_cases h : n < d
    · simp only [List.filter_cons, h, decide_true, if_true, List.filter_nil]
      rw [show min n d = n by omega, show min (n + 1) d = n + 1 by omega, List.range_succ]
    · simp only [List.filter_cons, h, decide_false, List.filter_nil]
      rw [show min n d = d by omega, show min (n + 1) d = d by omega]
      simp
theorem idx_spec {A : List Ke} {q : Int} {i : Nat} : idx (partIs q) A = (i : Int) ↔ i < A.length ∧ (A.getD i default).1 = q ∧ ∀ k < i, (A.getD k default).1 ≠ q := by
  constructor
  · intro h
    have hb := idx_bounds (partIs q) A
    have hi : i < A.length := by omega
    refine ⟨hi, ?_⟩
    unfold idx at h
    cases hf : A.findIdx? (partIs q) with
    | none => rw [hf] at h; simp at h <;> omega
    | some m =>
      rw [hf] at h
      simp only [Option.elim_some] at h
      have : m = i := by omega
      subst this
      rw [List.findIdx?_eq_some_iff_getElem] at hf
      obtain ⟨hm, h1, h2⟩ := hf
      refine ⟨by simpa [partIs, hm] using h1, fun k hk => ?_⟩
      have hkl : k < A.length := by omega
      have := h2 k hk
      simpa [partIs, hkl] using this
  · rintro ⟨hi, h1, h2⟩
    exact idx_some hi (by simp only [partIs, h1, decide_true]) fun k hk => by simp only [partIs, decide_eq_false_iff_not]; exact h2 k hk
theorem fUp_iff {A : List Ke} {i : Nat} : fUp A i i = true ↔ ∀ k < i, (A.getD k default).1 ≠ (A.getD i default).1 := by
  simp only [fUp, List.all_eq_true, List.mem_range, Bool.not_eq_true', decide_eq_false_iff_not] <;> exact Iff.rfl
def occ (A : List Ke) (p : Nat) : List Nat := (List.range p).filter fun q => decide (0 ≤ idx (partIs q) A)
theorem pos_perm {j : Jo} {A : List Ke} {p : Nat} (hj : j.1 = bAll) (hA : ∀ i < A.length, 0 ≤ (A.getD i default).1 ∧ (A.getD i default).1 < p) : ((pos j A).map fun i : Nat => (i : Int)).Perm ((occ A p).map fun q : Nat => idx (partIs q) A) := by
  have hfire : ∀ i, fireB j A i = fUp A i i := fun i => by simp [fireB, hj]
  have hn1 : ((pos j A).map fun i : Nat => (i : Int)).Nodup := by
    unfold List.Nodup
    rw [List.pairwise_map]
    exact (List.Pairwise.filter _ List.nodup_range).imp fun h e => h (by omega)
  have hn2 : ((occ A p).map fun q : Nat => idx (partIs q) A).Nodup := by
    unfold List.Nodup
    rw [List.pairwise_map]
    refine List.Pairwise.imp_of_mem ?_ (List.Pairwise.filter _ (List.nodup_range (n := p)))
    intro a b ha hb hne he
    replace ha := (List.mem_filter.1 ha).2
    replace hb := (List.mem_filter.1 hb).2
    simp only [decide_eq_true_eq] at ha hb
    obtain ⟨m, hm⟩ : ∃ m : Nat, idx (partIs a) A = m := ⟨(idx (partIs a) A).toNat, by omega⟩
    have h1 := idx_spec.1 hm
    have h2 := idx_spec.1 (he ▸ hm)
    have : (a : Int) = b := h1.2.1.symm.trans h2.2.1
    exact hne (by omega)
  rw [List.perm_ext_iff_of_nodup hn1 hn2]
  intro z
  simp only [List.mem_map, pos, occ, List.mem_filter, List.mem_range, decide_eq_true_eq, hfire]
  constructor
  · rintro ⟨i, ⟨hi, hf⟩, rfl⟩
    have hb := hA i hi
    refine ⟨(A.getD i default).1.toNat, ⟨by omega, ?_⟩, ?_⟩
    · have : idx (partIs ((A.getD i default).1.toNat : Nat)) A = i := idx_spec.2 ⟨hi, by omega, fun k hk => by rw [show (((A.getD i default).1.toNat : Nat) : Int) = (A.getD i default).1 by omega]; exact fUp_iff.1 hf k hk⟩
      omega
    · exact idx_spec.2 ⟨hi, by omega, fun k hk => by rw [show (((A.getD i default).1.toNat : Nat) : Int) = (A.getD i default).1 by omega]; exact fUp_iff.1 hf k hk⟩
  · rintro ⟨q, ⟨hq, h0⟩, rfl⟩
    obtain ⟨m, hm⟩ : ∃ m : Nat, idx (partIs q) A = m := ⟨(idx (partIs q) A).toNat, by omega⟩
    obtain ⟨h1, h2, h3⟩ := idx_spec.1 hm
    exact ⟨m, ⟨h1, fUp_iff.2 fun k hk => by rw [h2]; exact h3 k hk⟩, hm.symm⟩
theorem pos_sorted (j : Jo) (A : List Ke) : ((pos j A).map fun i : Nat => (i : Int)).Pairwise (· ≤ ·) := by
  rw [List.pairwise_map]
  exact (List.Pairwise.filter _ List.pairwise_lt_range).imp fun h => by omega
theorem msort_eq {l m : List Int} (h : l.Perm m) (hm : m.Pairwise (· ≤ ·)) : msort l = m := by
  have hs : (msort l).Pairwise (· ≤ ·) := by rw [msort_isort]; exact isort_sorted l
  exact List.Perm.eq_of_pairwise (fun a b _ _ h1 h2 => by omega) hs hm ((List.mergeSort_perm l _).trans h)
/-- Which meet a pattern: those that fire, if it is met. -/
theorem meet_pos {j : Jo} {A : List Ke} (hm : mayB j = true) (hA : ∀ i < A.length, 0 ≤ (A.getD i default).1 ∧ (A.getD i default).1 < j.2.1) :
    meetL j A = if metB j A then (pos j A).map fun i : Nat => (i : Int) else [] := by
  obtain ⟨h1, h2, h3, _⟩ := may_bounds hm
  have count : ∀ d : Nat, 1 ≤ d → needI j = (d : Int) → (∀ i, fireB j A i = decide (i < d)) → meetL j A = firstL d A → meetL j A = if metB j A then (pos j A).map fun i : Nat => (i : Int) else [] := by
    intro d hd hn hf he
    have hp : pos j A = List.range (min A.length d) := by
      unfold pos
      rw [← filter_lt]
      congr 1
      funext i
      exact hf i
    have hc : cnt j A A.length = min A.length d := by
      have : cnt j A A.length = (pos j A).length := rfl
      rw [this, hp, List.length_range]
    rw [he, hp]
    unfold metB firstL upTo
    rw [hn, hc]
    by_cases hl : A.length < d
    · rw [if_pos hl, if_neg (by simp; omega)]
    · rw [if_neg hl, if_pos (by simp; omega), show min A.length d = d by omega]
  rcases need_cases h1 with ⟨hk, k1, k2⟩ | ⟨hk, k1⟩ | ⟨hk, k1⟩
  · obtain ⟨d, hd⟩ : ∃ d : Nat, j.2.2.1 = d := ⟨j.2.2.1.toNat, by omega⟩
    refine count d (by omega) (by simp [needI, hk, hd]) (fun i => ?_) (by simp [meetL, hk, hd])
    simp only [fireB, hk, hd]
    simp
  · obtain ⟨p, hp⟩ : ∃ p : Nat, j.2.1 = p := ⟨j.2.1.toNat, by omega⟩
    have hpm := pos_perm (p := p) hk (by rw [← hp]; exact hA)
    have hlen : (pos j A).length = (occ A p).length := by simpa using hpm.length_eq
    have hole : (occ A p).length ≤ p := by
      have := List.length_filter_le (fun q : Nat => decide (0 ≤ idx (partIs q) A)) (List.range p)
      simpa [occ] using this
    have hmet : metB j A = decide (p ≤ (occ A p).length) := by
      have : cnt j A A.length = (pos j A).length := rfl
      simp only [metB, needI, hk, this, hlen, hp]
      simp
    have hmL : meetL j A = eachS A p := by simp [meetL, hk, hp]
    rw [hmL, hmet]
    by_cases hall : ∀ q < p, 0 ≤ idx (partIs q) A
    · have ho : occ A p = List.range p := List.filter_eq_self.2 fun q hq => by simpa using hall q (by simpa using hq)
      rw [ho] at hpm ⊢
      rw [List.length_range, if_pos (by simp)]
      unfold eachS
      rw [eachL_pos A p hall, if_neg (by simp)]
      exact msort_eq hpm.symm (pos_sorted j A)
    · have hlt : ¬ p ≤ (occ A p).length := by
        intro h
        refine hall fun q hq => ?_
        have := (List.length_filter_eq_length_iff (p := fun q : Nat => decide (0 ≤ idx (partIs q) A)) (l := List.range p)).1 (by rw [List.length_range]; unfold occ at h hole; omega) q (by simpa using hq)
        simpa using this
      rw [if_neg (by simpa using hlt)]
      unfold eachS
      obtain ⟨q, hq⟩ := Classical.not_forall.1 hall
      obtain ⟨hq1, hq2⟩ := Classical.not_imp.1 hq
      rw [eachL_neg A q p hq1 (by omega), if_pos rfl]
  · refine count 1 (by omega) (by simp [needI, hk]) (fun i => ?_) (by simp [meetL, hk])
    simp only [fireB, hk]
    simp <;> omega
theorem met_empty {j : Jo} {A : List Ke} (hm : mayB j = true) (hA : ∀ i < A.length, 0 ≤ (A.getD i default).1 ∧ (A.getD i default).1 < j.2.1) : (meetL j A).isEmpty = !metB j A := by
  rw [meet_pos hm hA]
  cases h : metB j A
  · simp
  · simp only [if_true, Bool.not_true]
    have hn : 1 ≤ needI j := by
      obtain ⟨h1, h2, h3, _⟩ := may_bounds hm
      unfold needI
      rcases need_cases h1 with ⟨hk, k1, k2⟩ | ⟨hk, k1⟩ | ⟨hk, k1⟩
      · simp [hk, k1]
      · simp [hk, h2]
      · simp [hk]
    have hc : cnt j A A.length = (pos j A).length := rfl
    simp only [metB, hc, decide_eq_true_eq] at h
    cases hp : pos j A with
    | nil => rw [hp] at h; simp at h; omega
    | cons a l => simp
theorem tk_sel {A : List Ke} (f : Nat → Bool) : ∀ (n k : Nat), A.length = k + n → tk (A.drop k) k (((List.range' k n).filter f).map fun i : Nat => (i : Int)) = (((List.range' k n).filter fun i => !f i).map fun i => A.getD i default, ((List.range' k n).filter f).map fun i => A.getD i default)
  | 0, k, h => by rw [List.drop_eq_nil_of_le (by omega)]; simp [tk]
  | n + 1, k, h => by
    rw [drop_getD (k := k) (by omega)]
    simp only [List.range'_succ, List.filter_cons]
    have ih := tk_sel (A := A) f n (k + 1) (by omega)
    cases hf : f k
    · simp only [Bool.false_eq_true, if_false, Bool.not_false, if_true, List.map_cons]
      cases hl : ((List.range' (k + 1) n).filter f).map fun i : Nat => (i : Int) with
      | nil => rw [hl] at ih; simp only [tk, ih]
      | cons q Q =>
        have hq : q ≠ (k : Int) := by
          have : q ∈ ((List.range' (k + 1) n).filter f).map fun i : Nat => (i : Int) := by rw [hl]; simp
          obtain ⟨i, hi, rfl⟩ := List.mem_map.1 this
          have := (List.mem_range'_1.1 (List.mem_filter.1 hi).1).1
          omega
        rw [hl] at ih
        simp only [tk, hq, if_false, ih]
    · simp only [if_true, List.map_cons, tk, ih, Bool.not_true, Bool.false_eq_true, if_false]
theorem sel_all (A : List Ke) : sel (fun _ => true) A A.length = A := by
  have hf : (List.range A.length).filter (fun _ => true) = List.range A.length := List.filter_eq_self.2 fun _ _ => rfl
  refine List.ext_getElem (by simp only [sel, hf]; simp) fun i h1 h2 => ?_
  simp only [sel, hf]
  simp [h2]
/-- What is left and what fires, behind one more. -/
theorem feed_same {j : Jo} {A O : List Ke} (hm : mayB j = true) (hA : ∀ i < A.length, 0 ≤ (A.getD i default).1 ∧ (A.getD i default).1 < j.2.1) (hl : A.length ≤ 30) : feedT j A O = feedE j A O := by
  have he := met_empty hm hA
  unfold feedT feedE
  cases hmet : metB j A
  · have h0 : meetL j A = [] := by rw [meet_pos hm hA, hmet]; simp
    rw [h0]
    by_cases h30 : A.length = 30
    · rw [if_pos ⟨rfl, h30⟩, if_pos ⟨rfl, by omega⟩]
    · rw [if_neg (by simp [h30]), if_neg (by simp; omega)]
      have : tk A 0 [] = (A, []) := by
        have key : ∀ (l : List Ke) (k : Nat), tk l k [] = (l, []) := by
          intro l
          induction l with
          | nil => intro k; simp [tk]
          | cons x l ih => intro k; simp [tk, ih]
        exact key A 0
      rw [this]
      have e1 : sel (fun i => !(false && fireB j A i)) A A.length = A := sel_all A
      have e2 : sel (fun i => false && fireB j A i) A A.length = [] := by simp [sel]
      rw [e1, e2]
  · have h1 : meetL j A = (pos j A).map fun i : Nat => (i : Int) := by rw [meet_pos hm hA, hmet]; simp
    rw [hmet] at he
    have hne : meetL j A ≠ [] := by intro h; rw [h] at he; simp at he
    rw [if_neg (by simp [hne]), if_neg (by simp)]
    have := tk_sel (A := A) (fireB j A) A.length 0 (by omega)
    rw [List.drop_zero, ← List.range_eq_range'] at this
    rw [h1]
    unfold pos
    rw [this]
    simp [sel]
theorem chk_same (j : Jo) (X : List Ke) : checkB j X = chkR j X := by
  unfold checkB chkR waitB
  cases hm : mayB j
  · rfl
  · simp only [Bool.true_and]
    by_cases h30 : X.length < 30
    · simp only [h30, decide_true, Bool.true_and]
      have hall : ((List.range X.length).all fun i => keptB j.2.1 (X.getD i default) && okAt X i) = (X.all (keptB j.2.1) && (List.range X.length).all (okAt X)) := by
        rw [Bool.eq_iff_iff]
        simp only [List.all_eq_true, List.mem_range, Bool.and_eq_true]
        constructor
        · intro h
          refine ⟨fun x hx => ?_, fun i hi => (h i hi).2⟩
          obtain ⟨i, hi, rfl⟩ := List.mem_iff_getElem.1 hx
          have := (h i hi).1
          simpa [hi] using this
        · rintro ⟨h1, h2⟩ i hi
          exact ⟨h1 _ (getD_mem hi), h2 i hi⟩
      rw [hall, Bool.and_assoc]
      cases hk : X.all (keptB j.2.1)
      · rfl
      · simp only [Bool.true_and]
        congr 1
        refine met_empty hm fun i hi => ?_
        have := (List.all_eq_true.1 hk) _ (getD_mem hi)
        simp only [keptB, Bool.and_eq_true, decide_eq_true_eq] at this
        exact ⟨this.1, this.2.1⟩
    · simp [h30]
/-- What does not fall is over first. -/
theorem cut_mono {α : Type} [Inhabited α] (p : α → Bool) : ∀ (X : List α), (∀ i, i + 1 < X.length → p (X.getD i default) = true → p (X.getD (i + 1) default) = true) → X.drop (X.findIdx p) = X.filter p ∧ X.take (X.findIdx p) = X.filter fun x => !p x
  | [], _ => by simp
  | x :: X, h => by
    have h' : ∀ i, i + 1 < X.length → p (X.getD i default) = true → p (X.getD (i + 1) default) = true := fun i hi hp => by
      have := h (i + 1) (by simp; omega) (by simpa using hp)
      simpa using this
    obtain ⟨h1, h2⟩ := cut_mono p X h'
    rw [List.findIdx_cons]
    cases hp : p x
    · simp only [cond_false, List.drop_succ_cons, List.take_succ_cons, h1, h2, List.filter_cons, hp, Bool.false_eq_true, if_false, Bool.not_false, if_true, and_self]
    · have hall : ∀ y ∈ X, p y = true := by
        intro y hy
        obtain ⟨i, hi, rfl⟩ := List.mem_iff_getElem.1 hy
        have key : ∀ k, k < (x :: X).length → p ((x :: X).getD k default) = true := by
          intro k
          induction k with
          | zero => intro _; simpa using hp
          | succ k ih => intro hk; exact h k hk (ih (by omega))
        have := key (i + 1) (by simp; omega)
        simpa [hi] using this
      simp only [cond_true, List.drop_zero, List.take_zero]
      constructor
      · rw [List.filter_eq_self.2]
        intro y hy
        rcases List.mem_cons.1 hy with rfl | hy
        · exact hp
        · exact hall y hy
      · symm
        rw [List.filter_eq_nil_iff]
        intro y hy
        rcases List.mem_cons.1 hy with rfl | hy
        · simp [hp]
        · simp [hall y hy]
theorem still_mono {j : Jo} {X : List Ke} {now : Int} (h : ∀ i < X.length, okAt X i = true) : ∀ i, i + 1 < X.length → stillB j.2.2.2 now (X.getD i default) = true → stillB j.2.2.2 now (X.getD (i + 1) default) = true := by
  intro i hi hs
  have := h (i + 1) hi
  simp only [okAt, Nat.add_sub_cancel, Bool.not_eq_true', Bool.or_eq_false_iff, Bool.and_eq_false_iff, decide_eq_false_iff_not] at this
  have h1 : ¬ (X.getD (i + 1) default).2.2 < (X.getD i default).2.2 := by
    rcases this.1 with h | h
    · omega
    · exact h
  simp only [stillB, decide_eq_true_eq] at hs ⊢
  omega
theorem feed_eq (j : Jo) (X : List Ke) (x : Ke) : feedD j X x = feedR j X x := by
  unfold feedD feedR
  rw [chk_same]
  cases hc : chkR j X
  · rfl
  cases hk : keptB j.2.1 x
  · rfl
  simp only [Bool.and_self, if_true]
  split
  · rfl
  split
  · rfl
  obtain ⟨c1, c2, c3, c4, c5⟩ := chk_kept hc
  obtain ⟨h1, h2⟩ := cut_mono (stillB j.2.2.2 x.2.2) X (still_mono fun i hi => (c1 i hi).2)
  rw [h1, h2]
  refine feed_same c2 (fun i hi => ?_) ?_
  · have hall : ∀ y ∈ X.filter (stillB j.2.2.2 x.2.2) ++ [x], keptB j.2.1 y = true := by
      intro y hy
      rcases List.mem_append.1 hy with hy | hy
      · have hyx := (List.mem_filter.1 hy).1
        obtain ⟨q, hq, rfl⟩ := List.mem_iff_getElem.1 hyx
        have := (c1 q hq).1
        simpa [hq] using this
      · have : y = x := by simpa using hy
        rw [this]; exact hk
    have := hall _ (getD_mem hi)
    simp only [keptB, Bool.and_eq_true, decide_eq_true_eq] at this
    exact ⟨this.1, this.2.1⟩
  · have := List.length_filter_le (stillB j.2.2.2 x.2.2) X
    simp only [List.length_append, List.length_cons, List.length_nil]; omega
theorem exp_eq {j : Jo} {X : List Ke} {now : Int} (hc : chkR j X = true) : X.drop (X.findIdx (stillB j.2.2.2 now)) = X.filter (stillB j.2.2.2 now) ∧ X.take (X.findIdx (stillB j.2.2.2 now)) = X.filter fun x => !stillB j.2.2.2 now x :=
  cut_mono _ X (still_mono fun i hi => ((chk_kept hc).1 i hi).2)
end Go.Av
