/- Layer 2: parts, and texts made of parts, in plain lists. -/
import Derived.Test.YtgeiicchkfpanaaNmM
namespace Go.Proofs.Ytgeiicchkfpanaa
theorem cut_mem : ∀ (l p : List UInt8), p ∈ cutL l → (∀ c ∈ p, c ≠ 46) ∧ p.length ≤ l.length
  | [], p, h => by
    have : p = [] := by simpa [cutL] using h
    subst this; simp
  | c :: t, p, h => by
    by_cases hc : c = 46
    · subst hc
      rw [cutL_dot, List.mem_cons] at h
      rcases h with rfl | h
      · simp
      · have := cut_mem t p h
        exact ⟨this.1, by simp only [List.length_cons]; omega⟩
    · obtain ⟨q, r, e1, e2⟩ := cutL_oth c t hc
      rw [e2, List.mem_cons] at h
      rcases h with rfl | h
      · have := cut_mem t q (by rw [e1]; simp)
        refine ⟨fun d hd => ?_, by simp only [List.length_cons]; omega⟩
        rcases List.mem_cons.1 hd with rfl | hd
        · exact hc
        · exact this.1 d hd
      · have := cut_mem t p (by rw [e1]; simp [h])
        exact ⟨this.1, by simp only [List.length_cons]; omega⟩
theorem cut_one : ∀ p : List UInt8, (∀ c ∈ p, c ≠ 46) → cutL p = [p]
  | [], _ => rfl
  | c :: t, h => by
    have ih := cut_one t (fun d hd => h d (by simp [hd]))
    rw [cutL, if_neg (h c (by simp)), ih]
theorem cut_app (m : List UInt8) : ∀ p : List UInt8, (∀ c ∈ p, c ≠ 46) → cutL (p ++ 46 :: m) = p :: cutL m
  | [], _ => cutL_dot m
  | c :: t, h => by
    have ih := cut_app m t (fun d hd => h d (by simp [hd]))
    show cutL (c :: (t ++ 46 :: m)) = _
    rw [cutL, if_neg (h c (by simp)), ih]
theorem cut_join : ∀ L : List (List UInt8), L ≠ [] → (∀ p ∈ L, ∀ c ∈ p, c ≠ 46) → cutL (joinL L) = L
  | [], h, _ => absurd rfl h
  | [p], _, h => cut_one p (h p (by simp))
  | p :: q :: r, _, h => by
    rw [joinL_cons _ _ (by simp), cut_app _ p (h p (by simp)), cut_join (q :: r) (by simp) (fun x hx => h x (by simp [hx]))]
theorem cut_dot (m : List UInt8) : ∀ l : List UInt8, cutL (l ++ 46 :: m) = cutL l ++ cutL m
  | [] => by rw [List.nil_append, cutL_dot]; rfl
  | c :: t => by
    by_cases hc : c = 46
    · subst hc
      rw [List.cons_append, cutL_dot, cutL_dot, cut_dot m t]; rfl
    · obtain ⟨p, r, e1, e2⟩ := cutL_oth c t hc
      rw [List.cons_append, e2, cutL, if_neg hc, cut_dot m t, e1]; rfl
theorem join_snoc (p : List UInt8) : ∀ L : List (List UInt8), joinL (L ++ [p]) = if L = [] then p else joinL L ++ 46 :: p
  | [] => rfl
  | [q] => rfl
  | q :: q' :: r => by
    have ih := join_snoc p (q' :: r)
    rw [if_neg (by simp)] at ih ⊢
    rw [List.cons_append, joinL_cons q _ (by simp), ih, joinL_cons q (q' :: r) (by simp), List.append_assoc]; rfl
/-- A glob's part is a glob of one part. -/
theorem glob_part (l p : List UInt8) (h : globL l = true) (hp : p ∈ cutL l) : globL p = true ∧ (partsL p).length = 1 := by
  have hm := cut_mem l p hp
  have hc := cut_one p hm.1
  have hg : globL p = true := by
    unfold globL isL at *
    simp only [Bool.and_eq_true, decide_eq_true_eq, List.all_eq_true] at *
    rw [hc]
    refine ⟨by omega, fun q hq => ?_, by simp⟩
    have : q = p := by simpa using hq
    subst this
    exact h.2.1 _ hp
  refine ⟨hg, ?_⟩
  unfold partsL
  rw [if_pos hg, hc]; rfl
end Go.Proofs.Ytgeiicchkfpanaa
