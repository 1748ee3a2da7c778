/- Layer 2: what the laws want of parts and of globs that meet, in plain lists. -/
import Derived.Test.YtgeiicchkfpanaaNmF
namespace Go.Proofs.Ytgeiicchkfpanaa
/-- Parts, with dots between. -/
def joinL : List (List UInt8) → List UInt8
  | [] => []
  | [p] => p
  | p :: q :: r => p ++ 46 :: joinL (q :: r)
theorem joinL_cons (p : List UInt8) (r : List (List UInt8)) (h : r ≠ []) : joinL (p :: r) = p ++ 46 :: joinL r := by
  cases r with
  | nil => exact absurd rfl h
  | cons q r => rfl
theorem join_cut : ∀ l, joinL (cutL l) = l
  | [] => rfl
  | c :: t => by
    by_cases h : c = 46
    · subst h
      rw [cutL_dot, joinL_cons _ _ (cutL_ne t), join_cut t]; rfl
    · obtain ⟨p, r, e1, e2⟩ := cutL_oth c t h
      have ih := join_cut t
      rw [e1] at ih
      rw [e2]
      cases r with
      | nil => show c :: p = c :: t; rw [← ih]; rfl
      | cons q r => show (c :: p) ++ 46 :: joinL (q :: r) = c :: t; rw [← ih]; rfl
theorem cut_inj (l m : List UInt8) (h : cutL l = cutL m) : l = m := by rw [← join_cut l, ← join_cut m, h]
theorem part_no_star {p : List UInt8} (h : partL p = true) : p ≠ [42] ∧ p ≠ [42, 42] := by
  constructor
  · rintro rfl; exact absurd h (by decide)
  · rintro rfl; exact absurd h (by decide)
theorem meets_same : ∀ (g t : List (List UInt8)), (∀ p ∈ g, partL p = true) → meetsL g t = decide (g = t)
  | [], t, _ => by rw [meetsL_nil]; cases t <;> simp
  | p :: g, [], h => by rw [meetsL_oth_nil _ _ (part_no_star (h p (by simp))).2]; simp
  | p :: g, q :: t, h => by
    have hp := part_no_star (h p (by simp))
    rw [meetsL_oth_cons _ _ _ _ hp.2, meets_same g t (fun x hx => h x (by simp [hx]))]
    have : (p == [42]) = false := by simpa using hp.1
    rw [this, Bool.false_or]
    by_cases e : p = q
    · subst e; simp
    · simp [e]
theorem meets_many : ∀ t : List (List UInt8), meetsL [[42, 42]] t = true
  | [] => by rw [meetsL_many_nil, meetsL_nil]; rfl
  | q :: t => by rw [meetsL_many_cons, meets_many t, Bool.or_true]
theorem meets_one (t : List (List UInt8)) : meetsL [[42]] t = decide (t.length = 1) := by
  cases t with
  | nil => rw [meetsL_oth_nil _ _ (by decide)]; rfl
  | cons q t =>
    rw [meetsL_oth_cons _ _ _ _ (by decide), meetsL_nil]
    cases t <;> simp
theorem topic_parts {l : List UInt8} (h : topicL l = true) : ∀ p ∈ cutL l, partL p = true := by
  unfold topicL isL at h
  simp only [Bool.and_eq_true, List.all_eq_true] at h
  exact h.2.1
theorem topic_self (l m : List UInt8) (h : topicL l = true) : meetsL (cutL l) (cutL m) = decide (l = m) := by
  rw [meets_same _ _ (topic_parts h)]
  by_cases e : l = m
  · subst e; simp
  · have : cutL l ≠ cutL m := fun e2 => e (cut_inj _ _ e2)
    simp [e, this]
end Go.Proofs.Ytgeiicchkfpanaa
