/- A part of a way to reckon what a Go program does without its memory (O6). -/
import Derived.Test.YtoicgilcdlakkaaO5
namespace Go.Av
open Go
set_option autoImplicit false
set_option linter.all false
/-! ### Plain facts of outputs in order -/
theorem cmpZ_lt {a b : Int} : cmpZ a b < 0 ↔ a < b := by
  unfold cmpZ
  split
  · simp [*]
  · split <;> simp <;> omega
abbrev Asc (X : List Ot) : Prop := X.Pairwise (fun x y => x.1 < y.1)
theorem ris_asc {X : List Ot} : RisO ordO X ↔ Asc X := by
  unfold Asc
  rw [List.pairwise_iff_getElem]
  have g : ∀ (i : Nat) (h : i < X.length), X.getD i default = X[i] := fun i h => by simp [h]
  constructor
  · intro hr i j hi hj hij
    induction j with
    | zero => omega
    | succ j ih =>
      have h1 := hr j hj
      rw [g j (by omega), g (j + 1) hj] at h1
      have h2 := cmpZ_lt.1 h1
      by_cases h : i = j
      · subst h; exact h2
      · have := ih (by omega) (by omega)
        omega
  · intro h i hi
    rw [g i (by omega), g (i + 1) hi]
    exact cmpZ_lt.2 (h i (i + 1) (by omega) hi (by omega))
theorem chk_iff {X : List Ot} : chkO X = true ↔ X.length ≤ 100 ∧ (∀ x ∈ X, ownB x = true) ∧ Asc X := by
  unfold chkO
  simp only [Bool.and_eq_true, decide_eq_true_eq, Bool.not_eq_true', List.any_eq_false]
  constructor
  · rintro ⟨h1, h2, h3⟩
    exact ⟨h1, fun x hx => by simpa using h2 x hx, ris_asc.1 (risBO_of h3)⟩
  · rintro ⟨h1, h2, h3⟩
    exact ⟨h1, fun x hx => by simpa using h2 x hx, risBO_true (ris_asc.2 h3)⟩
theorem chk_filter {X : List Ot} {p : Ot → Bool} (h : chkO X = true) : chkO (X.filter p) = true := by
  obtain ⟨h1, h2, h3⟩ := chk_iff.1 h
  exact chk_iff.2 ⟨Nat.le_trans (List.length_filter_le _ _) h1, fun x hx => h2 x ((List.mem_filter.1 hx).1), h3.filter _⟩
theorem osB_filter {X : List Ot} {p : Ot → Bool} (h : osB X) : osB (X.filter p) :=
  ⟨Nat.le_trans (List.length_filter_le _ _) h.1, fun x hx => h.2 x ((List.mem_filter.1 hx).1)⟩
/-- The one that is taken out is the only one of its number. -/
theorem del_filter : ∀ {X : List Ot} {n : Int} {p : Nat}, Asc X → idx (isI n) X = (p : Int) → delO X p = X.filter (fun x => !isI n x) ∧ p < X.length ∧ (X.getD p default).1 = n
  | [], n, p, _, h => by simp [idx] at h
  | x :: X, n, p, ha, h => by
    obtain ⟨h1, h2⟩ := List.pairwise_cons.1 ha
    by_cases hx : x.1 = n
    · have e : isI n x = true := by simp [isI, hx]
      have h0 : idx (isI n) (x :: X) = ((0 : Nat) : Int) := idx_some (by simp) e (fun j hj => by omega)
      have hp : p = 0 := by omega
      subst hp
      refine ⟨?_, by simp, by simpa using hx⟩
      simp only [delO, List.take_zero, Nat.zero_add, List.drop_succ_cons, List.drop_zero, List.nil_append]
      rw [List.filter_cons_of_neg (by simp [e])]
      symm
      rw [List.filter_eq_self]
      intro y hy
      have := h1 y hy
      simp [isI]
      omega
    · have e : isI n x = false := by simp [isI, hx]
      have hi : (X.findIdx? (isI n)) = some (p - 1) ∧ 1 ≤ p := by
        unfold idx at h
        rw [List.findIdx?_cons, e] at h
        cases hf : X.findIdx? (isI n) with
        | none => rw [hf] at h; simp at h
        | some q => rw [hf] at h; simp at h; exact ⟨by congr 1; omega, by omega⟩
      obtain ⟨hi1, hi2⟩ := hi
      obtain ⟨q, rfl⟩ : ∃ q, p = q + 1 := ⟨p - 1, by omega⟩
      obtain ⟨k1, k2, k3⟩ := del_filter (p := q) (n := n) h2 (by unfold idx; rw [hi1]; simp)
      refine ⟨?_, by simpa using k2, by simpa using k3⟩
      simp only [delO, List.take_succ_cons, List.drop_succ_cons, List.cons_append]
      rw [List.filter_cons_of_pos (by simp [e]), ← k1]
      rfl
def hasI (X : List Ot) (n : Int) : Bool := X.any (isI n)
def outI (X : List Ot) (n : Int) : List Ot := X.filter (fun x => !isI n x)
theorem has_iff {X : List Ot} {n : Int} : hasI X n = true ↔ 0 ≤ idx (isI n) X := by
  unfold hasI
  rw [← idx_any, decide_eq_true_eq]
theorem ack_eq (X : List Ot) (n : Int) : ackO X n = if chkO X = true then (if hasI X n = true then (outI X n, 0) else ([], 4)) else ([], 1) := by
  unfold ackO findO
  by_cases h : chkO X = true
  · by_cases h2 : 0 ≤ idx (isI n) X
    · obtain ⟨p, hp⟩ : ∃ p : Nat, idx (isI n) X = (p : Int) := ⟨(idx (isI n) X).toNat, by omega⟩
      have hd := (del_filter (chk_iff.1 h).2.2 hp).1
      rw [if_pos h, if_pos h, if_pos h2, if_pos (has_iff.2 h2)]
      simp [hp, hd, outI]
    · have : ¬ hasI X n = true := fun k => h2 (has_iff.1 k)
      simp [h, h2, this]
  · simp [h]
theorem out_len {X : List Ot} {n : Int} (hc : chkO X = true) (h : hasI X n = true) : (outI X n).length + 1 = X.length := by
  have h2 := has_iff.1 h
  obtain ⟨p, hp⟩ : ∃ p : Nat, idx (isI n) X = (p : Int) := ⟨(idx (isI n) X).toNat, by omega⟩
  obtain ⟨h3, h4, _⟩ := del_filter (chk_iff.1 hc).2.2 hp
  unfold outI
  rw [← h3]
  simp [delO]
  omega
theorem has_out {X : List Ot} {a b : Int} : hasI (outI X a) b = (hasI X b && decide (a ≠ b)) := by
  rw [Bool.eq_iff_iff]
  simp only [hasI, outI, List.any_eq_true, List.mem_filter, Bool.and_eq_true, decide_eq_true_eq, isI, Bool.not_eq_true', decide_eq_false_iff_not]
  constructor
  · rintro ⟨x, ⟨h1, h2⟩, h3⟩
    exact ⟨⟨x, h1, h3⟩, fun h => h2 (by omega)⟩
  · rintro ⟨⟨x, h1, h3⟩, h⟩
    exact ⟨x, ⟨h1, fun k => h (by omega)⟩, h3⟩
theorem out_comm (X : List Ot) (a b : Int) : outI (outI X a) b = outI (outI X b) a := by
  simp only [outI, List.filter_filter]
  congr 1
  funext x
  rw [Bool.and_comm]
theorem not_has {X : List Ot} {n : Int} (h : hasI X n = false) : idx (isI n) X = -1 := by
  have h1 := idx_bounds (isI n) X
  have : ¬ 0 ≤ idx (isI n) X := fun k => by rw [has_iff.2 k] at h; cases h
  omega
end Go.Av
