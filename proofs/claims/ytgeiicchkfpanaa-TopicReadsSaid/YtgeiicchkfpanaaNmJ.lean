/- Layer 2: the order of parts, in plain lists. -/
import Derived.Test.YtgeiicchkfpanaaNmA
namespace Go.Proofs.Ytgeiicchkfpanaa
def cmpL (a b : List UInt8) : Int := if Op.bytesLess a b then -1 else if a = b then 0 else 1
theorem less_irrefl : ∀ a : List UInt8, Op.bytesLess a a = false
  | [] => rfl
  | x :: a => by simp [Op.bytesLess, less_irrefl a]
theorem less_asymm : ∀ a b : List UInt8, Op.bytesLess a b = true → Op.bytesLess b a = false
  | _, [], h => by simp [Op.bytesLess] at h
  | [], y :: b, _ => rfl
  | x :: a, y :: b, h => by
    simp only [Op.bytesLess, Bool.or_eq_true, Bool.and_eq_true, decide_eq_true_eq, beq_iff_eq] at h
    simp only [Op.bytesLess, Bool.or_eq_false_iff, decide_eq_false_iff_not]
    rcases h with h | ⟨rfl, h⟩
    · refine ⟨fun g => ?_, ?_⟩
      · rw [UInt8.lt_iff_toNat_lt] at h g; omega
      · have : (y == x) = false := by
          simp only [beq_eq_false_iff_ne, ne_eq]; intro e; subst e; rw [UInt8.lt_iff_toNat_lt] at h; omega
        rw [this]; rfl
    · refine ⟨fun g => by rw [UInt8.lt_iff_toNat_lt] at g; omega, ?_⟩
      simp [less_asymm a b h]
theorem less_total : ∀ a b : List UInt8, Op.bytesLess a b = true ∨ a = b ∨ Op.bytesLess b a = true
  | [], [] => .inr (.inl rfl)
  | [], _ :: _ => .inl rfl
  | _ :: _, [] => .inr (.inr rfl)
  | x :: a, y :: b => by
    by_cases h : x < y
    · exact .inl (by simp [Op.bytesLess, h])
    · by_cases h' : y < x
      · exact .inr (.inr (by simp [Op.bytesLess, h']))
      · have e : x = y := by
          rw [UInt8.lt_iff_toNat_lt] at h h'
          exact UInt8.toNat_inj.1 (by omega)
        subst e
        rcases less_total a b with g | g | g
        · exact .inl (by simp [Op.bytesLess, g])
        · exact .inr (.inl (by rw [g]))
        · exact .inr (.inr (by simp [Op.bytesLess, g]))
theorem less_trans : ∀ a b c : List UInt8, Op.bytesLess a b = true → Op.bytesLess b c = true → Op.bytesLess a c = true
  | _, _, [], _, h => by simp [Op.bytesLess] at h
  | [], _, _ :: _, _, _ => rfl
  | _ :: _, [], _ :: _, h, _ => by simp [Op.bytesLess] at h
  | x :: a, y :: b, z :: c, h, g => by
    simp only [Op.bytesLess, Bool.or_eq_true, Bool.and_eq_true, decide_eq_true_eq, beq_iff_eq, UInt8.lt_iff_toNat_lt] at h g ⊢
    rcases h with h | ⟨rfl, h⟩
    · rcases g with g | ⟨rfl, g⟩
      · exact .inl (by omega)
      · exact .inl h
    · rcases g with g | ⟨rfl, g⟩
      · exact .inl g
      · exact .inr ⟨rfl, less_trans a b c h g⟩
theorem cmpL_anti (a b : List UInt8) : cmpL a b = - cmpL b a := by
  unfold cmpL
  rcases less_total a b with h | h | h
  · have h2 := less_asymm a b h
    have hne : ¬ b = a := fun e => by subst e; rw [less_irrefl] at h; cases h
    rw [if_pos h, h2, if_neg Bool.false_ne_true, if_neg hne]
  · subst h; rw [less_irrefl]; simp
  · have h2 := less_asymm b a h
    have hne : ¬ a = b := fun e => by subst e; rw [less_irrefl] at h; cases h
    rw [if_pos h, h2, if_neg Bool.false_ne_true, if_neg hne]; rfl
theorem cmpL_le (a b : List UInt8) : cmpL a b ≤ 0 ↔ (Op.bytesLess a b = true ∨ a = b) := by
  unfold cmpL
  by_cases h : Op.bytesLess a b = true
  · simp [h]
  · by_cases e : a = b
    · simp [e]; split <;> omega
    · simp [h, e]
theorem cmpL_trans (a b c : List UInt8) (h : cmpL a b ≤ 0) (g : cmpL b c ≤ 0) : cmpL a c ≤ 0 := by
  rw [cmpL_le] at *
  rcases h with h | rfl
  · rcases g with g | rfl
    · exact .inl (less_trans a b c h g)
    · exact .inl h
  · exact g
theorem cmpL_zero (a b : List UInt8) : cmpL a b = 0 ↔ a = b := by
  unfold cmpL
  by_cases h : Op.bytesLess a b = true
  · have : ¬ a = b := fun e => by subst e; rw [less_irrefl] at h; cases h
    simp [h, this]
  · by_cases e : a = b
    · simp [e, less_irrefl]
    · simp [h, e]
theorem cmpL_bd (a b : List UInt8) : cmpL a b = -1 ∨ cmpL a b = 0 ∨ cmpL a b = 1 := by
  unfold cmpL; split
  · exact .inl rfl
  · split
    · exact .inr (.inl rfl)
    · exact .inr (.inr rfl)
theorem cmpL_strict (a b c : List UInt8) (h : cmpL a b < 0) (g : cmpL b c ≤ 0) : cmpL a c < 0 := by
  have h1 := cmpL_trans a b c (by omega) g
  have h2 : cmpL a c ≠ 0 := fun e => by
    have e2 := (cmpL_zero a c).1 e
    subst e2
    have := cmpL_anti b a
    omega
  omega
theorem cmpL_strict' (a b c : List UInt8) (h : cmpL a b ≤ 0) (g : cmpL b c < 0) : cmpL a c < 0 := by
  have h1 := cmpL_trans a b c h (by omega)
  have h2 : cmpL a c ≠ 0 := fun e => by
    have e2 := (cmpL_zero a c).1 e
    subst e2
    have := cmpL_anti b a
    omega
  omega
/-- The order of parts. -/
def cmpP : List (List UInt8) → List (List UInt8) → Int
  | [], [] => 0
  | [], _ :: _ => -1
  | _ :: _, [] => 1
  | x :: a, y :: b => if cmpL x y = 0 then cmpP a b else cmpL x y
theorem cmpP_anti : ∀ a b, cmpP a b = - cmpP b a
  | [], [] => rfl
  | [], _ :: _ => rfl
  | _ :: _, [] => rfl
  | x :: a, y :: b => by
    have h := cmpL_anti x y
    unfold cmpP
    by_cases e : cmpL x y = 0
    · rw [if_pos e, if_pos (by omega)]; exact cmpP_anti a b
    · rw [if_neg e, if_neg (by omega)]; exact h
theorem cmpP_trans : ∀ a b c, cmpP a b ≤ 0 → cmpP b c ≤ 0 → cmpP a c ≤ 0
  | [], _, [], _, _ => by simp [cmpP]
  | [], _, _ :: _, _, _ => by simp [cmpP]
  | _ :: _, [], _, h, _ => by simp [cmpP] at h
  | _ :: _, _ :: _, [], _, h => by simp [cmpP] at h
  | x :: a, y :: b, z :: c, h, g => by
    unfold cmpP at h g ⊢
    by_cases e1 : cmpL x y = 0
    · have e1' := (cmpL_zero x y).1 e1
      subst e1'
      rw [if_pos e1] at h
      by_cases e2 : cmpL x z = 0
      · rw [if_pos e2] at g ⊢
        exact cmpP_trans a b c h g
      · rw [if_neg e2] at g ⊢
        exact g
    · rw [if_neg e1] at h
      by_cases e2 : cmpL y z = 0
      · have e2' := (cmpL_zero y z).1 e2
        subst e2'
        rw [if_neg e1]; exact h
      · rw [if_neg e2] at g
        have := cmpL_strict x y z (by omega) g
        rw [if_neg (by omega)]; omega
theorem cmpP_zero : ∀ a b, cmpP a b = 0 ↔ a = b
  | [], [] => by simp [cmpP]
  | [], _ :: _ => by simp [cmpP]
  | _ :: _, [] => by simp [cmpP]
  | x :: a, y :: b => by
    unfold cmpP
    by_cases e : cmpL x y = 0
    · rw [if_pos e, cmpP_zero a b, (cmpL_zero x y).1 e]; simp
    · rw [if_neg e]
      constructor
      · intro h; exact absurd h e
      · intro h; cases h; exact absurd ((cmpL_zero x x).2 rfl) e
theorem cmpP_bd : ∀ a b, cmpP a b = -1 ∨ cmpP a b = 0 ∨ cmpP a b = 1
  | [], [] => .inr (.inl rfl)
  | [], _ :: _ => .inl rfl
  | _ :: _, [] => .inr (.inr rfl)
  | x :: a, y :: b => by
    unfold cmpP
    split
    · exact cmpP_bd a b
    · exact cmpL_bd x y
end Go.Proofs.Ytgeiicchkfpanaa
