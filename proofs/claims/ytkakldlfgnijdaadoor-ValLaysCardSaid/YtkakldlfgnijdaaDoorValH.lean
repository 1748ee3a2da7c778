/- Layer 3: the contract of Order; that it is an order. -/
import Derived.Test.YtkakldlfgnijdaaDoorValG
namespace Go.Proofs.YtkakldlfgnijdaaDoor
open Go.RowKit
def cmpZ (a b : Int) : Int := if a < b then -1 else if b < a then 1 else 0
def cmpL (a b : List UInt8) : Int := if Op.bytesLess a b then -1 else if a = b then 0 else 1
theorem less_irrefl : ∀ a : List UInt8, Op.bytesLess a a = false
  | [] => rfl
  | x :: a => by simp [Op.bytesLess, less_irrefl a]
theorem less_asymm : ∀ a b : List UInt8, Op.bytesLess a b = true → Op.bytesLess b a = false
  | _, [], h => by simp [Op.bytesLess] at h
  | [], y :: b, _ => rfl
  | x :: a, y :: b, h => by
    simp only [Op.bytesLess, Bool.or_eq_true, Bool.and_eq_true, decide_eq_true_eq, beq_iff_eq] at h
    simp only [Op.bytesLess, Bool.or_eq_false_iff, decide_eq_false_iff_not]
    rcases h with h | ⟨rfl, h⟩
    · refine ⟨fun g => ?_, ?_⟩
      · rw [UInt8.lt_iff_toNat_lt] at h g; omega
      · have : (y == x) = false := by
          simp only [beq_eq_false_iff_ne, ne_eq]; intro e; subst e; rw [UInt8.lt_iff_toNat_lt] at h; omega
        rw [this]; rfl
    · refine ⟨fun g => by rw [UInt8.lt_iff_toNat_lt] at g; omega, ?_⟩
      simp [less_asymm a b h]
theorem less_total : ∀ a b : List UInt8, Op.bytesLess a b = true ∨ a = b ∨ Op.bytesLess b a = true
  | [], [] => .inr (.inl rfl)
  | [], _ :: _ => .inl rfl
  | _ :: _, [] => .inr (.inr rfl)
  | x :: a, y :: b => by
    by_cases h : x < y
    · exact .inl (by simp [Op.bytesLess, h])
    · by_cases h' : y < x
      · exact .inr (.inr (by simp [Op.bytesLess, h']))
      · have e : x = y := by
          rw [UInt8.lt_iff_toNat_lt] at h h'
          exact UInt8.toNat_inj.1 (by omega)
        subst e
        rcases less_total a b with g | g | g
        · exact .inl (by simp [Op.bytesLess, g])
        · exact .inr (.inl (by rw [g]))
        · exact .inr (.inr (by simp [Op.bytesLess, g]))
theorem less_trans : ∀ a b c : List UInt8, Op.bytesLess a b = true → Op.bytesLess b c = true → Op.bytesLess a c = true
  | _, _, [], _, h => by simp [Op.bytesLess] at h
  | [], _, _ :: _, _, _ => rfl
  | _ :: _, [], _ :: _, h, _ => by simp [Op.bytesLess] at h
  | x :: a, y :: b, z :: c, h, g => by
    simp only [Op.bytesLess, Bool.or_eq_true, Bool.and_eq_true, decide_eq_true_eq, beq_iff_eq, UInt8.lt_iff_toNat_lt] at h g ⊢
    rcases h with h | ⟨rfl, h⟩
    · rcases g with g | ⟨rfl, g⟩
      · exact .inl (by omega)
      · exact .inl h
    · rcases g with g | ⟨rfl, g⟩
      · exact .inl g
      · exact .inr ⟨rfl, less_trans a b c h g⟩
theorem cmpL_anti (a b : List UInt8) : cmpL a b = - cmpL b a := by
  unfold cmpL
  rcases less_total a b with h | h | h
  · have h2 := less_asymm a b h
    have hne : ¬ b = a := fun e => by subst e; rw [less_irrefl] at h; cases h
    rw [if_pos h, h2, if_neg Bool.false_ne_true, if_neg hne]
  · subst h; rw [less_irrefl]; simp
  · have h2 := less_asymm b a h
    have hne : ¬ a = b := fun e => by subst e; rw [less_irrefl] at h; cases h
    rw [if_pos h, h2, if_neg Bool.false_ne_true, if_neg hne]; rfl
theorem cmpL_le (a b : List UInt8) : cmpL a b ≤ 0 ↔ (Op.bytesLess a b = true ∨ a = b) := by
  unfold cmpL
  by_cases h : Op.bytesLess a b = true
  · simp [h]
  · by_cases e : a = b
    · simp [e]; split <;> omega
    · simp [h, e]
theorem cmpL_trans (a b c : List UInt8) (h : cmpL a b ≤ 0) (g : cmpL b c ≤ 0) : cmpL a c ≤ 0 := by
  rw [cmpL_le] at *
  rcases h with h | rfl
  · rcases g with g | rfl
    · exact .inl (less_trans a b c h g)
    · exact .inl h
  · exact g
theorem cmpL_zero (a b : List UInt8) : cmpL a b = 0 ↔ a = b := by
  unfold cmpL
  by_cases h : Op.bytesLess a b = true
  · have : ¬ a = b := fun e => by subst e; rw [less_irrefl] at h; cases h
    simp [h, this]
  · by_cases e : a = b
    · simp [e, less_irrefl]
    · simp [h, e]
def ordV (b : Bool) (n : Int) (s : ByteArray) (b' : Bool) (n' : Int) (s' : ByteArray) : Int :=
  if b then (if b' then cmpZ n n' else -1) else (if b' then 1 else cmpL s.toList s'.toList)
theorem ordV_bd (b n s b' n' s') : -1 ≤ ordV b n s b' n' s' ∧ ordV b n s b' n' s' ≤ 1 := by
  unfold ordV cmpZ cmpL; split <;> split <;> (try split) <;> (try split) <;> omega
theorem ordV_anti (b n s b' n' s') : ordV b n s b' n' s' = - ordV b' n' s' b n s := by
  unfold ordV
  cases b <;> cases b'
  · exact cmpL_anti _ _
  · rfl
  · rfl
  · show cmpZ n n' = - cmpZ n' n
    unfold cmpZ; split <;> split <;> (try split) <;> omega
theorem ordV_trans (b n s b' n' s' b'' n'' s'') (h : ordV b n s b' n' s' ≤ 0) (g : ordV b' n' s' b'' n'' s'' ≤ 0) : ordV b n s b'' n'' s'' ≤ 0 := by
  unfold ordV at *
  cases b <;> cases b' <;> cases b'' <;> simp at * <;> try omega
  · exact cmpL_trans _ _ _ h g
  · unfold cmpZ at *; split at h <;> split at g <;> (try split at h) <;> (try split at g) <;> split <;> (try split) <;> omega
theorem ordV_zero (b n s b' n' s') (hm : mayB b n s = true) (hm' : mayB b' n' s' = true) : ordV b n s b' n' s' = 0 ↔ (b = b' ∧ n = n' ∧ s = s') := by
  have hs : s.toList = s'.toList ↔ s = s' := by
    rw [ByteArray.toList_eq, ByteArray.toList_eq]
    exact ⟨fun h => Go.WideShapes.bytes_inj h, fun h => by rw [h]⟩
  unfold ordV
  cases b <;> cases b'
  · simp only [mayB, Bool.false_eq_true, if_false, Bool.and_eq_true, decide_eq_true_eq] at hm hm' ⊢
    rw [cmpL_zero, hs]
    exact ⟨fun h => ⟨trivial, by omega, h⟩, fun h => h.2.2⟩
  · simp
  · simp
  · have e : s = s' := (empty_of s hm).trans (empty_of s' hm').symm
    simp only [if_true, true_and]
    unfold cmpZ
    constructor
    · intro h
      refine ⟨?_, e⟩
      split at h
      · omega
      · split at h <;> omega
    · rintro ⟨rfl, _⟩; simp
set_option maxHeartbeats 400000 in
theorem cmpInt_any (a b : Int) (w : World) :
    Calls Tryd.prog 28 #[.int .i64 a, .int .i64 b] w fun e w' => e = .returned (.int .i64 (cmpZ a b)) ∧ w = w' := by
  rcases Int.lt_trichotomy a b with h | h | h
  · have H := Lib.hid (show cmpZ a b = -1 from if_pos h)
    go_enter Tryd.func28, Tryd.ntmps28
    go_wp2
    go_ret
    exact ⟨ret_int' H.out.symm, rfl⟩
  · subst h
    have H := Lib.hid (show cmpZ a a = 0 by simp [cmpZ])
    go_enter Tryd.func28, Tryd.ntmps28
    go_wp2
    go_ret
    exact ⟨ret_int' H.out.symm, rfl⟩
  · have H := Lib.hid (show cmpZ a b = 1 by unfold cmpZ; rw [if_neg (by omega), if_pos h])
    have h' : ¬ a < b := by omega
    go_enter Tryd.func28, Tryd.ntmps28
    go_wp2
    go_ret
    exact ⟨ret_int' H.out.symm, rfl⟩
set_option maxHeartbeats 400000 in
theorem cmpStr_any (a b : ByteArray) (w : World) :
    Calls Tryd.prog 29 #[.string a, .string b] w fun e w' => e = .returned (.int .i64 (cmpL a.toList b.toList)) ∧ w = w' := by
  rcases less_total a.toList b.toList with h | h | h
  · have H := Lib.hid (show cmpL a.toList b.toList = -1 from if_pos h)
    go_enter Tryd.func29, Tryd.ntmps29
    go_wp2
    go_ret
    exact ⟨ret_int' H.out.symm, rfl⟩
  · have e : a = b := by
      rw [ByteArray.toList_eq, ByteArray.toList_eq] at h; exact Go.WideShapes.bytes_inj h
    subst e
    have H := Lib.hid (show cmpL a.toList a.toList = 0 from (cmpL_zero _ _).2 rfl)
    have h1 := less_irrefl a.toList
    clear h
    go_enter Tryd.func29, Tryd.ntmps29
    go_wp2
    go_ret
    exact ⟨ret_int' H.out.symm, rfl⟩
  · have h2 := less_asymm _ _ h
    have hne : ¬ a.toList = b.toList := fun e => by rw [e, less_irrefl] at h; cases h
    have H := Lib.hid (show cmpL a.toList b.toList = 1 by unfold cmpL; rw [h2, if_neg Bool.false_ne_true, if_neg hne])
    have hb : (a.toList == b.toList) = false := by simpa using hne
    clear h hne
    go_enter Tryd.func29, Tryd.ntmps29
    go_wp2
    go_ret
    exact ⟨ret_int' H.out.symm, rfl⟩
set_option maxHeartbeats 800000 in
theorem order_any (b : Bool) (n : Int) (s : ByteArray) (b' : Bool) (n' : Int) (s' : ByteArray) (w : World) :
    Calls Tryd.prog 15 #[.agg #[.bool b, .int .i64 n, .string s], .agg #[.bool b', .int .i64 n', .string s']] w fun e w' => e = .returned (.int .i64 (ordV b n s b' n' s')) ∧ Below w.heap.size w w' := by
  cases b <;> cases b'
  all_goals
    go_enter Tryd.func15, Tryd.ntmps15
    go_wp2_with (first | (go_at_call 28; refine (cmpInt_any _ _ _).mono ?_; rintro e w' ⟨rfl, rfl⟩) | (go_at_call 29; refine (cmpStr_any _ _ _).mono ?_; rintro e w' ⟨rfl, rfl⟩))
    go_ret
    exact ⟨rfl, ((Below.refl _ _).alloc (Nat.le_refl _) _).alloc (by simp) _⟩
end Go.Proofs.YtkakldlfgnijdaaDoor
