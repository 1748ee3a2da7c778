/- Layer 3: the document's Read, of octets. No Go in sight. -/
import Derived.Test.YtkakldlfgnijdaaDoorValS
import Derived.Test.YtkakldlfgnijdaaDoorValR
namespace Go.Proofs.YtkakldlfgnijdaaDoor
open Go.RowKit
/-- What the document's Read has found of numbers, among the beginnings of less than J octets. -/
structure Found (l : List UInt8) (J : Nat) (F : Bool) (N : Int) (n : Nat) : Prop where
  bd : -9223372036854775808 ≤ N ∧ N ≤ 9223372036854775807
  yes : F = true → 1 ≤ n ∧ n < J ∧ okN l n ∧ mV (l.take n) = N
  no : F = false → n = 0 ∧ N = 0
  rest : ∀ k, n < k → k < J → ¬ okN l k
theorem Found.step_yes {l : List UInt8} {J : Nat} {F : Bool} {N : Int} {n : Nat} (_h : Found l J F N n) (hJ : 1 ≤ J) (hok : okN l J) : Found l (J + 1) true (mV (l.take J)) J :=
  ⟨mV_bd _, fun _ => ⟨hJ, by omega, hok, rfl⟩, fun e => (by cases e), fun k h1 h2 => by omega⟩
theorem Found.step_no {l : List UInt8} {J : Nat} {F : Bool} {N : Int} {n : Nat} (h : Found l J F N n) (hok : ¬ okN l J) : Found l (J + 1) F N n :=
  ⟨h.bd, fun e => by have := h.yes e; exact ⟨this.1, by omega, this.2.2⟩, h.no, fun k h1 h2 => by
    by_cases e : k = J
    · subst e; exact hok
    · exact h.rest k h1 (by omega)⟩
theorem Found.end_num {l : List UInt8} {J : Nat} {N : Int} {n : Nat} (h : Found l J true N n) (hJ : J = l.length + 1 ∨ J = 21) (hJl : J ≤ l.length + 1) : readB l = some ((true, N, []), n) := by
  obtain ⟨h1, h2, h3, h4⟩ := h.yes rfl
  obtain ⟨M, K, hr, hK⟩ := readB_far l n h1 (by omega) h3
  obtain ⟨g1, g2, g3, g4, g5, g6⟩ := readB_wr l true M [] K hr
  obtain ⟨_, f2, f3⟩ := readB_num l true M [] K hr rfl
  have hlen := itoa_len M g4 g5
  have e : Lib.itoa M = l.take K := g6
  have hlk : (Lib.itoa M).length = K := by rw [e, List.length_take]; omega
  have hKJ : K < J := by omega
  by_cases hnK : n = K
  · subst hnK; rw [hr, ← h4, f3]
  · exact absurd f2 (h.rest K (by omega) hKJ)
theorem Found.end_none {l : List UInt8} {J : Nat} {N : Int} {n : Nat} (h : Found l J false N n) (hJ : J = l.length + 1 ∨ J = 21) (_hJl : J ≤ l.length + 1) : ∀ b M x K, readB l = some ((b, M, x), K) → b = false := by
  intro b M x K hr
  cases b with
  | false => rfl
  | true =>
    obtain ⟨g1, g2, g3, g4, g5, g6⟩ := readB_wr l true M x K hr
    obtain ⟨_, f2, f3⟩ := readB_num l true M x K hr rfl
    have hlen := itoa_len M g4 g5
    have e : Lib.itoa M = l.take K := g6
    have hlk : (Lib.itoa M).length = K := by rw [e, List.length_take]; omega
    have h0 := (h.no rfl).1
    exact absurd f2 (h.rest K (by omega) (by omega))
/-- The text without its signs, and where the sign behind it stands. -/
def unT : List UInt8 → List UInt8 → Nat → List UInt8 × Nat
  | [], x, i => (x, i)
  | b :: t, x, i => if b.toNat = 34 then (x, i) else if b.toNat = 92 then
      (match t with
       | [] => (x, i + 2)
       | c :: t' => unT t' (x ++ [c]) (i + 2))
    else unT t (x ++ [b]) (i + 1)
theorem unT_34 (b : UInt8) (t x : List UInt8) (i : Nat) (h : b.toNat = 34) : unT (b :: t) x i = (x, i) := by rw [unT.eq_def]; simp [h]
theorem unT_end (b : UInt8) (x : List UInt8) (i : Nat) (h : b.toNat = 92) : unT [b] x i = (x, i + 2) := by rw [unT.eq_def]; simp [h]
theorem unT_two (b c : UInt8) (t x : List UInt8) (i : Nat) (h : b.toNat = 92) : unT (b :: c :: t) x i = unT t (x ++ [c]) (i + 2) := by rw [unT.eq_def]; simp [h]
theorem unT_one (b : UInt8) (t x : List UInt8) (i : Nat) (h : b.toNat ≠ 34) (h' : b.toNat ≠ 92) : unT (b :: t) x i = unT t (x ++ [b]) (i + 1) := by rw [unT.eq_def]; simp [h, h']
theorem unT_esc : ∀ (z r x : List UInt8) (i : Nat), unT (escL z ++ 34 :: r) x i = (x ++ z, i + (escL z).length)
  | [], r, x, i => by show unT (34 :: r) x i = _; rw [unT_34 _ _ _ _ rfl]; simp [escL]
  | b :: z, r, x, i => by
    cases he : escB (b.toNat : Int) with
    | true =>
      rw [show b :: z = [b] ++ z from rfl, escL_append, escL_two b he, List.append_assoc]
      show unT (92 :: b :: (escL z ++ 34 :: r)) x i = _
      rw [unT_two _ _ _ _ _ rfl, unT_esc z r _ _]
      simp; omega
    | false =>
      have h' : b.toNat ≠ 34 ∧ b.toNat ≠ 92 := by simp [escB] at he; omega
      rw [show b :: z = [b] ++ z from rfl, escL_append, escL_one b h'.1 h'.2, List.append_assoc]
      show unT (b :: (escL z ++ 34 :: r)) x i = _
      rw [unT_one _ _ _ _ h'.1 h'.2, unT_esc z r _ _]
      simp; omega
theorem rdT_more : ∀ (z r x : List UInt8) (k : Nat), x.length + z.length ≤ 60 → rdT (escL z ++ 34 :: r) x k = some (x ++ z, k + (escL z).length + 1)
  | [], r, x, k, _ => by show rdT (34 :: r) x k = _; rw [rdT_34 _ _ _ _ rfl]; simp [escL]
  | b :: z, r, x, k, h => by
    simp only [List.length_cons] at h
    cases he : escB (b.toNat : Int) with
    | true =>
      rw [show b :: z = [b] ++ z from rfl, escL_append, escL_two b he, List.append_assoc]
      show rdT (92 :: b :: (escL z ++ 34 :: r)) x k = _
      rw [rdT_go2 _ _ _ _ _ rfl he (by omega), rdT_more z r _ _ (by simp; omega)]
      simp; omega
    | false =>
      have h' : b.toNat ≠ 34 ∧ b.toNat ≠ 92 := by simp [escB] at he; omega
      rw [show b :: z = [b] ++ z from rfl, escL_append, escL_one b h'.1 h'.2, List.append_assoc]
      show rdT (b :: (escL z ++ 34 :: r)) x k = _
      rw [rdT_go _ _ _ _ h'.1 h'.2 (by omega), rdT_more z r _ _ (by simp; omega)]
      simp; omega
/-- The document's way with a text: found, just where the program finds it. -/
theorem text_found (t : List UInt8) (y : List UInt8) (k : Nat) (h : rdT t [] 1 = some (y, k)) : ∃ i, k = i + 1 ∧ unT t [] 1 = (y, i) ∧ i ≤ t.length ∧ y.length ≤ 60 ∧ 34 :: escL y ++ [34] = (34 :: t).take k := by
  obtain ⟨z, r, e1, e2, e3, e4⟩ := rdT_spec t.length t [] 1 y k (Nat.le_refl _) (by simp) h
  simp at e1
  subst e1
  have hl : t.length = (escL y).length + r.length + 1 := by rw [e2]; simp; omega
  refine ⟨1 + (escL y).length, by omega, by rw [e2, unT_esc]; simp, by omega, e4, ?_⟩
  rw [e3, e2, show (34 :: (escL y ++ 34 :: r)) = (34 :: escL y ++ [34]) ++ r by simp, List.take_left' (by simp; omega)]
theorem text_none (t : List UInt8) (X : List UInt8) (I : Nat) (h : rdT t [] 1 = none) (hX : X.length ≤ 60) : 34 :: escL X ++ [34] ≠ (34 :: t).take (I + 1) := by
  intro e
  have e2 := congrArg (fun z => z ++ (34 :: t).drop (I + 1)) e
  simp only [List.take_append_drop] at e2
  have e3 : t = escL X ++ 34 :: (34 :: t).drop (I + 1) := by
    have e4 := (List.cons.inj e2).2
    simpa using e4.symm
  rw [e3, rdT_more X _ [] 1 (by simp; exact hX)] at h
  cases h
end Go.Proofs.YtkakldlfgnijdaaDoor
