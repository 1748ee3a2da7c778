/- Layer 2: which globs meet, in plain lists; and that what is asked again need not be asked. -/
import Derived.Test.YtgeiicchkfpanaaNmA
namespace Go.Proofs.Ytgeiicchkfpanaa
/-- Do parts meet? -/
def meetsL : List (List UInt8) → List (List UInt8) → Bool
  | [], t => t.isEmpty
  | p :: g, t => if p = [42, 42] then meetsL g t || (match t with | [] => false | _ :: t' => meetsL (p :: g) t')
      else match t with | [] => false | q :: t' => (p == [42] || p == q) && meetsL g t'
termination_by g t => g.length + t.length
theorem meetsL_nil (t : List (List UInt8)) : meetsL [] t = t.isEmpty := by rw [meetsL]
theorem meetsL_many_nil (g : List (List UInt8)) : meetsL ([42, 42] :: g) [] = meetsL g [] := by
  rw [meetsL]; simp
theorem meetsL_many_cons (g t : List (List UInt8)) (q : List UInt8) : meetsL ([42, 42] :: g) (q :: t) = (meetsL g (q :: t) || meetsL ([42, 42] :: g) t) := by
  rw [meetsL]; simp
theorem meetsL_oth_nil (p : List UInt8) (g : List (List UInt8)) (h : p ≠ [42, 42]) : meetsL (p :: g) [] = false := by
  rw [meetsL]; simp [h]
theorem meetsL_oth_cons (p q : List UInt8) (g t : List (List UInt8)) (h : p ≠ [42, 42]) : meetsL (p :: g) (q :: t) = ((p == [42] || p == q) && meetsL g t) := by
  rw [meetsL]; simp [h]
/-- The last so many. -/
def suf (G : List (List UInt8)) (i : Nat) : List (List UInt8) := G.drop (G.length - i)
theorem suf_zero (G : List (List UInt8)) : suf G 0 = [] := by unfold suf; simp
theorem suf_all (G : List (List UInt8)) : suf G G.length = G := by unfold suf; simp
theorem suf_succ (G : List (List UInt8)) (i : Nat) (h : i + 1 ≤ G.length) : suf G (i + 1) = G[G.length - (i + 1)]'(by omega) :: suf G i := by
  unfold suf
  rw [List.drop_eq_getElem_cons (by omega)]
  congr 2
  omega
/-- What was asked, and did not meet, with all that it hangs on among what was asked. -/
def Bad (G T : List (List UInt8)) (K : List (Nat × Nat)) (k : Nat × Nat) : Prop :=
  k.1 ≤ G.length ∧ k.2 ≤ T.length ∧
  match suf G k.1, suf T k.2 with
  | [], t => t ≠ []
  | p :: _, t => if p = [42, 42] then (k.1 - 1, k.2) ∈ K ∧ (t ≠ [] → (k.1, k.2 - 1) ∈ K) else
      match t with
      | [] => True
      | q :: _ => (p = [42] ∨ p = q) → (k.1 - 1, k.2 - 1) ∈ K
theorem Bad.mono {G T : List (List UInt8)} {K K' : List (Nat × Nat)} {k : Nat × Nat} (h : Bad G T K k) (hK : ∀ x ∈ K, x ∈ K') : Bad G T K' k := by
  unfold Bad at *
  refine ⟨h.1, h.2.1, ?_⟩
  have h3 := h.2.2
  revert h3
  split
  · exact id
  · split
    · exact fun ⟨a, b⟩ => ⟨hK _ a, fun ht => hK _ (b ht)⟩
    · split
      · exact id
      · exact fun a b => hK _ (a b)
theorem bad_all (G T : List (List UInt8)) (K : List (Nat × Nat)) (h : ∀ k ∈ K, Bad G T K k) : ∀ (n i j : Nat), i + j ≤ n → (i, j) ∈ K → meetsL (suf G i) (suf T j) = false
  | n, i, j, hn, hk => by
    obtain ⟨b1, b2, b3⟩ := h _ hk
    cases i with
    | zero =>
      rw [suf_zero] at b3 ⊢
      rw [meetsL_nil]
      cases e : suf T j with
      | nil => exact absurd e b3
      | cons _ _ => rfl
    | succ i =>
      simp only [suf_succ G i b1] at b3 ⊢
      generalize hpe : G[G.length - (i + 1)]'(by have := b1; simp at this; omega) = p at b3 ⊢
      cases n with
      | zero => omega
      | succ n =>
        by_cases hp : p = [42, 42]
        · subst hp
          simp only [if_true] at b3
          have r1 := bad_all G T K h n i j (by omega) b3.1
          cases j with
          | zero => rw [suf_zero] at r1 ⊢; rw [meetsL_many_nil]; exact r1
          | succ j =>
            have e := suf_succ T j b2
            rw [e] at r1 ⊢
            rw [meetsL_many_cons, r1, Bool.false_or]
            have r2 := bad_all G T K h n (i + 1) j (by omega) (b3.2 (by rw [e]; simp))
            rw [suf_succ G i b1] at r2
            rw [hpe] at r2
            exact r2
        · simp only [if_neg hp] at b3
          cases j with
          | zero => rw [suf_zero]; exact meetsL_oth_nil _ _ hp
          | succ j =>
            have e := suf_succ T j b2
            simp only [e] at b3 ⊢
            generalize T[T.length - (j + 1)]'(by have := b2; simp at this; omega) = q at *
            rw [meetsL_oth_cons _ _ _ _ hp]
            by_cases hq : p = [42] ∨ p = q
            · rw [bad_all G T K h n i j (by omega) (b3 hq), Bool.and_false]
            · rw [show (p == [42] || p == q) = false by simpa using hq, Bool.false_and]
end Go.Proofs.Ytgeiicchkfpanaa
