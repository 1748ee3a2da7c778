/- Layer 2: which texts are names and globs, in plain lists. No program stands in this text. -/
import Derived.Test.YtgeiicchkfpanaaChecked
import Derived.Laws.RangeAny
namespace Go.Proofs.Ytgeiicchkfpanaa
/-- An octet of a part. -/
def okc (c : UInt8) : Bool := decide (97 ≤ c.toNat) && decide (c.toNat ≤ 122) || decide (48 ≤ c.toNat) && decide (c.toNat ≤ 57) || c.toNat == 95
theorem okc_low {c : UInt8} (h : okc c = true) : c.toNat < 128 := by
  unfold okc at h
  simp at h
  omega
theorem okc_dot {c : UInt8} (h : okc c = true) : c ≠ 46 := by
  rintro rfl
  exact absurd h (by decide)
theorem okc_star {c : UInt8} (h : okc c = true) : c ≠ 42 := by
  rintro rfl
  exact absurd h (by decide)
/-- A part of a name. -/
def partL (p : List UInt8) : Bool := !p.isEmpty && p.all okc
/-- A part of a glob. -/
def globPart (p : List UInt8) : Bool := p == [42] || p == [42, 42] || partL p
/-- What lies between the dots. -/
def cutL : List UInt8 → List (List UInt8)
  | [] => [[]]
  | c :: t => if c = 46 then [] :: cutL t else match cutL t with
    | [] => [[c]]
    | p :: r => (c :: p) :: r
theorem cutL_ne : ∀ l, cutL l ≠ []
  | [] => by simp [cutL]
  | c :: t => by
    unfold cutL
    split
    · simp
    · split <;> simp
theorem cutL_dot (t : List UInt8) : cutL (46 :: t) = [] :: cutL t := by
  rw [cutL, if_pos rfl]
theorem cutL_oth (c : UInt8) (t : List UInt8) (h : c ≠ 46) : ∃ p r, cutL t = p :: r ∧ cutL (c :: t) = (c :: p) :: r := by
  cases e : cutL t with
  | nil => exact absurd e (cutL_ne t)
  | cons p r => exact ⟨p, r, rfl, by rw [cutL, if_neg h, e]⟩
/-- Behind so many octets of a part, and so many parts: may the rest be? -/
def goL (may : List UInt8 → Bool) : List UInt8 → List UInt8 → Nat → Bool
  | cur, [], n => may cur && decide (n + 1 ≤ 8)
  | cur, c :: t, n => if c = 46 then (may cur && decide (n + 1 ≤ 8)) && goL may [] t (n + 1) else goL may (cur ++ [c]) t n
theorem goL_dot (may : List UInt8 → Bool) (cur t : List UInt8) (n : Nat) : goL may cur (46 :: t) n = ((may cur && decide (n + 1 ≤ 8)) && goL may [] t (n + 1)) := by
  rw [goL, if_pos rfl]
theorem goL_oth (may : List UInt8 → Bool) (cur : List UInt8) (c : UInt8) (t : List UInt8) (n : Nat) (h : c ≠ 46) : goL may cur (c :: t) n = goL may (cur ++ [c]) t n := by
  rw [goL, if_neg h]
theorem goL_skip (may : List UInt8 → Bool) (t : List UInt8) (n : Nat) : ∀ (x cur : List UInt8), (∀ c ∈ x, c ≠ 46) → goL may cur (x ++ t) n = goL may (cur ++ x) t n
  | [], cur, _ => by simp
  | c :: x, cur, h => by
    rw [List.cons_append, goL_oth _ _ _ _ _ (h c (by simp)), goL_skip may t n x (cur ++ [c]) (fun d hd => h d (by simp [hd])), List.append_assoc]
    rfl
theorem goL_eq (may : List UInt8 → Bool) : ∀ (l cur : List UInt8) (n : Nat), goL may cur l n =
    (match cutL l with | [] => false | p :: r => may (cur ++ p) && r.all may && decide (n + 1 + r.length ≤ 8))
  | [], cur, n => by simp [goL, cutL]
  | c :: t, cur, n => by
    by_cases h : c = 46
    · subst h
      rw [goL_dot, goL_eq may t [] (n + 1), cutL_dot]
      cases e : cutL t with
      | nil => exact absurd e (cutL_ne t)
      | cons p r =>
        simp only [List.nil_append, List.append_nil, List.all_cons, List.length_cons]
        rw [Bool.eq_iff_iff]
        simp only [Bool.and_eq_true, decide_eq_true_eq]
        constructor
        · rintro ⟨⟨a, b⟩, ⟨c, d⟩, e⟩; exact ⟨⟨a, c, d⟩, by omega⟩
        · rintro ⟨⟨a, c, d⟩, e⟩; exact ⟨⟨a, by omega⟩, ⟨c, d⟩, by omega⟩
    · obtain ⟨p, r, e1, e2⟩ := cutL_oth c t h
      rw [goL_oth _ _ _ _ _ h, goL_eq may t (cur ++ [c]) n, e1, e2]
      simp
/-- May a text be, by its parts? -/
def isL (may : List UInt8 → Bool) (l : List UInt8) : Bool := decide (l.length ≤ 40) && ((cutL l).all may && decide ((cutL l).length ≤ 8))
theorem goL_is (may : List UInt8 → Bool) (l : List UInt8) : goL may [] l 0 = ((cutL l).all may && decide ((cutL l).length ≤ 8)) := by
  rw [goL_eq]
  cases e : cutL l with
  | nil => exact absurd e (cutL_ne l)
  | cons p r => simp [Nat.add_comm]
def topicL : List UInt8 → Bool := isL partL
def globL : List UInt8 → Bool := isL globPart
/-- A glob's parts. -/
def partsL (l : List UInt8) : List (List UInt8) := if globL l then cutL l else []
theorem topic_glob (l : List UInt8) (h : topicL l = true) : globL l = true := by
  unfold topicL globL isL at *
  simp only [Bool.and_eq_true, decide_eq_true_eq, List.all_eq_true] at *
  refine ⟨h.1, fun p hp => ?_, h.2.2⟩
  unfold globPart
  simp [h.2.1 p hp]
/-- What a rune of more octets passes by is no dot. -/
theorem decode_span (s : ByteArray) (pos : Nat) (h : pos < s.size) : pos + (Utf8.decode s pos).2 ≤ s.size ∧ 1 ≤ (Utf8.decode s pos).2 ∧
    ∀ j, 1 ≤ j → j < (Utf8.decode s pos).2 → ∀ (hj : pos + j < s.size), 128 ≤ (s[pos + j]'hj).toNat := by
  have hat : ∀ k (hk : pos + k < s.size), s.get! (pos + k) = s[pos + k]'hk := fun k hk => by
    simp [ByteArray.get!, getElem!_pos, hk]
    rfl
  have hg : ∀ k, (pos + k < s.size ∧ (s.get! (pos + k)).toNat / 64 = 2) → ∀ (hj : pos + k < s.size), 128 ≤ (s[pos + k]'hj).toNat := fun k hk hj => by
    rw [← hat k hj]; omega
  simp only [Utf8.decode]
  repeat' split
  all_goals simp only [Bool.and_eq_true, decide_eq_true_eq, beq_iff_eq] at *
  all_goals refine ⟨by omega, by omega, fun j h1 h2 hj => ?_⟩
  all_goals rcases (show j = 1 ∨ j = 2 ∨ j = 3 by omega) with rfl | rfl | rfl
  all_goals first
    | omega
    | exact hg 1 (by omega) hj
    | exact hg 2 (by omega) hj
    | exact hg 3 (by omega) hj
end Go.Proofs.Ytgeiicchkfpanaa
