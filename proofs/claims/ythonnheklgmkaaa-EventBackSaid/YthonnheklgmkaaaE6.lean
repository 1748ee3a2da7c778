/- A part of a way to reckon what a Go program does without its memory (E6). -/
import Derived.Test.YthonnheklgmkaaaE5
import Derived.Test.YthonnheklgmkaaaE4
namespace Go.Av
open Go
set_option autoImplicit false
set_option linter.all false
/-! ### Texts stand in one order -/
abbrev lessB (x y : List UInt8) : Bool := Op.bytesLess x y
theorem u8_lt {a b : UInt8} : (a < b) = (a.toNat < b.toNat) := by rw [UInt8.lt_iff_toNat_lt]
theorem u8_eq {a b : UInt8} : (a = b) = (a.toNat = b.toNat) := by rw [UInt8.toNat_inj]
theorem less_cons (a b : UInt8) (x y : List UInt8) : (lessB (a :: x) (b :: y) = true) = (a.toNat < b.toNat ∨ (a.toNat = b.toNat ∧ lessB x y = true)) := by
  simp only [lessB, Op.bytesLess, Bool.or_eq_true, Bool.and_eq_true, decide_eq_true_eq, beq_iff_eq, u8_lt, u8_eq]
theorem less_irr : ∀ x : List UInt8, ¬ lessB x x = true
  | [] => by simp [lessB, Op.bytesLess]
  | a :: x => by
    rw [less_cons]
    have := less_irr x
    rintro (h | ⟨_, h⟩)
    · omega
    · exact this h
theorem less_trans : ∀ x y z : List UInt8, lessB x y = true → lessB y z = true → lessB x z = true
  | _, _, [], _, h => by cases ‹List UInt8› <;> simp [lessB, Op.bytesLess] at h
  | [], _, c :: z, _, _ => rfl
  | a :: x, [], c :: z, h, _ => by simp [lessB, Op.bytesLess] at h
  | a :: x, b :: y, c :: z, h1, h2 => by
    rw [less_cons] at h1 h2 ⊢
    rcases h1 with h1 | ⟨h1, k1⟩ <;> rcases h2 with h2 | ⟨h2, k2⟩
    · exact .inl (by omega)
    · exact .inl (by omega)
    · exact .inl (by omega)
    · exact .inr ⟨by omega, less_trans x y z k1 k2⟩
theorem less_tot : ∀ x y : List UInt8, ¬ lessB x y = true → x ≠ y → lessB y x = true
  | [], [], _, h => absurd rfl h
  | [], b :: y, h, _ => absurd rfl h
  | a :: x, [], _, _ => rfl
  | a :: x, b :: y, h, hn => by
    rw [less_cons] at h ⊢
    by_cases hab : a.toNat = b.toNat
    · have e : a = b := by rw [u8_eq]; exact hab
      subst e
      exact .inr ⟨rfl, less_tot x y (fun k => h (.inr ⟨rfl, k⟩)) (fun k => hn (by rw [k]))⟩
    · exact .inl (by have := fun k => h (.inl k); omega)
theorem less_asym {x y : List UInt8} (h : lessB x y = true) : ¬ lessB y x = true := fun k => less_irr x (less_trans _ _ _ h k)
theorem less_ne {x y : List UInt8} (h : lessB x y = true) : x ≠ y := fun k => less_irr x (by rw [← k] at h; exact h)
theorem aft_less {n : List UInt8} {f : Fd} : (aft n f = true) = (lessB n f.1 = true) := by
  apply propext
  unfold aft
  constructor
  · intro h
    simp only [Bool.not_eq_true', Bool.or_eq_false_iff, decide_eq_false_iff_not] at h
    exact less_tot _ _ (by simp [lessB, h.1]) h.2
  · intro h
    simp only [Bool.not_eq_true', Bool.or_eq_false_iff, decide_eq_false_iff_not]
    exact ⟨by simpa using less_asym h, fun k => less_ne h k.symm⟩
theorem cmpS_neg {a b : List UInt8} (h : cmpS a b < 0) : lessB a b = true := by
  unfold cmpS at h
  split at h
  · assumption
  · split at h <;> omega
/-! ### Put in order -/
def insF (n : List UInt8) (v : Vl) : List Fd → List Fd
  | [] => [(n, v)]
  | f :: L => if f.1 = n then (n, v) :: L else if lessB f.1 n = true then f :: insF n v L else (n, v) :: f :: L
theorem ins_comm {a b : List UInt8} (v w : Vl) (hab : a ≠ b) : ∀ L : List Fd, insF b w (insF a v L) = insF a v (insF b w L)
  | [] => by
    by_cases h : lessB a b = true
    · have h1 := less_asym h
      simp [insF, h, h1, hab, Ne.symm hab]
    · have h1 := less_tot _ _ h hab
      simp [insF, h, h1, hab, Ne.symm hab]
  | f :: L => by
    have ih := ins_comm v w hab L
    have hba : ¬ b = a := Ne.symm hab
    by_cases fa : f.1 = a
    · have fb : ¬ f.1 = b := fun k => hab (fa.symm.trans k)
      by_cases h : lessB a b = true
      · have h1 := less_asym h
        have h2 : lessB f.1 b = true := by rw [fa]; exact h
        simp [insF, fa, h, hab, hba]
      · have h1 := less_tot _ _ h hab
        simp [insF, fa, h, h1, hab, hba]
    · by_cases fb : f.1 = b
      · by_cases h : lessB a b = true
        · have h1 := less_asym h
          simp [insF, fb, h, h1, hab, hba]
        · have h1 := less_tot _ _ h hab
          simp [insF, fb, h, h1, hab, hba]
      · by_cases la : lessB f.1 a = true
        · by_cases lb : lessB f.1 b = true
          · simp [insF, fa, fb, la, lb, ih]
          · have lb' := less_tot _ _ lb fb
            have h := less_trans _ _ _ lb' la
            simp [insF, fa, fb, la, lb, h, hab, hba]
        · have la' := less_tot _ _ la fa
          by_cases lb : lessB f.1 b = true
          · have h := less_trans _ _ _ la' lb
            simp [insF, fa, fb, la, lb, h, hab, hba]
          · by_cases h : lessB a b = true
            · have h1 := less_asym h
              simp [insF, fa, fb, la, lb, h, h1, hab, hba]
            · have h1 := less_tot _ _ h hab
              simp [insF, fa, fb, la, lb, h, h1, hab, hba]
def Srt (L : List Fd) : Prop := L.Pairwise fun f g => lessB f.1 g.1 = true
theorem ris_srt : ∀ {L : List Fd}, Ris L → Srt L
  | [], _ => List.Pairwise.nil
  | [f], _ => by simp [Srt]
  | f :: g :: L, h => by
    have ht : Ris (g :: L) := fun i hi => by
      have := h (i + 1) (by simpa using hi)
      simpa using this
    have hs := ris_srt ht
    have h0 : lessB f.1 g.1 = true := cmpS_neg (by have := h 0 (by simp); simpa using this)
    refine List.Pairwise.cons (fun x hx => ?_) hs
    rcases List.mem_cons.1 hx with rfl | hx
    · exact h0
    · exact less_trans _ _ _ h0 (List.rel_of_pairwise_cons hs hx)
theorem idx_neg {α : Type} {p : α → Bool} {X : List α} (h : ∀ x ∈ X, p x = false) : idx p X = -1 := by
  have : X.findIdx? p = none := by
    rw [List.findIdx?_eq_none_iff]
    exact h
  simp [idx, this]
theorem put_ins (n : List UInt8) (v : Vl) : ∀ {L : List Fd}, Srt L → putL L n v = insF n v L
  | [], _ => by simp [putL, plc, idx, insF]
  | f :: L, h => by
    have hs : Srt L := (List.pairwise_cons.1 h).2
    have hf := (List.pairwise_cons.1 h).1
    have ih := put_ins n v hs
    unfold putL plc at ih ⊢
    rw [idx_cons, idx_cons, insF]
    by_cases h1 : f.1 = n
    · have k1 : isN n f = true := decide_eq_true h1
      simp [k1, h1]
    · have k1 : ¬ isN n f = true := by simp [isN, h1]
      rw [if_neg k1, if_neg h1]
      by_cases h2 : lessB f.1 n = true
      · have k2 : ¬ aft n f = true := by rw [aft_less]; exact less_asym h2
        rw [if_neg k2, if_pos h2, ← ih]
        have b1 := idx_bounds (isN n) L
        have b2 := idx_bounds (aft n) L
        by_cases c1 : idx (isN n) L < 0
        · rw [if_pos c1, if_neg (by omega), if_neg (show ¬ 0 ≤ idx (isN n) L by omega)]
          by_cases c2 : idx (aft n) L < 0
          · rw [if_pos c2, if_neg (by omega), if_neg (show ¬ 0 ≤ idx (aft n) L by omega)]
            simp
          · rw [if_neg c2, if_pos (by omega), if_pos (show 0 ≤ idx (aft n) L by omega), show (idx (aft n) L + 1).toNat = (idx (aft n) L).toNat + 1 by omega]
            simp
        · rw [if_neg c1, if_pos (by omega), if_pos (show 0 ≤ idx (isN n) L by omega), show (idx (isN n) L + 1).toNat = (idx (isN n) L).toNat + 1 by omega]
          simp
      · have h3 := less_tot _ _ h2 h1
        have k2 : aft n f = true := by rw [aft_less]; exact h3
        have hn : idx (isN n) L = -1 := idx_neg fun x hx => by
          have := less_trans _ _ _ h3 (hf x hx)
          exact decide_eq_false fun k => less_ne this k.symm
        rw [hn, if_pos k2, if_neg h2]
        simp
end Go.Av
namespace Go.Av
open Go
set_option autoImplicit false
set_option linter.all false
theorem idx_spec {α : Type} [Inhabited α] {p : α → Bool} {X : List α} (h : 0 ≤ idx p X) : (idx p X).toNat < X.length ∧ p (X.getD (idx p X).toNat default) = true ∧ ∀ j < (idx p X).toNat, p (X.getD j default) = false := by
  unfold idx at h ⊢
  cases hf : X.findIdx? p with
  | none => rw [hf] at h; simp at h
  | some i =>
    rw [List.findIdx?_eq_some_iff_getElem] at hf
    obtain ⟨hi, hp, hn⟩ := hf
    simp only [Option.elim_some, Int.toNat_natCast]
    refine ⟨hi, by simpa [hi] using hp, fun j hj => ?_⟩
    have hjl : j < X.length := by omega
    simpa [hjl] using hn j hj
theorem idx_nobody {α : Type} [Inhabited α] {p : α → Bool} {X : List α} (h : idx p X < 0) : ∀ j < X.length, p (X.getD j default) = false := by
  intro j hj
  have := find_none h
  rw [List.find?_eq_none] at this
  have hm : X.getD j default ∈ X := getD_mem hj
  simpa using this _ hm
theorem put_twice (L : List Fd) (a : List UInt8) (v w : Vl) : putL (putL L a w) a v = putL L a v := by
  by_cases h : 0 ≤ idx (isN a) L
  · obtain ⟨h1, h2, h3⟩ := idx_spec h
    have e1 : putL L a w = L.set (idx (isN a) L).toNat (a, w) := by rw [putL, if_pos h]
    have e2 : idx (isN a) (L.set (idx (isN a) L).toNat (a, w)) = ((idx (isN a) L).toNat : Nat) := by
      refine idx_some (by simpa using h1) (by simp [h1, isN]) fun j hj => ?_
      have := h3 j hj
      have hjl : j < L.length := by omega
      have hne : ¬ (idx (isN a) L).toNat = j := by omega
      simpa [hjl, List.getElem?_set, hne] using this
    rw [e1, putL, e2, if_pos (by omega), Int.toNat_natCast, List.set_set, putL, if_pos h]
  · have hn := idx_nobody (p := isN a) (X := L) (by omega)
    have hp := plc_le (aft a) L
    have e1 : putL L a w = L.take (plc (aft a) L) ++ [(a, w)] ++ L.drop (plc (aft a) L) := by rw [putL, if_neg h]
    have e0 : putL L a v = L.take (plc (aft a) L) ++ [(a, v)] ++ L.drop (plc (aft a) L) := by rw [putL, if_neg h]
    generalize plc (aft a) L = p at *
    have hl : (L.take p).length = p := by simp; omega
    have e2 : idx (isN a) (L.take p ++ [(a, w)] ++ L.drop p) = (p : Nat) := by
      refine idx_some (by simp; omega) ?_ fun j hj => ?_
      · rw [List.getD_eq_getElem?_getD, List.append_assoc, List.getElem?_append_right (by omega), hl]
        simp [isN]
      · have hjl : j < L.length := by omega
        have := hn j hjl
        rw [List.getD_eq_getElem?_getD, List.append_assoc, List.getElem?_append_left (by omega), List.getElem?_take_of_lt hj]
        simpa [hjl] using this
    rw [e1, e0, putL, e2, if_pos (by omega)]
    rw [Int.toNat_natCast, List.append_assoc, List.set_append_right _ _ (by omega), hl]
    simp
theorem putE_twice (e : Ev) (a : List UInt8) (v w : Vl) : putE (putE e a w) a v = putE e a v := by
  simp [putE, put_twice]
theorem insF_len (n : List UInt8) (v : Vl) : ∀ L : List Fd, (insF n v L).length ≤ L.length + 1
  | [] => by simp [insF]
  | f :: L => by
    have := insF_len n v L
    rw [insF]
    split
    · simp
    · split <;> simp <;> omega
theorem putL_len (L : List Fd) (n : List UInt8) (v : Vl) : (putL L n v).length ≤ L.length + 1 := by
  unfold putL
  split <;> simp <;> omega
theorem insF_srt (n : List UInt8) (v : Vl) : ∀ {L : List Fd}, Srt L → Srt (insF n v L)
  | [], _ => by simp [insF, Srt]
  | f :: L, h => by
    have hs : Srt L := (List.pairwise_cons.1 h).2
    have hf := (List.pairwise_cons.1 h).1
    rw [insF]
    by_cases h1 : f.1 = n
    · rw [if_pos h1]
      exact List.Pairwise.cons (fun x hx => by have := hf x hx; rwa [h1] at this) hs
    · rw [if_neg h1]
      by_cases h2 : lessB f.1 n = true
      · rw [if_pos h2]
        refine List.Pairwise.cons (fun x hx => ?_) (insF_srt n v hs)
        have key : ∀ (M : List Fd), x ∈ insF n v M → x = (n, v) ∨ x ∈ M := by
          intro M
          induction M with
          | nil => simp [insF]
          | cons g M ih =>
            rw [insF]
            split
            · simp only [List.mem_cons]; rintro (h | h)
              · exact .inl h
              · exact .inr (.inr h)
            · split
              · simp only [List.mem_cons]; rintro (h | h)
                · exact .inr (.inl h)
                · rcases ih h with h | h
                  · exact .inl h
                  · exact .inr (.inr h)
              · simp only [List.mem_cons]; rintro (h | h)
                · exact .inl h
                · exact .inr h
        rcases key L hx with rfl | hx
        · exact h2
        · exact hf x hx
      · rw [if_neg h2]
        have h3 := less_tot _ _ h2 h1
        refine List.Pairwise.cons (fun x hx => ?_) h
        rcases List.mem_cons.1 hx with rfl | hx
        · exact h3
        · exact less_trans _ _ _ h3 (hf x hx)
theorem putE_comm {e : Ev} {a b : List UInt8} (v w : Vl) (hab : a ≠ b) (hs : Srt e.2.2.2) : putE (putE e a v) b w = putE (putE e b w) a v := by
  have h1 : putL e.2.2.2 a v = insF a v e.2.2.2 := put_ins a v hs
  have h2 : putL e.2.2.2 b w = insF b w e.2.2.2 := put_ins b w hs
  simp only [putE, h1, h2]
  rw [put_ins b w (insF_srt a v hs), put_ins a v (insF_srt b w hs), ins_comm v w hab]
theorem may_srt {e : Ev} (h : mayE e = true) : Srt e.2.2.2 := by
  unfold mayE mayFs at h
  simp only [Bool.and_eq_true] at h
  exact ris_srt (risB_of h.2.2.2.2.2)
end Go.Av
