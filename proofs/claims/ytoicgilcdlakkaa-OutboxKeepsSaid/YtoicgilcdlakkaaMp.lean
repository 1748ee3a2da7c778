/- A part of a way to reckon what a Go program does without its memory (Mp). -/
import Derived.Test.YtoicgilcdlakkaaGw
namespace Go.Av
open Go
set_option autoImplicit false
set_option linter.all false
/-! ### Maps whose keys are numbers -/
def mpV {β : Type} (q : IntKind) (f : β → V) (L : List (Int × β)) : List (V × V) := L.map fun p => (.int q p.1, f p.2)
def posM {β : Type} (L : List (Int × β)) (n : Int) : Option Nat := L.findIdx? fun p => decide (n = p.1)
def getM {β : Type} (L : List (Int × β)) (n : Int) : Option β := (L.find? fun p => decide (n = p.1)).map (·.2)
def putM {β : Type} (L : List (Int × β)) (n : Int) (v : β) : List (Int × β) := match posM L n with | some i => L.set i (n, v) | none => L ++ [(n, v)]
def orM {β : Type} (f : β → V) (z : V) : Option β → V
  | some v => f v
  | none => z
theorem kpos_I {β : Type} {q : IntKind} {f : β → V} {n : Int} : ∀ {L : List (Int × β)}, kpos false [1] (.int q n) (mpV q f L) = some (posM L n)
  | [] => rfl
  | p :: L => by
    have ih := kpos_I (q := q) (f := f) (n := n) (L := L)
    unfold mpV at ih ⊢
    unfold posM at ih ⊢
    rw [List.map_cons, List.findIdx?_cons]
    by_cases h : n = p.1
    · have h3 : (n == p.1) = true := by simpa using h
      have h4 : decide (n = p.1) = true := by simpa using h
      simp [kpos, valEq, cellsEq, atomEq, h3, h]
    · have h3 : (n == p.1) = false := by simpa using h
      have h4 : decide (n = p.1) = false := by simpa using h
      rw [h4]
      simp [kpos, valEq, cellsEq, atomEq, h3, ih]
theorem kval_I {β : Type} {q : IntKind} {f : β → V} : ∀ {L : List (Int × β)} {i : Nat} {p : Int × β}, L[i]? = some p → kval (mpV q f L) i = f p.2
  | [], i, p, h => by simp at h
  | a :: L, 0, p, h => by
    simp at h
    subst h
    rfl
  | a :: L, i + 1, p, h => by
    have := kval_I (q := q) (f := f) (L := L) (i := i) (by simpa using h)
    simpa [mpV, kval] using this
theorem pos_get {β : Type} : ∀ {L : List (Int × β)} {n : Int}, (posM L n = none ∧ getM L n = none) ∨ ∃ i p, posM L n = some i ∧ L[i]? = some p ∧ getM L n = some p.2 ∧ p.1 = n
  | [], n => .inl ⟨rfl, rfl⟩
  | a :: L, n => by
    unfold posM getM
    rw [List.findIdx?_cons, List.find?_cons]
    by_cases h : n = a.1
    · right
      refine ⟨0, a, ?_, rfl, ?_, h.symm⟩
      · simp [h]
      · simp [h]
    · have h4 : decide (n = a.1) = false := by simpa using h
      rw [h4]
      rcases pos_get (L := L) (n := n) with ⟨h1, h2⟩ | ⟨i, p, h1, h2, h3, h5⟩
      · left
        unfold posM at h1
        unfold getM at h2
        simp only [Bool.false_eq_true, if_false, h1]
        exact ⟨rfl, h2⟩
      · right
        unfold posM at h1
        unfold getM at h3
        refine ⟨i + 1, p, ?_, by simpa using h2, h3, h5⟩
        simp [h1]
section
variable {P : Program} {β : Type} {q : IntKind} {f : β → V} {L : List (Int × β)} {n : Int} {z : V} {H : List Entry} {k : KV}
theorem mget_I : mgetP (some (posM L n)) (mpV q f L) z false H k = k (orM f z (getM L n)) H := by
  rcases pos_get (L := L) (n := n) with ⟨h1, h2⟩ | ⟨i, p, h1, h2, h3, _⟩
  · rw [h1, h2]; rfl
  · rw [h1, h3]
    simp only [mgetP, cond_false, kval_I h2, orM]
theorem mput_I {j : Nat} {v : β} : mputP (some (posM L n)) (mpV q f L) j (.int q n) (f v) H k = k undefV (H.set j (.map (mpV q f (putM L n v)))) := by
  rcases pos_get (L := L) (n := n) with ⟨h1, h2⟩ | ⟨i, p, h1, h2, h3, _⟩
  · rw [h1]
    simp [mputP, putM, h1, mpV]
  · rw [h1]
    simp [mputP, putM, h1, mpV, List.map_set]
end
theorem get_put {β : Type} {L : List (Int × β)} {n m : Int} {v : β} : getM (putM L n v) m = if m = n then some v else getM L m := by
  have go : ∀ {L : List (Int × β)} {i : Nat} {p : Int × β}, posM L n = some i → L[i]? = some p → p.1 = n → getM (L.set i (n, v)) m = if m = n then some v else getM L m := by
    intro L
    induction L with
    | nil => intro i p h1 h2 _; simp at h2
    | cons a L ih =>
      intro i p h1 h2 h3
      unfold posM at h1
      rw [List.findIdx?_cons] at h1
      by_cases h : n = a.1
      · have h4 : decide (n = a.1) = true := by simpa using h
        rw [h4] at h1
        simp at h1
        subst h1
        unfold getM
        rw [List.set_cons_zero, List.find?_cons, List.find?_cons]
        by_cases hm : m = n
        · simp [hm]
        · have : ¬ m = a.1 := fun k => hm (by rw [k, h])
          simp [hm, this]
      · have h4 : decide (n = a.1) = false := by simpa using h
        rw [h4] at h1
        simp only [Bool.false_eq_true, if_false] at h1
        obtain ⟨i', h5, rfl⟩ := Option.map_eq_some_iff.1 h1
        have := ih (i := i') (p := p) h5 (by simpa using h2) h3
        unfold getM at this ⊢
        rw [List.set_cons_succ, List.find?_cons, List.find?_cons]
        by_cases hm : m = a.1
        · have : ¬ m = n := fun k => h (by rw [← k, hm])
          simp [hm]
          intro hh
          exact absurd hh.symm h
        · have hm4 : decide (m = a.1) = false := by simpa using hm
          rw [hm4]
          exact this
  rcases pos_get (L := L) (n := n) with ⟨h1, h2⟩ | ⟨i, p, h1, h2, h3, h5⟩
  · unfold putM
    rw [h1]
    simp only
    unfold getM at h2 ⊢
    rw [List.find?_append]
    by_cases hm : m = n
    · subst hm
      have : List.find? (fun p => decide (m = p.1)) L = none := by simpa using h2
      rw [this]
      simp
    · simp [hm]
  · unfold putM
    rw [h1]
    exact go h1 h2 h5
theorem ids_mp {β : Type} {q : IntKind} {f : β → V} {m : Nat} (hf : ∀ v, idsLt m (f v) = true) : ∀ {L : List (Int × β)}, idsLtE m (.map (mpV q f L)) = true
  | [] => rfl
  | p :: L => by
    have ih := ids_mp (q := q) (f := f) hf (L := L)
    simp only [idsLtE, mpV, List.map_cons, idsLtM, hf, Bool.true_and] at ih ⊢
    rw [ih]
    rfl
theorem get_nil {β : Type} {n : Int} : getM ([] : List (Int × β)) n = none := rfl
theorem mpV_nil {β : Type} {q : IntKind} {f : β → V} : ([] : List (V × V)) = mpV q f ([] : List (Int × β)) := rfl
end Go.Av
