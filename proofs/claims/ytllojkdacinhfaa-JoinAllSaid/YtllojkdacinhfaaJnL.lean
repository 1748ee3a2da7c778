/- Layer 9: a sort that can be reckoned; what JoinAll feeds. No walk stands in this text. -/
import Derived.Test.YtllojkdacinhfaaJnH
namespace Go.Proofs.Ytllojkdacinhfaa.Jn
open Go.RowKit Go.Shelf Go.Proofs.Ytllojkdacinhfaa Go.Proofs.Ytllojkdacinhfaa.Ke
set_option linter.unusedVariables false
set_option linter.unusedSimpArgs false
def ins (x : Int) : List Int → List Int
  | [] => [x]
  | y :: r => if x ≤ y then x :: y :: r else y :: ins x r
def isort : List Int → List Int
  | [] => []
  | x :: r => ins x (isort r)
theorem ins_perm (x : Int) : ∀ l : List Int, (ins x l).Perm (x :: l)
  | [] => List.Perm.refl _
  | y :: r => by
    unfold ins
    split
    · exact List.Perm.refl _
    · exact ((ins_perm x r).cons y).trans (List.Perm.swap x y r)
theorem isort_perm : ∀ l : List Int, (isort l).Perm l
  | [] => List.Perm.refl _
  | x :: r => (ins_perm x _).trans ((isort_perm r).cons x)
theorem ins_sorted (x : Int) : ∀ l : List Int, l.Pairwise (· ≤ ·) → (ins x l).Pairwise (· ≤ ·)
  | [], _ => by simp [ins]
  | y :: r, h => by
    rw [List.pairwise_cons] at h
    unfold ins
    split
    · rename_i hxy
      rw [List.pairwise_cons]
      refine ⟨fun z hz => ?_, List.pairwise_cons.2 h⟩
      rcases List.mem_cons.1 hz with rfl | hz
      · exact hxy
      · have := h.1 z hz; omega
    · rename_i hxy
      rw [List.pairwise_cons]
      refine ⟨fun z hz => ?_, ins_sorted x r h.2⟩
      rcases List.mem_cons.1 ((ins_perm x r).mem_iff.1 hz) with rfl | hz
      · omega
      · exact h.1 z hz
theorem isort_sorted : ∀ l : List Int, (isort l).Pairwise (· ≤ ·)
  | [] => List.Pairwise.nil
  | x :: r => ins_sorted x _ (isort_sorted r)
theorem msort_isort (l : List Int) : (l.mergeSort fun x y => decide (x ≤ y)) = isort l := by
  have h1 := (List.mergeSort_perm l (fun x y => decide (x ≤ y))).trans (isort_perm l).symm
  have h2 := List.pairwise_mergeSort (le := fun x y : Int => decide (x ≤ y)) (fun a b c => by simp only [decide_eq_true_eq]; omega) (fun a b => by simp only [Bool.or_eq_true, decide_eq_true_eq]; omega) l
  exact h1.eq_of_pairwise (le := fun x y : Int => decide (x ≤ y) = true) (fun a b _ _ h3 h4 => by simp only [decide_eq_true_eq] at h3 h4; omega) h2 ((isort_sorted l).imp fun h => by simpa using h)
def eachC (X : List El) (p : Nat) : List Int := if (eachL X p).any neg then [] else isort (eachL X p)
theorem eachS_eq (X : List El) (p : Nat) : eachS X p = eachC X p := by unfold eachS eachC; rw [msort_isort]
def meetC (p : Int) (X : List El) : List Int := eachC X p.toNat
theorem meetL_all (p n : Int) (X : List El) : meetL bAll p n X = meetC p X := by
  unfold meetL
  rw [if_pos (by decide +kernel), eachS_eq]
  rfl
def waitC (p : Int) (X : List El) : Bool := decide (X.length < 30) && (X.all (keptB p) && ((List.range X.length).all (okAt X) && (meetC p X).isEmpty))
def feedTC (p : Int) (A O : List El) : List El × List El × List El × Int :=
  if (meetC p A).isEmpty && A.length == 30 then ([], [], [], 6) else ((tk A 0 (meetC p A)).1, (tk A 0 (meetC p A)).2, O, 0)
def feedC (p : Int) (X : List El) (x : El) : List El × List El × List El × Int :=
  if (mayB (bAll, p, 0, 100) && waitC p X) && keptB p x then
    if lateB X x.2.2 then ([], [], [], 8) else if hasB X x.2.1 then ([], [], [], 5)
    else feedTC p (X.drop (lsPl (stillB 100 x.2.2) X) ++ [x]) (X.take (lsPl (stillB 100 x.2.2) X))
  else ([], [], [], 1)
theorem feedC_eq (p : Int) (X : List El) (x : El) : feedD bAll p 0 100 X x = feedC p X x := by
  unfold feedD feedC checkB waitB waitC feedT feedTC
  simp only [meetL_all]
/-- The part of the i-th turn. -/
def prt (n t i : Nat) : Int := (((i + t) % n : Nat) : Int)
/-- What waits, and the last number, ahead of the i-th turn. -/
def stA (n t : Nat) (tw : Bool) : Nat → List El × Nat
  | 0 => ([], 0)
  | i + 1 => if tw && decide (i + 1 < n) then ((feedC n (feedC n (stA n t tw i).1 (prt n t i, ((stA n t tw i).2 + 1 : Nat), i)).1 (prt n t i, ((stA n t tw i).2 + 2 : Nat), i)).1, (stA n t tw i).2 + 2)
    else ((feedC n (stA n t tw i).1 (prt n t i, ((stA n t tw i).2 + 1 : Nat), i)).1, (stA n t tw i).2 + 1)
def stOk (n t : Nat) (tw : Bool) (i : Nat) : Bool :=
  let S := stA n t tw i
  let F := feedC n S.1 (prt n t i, (S.2 + 1 : Nat), i)
  let G := feedC n F.1 (prt n t i, (S.2 + 2 : Nat), i)
  decide (S.1.length ≤ 20) && decide (S.2 ≤ 20) && F.2.2.2 == 0 && (if i + 1 < n then F.2.1 == [] else F.2.1.length == n) && (!(tw && decide (i + 1 < n)) || (G.2.2.2 == 0 && G.2.1 == []))
def endOk (n t : Nat) (tw : Bool) : Bool := (stA n t tw n).1.length == if tw then n - 1 else 0
theorem all_ok : ∀ n : Fin 7, ∀ t : Fin 6, ∀ tw : Bool, n.1 = 0 ∨ n.1 ≤ t.1 ∨ (endOk n.1 t.1 tw = true ∧ ∀ i : Fin 6, n.1 ≤ i.1 ∨ stOk n.1 t.1 tw i.1 = true) := by decide +kernel
end Go.Proofs.Ytllojkdacinhfaa.Jn
