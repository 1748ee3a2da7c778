/- Layer 9: what JoinBound, JoinAny, JoinLate feed. No walk stands in this text. -/
import Derived.Test.YtllojkdacinhfaaJnG
namespace Go.Proofs.Ytllojkdacinhfaa.Jn
open Go.RowKit Go.Shelf Go.Proofs.Ytllojkdacinhfaa Go.Proofs.Ytllojkdacinhfaa.Ke
set_option linter.unusedVariables false
set_option linter.unusedSimpArgs false
theorem mayAll2 {W : Int} (h0 : 0 ≤ W) (h1 : W ≤ 65535) : mayB (bAll, 2, 0, W) = true := by
  unfold mayB
  have : needB bAll 0 = true := by decide +kernel
  simp only [this, Bool.true_and, Bool.and_eq_true, decide_eq_true_eq]
  omega
theorem keptA {q i T : Int} (hq : 0 ≤ q) (hq2 : q < 2) (h0 : 0 ≤ T) (h1 : T ≤ 1099511627775) : keptB 2 (q, i, T) = true := by
  unfold keptB timeB
  simp only [Bool.and_eq_true, decide_eq_true_eq]
  omega
theorem meetA1 (T : Int) : meetL bAll 2 0 [(0, 1, T)] = [] := by
  unfold meetL
  rw [if_pos (by decide +kernel)]
  rfl
theorem meetA2 (T : Int) : meetL bAll 2 0 [(1, 2, T)] = [] := by
  unfold meetL
  rw [if_pos (by decide +kernel)]
  rfl
theorem meetA3 (T U : Int) : meetL bAll 2 0 [(0, 1, T), (1, 2, U)] = [0, 1] := by
  unfold meetL
  rw [if_pos (by decide +kernel)]
  show List.mergeSort [(0 : Int), 1] _ = _
  rw [List.mergeSort_of_pairwise]
  simp
theorem checkA0 {W : Int} (h0 : 0 ≤ W) (h1 : W ≤ 65535) : checkB bAll 2 0 W [] = true := by
  unfold checkB
  rw [mayAll2 h0 h1]
  decide +kernel
theorem checkA1 {W T : Int} (h0 : 0 ≤ W) (h1 : W ≤ 65535) (t0 : 0 ≤ T) (t1 : T ≤ 4294967295) : checkB bAll 2 0 W [(0, 1, T)] = true := by
  unfold checkB waitB
  rw [mayAll2 h0 h1, meetA1]
  have hk : keptB 2 (0, 1, T) = true := keptA (by decide) (by decide) t0 (by omega)
  simp only [List.all_cons, List.all_nil, hk]
  rfl
theorem bound1 {W T : Int} (h0 : 0 ≤ W) (h1 : W ≤ 65535) (t0 : 0 ≤ T) (t1 : T ≤ 4294967295) : feedD bAll 2 0 W [] (0, 1, T) = ([(0, 1, T)], [], [], 0) := by
  have hk : keptB 2 (0, 1, T) = true := keptA (by decide) (by decide) t0 (by omega)
  unfold feedD
  rw [checkA0 h0 h1, hk]
  show feedT bAll 2 0 [(0, 1, T)] [] = _
  unfold feedT
  rw [meetA1]
  rfl
theorem bound2 {W T : Int} (h0 : 0 ≤ W) (h1 : W ≤ 65535) (t0 : 0 ≤ T) (t1 : T ≤ 4294967295) : feedD bAll 2 0 W [(0, 1, T)] (1, 2, T + W) = ([], [(0, 1, T), (1, 2, T + W)], [], 0) := by
  have hk : keptB 2 (1, 2, T + W) = true := keptA (by decide) (by decide) (by omega) (by omega)
  have hl : lateB [(0, 1, T)] (T + W) = false := by unfold lateB; simp; omega
  have hh : hasB [(0, 1, T)] 2 = false := rfl
  have hp : lsPl (stillB W (T + W)) [(0, 1, T)] = 0 := by unfold lsPl stillB; simp
  unfold feedD
  rw [checkA1 h0 h1 t0 t1, hk]
  simp only [hl, hh, hp]
  show feedT bAll 2 0 [(0, 1, T), (1, 2, T + W)] [] = _
  unfold feedT
  rw [meetA3]
  rfl
theorem bound3 {W T : Int} (h0 : 0 ≤ W) (h1 : W ≤ 65535) (t0 : 0 ≤ T) (t1 : T ≤ 4294967295) : feedD bAll 2 0 W [(0, 1, T)] (1, 2, T + W + 1) = ([(1, 2, T + W + 1)], [], [(0, 1, T)], 0) := by
  have hk : keptB 2 (1, 2, T + W + 1) = true := keptA (by decide) (by decide) (by omega) (by omega)
  have hl : lateB [(0, 1, T)] (T + W + 1) = false := by unfold lateB; simp; omega
  have hh : hasB [(0, 1, T)] 2 = false := rfl
  have hs : stillB W (T + W + 1) (0, 1, T) = false := by unfold stillB; simp; omega
  have hp : lsPl (stillB W (T + W + 1)) [(0, 1, T)] = 1 := by unfold lsPl; rw [hs]; rfl
  unfold feedD
  rw [checkA1 h0 h1 t0 t1, hk]
  simp only [hl, hh, hp]
  show feedT bAll 2 0 [(1, 2, T + W + 1)] [(0, 1, T)] = _
  unfold feedT
  rw [meetA2]
  rfl
/-- A pattern of any, or one that counts one. -/
theorem any1 (count : Bool) (x : El) : feedD (if count then bCnt else bAny) 6 (if count then 1 else 0) 3 [] x = if keptB 6 x then ([], [x], [], 0) else ([], [], [], 1) := by
  have hc : checkB (if count then bCnt else bAny) 6 (if count then 1 else 0) 3 [] = true := by cases count <;> decide +kernel
  have hm : meetL (if count then bCnt else bAny) 6 (if count then 1 else 0) [x] = [0] := by
    cases count
    · unfold meetL; rw [if_neg (by decide +kernel), if_pos (by decide +kernel)]; rfl
    · unfold meetL; rw [if_neg (by decide +kernel), if_neg (by decide +kernel)]; rfl
  unfold feedD
  rw [hc]
  cases hk : keptB 6 x
  · rfl
  · show feedT (if count then bCnt else bAny) 6 (if count then 1 else 0) [x] [] = _
    unfold feedT
    rw [hm]
    rfl
end Go.Proofs.Ytllojkdacinhfaa.Jn
