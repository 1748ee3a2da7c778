/- Layer 2: Split at the dots, and Parts. -/
import Derived.Test.YtgeiicchkfpanaaNmC
import Derived.Test.YtgeiicchkfpanaaShelf
import Derived.Lib.SplitLaws
import Derived.Lib.IndexBytes
import Derived.Shelf.Strings.SplitCore
namespace Go.Proofs.Ytgeiicchkfpanaa
open Go.RowKit Go.Shelf
theorem splitK_cut : ∀ l : List UInt8, Lib.splitK [46] 0 (l.count 46) l = cutL l
  | [] => rfl
  | c :: t => by
    have ih := splitK_cut t
    by_cases h : c = 46
    · subst h
      rw [List.count_cons_self, cutL_dot, ← ih]
      have e : Lib.index (46 :: t) [46] = 0 := by rw [Lib.index_one]; simp [Lib.indexByte]
      rw [Lib.splitK, e]
      simp
    · have hc : (c :: t).count 46 = t.count 46 := List.count_cons_of_ne h
      have hi : Lib.index (c :: t) [46] = if Lib.index t [46] = -1 then -1 else Lib.index t [46] + 1 := by
        rw [Lib.index_one, Lib.index_one, Lib.indexByte]
        simp [h]
      have hge : -1 ≤ Lib.index t [46] := by rw [Lib.index_one]; exact Lib.indexByte_ge _ _
      obtain ⟨p, r, e1, e2⟩ := cutL_oth c t h
      rw [hc, e2]
      rw [e1] at ih
      cases hk : t.count 46 with
      | zero =>
        rw [hk] at ih
        have : p = t ∧ r = [] := by
          have := ih.symm
          unfold Lib.splitK at this
          simpa using this
        obtain ⟨rfl, rfl⟩ := this
        rfl
      | succ k =>
        rw [hk] at ih
        by_cases hm : Lib.index t [46] = -1
        · rw [Lib.splitK, if_pos (by simp [hm])] at ih
          have : p = t ∧ r = [] := by
            have := ih.symm
            simpa using this
          obtain ⟨rfl, rfl⟩ := this
          rw [Lib.splitK, hi, if_pos hm, if_pos (by simp)]
        · rw [Lib.splitK, if_neg (by simpa using hm)] at ih
          obtain ⟨n, hn⟩ : ∃ n : Nat, Lib.index t [46] = n := ⟨(Lib.index t [46]).toNat, by omega⟩
          rw [hn] at ih hi
          rw [if_neg (by omega)] at hi
          rw [Lib.splitK, hi, if_neg (by simp; omega)]
          rw [show ((n : Int) + 1).toNat = n + 1 by omega]
          have e3 := List.cons.inj ih
          rw [← e3.1, ← e3.2]
          simp
/-- A text's parts. -/
def cutB (s : ByteArray) : List ByteArray := Lib.splitB ⟨#[46]⟩ 0 (Lib.countB s ⟨#[46]⟩) s
theorem cutB_data (s : ByteArray) : (cutB s).map (·.data.toList) = cutL s.data.toList := by
  unfold cutB
  rw [Lib.splitB_data]
  have e : Lib.countB s ⟨#[46]⟩ = s.data.toList.count 46 := by
    show Lib.count s.data.toList [46] = _
    rw [Lib.count_one]
  rw [e]
  exact splitK_cut _
theorem cutB_len (s : ByteArray) : (cutB s).length = Lib.countB s ⟨#[46]⟩ + 1 := Lib.splitB_all _ (by decide) 0 _ s rfl
end Go.Proofs.Ytgeiicchkfpanaa
