/- A field's name: the program's answer, and the document's. -/
import Derived.Test.YtflfbkoelhheoaaNmRD
import Derived.Test.YtflfbkoelhheoaaShelf
import Derived.Test.YtflfbkoelhheoaaLsBase
namespace Go.Proofs.Ytflfbkoelhheoaa
open Go.RowKit Go.Shelf
set_option linter.unusedVariables false
set_option linter.unusedSimpArgs false
theorem idxByte_has : ∀ (l : List UInt8) (c : UInt8), decide (0 ≤ Lib.indexByte l c) = l.contains c
  | [], c => by simp [Lib.indexByte]
  | b :: l, c => by
    have ih := idxByte_has l c
    have hge := Lib.indexByte_ge l c
    unfold Lib.indexByte
    rw [List.contains_cons, ← ih]
    by_cases h : b = c
    · subst h; simp
    · have h1 : (b == c) = false := by simpa using h
      have h2 : (c == b) = false := by simpa using fun e => h e.symm
      rw [h1, h2]
      simp only [Bool.false_eq_true, if_false, Bool.false_or]
      by_cases hm : Lib.indexByte l c = -1
      · simp [hm]
      · have : (Lib.indexByte l c == -1) = false := by simpa using hm
        rw [this]
        simp only [Bool.false_eq_true, if_false, decide_eq_decide]
        omega
/-- May a text be a field's name? -/
def fieldB (s : ByteArray) : Bool := decide (s.size ≤ 16) && (!s.data.toList.contains 46 && topicL s.data.toList)
theorem dot_any (s : ByteArray) (w : World) : Calls Try.prog 33 #[.string s, .string ⟨#[46]⟩] w fun e w' => e = .returned (.bool (s.data.toList.contains 46)) ∧ w = w' :=
  (Try.strings_Contains_one s 46 w).mono fun _ _ ⟨h1, h2⟩ => ⟨by rw [h1, idxByte_has], h2.symm⟩
set_option maxHeartbeats 1000000 in
theorem field_any (s : ByteArray) (w : World) : Calls Try.prog 21 #[.string s] w fun e w' => e = .returned (.bool (fieldB s)) ∧ Below w.heap.size w w' := by
  have C := Lib.hid (fun w => dot_any s w)
  have T := Lib.hid (fun w => topic_any s w)
  unfold fieldB
  by_cases h : s.size ≤ 16
  · have hi : (s.size : Int) ≤ 16 := by omega
    generalize s.data.toList.contains 46 = c at *
    generalize topicL s.data.toList = t at *
    cases c
    · go_enter Try.func21, Try.ntmps21
      go_wp2_with fail
      refine (C.out _).mono ?_
      rintro e w1 ⟨rfl, rfl⟩
      go_wp2_with fail
      refine (T.out _).mono ?_
      rintro e w1 ⟨rfl, hb⟩
      go_wp2
      go_ret
      exact ⟨by simp [h], hb⟩
    · go_enter Try.func21, Try.ntmps21
      go_wp2_with fail
      refine (C.out _).mono ?_
      rintro e w1 ⟨rfl, rfl⟩
      go_wp2
      go_ret
      exact ⟨by simp, Below.refl _ _⟩
  · have hi : ¬ (s.size : Int) ≤ 16 := by omega
    go_enter Try.func21, Try.ntmps21
    go_wp2
    go_ret
    exact ⟨by simp [h], Below.refl _ _⟩
set_option maxHeartbeats 1000000 in
theorem rfield_any (s : ByteArray) (w : World) (hs : s.size ≤ 60) : Calls Try.prog 20 #[.string s] w fun e w' => e = .returned (.bool (fieldB s)) ∧ Below w.heap.size w w' := by
  have T := Lib.hid (fun w => rtopic_any s w hs)
  have hV : fieldB s = (!s.data.toList.contains 46 && (topicL s.data.toList && decide (s.size ≤ 16))) := by
    unfold fieldB; cases decide (s.size ≤ 16) <;> cases s.data.toList.contains 46 <;> cases topicL s.data.toList <;> rfl
  rw [hV]
  clear hV
  generalize topicL s.data.toList = t at *
  obtain ⟨V, hV⟩ : ∃ V, V = s.data.toList.contains 46 := ⟨_, rfl⟩
  rw [← hV]
  have HV := Lib.hid hV
  have hsi : (s.size : Int) ≤ 60 := by omega
  clear hV
  go_enter Try.func20, Try.ntmps20
  go_wp2_with fail
  go_loop [3] (fun i => ∃ k : Nat, i = .int .i64 k ∧ k ≤ s.size ∧ (s.data.toList.drop k).contains 46 = V) (fun i => s.size - (intOf i).toNat)
  case atStart => exact ⟨0, rfl, Nat.zero_le _, by rw [List.drop_zero, HV.out]⟩
  case round =>
    obtain ⟨k, rfl, hk, hd⟩ := hrel
    by_cases hlt : k < s.size
    · have hlt' : (k : Int) < s.size := by omega
      have hdr : s.data.toList.drop k = s[k]'hlt :: s.data.toList.drop (k + 1) := by
        rw [List.drop_eq_getElem_cons (by simpa using hlt)]; rfl
      rw [hdr, List.contains_cons] at hd
      clear hdr HV
      by_cases h46 : (s[k]'hlt) = 46
      · have hv : V = true := by rw [← hd, h46]; rfl
        subst hv
        have h46i : ((s[k]'hlt).toNat : Int) = 46 := by rw [h46]; rfl
        clear hd h46
        go_wp2
        go_ret
        exact ⟨by simp, Below.refl _ _⟩
      · have h2 : (46 == s[k]'hlt) = false := by simpa using fun e => h46 e.symm
        rw [h2, Bool.false_or] at hd
        have h46i : ¬ ((s[k]'hlt).toNat : Int) = 46 := fun e => h46 (by apply UInt8.toNat_inj.1; show _ = 46; omega)
        have Hd := Lib.hid hd
        clear hd h2 h46
        go_wp2
        go_round
        case rel => exact ⟨k + 1, by go_num, by omega, Hd.out⟩
        case measure => simp [intOf]; omega
    · have hge : (s.size : Int) ≤ k := by omega
      rw [List.drop_eq_nil_of_le (by simp; omega)] at hd
      have hv : V = false := hd.symm
      subst hv
      clear hd HV
      cases t
      · go_wp2_with fail
        refine (T.out _).mono ?_
        rintro e w1 ⟨rfl, hb⟩
        go_wp2
        go_ret
        exact ⟨by simp, hb⟩
      · by_cases h16 : s.size ≤ 16
        · have hi : (s.size : Int) ≤ 16 := by omega
          go_wp2_with fail
          refine (T.out _).mono ?_
          rintro e w1 ⟨rfl, hb⟩
          go_wp2
          go_ret
          exact ⟨by simp [h16], hb⟩
        · have hi : ¬ (s.size : Int) ≤ 16 := by omega
          go_wp2_with fail
          refine (T.out _).mono ?_
          rintro e w1 ⟨rfl, hb⟩
          go_wp2
          go_ret
          exact ⟨by simp [h16] <;> omega, hb⟩
end Go.Proofs.Ytflfbkoelhheoaa
