/- Layer 2: the document's answers: part, is, Topic, Glob. -/
import Derived.Test.YtgeiicchkfpanaaNmL
namespace Go.Proofs.Ytgeiicchkfpanaa
open Go.RowKit Go.Shelf
theorem rpart_any (s : ByteArray) (w : World) (hs : s.size ≤ 60) :
    Calls Try.prog 80 #[.string s] w fun e w' => e = .returned (.bool (partL s.data.toList)) ∧ w = w' := by
  unfold partL
  obtain ⟨V, hV⟩ : ∃ V, V = s.data.toList.all okc := ⟨_, rfl⟩
  rw [← hV]
  have HV := Lib.hid hV
  have He := Lib.hid (show s.data.toList.isEmpty = s.toList.isEmpty by rw [ByteArray.toList_eq])
  rw [He.out]
  clear hV
  go_enter Try.func80, Try.ntmps80
  go_wp2
  go_loop [3] (fun i => ∃ k : Nat, i = .int .i64 k ∧ k ≤ s.size ∧ (s.data.toList.drop k).all okc = V) (fun i => s.size - (intOf i).toNat)
  case atStart => exact ⟨0, rfl, Nat.zero_le _, by rw [List.drop_zero, HV.out]⟩
  case round =>
    obtain ⟨k, rfl, hk, hd⟩ := hrel
    by_cases hlt : k < s.size
    · have hlt' : (k : Int) < s.size := by omega
      have hdr : s.data.toList.drop k = s[k]'hlt :: s.data.toList.drop (k + 1) := by
        rw [List.drop_eq_getElem_cons (by simpa using hlt)]; rfl
      rw [hdr, List.all_cons] at hd
      clear hdr
      by_cases a1 : (97 : Int) ≤ (s[k]'hlt).toNat
      · by_cases a2 : ((s[k]'hlt).toNat : Int) ≤ 122
        · rw [show okc (s[k]'hlt) = true by unfold okc; simp; omega, Bool.true_and] at hd
          have Hd := Lib.hid hd
          clear hd
          go_wp2
          go_round
          case rel => exact ⟨k + 1, by go_num, by omega, Hd.out⟩
          case measure => simp [intOf]; omega
        · have a3 : (48 : Int) ≤ (s[k]'hlt).toNat := by omega
          have a4 : ¬ ((s[k]'hlt).toNat : Int) ≤ 57 := by omega
          have a5 : (((s[k]'hlt).toNat : Int) == 95) = false := by simp; omega
          rw [show okc (s[k]'hlt) = false by unfold okc; simp; omega, Bool.false_and] at hd
          subst hd
          go_wp2
          go_ret
          exact ⟨by simp, rfl⟩
      · by_cases a3 : (48 : Int) ≤ (s[k]'hlt).toNat
        · by_cases a4 : ((s[k]'hlt).toNat : Int) ≤ 57
          · rw [show okc (s[k]'hlt) = true by unfold okc; simp; omega, Bool.true_and] at hd
            have Hd := Lib.hid hd
            clear hd
            go_wp2
            go_round
            case rel => exact ⟨k + 1, by go_num, by omega, Hd.out⟩
            case measure => simp [intOf]; omega
          · by_cases a5 : ((s[k]'hlt).toNat : Int) = 95
            · rw [show okc (s[k]'hlt) = true by unfold okc; simp; omega, Bool.true_and] at hd
              have Hd := Lib.hid hd
              clear hd
              go_wp2
              go_round
              case rel => exact ⟨k + 1, by go_num, by omega, Hd.out⟩
              case measure => simp [intOf]; omega
            · have a6 : (((s[k]'hlt).toNat : Int) == 95) = false := by simp; omega
              rw [show okc (s[k]'hlt) = false by unfold okc; simp; omega, Bool.false_and] at hd
              subst hd
              go_wp2
              go_ret
              exact ⟨by simp, rfl⟩
        · have a6 : (((s[k]'hlt).toNat : Int) == 95) = false := by simp; omega
          rw [show okc (s[k]'hlt) = false by unfold okc; simp; omega, Bool.false_and] at hd
          subst hd
          go_wp2
          go_ret
          exact ⟨by simp, rfl⟩
    · have hge : (s.size : Int) ≤ k := by omega
      rw [List.drop_eq_nil_of_le (by simp; omega)] at hd
      have hv : V = true := hd.symm
      subst hv
      clear hd
      go_wp2
      go_ret
      exact ⟨by simp, rfl⟩
end Go.Proofs.Ytgeiicchkfpanaa
