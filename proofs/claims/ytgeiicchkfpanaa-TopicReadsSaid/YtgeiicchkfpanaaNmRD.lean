/- Layer 2: the document's Topic, Glob and Parts. -/
import Derived.Test.YtgeiicchkfpanaaNmRB
namespace Go.Proofs.Ytgeiicchkfpanaa
open Go.RowKit Go.Shelf
def mayW (wild : Bool) (p : List UInt8) : Bool := partL p || (wild && (p == [42] || p == [42, 42]))
theorem mayW_true : mayW true = globPart := by
  funext p
  unfold mayW globPart
  cases partL p <;> cases (p == [42]) <;> cases (p == [42, 42]) <;> rfl
theorem mayW_false : mayW false = partL := by
  funext p
  unfold mayW; simp
theorem cutB_le (s : ByteArray) (k : Nat) (hk : k < (cutB s).length) : (cutB s)[k].size ≤ s.size := by
  have hd := cutB_data s
  have hm : dl (cutB s)[k] ∈ cutL s.data.toList := by rw [← hd]; exact List.mem_map.2 ⟨_, List.getElem_mem hk, rfl⟩
  have := (cut_mem _ _ hm).2
  have e1 := size_list (cutB s)[k]
  have e2 := size_list s
  unfold dl at this
  omega
set_option linter.unusedSimpArgs false in
set_option maxHeartbeats 1000000 in
theorem ris_any (s : ByteArray) (wild : Bool) (w : World) (hs : s.size ≤ 60) :
    Calls Try.prog 64 #[.string s, .bool wild] w fun e w' => e = .returned (.bool (isL (mayW wild) s.data.toList)) ∧ Below w.heap.size w w' := by
  have C := Lib.hid (fun w => rcut_any s w hs)
  have hle := cutB_le s
  have hlen : (cutB s).length ≤ 61 := by
    have := cut_length s.data.toList
    rw [cut_len]; rw [size_list] at this; omega
  have hV : ∃ V, V = (cutL s.data.toList).all (mayW wild) := ⟨_, rfl⟩
  obtain ⟨V, hV⟩ := hV
  have hI : isL (mayW wild) s.data.toList = (decide (s.size ≤ 40) && (V && decide ((cutB s).length ≤ 8))) := by
    unfold isL; rw [hV, cut_len, size_list]
  rw [hI]
  rw [← cutB_data] at hV
  have hX : ∃ X, X = cutB s := ⟨_, rfl⟩
  obtain ⟨X, hX⟩ := hX
  rw [← hX] at hV hle hlen ⊢
  have HV := Lib.hid hV
  have HX := Lib.hid hX
  have Hle := Lib.hid hle
  clear hI hV hX hle
  go_enter Try.func64, Try.ntmps64
  go_wp2_with fail
  refine (C.out _).mono ?_
  rintro e w1 ⟨b, cap, rfl, hb, H, hb1, _⟩
  rw [← HX.out] at H ⊢
  have HH := Lib.hid H
  have hXi : (X.length : Int) ≤ 61 := by omega
  clear H
  go_wp2_with fail
  go_loop [6] (fun i => ∃ k : Nat, i = .int .i64 k ∧ k ≤ X.length ∧ ((X.drop k).map dl).all (mayW wild) = V) (fun i => X.length - (intOf i).toNat)
  case atStart => exact ⟨0, rfl, Nat.zero_le _, HV.out.symm⟩
  case round =>
    obtain ⟨k, rfl, hk, hd⟩ := hrel
    by_cases hlt : k < X.length
    · have hlt' : (k : Int) < X.length := by omega
      have cx := HH.out.cell k hlt
      have hx60 : (X[k]).size ≤ 60 := by have := Hle.out k hlt; omega
      rw [List.drop_eq_getElem_cons hlt, List.map_cons, List.all_cons] at hd
      generalize X[k] = x at *
      have Px := Lib.hid (fun w => rpart_any x w hx60)
      cases hp : partL (dl x)
      · have hp' : partL x.data.toList = false := hp
        rw [hp'] at Px
        cases wild
        · have hv : V = false := by rw [← hd, show mayW false (dl x) = false by unfold mayW; rw [hp]; rfl]; rfl
          subst hv
          clear hd hp hp' HV
          go_wp2_with fail
          refine (Px.out _).mono ?_
          rintro e w2 ⟨rfl, rfl⟩
          go_wp2
          go_ret
          exact ⟨by simp, hb1⟩
        · by_cases h1 : dl x = [42]
          · have x1 : x.toList = [42] := by rw [ByteArray.toList_eq]; exact h1
            have hd2 : ((X.drop (k + 1)).map dl).all (mayW true) = V := by
              rw [h1, show mayW true [42] = true by decide, Bool.true_and] at hd; exact hd
            have Hd := Lib.hid hd2
            clear hd hp hp' HV h1 hd2
            go_wp2_with fail
            refine (Px.out _).mono ?_
            rintro e w2 ⟨rfl, rfl⟩
            go_wp2
            go_round
            case rel => exact ⟨k + 1, by go_num, by omega, Hd.out⟩
            case measure => simp [intOf]; omega
          · have x1 : ¬ x.toList = [42] := by rw [ByteArray.toList_eq]; exact h1
            have x2 : (x.toList == [42]) = false := by simpa using x1
            by_cases h2 : dl x = [42, 42]
            · have x3 : x.toList = [42, 42] := by rw [ByteArray.toList_eq]; exact h2
              have hd2 : ((X.drop (k + 1)).map dl).all (mayW true) = V := by
                rw [h2, show mayW true [42, 42] = true by decide, Bool.true_and] at hd; exact hd
              have Hd := Lib.hid hd2
              clear hd hp hp' HV h1 h2 hd2
              go_wp2_with fail
              refine (Px.out _).mono ?_
              rintro e w2 ⟨rfl, rfl⟩
              go_wp2
              go_round
              case rel => exact ⟨k + 1, by go_num, by omega, Hd.out⟩
              case measure => simp [intOf]; omega
            · have x3 : ¬ x.toList = [42, 42] := by rw [ByteArray.toList_eq]; exact h2
              have x4 : (x.toList == [42, 42]) = false := by simpa using x3
              have hv : V = false := by
                rw [← hd, show mayW true (dl x) = false by unfold mayW; rw [hp, show (dl x == [42]) = false from beq_eq_false_iff_ne.2 h1, show (dl x == [42, 42]) = false from beq_eq_false_iff_ne.2 h2]; rfl]; rfl
              subst hv
              clear hd hp hp' HV h1 h2
              go_wp2_with fail
              refine (Px.out _).mono ?_
              rintro e w2 ⟨rfl, rfl⟩
              go_wp2
              go_ret
              exact ⟨by simp, hb1⟩
      · have hp' : partL x.data.toList = true := hp
        rw [hp'] at Px
        rw [show mayW wild (dl x) = true by unfold mayW; rw [hp]; rfl, Bool.true_and] at hd
        have Hd := Lib.hid (show ((X.drop (k + 1)).map dl).all (mayW wild) = V from hd)
        clear hd hp hp' HV
        go_wp2_with fail
        refine (Px.out _).mono ?_
        rintro e w2 ⟨rfl, rfl⟩
        go_wp2
        go_round
        case rel => exact ⟨k + 1, by go_num, by omega, Hd.out⟩
        case measure => simp [intOf]; omega
    · have hge : (X.length : Int) ≤ k := by omega
      rw [List.drop_eq_nil_of_le (by omega)] at hd
      have hv : V = true := hd.symm
      subst hv
      clear hd HV
      by_cases h8 : X.length ≤ 8
      · have h8' : (X.length : Int) ≤ 8 := by omega
        by_cases h40 : s.size ≤ 40
        · have h40' : (s.size : Int) ≤ 40 := by omega
          go_wp2
          go_ret
          exact ⟨by simp [h8, h40], hb1⟩
        · have h40' : ¬ (s.size : Int) ≤ 40 := by omega
          go_wp2
          go_ret
          exact ⟨by simp [h40], hb1⟩
      · have h8' : ¬ (X.length : Int) ≤ 8 := by omega
        go_wp2
        go_ret
        exact ⟨by simp [h8], hb1⟩
theorem rtopic_any (s : ByteArray) (w : World) (hs : s.size ≤ 60) :
    Calls Try.prog 40 #[.string s] w fun e w' => e = .returned (.bool (topicL s.data.toList)) ∧ Below w.heap.size w w' := by
  have C := Lib.hid (fun w => ris_any s false w hs)
  rw [mayW_false] at C
  go_enter Try.func40, Try.ntmps40
  go_wp2_with fail
  refine (C.out _).mono ?_
  rintro e w1 ⟨rfl, hb⟩
  go_wp2
  go_ret
  exact ⟨rfl, hb⟩
structure RPartsPost (s : ByteArray) (w : World) (e : Ending) (w' : World) : Prop where
  out : ∃ pa cap, e = .returned (.slice pa (partsB s).length cap) ∧ Row w' w.heap.size pa (partsB s) ∧ Below w.heap.size w w'
end Go.Proofs.Ytgeiicchkfpanaa
