/- Layer 2: the law NameParts. -/
import Derived.Test.YtepchkanpaakdaaDoorNmL
import Derived.Test.YtepchkanpaakdaaDoorNmP
import Derived.Laws.Concat
namespace Go.Proofs.YtepchkanpaakdaaDoor
open Go.RowKit Go.Shelf
theorem take_map (X : List ByteArray) (k : Nat) (h : k < X.length) : (X.take (k + 1)).map dl = (X.take k).map dl ++ [dl X[k]] := by
  rw [List.take_succ_eq_append_getElem h, List.map_append]; rfl
theorem partsB_mem (s : ByteArray) (h : globL s.data.toList = true) (k : Nat) (hk : k < (partsB s).length) : globL (dl (partsB s)[k]) = true ∧ (partsB (partsB s)[k]).length = 1 ∧ (partsB s)[k].size ≤ 40 := by
  have hd := partsB_data s
  have hm : dl (partsB s)[k] ∈ cutL s.data.toList := by
    have : dl (partsB s)[k] ∈ (partsB s).map dl := List.mem_map.2 ⟨_, List.getElem_mem hk, rfl⟩
    rw [hd] at this
    unfold partsL at this
    rwa [if_pos h] at this
  have hg := glob_part _ _ h hm
  refine ⟨hg.1, ?_, ?_⟩
  · have := congrArg List.length (partsB_data (partsB s)[k])
    rw [List.length_map] at this
    rw [this]; exact hg.2
  · have := (glob_8 _ hg.1).2
    exact this
set_option maxHeartbeats 1000000 in
theorem nameParts_walk (s0 : ByteArray) (w : World) (_h0 : s0.size ≤ maxLen) :
    Calls Tryd.prog 7 #[.string s0] w fun e w' => e = .returned (.bool true) ∧ Below w.heap.size w w' := by
  obtain ⟨s, hs⟩ : ∃ s, s = fw s0 := ⟨_, rfl⟩
  have F1 := Lib.hid (fun w => few_any s0 w)
  rw [← hs] at F1
  have A := Lib.hid awake_any
  have P1 := Lib.hid (fun w => parts_any s w)
  have G := Lib.hid (fun w => glob_any s w)
  clear hs
  cases hg : globL s.data.toList
  · rw [hg] at G
    have E := Lib.hid (show (partsB s).length = 0 by unfold partsB; rw [hg]; rfl)
    clear hg
    go_enter Tryd.func7, Tryd.ntmps7
    go_wp2_with fail
    refine (F1.out _).mono ?_
    rintro e w0 ⟨rfl, rfl⟩
    go_wp2_with fail
    refine (P1.out _).mono ?_
    rintro e w1 ⟨pa, rfl, _, hb1⟩
    rw [E.out]
    go_wp2_with fail
    refine (G.out _).mono ?_
    rintro e w2 ⟨rfl, hb2⟩
    have k2 := hb1.trans (hb2.mono hb1.size)
    clear hb1 hb2
    go_wp2_with fail
    refine (A.out _).mono ?_
    rintro e w3 ⟨rfl, hb3⟩
    go_wp2
    go_ret
    exact ⟨by simp, k2.trans (hb3.mono k2.size)⟩
  · rw [hg] at G
    have hmem := partsB_mem s hg
    have hj : joinL ((partsB s).map dl) = s.data.toList := by rw [partsB_data]; unfold partsL; rw [if_pos hg, join_cut]
    have h8 := partsB_8 s
    generalize hX : partsB s = X at *
    have HM := Lib.hid hmem
    have HJ := Lib.hid hj
    have HX := Lib.hid hX
    clear hg hmem hj hX
    go_enter Tryd.func7, Tryd.ntmps7
    go_wp2_with fail
    refine (F1.out _).mono ?_
    rintro e w0 ⟨rfl, rfl⟩
    go_wp2_with fail
    refine (P1.out _).mono ?_
    rintro e w1 ⟨pa, rfl, R, hb1⟩
    rw [HX.out] at R ⊢
    go_wp2_with fail
    refine (G.out _).mono ?_
    rintro e w2 ⟨rfl, hb2⟩
    have R2 := R.lift hb2
    have k2 := hb1.trans (hb2.mono hb1.size)
    clear hb1 hb2 R
    have hXi : (X.length : Int) ≤ 8 := by omega
    go_wp2_with fail
    go_loopw [4, 5] (fun t i wx => ∃ (k : Nat) (T : ByteArray), i = .int .i64 k ∧ k ≤ X.length ∧ t = .string T ∧ T.data.toList = joinL ((X.take k).map dl) ∧ T.size ≤ 41 * k ∧ Row wx w.heap.size pa X ∧ Below w.heap.size w wx) (fun _ i _ => X.length - (intOf i).toNat)
    case atStart => exact ⟨0, _, rfl, Nat.zero_le _, rfl, rfl, Nat.le_refl _, R2, k2⟩
    case round =>
      clear R2 k2
      obtain ⟨k, T, rfl, hk, rfl, hT, hTs, Rk, kk⟩ := hrel
      by_cases hlt : k < X.length
      · obtain ⟨b, rfl, cx⟩ := Rk.cells k hlt
        have hlt' : (k : Int) < X.length := by omega
        have hm := HM.out k hlt
        have htm := take_map X k hlt
        generalize X[k] = x at *
        have GX := Lib.hid (fun w => glob_any x w)
        rw [hm.1] at GX
        have PX := Lib.hid (fun w => parts_any x w)
        have Hm := Lib.hid hm
        have hx40 := hm.2.2
        by_cases h0 : k = 0
        · subst h0
          have hT0 : T.data.toList = [] := hT
          have hTe : T = ⟨#[]⟩ := by apply Go.WideShapes.bytes_inj; rw [hT0]
          have hnew : (T ++ x).data.toList = joinL ((X.take (0 + 1)).map dl) := by
            rw [ByteArray.data_append, Array.toList_append, hT0, htm]; rfl
          have hsum := fun W => run_string_add_sum (P := Tryd.prog) W T x (by omega)
          have Hnew := Lib.hid hnew
          have hsz : (T ++ x).size ≤ 41 := by rw [ByteArray.size_append]; omega
          clear hm htm hT hT0 hTe hnew
          generalize T ++ x = T2 at *
          go_wp2_with fail
          refine (GX.out _).mono ?_
          rintro e w3 ⟨rfl, hb3⟩
          have R3 := Rk.lift hb3
          have k3 := kk.trans (hb3.mono kk.size)
          obtain ⟨b', hb', _, hh⟩ := R3.cons (by intro e; rw [e] at hlt; exact absurd hlt (by simp))
          have cx3 : w3.cell? ⟨b, 0, none⟩ = some (.string x) := (hb3.cell (p := ⟨b, 0, none⟩) (by show b < _; exact World.block_lt_of_cell? wr ⟨b, 0, none⟩ cx)).trans cx
          clear hb3 hh hb' cx
          go_wp2_with fail
          refine (PX.out _).mono ?_
          rintro e w4 ⟨px, rfl, _, hb4⟩
          rw [Hm.out.2.1]
          have R4 := R3.lift hb4
          have k4 := k3.trans (hb4.mono k3.size)
          clear hb4 R3 k3 cx3 Rk kk
          go_wp2
          go_roundw
          case rel => exact ⟨0 + 1, T2, by go_num, by omega, rfl, Hnew.out, by omega, R4, k4⟩
          case measure => simp [intOf]; omega
        · have h0' : (0 : Int) < k := by omega
          have hne : (X.take k).map dl ≠ [] := by
            intro e
            have hl : ((X.take k).map dl).length = k := by rw [List.length_map, List.length_take]; omega
            rw [e] at hl
            exact h0 hl.symm
          have hnew : (T ++ ⟨#[46]⟩ ++ x).data.toList = joinL ((X.take (k + 1)).map dl) := by
            rw [ByteArray.data_append, Array.toList_append, ByteArray.data_append, Array.toList_append, hT, htm, join_snoc, if_neg hne, List.append_assoc]; rfl
          have hsz1 : (T ++ ⟨#[46]⟩).size = T.size + 1 := by rw [ByteArray.size_append]; rfl
          have hsum1 := fun W => run_string_add_sum (P := Tryd.prog) W T ⟨#[46]⟩ (by have : (⟨#[46]⟩ : ByteArray).size = 1 := rfl; omega)
          have hsz : (T ++ ⟨#[46]⟩ ++ x).size ≤ 41 * (k + 1) := by rw [ByteArray.size_append, hsz1]; omega
          have hsum2 := fun W => run_string_add_sum (P := Tryd.prog) W (T ++ ⟨#[46]⟩) x (by omega)
          have Hnew := Lib.hid hnew
          clear hm htm hT hnew hne hsz1
          generalize T ++ ⟨#[46]⟩ ++ x = T2 at *
          generalize T ++ ⟨#[46]⟩ = T1 at *
          go_wp2_with fail
          refine (GX.out _).mono ?_
          rintro e w3 ⟨rfl, hb3⟩
          have R3 := Rk.lift hb3
          have k3 := kk.trans (hb3.mono kk.size)
          obtain ⟨b', hb', _, hh⟩ := R3.cons (by intro e; rw [e] at hlt; exact absurd hlt (by simp))
          have cx3 : w3.cell? ⟨b, k, none⟩ = some (.string x) := (hb3.cell (p := ⟨b, k, none⟩) (by show b < _; exact World.block_lt_of_cell? wr ⟨b, k, none⟩ cx)).trans cx
          clear hb3 hh hb' cx
          go_wp2_with fail
          refine (PX.out _).mono ?_
          rintro e w4 ⟨px, rfl, _, hb4⟩
          rw [Hm.out.2.1]
          have R4 := R3.lift hb4
          have k4 := k3.trans (hb4.mono k3.size)
          clear hb4 R3 k3 cx3 Rk kk
          go_wp2
          go_roundw
          case rel => exact ⟨k + 1, T2, by go_num, by omega, rfl, Hnew.out, by omega, R4, k4⟩
          case measure => simp [intOf]; omega
      · have hge : (X.length : Int) ≤ k := by omega
        rw [List.take_of_length_le (by omega), HJ.out] at hT
        have hTs : T = s := Go.WideShapes.bytes_inj hT
        subst hTs
        clear hT
        go_wp2_with fail
        refine (A.out _).mono ?_
        rintro e w3 ⟨rfl, hb3⟩
        go_wp2
        go_ret
        exact ⟨by simp, kk.trans (hb3.mono kk.size)⟩
end Go.Proofs.YtepchkanpaakdaaDoor
