/- Layer 2: the document's Order. -/
import Derived.Test.YtepchkanpaakdaaDoorNmRD
import Derived.Deep.RegionHeld3
namespace Go.Proofs.YtepchkanpaakdaaDoor
open Go.RowKit Go.Shelf
set_option maxHeartbeats 1000000 in
theorem rcompare_any (X Y : List ByteArray) (a b : ByteArray) (w : World) (ha : a.size ≤ 60) (hb : b.size ≤ 60) (hXa : X = partsB a) (hYb : Y = partsB b) (hX8 : X.length ≤ 8) (hY8 : Y.length ≤ 8) :
    Calls Tryd.prog 21 #[.string a, .string b] w fun e w' => e = .returned (.int .i64 (orderB a b)) ∧ Below w.heap.size w w' := by
  have P1 := Lib.hid (fun w => rparts_any a w ha)
  have P2 := Lib.hid (fun w => rparts_any b w hb)
  obtain ⟨V, hV⟩ : ∃ V, V = orderB a b := ⟨_, rfl⟩
  have hV2 : V = cmpP (X.map dl) (Y.map dl) := by rw [hV, hXa, hYb, partsB_data, partsB_data]; rfl
  rw [← hV]
  have HV := Lib.hid hV2
  have HX := Lib.hid (And.intro hXa hYb)
  have hXi : (X.length : Int) ≤ 8 := by omega
  have hYi : (Y.length : Int) ≤ 8 := by omega
  clear hV hV2 hXa hYb
  go_enter Tryd.func21, Tryd.ntmps21
  go_wp2_with fail
  refine (P1.out _).mono ?_
  rintro e w1 ⟨pa, ca, rfl, R1, hb1⟩
  rw [← HX.out.1] at R1 ⊢
  go_wp2_with fail
  refine (P2.out _).mono ?_
  rintro e w2 ⟨pb, cb, rfl, R2, hb2⟩
  rw [← HX.out.2] at R2 ⊢
  have Hx := Lib.hid (R1.lift hb2).cells
  have Hy := Lib.hid R2.cells
  have k2 := hb1.trans (hb2.mono hb1.size)
  clear R1 R2 hb1 hb2
  go_wp2_with fail
  go_loopw [7] (fun i wx => ∃ k : Nat, i = .int .i64 k ∧ k ≤ X.length ∧ k ≤ Y.length ∧ cmpP ((X.drop k).map dl) ((Y.drop k).map dl) = V ∧ Below w2.heap.size w2 wx ∧ Below w.heap.size w wx) (fun i _ => X.length - (intOf i).toNat)
  case atStart => exact ⟨0, rfl, Nat.zero_le _, Nat.zero_le _, HV.out.symm, Below.refl _ _, k2⟩
  case round =>
    clear k2
    obtain ⟨k, rfl, hkx, hky, hk, b2, kk⟩ := hrel
    by_cases hlt : k < X.length
    · by_cases hlty : k < Y.length
      · obtain ⟨bx, rfl, cx0⟩ := Hx.out k hlt
        obtain ⟨by', rfl, cy0⟩ := Hy.out k hlty
        have cx := (b2.cell (p := ⟨bx, k, none⟩) (World.block_lt_of_cell? w2 ⟨bx, k, none⟩ cx0)).trans cx0
        have cy := (b2.cell (p := ⟨by', k, none⟩) (World.block_lt_of_cell? w2 ⟨by', k, none⟩ cy0)).trans cy0
        have hlt' : (k : Int) < X.length := by omega
        have hlty' : (k : Int) < Y.length := by omega
        rw [List.drop_eq_getElem_cons hlt, List.map_cons, List.drop_eq_getElem_cons hlty, List.map_cons] at hk
        generalize X[k] = x at *
        generalize Y[k] = y at *
        clear cx0 cy0
        unfold cmpP at hk
        have kd1 := kk.drew
        have kd2 := kk.drew.drew
        have bd1 := b2.drew
        have bd2 := b2.drew.drew
        have tx : x.toList = dl x := ByteArray.toList_eq x
        have ty : y.toList = dl y := ByteArray.toList_eq y
        rcases less_total (dl x) (dl y) with h | h | h
        · have hc : cmpL (dl x) (dl y) = -1 := if_pos h
          rw [hc, if_neg (by decide)] at hk
          have l1 : Op.bytesLess x.toList y.toList = true := by rw [tx, ty]; exact h
          have Hk := Lib.hid hk
          clear hk hc h tx ty
          go_wp2_with fail
          have q1 : (k : Int) < X.length := by omega
          have q2 : (k : Int) < Y.length := by omega
          have q3 : (0 : Int) ≤ k := by omega
          go_region_held3 (fun w' => w'.cell? ⟨bx, k, none⟩ = some (.string x) ∧ w'.cell? ⟨by', k, none⟩ = some (.string y)) (exact ⟨cx, cy⟩) (fail)
          clear cx cy kk
          go_wp2
          go_ret
          exact ⟨ret_int' Hk.out, kd1⟩
        · have hc : cmpL (dl x) (dl y) = 0 := (cmpL_zero _ _).2 h
          rw [if_pos hc] at hk
          have exy : x = y := Go.WideShapes.bytes_inj h
          subst exy
          have l1 : Op.bytesLess x.toList x.toList = false := less_irrefl _
          have Hk := Lib.hid hk
          clear hk hc h tx ty
          go_wp2_with fail
          have q1 : (k : Int) < X.length := by omega
          have q2 : (k : Int) < Y.length := by omega
          have q3 : (0 : Int) ≤ k := by omega
          go_region_held3 (fun w' => w'.cell? ⟨bx, k, none⟩ = some (.string x) ∧ w'.cell? ⟨by', k, none⟩ = some (.string x)) (exact ⟨cx, cy⟩) (fail)
          go_wp2_with fail
          go_region_held3 (fun w' => w'.cell? ⟨bx, k, none⟩ = some (.string x) ∧ w'.cell? ⟨by', k, none⟩ = some (.string x)) (exact ⟨cx, cy⟩) (fail)
          clear cx cy kk
          all_goals go_wp2
          all_goals go_roundw
          all_goals first
            | exact ⟨k + 1, by go_num, by omega, by omega, Hk.out, bd2, kd2⟩
            | (simp [intOf]; omega)
        · have h2 := less_asymm _ _ h
          have hne : ¬ dl x = dl y := fun e => by rw [e, less_irrefl] at h; cases h
          have hc : cmpL (dl x) (dl y) = 1 := by unfold cmpL; rw [h2, if_neg Bool.false_ne_true, if_neg hne]
          rw [hc, if_neg (by decide)] at hk
          have l1 : Op.bytesLess x.toList y.toList = false := by rw [tx, ty]; exact h2
          have l2 : Op.bytesLess y.toList x.toList = true := by rw [tx, ty]; exact h
          have l3 : (x.toList == y.toList) = false := by rw [tx, ty]; simpa using hne
          have l4 : ¬ x.toList = y.toList := by rw [tx, ty]; exact hne
          have Hk := Lib.hid hk
          clear hk hc h tx ty h2 hne
          go_wp2_with fail
          have q1 : (k : Int) < X.length := by omega
          have q2 : (k : Int) < Y.length := by omega
          have q3 : (0 : Int) ≤ k := by omega
          go_region_held3 (fun w' => w'.cell? ⟨bx, k, none⟩ = some (.string x) ∧ w'.cell? ⟨by', k, none⟩ = some (.string y)) (exact ⟨cx, cy⟩) (fail)
          go_wp2_with fail
          go_region_held3 (fun w' => w'.cell? ⟨bx, k, none⟩ = some (.string x) ∧ w'.cell? ⟨by', k, none⟩ = some (.string y)) (exact ⟨cx, cy⟩) (fail)
          clear cx cy kk
          go_wp2
          go_ret
          exact ⟨ret_int' Hk.out, kd2⟩
      · have hlt' : (k : Int) < X.length := by omega
        have hge : (Y.length : Int) ≤ k := by omega
        have e1 : ¬ (X.length : Int) = Y.length := by omega
        have e2 : ¬ (X.length : Int) < Y.length := by omega
        have e3 : ((X.length : Int) == Y.length) = false := by simpa using e1
        rw [List.drop_eq_getElem_cons hlt, List.map_cons, show Y.drop k = [] from List.drop_eq_nil_of_le (by omega)] at hk
        have Hk := Lib.hid (show (1 : Int) = V from hk)
        clear hk
        go_wp2
        go_ret
        exact ⟨ret_int' Hk.out, kk⟩
    · have hge : (X.length : Int) ≤ k := by omega
      rw [show X.drop k = [] from List.drop_eq_nil_of_le (by omega)] at hk
      by_cases hlty : k < Y.length
      · have e1 : ¬ (X.length : Int) = Y.length := by omega
        have e2 : (X.length : Int) < Y.length := by omega
        have e3 : ((X.length : Int) == Y.length) = false := by simpa using e1
        rw [List.drop_eq_getElem_cons hlty, List.map_cons] at hk
        have Hk := Lib.hid (show (-1 : Int) = V from hk)
        clear hk
        go_wp2
        go_ret
        exact ⟨ret_int' Hk.out, kk⟩
      · have e1 : (X.length : Int) = Y.length := by omega
        rw [show Y.drop k = [] from List.drop_eq_nil_of_le (by omega)] at hk
        have Hk := Lib.hid (show (0 : Int) = V from hk)
        clear hk
        go_wp2
        go_ret
        exact ⟨ret_int' Hk.out, kk⟩
theorem rorder_any (a b : ByteArray) (w : World) (ha : a.size ≤ 60) (hb : b.size ≤ 60) :
    Calls Tryd.prog 21 #[.string a, .string b] w fun e w' => e = .returned (.int .i64 (orderB a b)) ∧ Below w.heap.size w w' :=
  rcompare_any _ _ a b w ha hb rfl rfl (partsB_8 a) (partsB_8 b)
end Go.Proofs.YtepchkanpaakdaaDoor
