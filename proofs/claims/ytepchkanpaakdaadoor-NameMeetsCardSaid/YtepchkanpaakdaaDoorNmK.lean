/- Layer 2: the contract of Order. -/
import Derived.Test.YtepchkanpaakdaaDoorNmH
import Derived.Test.YtepchkanpaakdaaDoorNmJ
import Derived.WalkLawsBesides
import Derived.WalkSpells
namespace Go.Proofs.YtepchkanpaakdaaDoor
open Go.RowKit Go.Shelf
theorem ret_int' {n m : Int} (h : n = m) : Ending.returned (Value.int .i64 n) = Ending.returned (Value.int .i64 m) := by rw [h]
set_option maxHeartbeats 400000 in
theorem cmpStr_any (a b : ByteArray) (w : World) :
    Calls Tryd.prog 37 #[.string a, .string b] w fun e w' => e = .returned (.int .i64 (cmpL a.toList b.toList)) ∧ w = w' := by
  rcases less_total a.toList b.toList with h | h | h
  · have H := Lib.hid (show cmpL a.toList b.toList = -1 from if_pos h)
    go_enter Tryd.func37, Tryd.ntmps37
    go_wp2
    go_ret
    exact ⟨ret_int' H.out.symm, rfl⟩
  · have e : a = b := by
      rw [ByteArray.toList_eq, ByteArray.toList_eq] at h; exact Go.WideShapes.bytes_inj h
    subst e
    have H := Lib.hid (show cmpL a.toList a.toList = 0 from (cmpL_zero _ _).2 rfl)
    have h1 := less_irrefl a.toList
    clear h
    go_enter Tryd.func37, Tryd.ntmps37
    go_wp2
    go_ret
    exact ⟨ret_int' H.out.symm, rfl⟩
  · have h2 := less_asymm _ _ h
    have hne : ¬ a.toList = b.toList := fun e => by rw [e, less_irrefl] at h; cases h
    have H := Lib.hid (show cmpL a.toList b.toList = 1 by unfold cmpL; rw [h2, if_neg Bool.false_ne_true, if_neg hne])
    have hb : (a.toList == b.toList) = false := by simpa using hne
    clear h hne
    go_enter Tryd.func37, Tryd.ntmps37
    go_wp2
    go_ret
    exact ⟨ret_int' H.out.symm, rfl⟩
theorem cmpStr_dl (a b : ByteArray) (w : World) :
    Calls Tryd.prog 37 #[.string a, .string b] w fun e w' => e = .returned (.int .i64 (cmpL (dl a) (dl b))) ∧ w = w' := by
  have := cmpStr_any a b w
  rwa [ByteArray.toList_eq, ByteArray.toList_eq] at this
set_option maxHeartbeats 800000 in
theorem compare_any (X Y : List ByteArray) (pa pb : Option Addr) (w : World) (_hX8 : X.length ≤ 8) (_hY8 : Y.length ≤ 8)
    (hx : ∀ i (h : i < X.length), ∃ b, pa = some ⟨b, 0, none⟩ ∧ w.cell? ⟨b, i, none⟩ = some (.string X[i])) (hy : ∀ i (h : i < Y.length), ∃ b, pb = some ⟨b, 0, none⟩ ∧ w.cell? ⟨b, i, none⟩ = some (.string Y[i])) :
    Calls Tryd.prog 31 #[.slice pa X.length X.length, .slice pb Y.length Y.length] w fun e w' => e = .returned (.int .i64 (cmpP (X.map dl) (Y.map dl))) ∧ w = w' := by
  obtain ⟨V, hV⟩ : ∃ V, V = cmpP (X.map dl) (Y.map dl) := ⟨_, rfl⟩
  rw [← hV]
  have HV := Lib.hid hV
  have Hx := Lib.hid hx
  have Hy := Lib.hid hy
  have C := Lib.hid cmpStr_dl
  clear hV hx hy
  go_enter Tryd.func31, Tryd.ntmps31
  go_wp2_with fail
  go_loop [11] (fun i => ∃ k : Nat, i = .int .i64 k ∧ k ≤ X.length ∧ k ≤ Y.length ∧ cmpP ((X.drop k).map dl) ((Y.drop k).map dl) = V) (fun i => X.length - (intOf i).toNat)
  case atStart => exact ⟨0, rfl, Nat.zero_le _, Nat.zero_le _, HV.out.symm⟩
  case round =>
    obtain ⟨k, rfl, hkx, hky, hk⟩ := hrel
    by_cases hlt : k < X.length
    · obtain ⟨b, rfl, cx⟩ := Hx.out k hlt
      have hlt' : (k : Int) < X.length := by omega
      rw [List.drop_eq_getElem_cons hlt, List.map_cons] at hk
      obtain ⟨x, hx⟩ : ∃ x, x = X[k] := ⟨_, rfl⟩
      rw [← hx] at hk cx
      by_cases hlty : k < Y.length
      · obtain ⟨b', rfl, cy⟩ := Hy.out k hlty
        have hlty' : (k : Int) < Y.length := by omega
        rw [List.drop_eq_getElem_cons hlty, List.map_cons] at hk
        obtain ⟨y, hy⟩ : ∃ y, y = Y[k] := ⟨_, rfl⟩
        rw [← hy] at hk cy
        unfold cmpP at hk
        by_cases h0 : cmpL (dl x) (dl y) = 0
        · rw [if_pos h0] at hk
          have Hk := Lib.hid hk
          have H0 := Lib.hid h0
          clear hk hx hy h0
          go_wp2_with fail
          refine (C.out _ _ _).mono ?_
          rintro e w1 ⟨rfl, rfl⟩
          rw [H0.out]
          go_wp2
          go_round
          case rel => exact ⟨k + 1, by go_num, by omega, by omega, Hk.out⟩
          case measure => simp [intOf]; omega
        · rw [if_neg h0] at hk
          have Hk := Lib.hid hk
          obtain ⟨c, hc⟩ : ∃ c, c = cmpL (dl x) (dl y) := ⟨_, rfl⟩
          have Hc := Lib.hid hc
          rw [← hc] at h0
          clear hk hx hy hc
          go_wp2_with fail
          refine (C.out _ _ _).mono ?_
          rintro e w1 ⟨rfl, rfl⟩
          rw [← Hc.out]
          go_wp2
          go_ret
          exact ⟨ret_int' (Hc.out.trans Hk.out), rfl⟩
      · have hge : (Y.length : Int) ≤ k := by omega
        rw [show Y.drop k = [] from List.drop_eq_nil_of_le (by omega)] at hk
        have Hk := Lib.hid (show (1 : Int) = V from hk)
        clear hk hx
        go_wp2
        go_ret
        exact ⟨ret_int' Hk.out, rfl⟩
    · have hge : (X.length : Int) ≤ k := by omega
      have hkX : k = X.length := by omega
      rw [show X.drop k = [] from List.drop_eq_nil_of_le (by omega)] at hk
      by_cases hlty : k < Y.length
      · have hl2 : (X.length : Int) < Y.length := by omega
        rw [List.drop_eq_getElem_cons hlty, List.map_cons] at hk
        have Hk := Lib.hid (show (-1 : Int) = V from hk)
        clear hk
        subst hkX
        go_wp2
        go_ret
        exact ⟨ret_int' Hk.out, rfl⟩
      · have hl2 : ¬ (X.length : Int) < Y.length := by omega
        rw [show Y.drop k = [] from List.drop_eq_nil_of_le (by omega)] at hk
        have Hk := Lib.hid (show (0 : Int) = V from hk)
        clear hk
        subst hkX
        go_wp2
        go_ret
        exact ⟨ret_int' Hk.out, rfl⟩
/-- Which one is first. -/
def orderB (a b : ByteArray) : Int := cmpP (partsL a.data.toList) (partsL b.data.toList)
theorem Row.cells {w : World} {base : Nat} {pa : Option Addr} {X : List ByteArray} (h : Row w base pa X) : ∀ i (h : i < X.length), ∃ b, pa = some ⟨b, 0, none⟩ ∧ w.cell? ⟨b, i, none⟩ = some (.string X[i]) := fun i hi => by
  obtain ⟨b, e, _, hh⟩ := h.cons (by intro e; rw [e] at hi; exact absurd hi (by simp))
  exact ⟨b, e, hh.cell i hi⟩
theorem order_any (a b : ByteArray) (w : World) : Calls Tryd.prog 20 #[.string a, .string b] w fun e w' => e = .returned (.int .i64 (orderB a b)) ∧ Below w.heap.size w w' := by
  have P := Lib.hid parts_any
  have D := Lib.hid (fun pa pb w hx hy => compare_any (partsB a) (partsB b) pa pb w (partsB_8 a) (partsB_8 b) hx hy)
  rw [partsB_data, partsB_data] at D
  go_enter Tryd.func20, Tryd.ntmps20
  go_wp2_with fail
  refine (P.out _ _).mono ?_
  rintro e w1 ⟨pa, rfl, R1, hb1⟩
  go_wp2_with fail
  refine (P.out _ _).mono ?_
  rintro e w2 ⟨pb, rfl, R2, hb2⟩
  have R1' := R1.lift hb2
  have hb := hb1.trans (hb2.mono hb1.size)
  clear R1 hb1 hb2
  go_wp2_with fail
  refine (D.out _ _ _ R1'.cells R2.cells).mono ?_
  rintro e w3 ⟨rfl, rfl⟩
  go_wp2
  go_ret
  exact ⟨rfl, hb⟩
end Go.Proofs.YtepchkanpaakdaaDoor
