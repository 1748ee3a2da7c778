/- Layer 2: the law NameOrders. -/
import Derived.Test.YtepchkanpaakdaaDoorNmL
import Derived.Test.YtepchkanpaakdaaDoorNmM
namespace Go.Proofs.YtepchkanpaakdaaDoor
open Go.RowKit Go.Shelf
theorem order_zero (a b : ByteArray) (ha : globL a.data.toList = true) (hb : globL b.data.toList = true) : orderB a b = 0 ↔ a = b := by
  unfold orderB partsL
  rw [ha, hb, if_pos rfl, if_pos rfl, cmpP_zero]
  constructor
  · intro h; exact Go.WideShapes.bytes_inj (cut_inj _ _ h)
  · rintro rfl; rfl
structure ZeroIs (x : Int) (a b : ByteArray) (ga gb : Bool) : Prop where
  out : ga = true → gb = true → (x = 0 ↔ a = b)
set_option maxHeartbeats 1000000 in
theorem nameOrders_walk (a0 b0 c0 : ByteArray) (w : World) (_h0 : a0.size ≤ maxLen) (_h1 : b0.size ≤ maxLen) (_h2 : c0.size ≤ maxLen) :
    Calls Tryd.prog 5 #[.string a0, .string b0, .string c0] w fun e w' => e = .returned (.bool true) ∧ Below w.heap.size w w' := by
  obtain ⟨a, ha⟩ : ∃ a, a = fw a0 := ⟨_, rfl⟩
  obtain ⟨b, hb⟩ : ∃ b, b = fw b0 := ⟨_, rfl⟩
  obtain ⟨c, hc⟩ : ∃ c, c = fw c0 := ⟨_, rfl⟩
  have F1 := Lib.hid (fun w => few_any a0 w)
  have F2 := Lib.hid (fun w => few_any b0 w)
  have F3 := Lib.hid (fun w => few_any c0 w)
  rw [← ha] at F1
  rw [← hb] at F2
  rw [← hc] at F3
  have A := Lib.hid awake_any
  have G1 := Lib.hid (fun w => glob_any a w)
  have G2 := Lib.hid (fun w => glob_any b w)
  have O1 := Lib.hid (fun w => order_any a b w)
  have O2 := Lib.hid (fun w => order_any b c w)
  have O3 := Lib.hid (fun w => order_any a c w)
  have O4 := Lib.hid (fun w => order_any b a w)
  have hz := fun h h' => order_zero a b h h'
  have ht := cmpP_trans (partsL a.data.toList) (partsL b.data.toList) (partsL c.data.toList)
  have hn := cmpP_anti (partsL a.data.toList) (partsL b.data.toList)
  have hv := cmpP_bd (partsL b.data.toList) (partsL a.data.toList)
  have hy0 := cmpP_bd (partsL b.data.toList) (partsL c.data.toList)
  have hz0 := cmpP_bd (partsL a.data.toList) (partsL c.data.toList)
  change orderB b c = -1 ∨ orderB b c = 0 ∨ orderB b c = 1 at hy0
  change orderB a c = -1 ∨ orderB a c = 0 ∨ orderB a c = 1 at hz0
  change orderB a b ≤ 0 → orderB b c ≤ 0 → orderB a c ≤ 0 at ht
  change orderB a b = - orderB b a at hn
  change orderB b a = -1 ∨ orderB b a = 0 ∨ orderB b a = 1 at hv
  generalize orderB a b = x at *
  generalize orderB b c = y at *
  generalize orderB a c = z at *
  generalize orderB b a = v at *
  generalize globL a.data.toList = ga at *
  generalize globL b.data.toList = gb at *
  have key : (a = b ∧ (a.toList == b.toList) = true) ∨ (¬ a = b ∧ (a.toList == b.toList) = false ∧ ¬ a.toList = b.toList) := by
    by_cases e : a = b
    · exact .inl ⟨e, by rw [e]; simp⟩
    · have : ¬ a.toList = b.toList := fun h => e (Go.WideShapes.bytes_inj (by rwa [ByteArray.toList_eq, ByteArray.toList_eq] at h))
      exact .inr ⟨e, by simpa using this, this⟩
  have Hz : ZeroIs x a b ga gb := ⟨hz⟩
  have Ht := Lib.hid ht
  have Hn := Lib.hid hn
  have Hv := Lib.hid hv
  have Hy0 := Lib.hid hy0
  have Hz0 := Lib.hid hz0
  have Key := Lib.hid key
  clear ha hb hc hz ht hn hv hy0 hz0 key
  go_enter Tryd.func5, Tryd.ntmps5
  go_wp2_with fail
  refine (F1.out _).mono ?_
  rintro e w0 ⟨rfl, rfl⟩
  go_wp2_with fail
  refine (F2.out _).mono ?_
  rintro e w0 ⟨rfl, rfl⟩
  go_wp2_with fail
  refine (F3.out _).mono ?_
  rintro e w0 ⟨rfl, rfl⟩
  go_wp2_with fail
  refine (O1.out _).mono ?_
  rintro e w1 ⟨rfl, hb1⟩
  go_wp2_with fail
  refine (O2.out _).mono ?_
  rintro e w2 ⟨rfl, hb2⟩
  have k2 := hb1.trans (hb2.mono hb1.size)
  clear hb1 hb2
  go_wp2_with fail
  refine (O3.out _).mono ?_
  rintro e w3 ⟨rfl, hb3⟩
  have k3 := k2.trans (hb3.mono k2.size)
  clear k2 hb3
  go_wp2_with fail
  refine (O4.out _).mono ?_
  rintro e w4 ⟨rfl, hb4⟩
  have k4 := k3.trans (hb4.mono k3.size)
  clear k3 hb4
  have ways : (v = -1 ∧ x = 1 ∧ True) ∨ (v = 0 ∧ x = 0 ∧ (y = 1 ∨ (y ≤ 0 ∧ z ≤ 0))) ∨ (v = 1 ∧ x = -1 ∧ (y = 1 ∨ (y ≤ 0 ∧ z ≤ 0))) := by
    have h1 := Hv.out; have h2 := Hn.out; have h3 := Ht.out; have h4 := Hy0.out
    rcases h1 with h | h | h
    · exact .inl ⟨h, by omega, trivial⟩
    · refine .inr (.inl ⟨h, by omega, ?_⟩)
      by_cases hy : y = 1
      · exact .inl hy
      · exact .inr ⟨by omega, h3 (by omega) (by omega)⟩
    · refine .inr (.inr ⟨h, by omega, ?_⟩)
      by_cases hy : y = 1
      · exact .inl hy
      · exact .inr ⟨by omega, h3 (by omega) (by omega)⟩
  clear Hn Ht Hy0 Hz0 Hv
  rcases ways with ⟨rfl, rfl, _⟩ | ⟨rfl, rfl, rfl | ⟨hy, hz⟩⟩ | ⟨rfl, rfl, rfl | ⟨hy, hz⟩⟩
  all_goals
    go_wp2_with fail
    refine (G1.out _).mono ?_
    rintro e w5 ⟨rfl, hb5⟩
    have k5 := k4.trans (hb5.mono k4.size)
    clear hb5
    cases ga
    · go_wp2_with fail
      refine (A.out _).mono ?_
      rintro e w6 ⟨rfl, hb6⟩
      go_wp2
      go_ret
      exact ⟨by simp, k5.trans (hb6.mono k5.size)⟩
    · go_wp2_with fail
      refine (G2.out _).mono ?_
      rintro e w6 ⟨rfl, hb6⟩
      have k6 := k5.trans (hb6.mono k5.size)
      clear hb6
      cases gb
      · go_wp2_with fail
        refine (A.out _).mono ?_
        rintro e w7 ⟨rfl, hb7⟩
        go_wp2
        go_ret
        exact ⟨by simp, k6.trans (hb7.mono k6.size)⟩
      · rcases Key.out with ⟨e1, e2⟩ | ⟨e1, e2, e3⟩
        · first
            | (exfalso; exact absurd ((Hz.out rfl rfl).2 e1) (by decide))
            | (clear e1
               go_wp2_with fail
               refine (A.out _).mono ?_
               rintro e w7 ⟨rfl, hb7⟩
               go_wp2
               go_ret
               exact ⟨by simp, k6.trans (hb7.mono k6.size)⟩)
        · first
            | (exfalso; exact e1 ((Hz.out rfl rfl).1 rfl))
            | (clear e1
               go_wp2_with fail
               refine (A.out _).mono ?_
               rintro e w7 ⟨rfl, hb7⟩
               go_wp2
               go_ret
               exact ⟨by simp, k6.trans (hb7.mono k6.size)⟩)
end Go.Proofs.YtepchkanpaakdaaDoor
