/- Layer 2: the law NameMeets. -/
import Derived.Test.YtepchkanpaakdaaDoorNmRE
import Derived.Test.YtepchkanpaakdaaDoorNmRF
namespace Go.Proofs.YtepchkanpaakdaaDoor
open Go.RowKit Go.Shelf
set_option maxHeartbeats 1000000 in
theorem nameMeets_walk (g0 t0 : ByteArray) (w : World) (_h0 : g0.size ≤ maxLen) (_h1 : t0.size ≤ maxLen) :
    Calls Tryd.prog 3 #[.string g0, .string t0] w fun e w' => e = .returned (.bool true) ∧ Below w.heap.size w w' := by
  obtain ⟨g, hg⟩ : ∃ g, g = fw g0 := ⟨_, rfl⟩
  obtain ⟨t, ht⟩ : ∃ t, t = fw t0 := ⟨_, rfl⟩
  have F1 := Lib.hid (fun w => few_any g0 w)
  have F2 := Lib.hid (fun w => few_any t0 w)
  rw [← hg] at F1
  rw [← ht] at F2
  have z1 : g.size ≤ 60 := by rw [hg]; exact fw_size _
  have z2 : t.size ≤ 60 := by rw [ht]; exact fw_size _
  have A := Lib.hid awake_any
  have T1 := Lib.hid (fun w => topic_any t w)
  have T2 := Lib.hid (fun w => rtopic_any t w z2)
  have G1 := Lib.hid (fun w => glob_any g w)
  have G2 := Lib.hid (fun w => rglob_any g w z1)
  have U1 := Lib.hid (fun w => topic_any g w)
  have U2 := Lib.hid (fun w => rtopic_any g w z1)
  have P1 := Lib.hid (fun w => parts_any g w)
  have P2 := Lib.hid (fun w => rparts_any g w z1)
  have M1 := Lib.hid (fun w => meetsN_any g t w)
  have M2 := Lib.hid (fun w => rmeetsN_any g t w z1 z2)
  have O1 := Lib.hid (fun w => order_any g t w)
  have O2 := Lib.hid (fun w => rorder_any g t w z1 z2)
  have S := Lib.hid (fun pa pb ca cb w hx hy => rsame_any (partsB g) (partsB g) pa pb ca cb w (partsB_8 g) hx hy rfl)
  clear hg ht z1 z2
  generalize topicL t.data.toList = b1 at *
  generalize globL g.data.toList = b2 at *
  generalize topicL g.data.toList = b3 at *
  generalize meetsB g t = b4 at *
  generalize orderB g t = o at *
  go_enter Tryd.func3, Tryd.ntmps3
  go_wp2_with fail
  refine (F1.out _).mono ?_
  rintro e w0 ⟨rfl, rfl⟩
  go_wp2_with fail
  refine (F2.out _).mono ?_
  rintro e w0 ⟨rfl, rfl⟩
  go_wp2_with fail
  refine (T1.out _).mono ?_
  rintro e w1 ⟨rfl, k1⟩
  go_wp2_with fail
  refine (T2.out _).mono ?_
  rintro e w2 ⟨rfl, hb2⟩
  have k2 := k1.trans (hb2.mono k1.size)
  clear hb2
  go_wp2_with fail
  refine (G1.out _).mono ?_
  rintro e w3 ⟨rfl, hb3⟩
  have k3 := k2.trans (hb3.mono k2.size)
  clear hb3
  go_wp2_with fail
  refine (G2.out _).mono ?_
  rintro e w4 ⟨rfl, hb4⟩
  have k4 := k3.trans (hb4.mono k3.size)
  clear hb4
  go_wp2_with fail
  refine (U1.out _).mono ?_
  rintro e w5 ⟨rfl, hb5⟩
  have k5 := k4.trans (hb5.mono k4.size)
  clear hb5
  go_wp2_with fail
  refine (U2.out _).mono ?_
  rintro e w6 ⟨rfl, hb6⟩
  have k6 := k5.trans (hb6.mono k5.size)
  clear hb6
  go_wp2_with fail
  refine (P1.out _).mono ?_
  rintro e w7 ⟨pa, rfl, R1, hb7⟩
  have k7 := k6.trans (hb7.mono k6.size)
  clear hb7
  go_wp2_with fail
  refine (P2.out _).mono ?_
  rintro e w8 ⟨pb, cb, rfl, R2, hb8⟩
  have k8 := k7.trans (hb8.mono k7.size)
  have R1' := R1.lift hb8
  clear hb8 R1
  go_wp2_with fail
  refine (S.out _ _ _ _ _ R1'.cells R2.cells).mono ?_
  rintro e w9 ⟨rfl, hb9⟩
  have k9 := k8.trans (hb9.mono k8.size)
  clear hb9 R1' R2
  go_wp2_with fail
  refine (M1.out _).mono ?_
  rintro e w10 ⟨rfl, hb10⟩
  have k10 := k9.trans (hb10.mono k9.size)
  clear hb10
  go_wp2_with fail
  refine (M2.out _).mono ?_
  rintro e w11 ⟨rfl, hb11⟩
  have k11 := k10.trans (hb11.mono k10.size)
  clear hb11
  go_wp2_with fail
  refine (O1.out _).mono ?_
  rintro e w12 ⟨rfl, hb12⟩
  have k12 := k11.trans (hb12.mono k11.size)
  clear hb12
  go_wp2_with fail
  refine (O2.out _).mono ?_
  rintro e w13 ⟨rfl, hb13⟩
  have k13 := k12.trans (hb13.mono k12.size)
  clear hb13
  go_wp2_with fail
  refine (A.out _).mono ?_
  rintro e w14 ⟨rfl, hb14⟩
  have k14 := k13.trans (hb14.mono k13.size)
  clear hb14
  go_wp2
  go_ret
  exact ⟨by simp, k14⟩
end Go.Proofs.YtepchkanpaakdaaDoor
