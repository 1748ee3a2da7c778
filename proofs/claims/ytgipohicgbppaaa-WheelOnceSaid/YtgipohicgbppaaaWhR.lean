/- Layer 11: the chapter's examples. -/
import Derived.Test.YtgipohicgbppaaaWhQ
namespace Go.Proofs.Ytgipohicgbppaaa
open Go.RowKit Go.Shelf
theorem ex1 : setP [] 1 5 = ([(5, 1)], 0) := by decide +kernel
theorem ex2 : setP [(5, 1)] 2 3 = ([(3, 2), (5, 1)], 0) := by decide +kernel
theorem ex3 : ringP [(3, 2), (5, 1)] 4 = ([(5, 1)], [2]) := by decide +kernel
theorem ex4 : setP [(3, 2), (5, 1)] 2 9 = ([(5, 1), (9, 2)], 0) := by decide +kernel
theorem ex5 : mayT [(3, 2), (5, 1)] = true ∧ hasB [(3, 2), (5, 1)] 7 = false := by decide +kernel
theorem own_args {w : World} {base : Nat} {v : Value} {X : List Tm} (h : Own w base v X) : ∃ pa cap, v = .slice pa X.length cap ∧ X.length ≤ cap ∧ Rd w pa X ∧ (pa = none → cap = 0) := by
  obtain ⟨pa, cap, rfl, hc, hr, _⟩ := h.rd
  exact ⟨pa, cap, rfl, hc, hr, h.nil_cap⟩
set_option maxHeartbeats 2000000 in
set_option maxRecDepth 100000 in
theorem awake_any (w : World) : Calls Try.prog 19 #[] w fun e w' => e = .returned (.bool true) ∧ Below w.heap.size w w' := by
  have S1 := Lib.hid (set_any [] none 0 1 5 w (by decide) (by decide) (Rd.nil _ _) (fun _ => rfl))
  rw [ex1] at S1
  have S2 := Lib.hid (fun pa cap w hc hr hn => set_any [(5, 1)] pa cap 2 3 w (by decide) hc hr hn)
  rw [ex2] at S2
  have S3 := Lib.hid (fun pa cap w hc hr hn => ring_any [(3, 2), (5, 1)] pa cap 4 w (by decide) hc hr hn)
  rw [ex3] at S3
  have S4 := Lib.hid (fun pa cap w hc hr hn => set_any [(3, 2), (5, 1)] pa cap 2 9 w (by decide) hc hr hn)
  rw [ex4] at S4
  have S5 := Lib.hid (fun pa cap w hc hr hn => stop_any [(3, 2), (5, 1)] pa cap 7 w (by decide) hc hr hn)
  rw [ex5.1, ex5.2] at S5
  have SI := Lib.hid (fun pa pb ca cb w hA hB => idsSame_any [2] [2] pa pb ca cb w (by decide) hA hB)
  have he : decide (([2] : List Int) = [2]) = true := rfl
  rw [he] at SI
  clear he
  go_enter Try.func19, Try.ntmps19
  go_wp2_with fail
  refine S1.out.mono ?_
  rintro e w1 ⟨v1, rfl, o1, hb1⟩
  obtain ⟨p1, c1, rfl, hc1, hr1, hn1⟩ := own_args o1
  have K1 := Lib.hid hb1
  have T2 := Lib.hid (S2.out p1 c1 w1 hc1 hr1 hn1)
  clear hb1 o1 hr1 S1 S2
  go_wp2_with fail
  refine T2.out.mono ?_
  rintro e w2 ⟨v2, rfl, o2, hb2⟩
  obtain ⟨p2, c2, rfl, hc2, hr2, hn2⟩ := own_args o2
  have K2 := Lib.hid (K1.out.trans (hb2.mono K1.out.size))
  have T3 := Lib.hid (S3.out p2 c2 w2 hc2 hr2 hn2)
  have R2 := Lib.hid hr2
  clear hb2 o2 hr2 S3 T2
  go_wp2_with fail
  refine T3.out.mono ?_
  rintro e w3 ⟨v3, u3, rfl, o3, ou3, hb3⟩
  obtain ⟨q3, d3, rfl, hd3, hru3⟩ := ou3.rd
  have K3 := Lib.hid (K2.out.trans (hb3.mono K2.out.size))
  have R3 := Lib.hid (R2.out.lift hb3)
  have T4 := Lib.hid (S4.out p2 c2 w3 hc2 R3.out hn2)
  have U3 := Lib.hid hru3
  clear hb3 o3 ou3 hru3 S4 T3 R2
  go_wp2_with fail
  refine T4.out.mono ?_
  rintro e w4 ⟨v4, rfl, o4, hb4⟩
  obtain ⟨p4, c4, rfl, hc4, hr4, hn4⟩ := own_args o4
  have K4 := Lib.hid (K3.out.trans (hb4.mono K3.out.size))
  have R4 := Lib.hid (R3.out.lift hb4)
  have T5 := Lib.hid (S5.out p2 c2 w4 hc2 R4.out hn2)
  have U4 := Lib.hid (U3.out.lift hb4)
  clear hb4 o4 hr4 S5 T4 R3 U3
  go_wp2_with fail
  refine T5.out.mono ?_
  rintro e w5 ⟨v5, rfl, o5, hb5⟩
  have K5 := Lib.hid (K4.out.trans (hb5.mono K4.out.size))
  have U5 := Lib.hid (U4.out.lift hb5)
  clear hb5 o5 T5 R4 U4
  have hbl : Below w5.heap.size w5 (w5.alloc (.cells #[.int .u64 2] 23)) := (Below.refl _ _).alloc (Nat.le_refl _) _
  have hrd : RdU (w5.alloc (.cells #[.int .u64 2] 23)) (some ⟨w5.heap.size, 0, none⟩) [2] := ⟨fun _ => ⟨w5.heap.size, 0, rfl, by simp, fun i hi => by
    obtain rfl : i = 0 := by simp at hi; exact hi
    simp [go_sem]⟩⟩
  have K6 := Lib.hid (K5.out.trans (hbl.mono K5.out.size))
  have T6 := Lib.hid (SI.out q3 (some ⟨w5.heap.size, 0, none⟩) d3 1 _ (U5.out.lift hbl) hrd)
  clear hbl hrd SI
  go_wp2_with fail
  refine T6.out.mono ?_
  rintro e w6 ⟨rfl, hb6⟩
  have K7 := Lib.hid (K6.out.trans (hb6.mono K6.out.size))
  clear hb6
  go_wp2
  go_ret
  exact ⟨rfl, K7.out⟩
end Go.Proofs.Ytgipohicgbppaaa
