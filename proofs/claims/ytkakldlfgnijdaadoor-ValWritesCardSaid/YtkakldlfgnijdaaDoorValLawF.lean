/- Layer 3: the walk of the law ValWrites. -/
import Derived.Test.YtkakldlfgnijdaaDoorValO
import Derived.Test.YtkakldlfgnijdaaDoorValF
import Derived.Test.YtkakldlfgnijdaaDoorPowLaid
namespace Go.Proofs.YtkakldlfgnijdaaDoor
open Go.RowKit
/-- What is read of u is written as u begins. -/
theorem writes_at (u : ByteArray) (hu : u.size ≤ 150) :
    (∀ w, Calls Tryd.prog 19 #[.string u] w fun E w' => E = .returned (.tuple #[.agg #[.bool false, .int .i64 0, .string ⟨#[]⟩], .int .i64 0, .int .i64 2]) ∧ Below w.heap.size w w') ∨
    ∃ (b : Bool) (n : Int) (t : ByteArray) (k : Nat), 1 ≤ k ∧ k ≤ u.size ∧ mayB b n t = true ∧
      (∀ w, Calls Tryd.prog 19 #[.string u] w fun E w' => E = .returned (.tuple #[.agg #[.bool b, .int .i64 n, .string t], .int .i64 k, .int .i64 0]) ∧ Below w.heap.size w w') ∧
      (∀ w, Pow w → Calls Tryd.prog 12 #[.agg #[.bool b, .int .i64 n, .string t]] w fun E w' => E = .returned (.tuple #[.string (u.extract 0 k), .int .i64 0]) ∧ Below w.heap.size w w') := by
  have hr := fun w => read_any u w (by omega)
  cases h : readB u.data.toList with
  | none => rw [h] at hr; exact .inl hr
  | some r =>
    obtain ⟨⟨b, n, x⟩, k⟩ := r
    rw [h] at hr
    obtain ⟨h1, h2, h3, h4, h5, h6⟩ := readB_wr _ b n x k h
    have hw := write_as b n ⟨x.toArray⟩ h4 h5 h3
    rw [h6] at hw
    have e : (⟨(u.data.toList.take k).toArray⟩ : ByteArray) = u.extract 0 k := by
      apply Go.WideShapes.bytes_inj
      rw [ext_data]
    rw [e] at hw
    exact .inr ⟨b, n, ⟨x.toArray⟩, k, h1, by simpa using h2, h3, hr, hw⟩
set_option maxRecDepth 100000 in
set_option maxHeartbeats 1000000 in
theorem valWrites_walk (s : ByteArray) (w : World) (hp : Pow w) (hs : s.size ≤ maxLen) :
    Calls Tryd.prog 9 #[.string s] w fun e w' => e = .returned (.bool true) ∧ Below w.heap.size w w' := by
  unfold maxLen at hs
  have Hp := Lib.hid hp
  clear hp
  by_cases hbig : 150 < s.size
  · have hsz : (s.extract 0 150).size = 150 := by rw [ByteArray.size_extract]; omega
    rcases writes_at (s.extract 0 150) (by omega) with c | ⟨b, n, t, k, hk1, hk2, hm, c1, c2⟩
    · have C1 := Lib.hid c
      clear c
      go_enter Tryd.func9, Tryd.ntmps9
      go_wp2_with fail
      refine (C1.out _).mono ?_
      rintro e1 w1 ⟨rfl, hb1⟩
      have hb2 := hb1.alloc hb1.size (.cells #[.bool false, .int .i64 0, .string ⟨#[]⟩] 23)
      have Hp2 := Lib.hid (Hp.out.later hb2)
      go_wp2_with (go_at_call 17; refine (awake_any _ Hp2.out).mono ?_; rintro e3 w3 ⟨rfl, hb3⟩)
      go_ret
      exact ⟨rfl, chain hb2 (Nat.le_refl _) hb3⟩
    · have C1 := Lib.hid c1
      have C2 := Lib.hid c2
      have Hm := Lib.hid hm
      have g1 : (1 : Int) ≤ k := by omega
      have g2 : (k : Int) ≤ (s.extract 0 150).size := by omega
      clear c1 c2 hm hk1
      go_enter Tryd.func9, Tryd.ntmps9
      go_wp2_with fail
      refine (C1.out _).mono ?_
      rintro e1 w1 ⟨rfl, hb1⟩
      go_wp2_with fail
      refine (may_any b n t _).mono ?_
      rintro e2 w2 ⟨rfl, hb2⟩
      rw [Hm.out]
      have hb12 := chain hb1 (Nat.le_refl _) (box_below hb2)
      have hc0 := box_cell (i := 0) hb2
      have hc1 := box_cell (i := 1) hb2
      have hc2 := box_cell (i := 2) hb2
      simp at hc0 hc1 hc2
      have Hp2 := Lib.hid (Hp.out.later hb12)
      go_wp2_with fail
      refine (C2.out _ Hp2.out).mono ?_
      rintro e3 w3 ⟨rfl, hb3⟩
      have hb13 := chain hb12 (Nat.le_refl _) hb3
      have Hp3 := Lib.hid (Hp.out.later hb13)
      go_wp2_with (go_at_call 17; refine (awake_any _ Hp3.out).mono ?_; rintro e4 w4 ⟨rfl, hb4⟩)
      go_ret
      exact ⟨rfl, chain hb13 (Nat.le_refl _) hb4⟩
  · have hsm : s.size ≤ 150 := by omega
    rcases writes_at s hsm with c | ⟨b, n, t, k, hk1, hk2, hm, c1, c2⟩
    · have C1 := Lib.hid c
      clear c
      go_enter Tryd.func9, Tryd.ntmps9
      go_wp2_with fail
      refine (C1.out _).mono ?_
      rintro e1 w1 ⟨rfl, hb1⟩
      have hb2 := hb1.alloc hb1.size (.cells #[.bool false, .int .i64 0, .string ⟨#[]⟩] 23)
      have Hp2 := Lib.hid (Hp.out.later hb2)
      go_wp2_with (go_at_call 17; refine (awake_any _ Hp2.out).mono ?_; rintro e3 w3 ⟨rfl, hb3⟩)
      go_ret
      exact ⟨rfl, chain hb2 (Nat.le_refl _) hb3⟩
    · have C1 := Lib.hid c1
      have C2 := Lib.hid c2
      have Hm := Lib.hid hm
      have g1 : (1 : Int) ≤ k := by omega
      have g2 : (k : Int) ≤ s.size := by omega
      clear c1 c2 hm hk1
      go_enter Tryd.func9, Tryd.ntmps9
      go_wp2_with fail
      refine (C1.out _).mono ?_
      rintro e1 w1 ⟨rfl, hb1⟩
      go_wp2_with fail
      refine (may_any b n t _).mono ?_
      rintro e2 w2 ⟨rfl, hb2⟩
      rw [Hm.out]
      have hb12 := chain hb1 (Nat.le_refl _) (box_below hb2)
      have hc0 := box_cell (i := 0) hb2
      have hc1 := box_cell (i := 1) hb2
      have hc2 := box_cell (i := 2) hb2
      simp at hc0 hc1 hc2
      have Hp2 := Lib.hid (Hp.out.later hb12)
      go_wp2_with fail
      refine (C2.out _ Hp2.out).mono ?_
      rintro e3 w3 ⟨rfl, hb3⟩
      have hb13 := chain hb12 (Nat.le_refl _) hb3
      have Hp3 := Lib.hid (Hp.out.later hb13)
      go_wp2_with (go_at_call 17; refine (awake_any _ Hp3.out).mono ?_; rintro e4 w4 ⟨rfl, hb4⟩)
      go_ret
      exact ⟨rfl, chain hb13 (Nat.le_refl _) hb4⟩
end Go.Proofs.YtkakldlfgnijdaaDoor
