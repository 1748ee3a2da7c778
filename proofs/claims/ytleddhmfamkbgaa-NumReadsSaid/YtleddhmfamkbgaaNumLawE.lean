/- Layer 1: the walks of the laws NumReads and NumLays. -/
import Derived.Test.YtleddhmfamkbgaaNumRUnp
namespace Go.Proofs.Ytleddhmfamkbgaa
open Go.RowKit
theorem to_below {P : Program} {f : Nat} {args : Array Value} {w : World} {v : Value} (h : Calls P f args w fun e w' => e = .returned v ∧ w = w') :
    Calls P f args w fun e w' => e = .returned v ∧ Below w.heap.size w w' := h.mono fun _ _ ⟨a, b⟩ => ⟨a, b ▸ Below.refl _ _⟩
/-- What is read of octets, by the program and by the document. -/
theorem reads_at (r : ByteArray) (hr : r.size ≤ 1000000) : ∃ (n e : Int) (b : Bool) (x y z : Int),
    (∀ w, Calls Try.prog 15 #[.string r] w fun E w' => E = .returned (.tuple #[.int .u64 n, .int .i64 e]) ∧ w = w') ∧
    (∀ w, Calls Try.prog 17 #[.string r] w fun E w' => E = .returned (.tuple #[.int .u64 n, .bool b]) ∧ w = w') ∧
    (∀ w, Calls Try.prog 13 #[.string r] w fun E w' => E = .returned (.tuple #[.int .u64 x, .int .i64 y, .int .i64 z]) ∧ w = w') ∧
    (∀ w, Calls Try.prog 18 #[.string r] w fun E w' => E = .returned (.tuple #[.int .u64 x, .int .i64 y, .int .i64 z]) ∧ Below w.heap.size w w') ∧
    ((b = true ∧ (e == 0) = true) ∨ (b = false ∧ (e == 0) = false ∧ (e == 1) = true)) := by
  have hu : ∀ w, Calls Try.prog 18 #[.string r] w fun E w' => E = .returned (.tuple #[.int .u64 (unpS r.data.toList).1, .int .i64 (unpS r.data.toList).2.1, .int .i64 (unpS r.data.toList).2.2]) ∧ Below w.heap.size w w' := fun w => runpack_any r w hr
  by_cases h : 1 ≤ r.size ∧ r.size ≤ 8
  · refine ⟨rgV r.data.toList r.size, 0, rgB r.size, _, _, _, fun w => ?_, fun w => rget_any r w (by omega), fun w => unpack_any r w (by omega), hu, .inl ⟨decide_eq_true h, rfl⟩⟩
    have := get_good r w h.1 h.2
    rw [show rgV r.data.toList r.size = (beV r.data.toList r.size : Int) from if_pos h]
    exact this
  · refine ⟨0, 1, rgB r.size, _, _, _, fun w => get_bad r w (by omega) (by omega), fun w => ?_, fun w => unpack_any r w (by omega), hu, .inr ⟨decide_eq_false h, rfl, rfl⟩⟩
    have := rget_any r w (by omega)
    rw [show rgV r.data.toList r.size = 0 from if_neg h] at this
    exact this
set_option maxRecDepth 100000 in
set_option maxHeartbeats 1000000 in
theorem numReads_walk (s : ByteArray) (w : World) (hs : s.size ≤ maxLen) :
    Calls Try.prog 4 #[.string s] w fun e w' => e = .returned (.bool true) ∧ Below w.heap.size w w' := by
  unfold maxLen at hs
  by_cases hbig : 40 < s.size
  · obtain ⟨n, e, b, x, y, z, c1, c2, c3, c4, hb⟩ := reads_at (s.extract 0 40) (by rw [ByteArray.size_extract]; omega)
    have C1 := Lib.hid c1
    have C2 := Lib.hid c2
    have C3 := Lib.hid c3
    have C4 := Lib.hid c4
    clear c1 c2 c3 c4
    rcases hb with ⟨rfl, he⟩ | ⟨rfl, he, he1⟩
    all_goals
      go_enter Try.func4, Try.ntmps4
      go_wp2_with fail
      refine (C1.out _).mono ?_
      rintro e1 w1 ⟨rfl, rfl⟩
      go_wp2_with fail
      refine (C2.out _).mono ?_
      rintro e2 w2 ⟨rfl, rfl⟩
      go_wp2_with fail
      refine (C3.out _).mono ?_
      rintro e3 w3 ⟨rfl, rfl⟩
      go_wp2_with fail
      refine (C4.out _).mono ?_
      rintro e4 w4 ⟨rfl, hb4⟩
      go_wp2_with (go_at_call 16; refine (awake_any _).mono ?_; rintro e5 w5 ⟨rfl, hb5⟩)
      go_ret
      exact ⟨rfl, chain hb4 (Nat.le_refl _) hb5⟩
  · obtain ⟨n, e, b, x, y, z, c1, c2, c3, c4, hb⟩ := reads_at s (by omega)
    have C1 := Lib.hid c1
    have C2 := Lib.hid c2
    have C3 := Lib.hid c3
    have C4 := Lib.hid c4
    have hsm : s.size ≤ 40 := by omega
    clear c1 c2 c3 c4 hbig
    rcases hb with ⟨rfl, he⟩ | ⟨rfl, he, he1⟩
    all_goals
      go_enter Try.func4, Try.ntmps4
      go_wp2_with fail
      refine (C1.out _).mono ?_
      rintro e1 w1 ⟨rfl, rfl⟩
      go_wp2_with fail
      refine (C2.out _).mono ?_
      rintro e2 w2 ⟨rfl, rfl⟩
      go_wp2_with fail
      refine (C3.out _).mono ?_
      rintro e3 w3 ⟨rfl, rfl⟩
      go_wp2_with fail
      refine (C4.out _).mono ?_
      rintro e4 w4 ⟨rfl, hb4⟩
      go_wp2_with (go_at_call 16; refine (awake_any _).mono ?_; rintro e5 w5 ⟨rfl, hb5⟩)
      go_ret
      exact ⟨rfl, chain hb4 (Nat.le_refl _) hb5⟩
/-- What a number is laid as, by the program and by the document, and read as. -/
theorem lays_at (n wide : Int) (h0 : 0 ≤ n) (h1 : n ≤ 18446744073709551615) : ∃ (s : ByteArray) (e : Int) (b : Bool) (x g : Int),
    (∀ w, Calls Try.prog 10 #[.int .u64 n, .int .i64 wide] w fun E w' => E = .returned (.tuple #[.string s, .int .i64 e]) ∧ Below w.heap.size w w') ∧
    (∀ w, Calls Try.prog 11 #[.int .u64 n, .int .i64 wide] w fun E w' => E = .returned (.tuple #[.string s, .bool b]) ∧ Below w.heap.size w w') ∧
    (∀ w, Calls Try.prog 15 #[.string s] w fun E w' => E = .returned (.tuple #[.int .u64 x, .int .i64 g]) ∧ w = w') ∧
    ((b = true ∧ (e == 0) = true ∧ x = n ∧ (g == 0) = true) ∨ (b = false ∧ (e == 0) = false ∧ (e != 1) = false)) := by
  by_cases hg : goodW n wide
  · obtain ⟨s, hs, hss, cs⟩ := put_yes n wide h0 h1 hg
    obtain ⟨ga, gb, gc⟩ := hg
    refine ⟨s, 0, true, n, 0, cs, fun w => ?_, fun w => ?_, .inl ⟨rfl, rfl, rfl, rfl⟩⟩
    · have := rput_any n wide.toNat w h0 h1 (by omega) (by omega)
      rw [Int.toNat_of_nonneg (by omega), show rpS n.toNat wide.toNat = beL wide.toNat n.toNat from if_pos gc, show rpB n.toNat wide.toNat = true from decide_eq_true gc] at this
      rw [hs]; exact this
    · have := get_good s w (by omega) (by omega)
      have e : (beV s.data.toList s.size : Int) = n := by
        rw [hss, hs]
        have := beV_of_beL n.toNat wide.toNat gc
        simp only [] at this ⊢
        omega
      rw [e] at this; exact this
  · refine ⟨⟨#[]⟩, 1, false, 0, 1, fun w => to_below (put_no n wide h0 h1 hg w), fun w => ?_, fun w => get_bad ⟨#[]⟩ w (by decide) (.inl (by decide)), .inr ⟨rfl, rfl, rfl⟩⟩
    by_cases hw : wide < 1 ∨ 8 < wide
    · exact to_below (rput_bad n wide w hw)
    · have gc : ¬ n.toNat < 256 ^ wide.toNat := fun c => hg ⟨by omega, by omega, c⟩
      have := rput_any n wide.toNat w h0 h1 (by omega) (by omega)
      rw [Int.toNat_of_nonneg (by omega), show rpS n.toNat wide.toNat = [] from if_neg gc, show rpB n.toNat wide.toNat = false from decide_eq_false gc] at this
      exact this
set_option maxRecDepth 100000 in
set_option maxHeartbeats 1000000 in
theorem numLays_walk (n wide : Int) (w : World) (h0 : 0 ≤ n) (h1 : n ≤ 18446744073709551615) (_h2 : -9223372036854775808 ≤ wide) (_h3 : wide ≤ 9223372036854775807) :
    Calls Try.prog 3 #[.int .u64 n, .int .i64 wide] w fun e w' => e = .returned (.bool true) ∧ Below w.heap.size w w' := by
  obtain ⟨s, e, b, x, g, c1, c2, c3, hb⟩ := lays_at n wide h0 h1
  obtain ⟨p, hpe, hp, cp⟩ := pack_as n h0 h1
  have cr : ∀ w, Calls Try.prog 14 #[.int .u64 n] w fun E w' => E = .returned (.string p) ∧ Below w.heap.size w w' := fun w => by rw [hpe]; exact rpack_as n h0 h1 w
  have cu : ∀ w, Calls Try.prog 13 #[.string p] w fun E w' => E = .returned (.tuple #[.int .u64 n, .int .i64 p.size, .int .i64 0]) ∧ w = w' := fun w => by
    have h9 := pkW_le9 n.toNat (by omega)
    have := unpack_behind n ⟨#[]⟩ w h0 h1 (by decide) p hpe
    have e : p ++ (⟨#[]⟩ : ByteArray) = p := by
      have := ByteArray.mk_append_mk (pkL n.toNat) []
      rw [hpe]; exact this.trans (by simp)
    rw [e] at this; exact this
  have C1 := Lib.hid c1
  have C2 := Lib.hid c2
  have C3 := Lib.hid c3
  have Cp := Lib.hid cp
  have Cr := Lib.hid cr
  have Cu := Lib.hid cu
  clear c1 c2 c3 cp cr cu hpe hp
  rcases hb with ⟨rfl, he, rfl, hg⟩ | ⟨rfl, he, he1⟩
  all_goals
    go_enter Try.func3, Try.ntmps3
    go_wp2_with fail
    refine (C1.out _).mono ?_
    rintro e1 w1 ⟨rfl, hb1⟩
    go_wp2_with fail
    refine (C2.out _).mono ?_
    rintro e2 w2 ⟨rfl, hb2⟩
    go_wp2_with fail
    refine (Cp.out _).mono ?_
    rintro e3 w3 ⟨rfl, hb3⟩
    go_wp2_with fail
    refine (Cu.out _).mono ?_
    rintro e4 w4 ⟨rfl, rfl⟩
    go_wp2_with fail
    refine (Cr.out _).mono ?_
    rintro e5 w5 ⟨rfl, hb5⟩
    go_wp2_with fail
    refine (C3.out _).mono ?_
    rintro e6 w6 ⟨rfl, rfl⟩
    go_wp2_with (go_at_call 16; refine (awake_any _).mono ?_; rintro e7 w7 ⟨rfl, hb7⟩)
    go_ret
    exact ⟨rfl, chain (chain (chain (chain hb1 (Nat.le_refl _) hb2) (Nat.le_refl _) hb3) (Nat.le_refl _) hb5) (Nat.le_refl _) hb7⟩
end Go.Proofs.Ytleddhmfamkbgaa
