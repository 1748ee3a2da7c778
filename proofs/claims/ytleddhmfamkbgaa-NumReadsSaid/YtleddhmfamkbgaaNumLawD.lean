/- Layer 1: the walks of the laws NumWidths and NumApart. -/
import Derived.Test.YtleddhmfamkbgaaNumLawC
namespace Go.Proofs.Ytleddhmfamkbgaa
open Go.RowKit
theorem less_beL : ∀ (k a b : Nat), Op.bytesLess (beL k a) (beL k b) = decide (a % 256 ^ k < b % 256 ^ k)
  | 0, a, b => by simp [beL, Op.bytesLess, Nat.mod_one]
  | k + 1, a, b => by
    rw [show beL (k + 1) a = UInt8.ofNat (a / 256 ^ k) :: beL k a from rfl, show beL (k + 1) b = UInt8.ofNat (b / 256 ^ k) :: beL k b from rfl]
    simp only [Op.bytesLess, less_beL k a b]
    rw [Nat.pow_succ, Nat.mod_mul, Nat.mod_mul]
    have ha := Nat.mod_lt a (show 0 < 256 ^ k from Nat.pow_pos (by omega))
    have hb := Nat.mod_lt b (show 0 < 256 ^ k from Nat.pow_pos (by omega))
    rw [Bool.eq_iff_iff]
    simp only [Bool.or_eq_true, Bool.and_eq_true, decide_eq_true_eq, beq_iff_eq, UInt8.lt_iff_toNat_lt, ← UInt8.toNat_inj, UInt8.toNat_ofNat']
    simp only [show (2 : Nat) ^ 8 = 256 from rfl]
    generalize 256 ^ k = P at *
    generalize a / P % 256 = x
    generalize b / P % 256 = y
    rcases Nat.lt_trichotomy x y with h | h | h
    · have : P * x + P ≤ P * y := by rw [← Nat.mul_succ]; exact Nat.mul_le_mul_left _ h
      exact ⟨fun _ => by omega, fun _ => .inl h⟩
    · subst h; exact ⟨fun g => by rcases g with g | g <;> omega, fun g => .inr ⟨rfl, by omega⟩⟩
    · have : P * y + P ≤ P * x := by rw [← Nat.mul_succ]; exact Nat.mul_le_mul_left _ h
      exact ⟨fun g => by rcases g with g | g <;> omega, fun g => by omega⟩
def goodW (n wide : Int) : Prop := 1 ≤ wide ∧ wide ≤ 8 ∧ n.toNat < 256 ^ wide.toNat
theorem bitLen_256 (n k : Nat) (h : n < 2 ^ 64) : Lib.bitLen n ≤ 8 * k ↔ n < 256 ^ k := by
  rw [bitLen_le_iff n (8 * k) h, Nat.pow_mul]
theorem put_yes (n wide : Int) (h0 : 0 ≤ n) (h1 : n ≤ 18446744073709551615) (h : goodW n wide) : ∃ s : ByteArray, s = ⟨(beL wide.toNat n.toNat).toArray⟩ ∧ s.size = wide.toNat ∧
    ∀ w, Calls Try.prog 10 #[.int .u64 n, .int .i64 wide] w fun e w' => e = .returned (.tuple #[.string s, .int .i64 0]) ∧ Below w.heap.size w w' := by
  refine ⟨_, rfl, by show (beL wide.toNat n.toNat).toArray.size = _; simp [beL_length], fun w => ?_⟩
  obtain ⟨a, b, c⟩ := h
  have := put_good n wide.toNat w h0 h1 (by omega) (by omega) ((bitLen_256 _ _ (by omega)).2 c)
  rw [Int.toNat_of_nonneg (by omega)] at this
  exact this
theorem put_no (n wide : Int) (h0 : 0 ≤ n) (h1 : n ≤ 18446744073709551615) (h : ¬ goodW n wide) (w : World) :
    Calls Try.prog 10 #[.int .u64 n, .int .i64 wide] w fun e w' => e = .returned (.tuple #[.string ⟨#[]⟩, .int .i64 1]) ∧ w = w' := by
  refine put_bad n wide w h0 h1 ?_
  by_cases a : wide < 1
  · exact .inl a
  · by_cases b : 8 < wide
    · exact .inr (.inl b)
    · refine .inr (.inr ?_)
      have c : ¬ n.toNat < 256 ^ wide.toNat := fun c => h ⟨by omega, by omega, c⟩
      have := (not_congr (bitLen_256 n.toNat wide.toNat (by omega))).2 c
      omega
theorem beq_toList (p q : ByteArray) (h : p.data.toList ≠ q.data.toList) : (p.toList == q.toList) = false := by
  rw [ByteArray.toList_eq, ByteArray.toList_eq]; simpa using h
theorem numApart_tail (a b : Int) (h0 : 0 ≤ a) (h1 : a ≤ 18446744073709551615) (h2 : 0 ≤ b) (h3 : b ≤ 18446744073709551615) (p q : ByteArray) (hp : p = ⟨(pkL a.toNat).toArray⟩) (hq : q = ⟨(pkL b.toNat).toArray⟩) (hab : a ≠ b) :
    (p.toList == q.toList) = false ∧ ((q.extract 0 p.size).toList == p.toList) = false := by
  subst hp hq
  constructor
  · refine beq_toList _ _ fun e => hab ?_
    have := pkL_inj a.toNat b.toNat (by omega) (by omega) (by simpa using e)
    omega
  · refine beq_toList _ _ fun e => hab ?_
    rw [ext_data] at e
    have e' : (pkL b.toNat).take (pkL a.toNat).length = pkL a.toNat := by
      have hs : (⟨(pkL a.toNat).toArray⟩ : ByteArray).size = (pkL a.toNat).length := by rw [pkL_size, pkL_length]
      rw [hs] at e; simpa using e
    have := pkL_prefix a.toNat b.toNat ((pkL b.toNat).drop (pkL a.toNat).length) (by omega) (by omega) (by
      rw [← List.take_append_drop (pkL a.toNat).length (pkL b.toNat), e']; simp)
    omega
set_option maxRecDepth 100000 in
set_option maxHeartbeats 2000000 in
theorem numApart_walk (a b wide : Int) (w : World) (h0 : 0 ≤ a) (h1 : a ≤ 18446744073709551615) (h2 : 0 ≤ b) (h3 : b ≤ 18446744073709551615) (_h4 : -9223372036854775808 ≤ wide) (_h5 : wide ≤ 9223372036854775807) :
    Calls Try.prog 6 #[.int .u64 a, .int .u64 b, .int .i64 wide] w fun e w' => e = .returned (.bool true) ∧ Below w.heap.size w w' := by
  -- what the two Puts answer
  obtain ⟨s, x, t, y, cs, ct, hst⟩ : ∃ (s : ByteArray) (x : Int) (t : ByteArray) (y : Int),
      (∀ w, Calls Try.prog 10 #[.int .u64 a, .int .i64 wide] w fun e w' => e = .returned (.tuple #[.string s, .int .i64 x]) ∧ Below w.heap.size w w') ∧
      (∀ w, Calls Try.prog 10 #[.int .u64 b, .int .i64 wide] w fun e w' => e = .returned (.tuple #[.string t, .int .i64 y]) ∧ Below w.heap.size w w') ∧
      (((x == 0) = false) ∨ ((x == 0) = true ∧ (y == 0) = false) ∨ ((x == 0) = true ∧ (y == 0) = true ∧ s.size = t.size ∧ Op.bytesLess s.toList t.toList = decide (a < b))) := by
    by_cases ga : goodW a wide
    · obtain ⟨s, hs, hss, cs⟩ := put_yes a wide h0 h1 ga
      by_cases gb : goodW b wide
      · obtain ⟨t, ht, hts, ct⟩ := put_yes b wide h2 h3 gb
        refine ⟨s, 0, t, 0, cs, ct, .inr (.inr ⟨rfl, rfl, by omega, ?_⟩)⟩
        rw [hs, ht, ByteArray.toList_mk, ByteArray.toList_mk, less_beL, Nat.mod_eq_of_lt ga.2.2, Nat.mod_eq_of_lt gb.2.2, Bool.eq_iff_iff]
        simp; omega
      · exact ⟨s, 0, ⟨#[]⟩, 1, cs, fun w => (put_no b wide h2 h3 gb w).mono fun e w' ⟨u, v⟩ => ⟨u, v ▸ Below.refl _ _⟩, .inr (.inl ⟨rfl, rfl⟩)⟩
    · by_cases gb : goodW b wide
      · obtain ⟨t, ht, hts, ct⟩ := put_yes b wide h2 h3 gb
        exact ⟨⟨#[]⟩, 1, t, 0, fun w => (put_no a wide h0 h1 ga w).mono fun e w' ⟨u, v⟩ => ⟨u, v ▸ Below.refl _ _⟩, ct, .inl rfl⟩
      · exact ⟨⟨#[]⟩, 1, ⟨#[]⟩, 1, fun w => (put_no a wide h0 h1 ga w).mono fun e w' ⟨u, v⟩ => ⟨u, v ▸ Below.refl _ _⟩, fun w => (put_no b wide h2 h3 gb w).mono fun e w' ⟨u, v⟩ => ⟨u, v ▸ Below.refl _ _⟩, .inl rfl⟩
  have Cs := Lib.hid cs
  have Ct := Lib.hid ct
  clear cs ct
  obtain ⟨p, hpe, hp, cp⟩ := pack_as a h0 h1
  have hpz := pkW_le9 a.toNat (by omega)
  have hps : 1 ≤ p.size ∧ p.size ≤ 10 := by omega
  have Cp := Lib.hid cp
  clear cp hp hpz
  by_cases hab : a = b
  · subst hab
    clear hpe
    have hl : s.size = t.size → Op.bytesLess s.toList t.toList = decide (a < a) → Op.bytesLess s.toList t.toList = false := fun _ h => by rw [h]; simp
    rcases hst with hx | ⟨hx, hy⟩ | ⟨hx, hy, hz, hl'⟩
    all_goals try (have hl2 := hl hz hl'; clear hl')
    all_goals clear hl
    all_goals
      go_enter Try.func6, Try.ntmps6
      go_wp2_with fail
      refine (Cs.out _).mono ?_
      rintro e w1 ⟨rfl, hb1⟩
      go_wp2_with fail
      refine (Ct.out _).mono ?_
      rintro e w2 ⟨rfl, hb2⟩
      go_wp2_with fail
      refine (Cp.out _).mono ?_
      rintro e w3 ⟨rfl, hb3⟩
      go_wp2_with fail
      refine (Cp.out _).mono ?_
      rintro e w4 ⟨rfl, hb4⟩
      go_wp2_with (go_at_call 16; refine (awake_any _).mono ?_; rintro e w5 ⟨rfl, hb5⟩)
      go_ret
      exact ⟨rfl, chain (chain (chain (chain hb1 (Nat.le_refl _) hb2) (Nat.le_refl _) hb3) (Nat.le_refl _) hb4) (Nat.le_refl _) hb5⟩
  · obtain ⟨q, hqe, hq, cq⟩ := pack_as b h2 h3
    have hpz := pkW_le9 b.toNat (by omega)
    have hqs : 1 ≤ q.size ∧ q.size ≤ 10 := by omega
    have Cq := Lib.hid cq
    obtain ⟨t1, t2⟩ := numApart_tail a b h0 h1 h2 h3 p q hpe hqe hab
    have t3 : ((q.extract 0 p.size).toList != p.toList) = true := by rw [bne, t2]; rfl
    have t4 : (a == b) = false := by simpa using hab
    clear cq hq hpz hpe hqe hab
    by_cases hlt : a < b
    all_goals by_cases hsz : q.size < p.size
    all_goals rcases hst with hx | ⟨hx, hy⟩ | ⟨hx, hy, hz, hl'⟩
    all_goals try (have hl2 : Op.bytesLess s.toList t.toList = true := by (rw [hl']; exact decide_eq_true hlt))
    all_goals try (have hl2 : Op.bytesLess s.toList t.toList = false := by (rw [hl']; exact decide_eq_false hlt))
    all_goals try clear hl'
    all_goals
      go_enter Try.func6, Try.ntmps6
      go_wp2_with fail
      refine (Cs.out _).mono ?_
      rintro e w1 ⟨rfl, hb1⟩
      go_wp2_with fail
      refine (Ct.out _).mono ?_
      rintro e w2 ⟨rfl, hb2⟩
      go_wp2_with fail
      refine (Cp.out _).mono ?_
      rintro e w3 ⟨rfl, hb3⟩
      go_wp2_with fail
      refine (Cq.out _).mono ?_
      rintro e w4 ⟨rfl, hb4⟩
      go_wp2_with (go_at_call 16; refine (awake_any _).mono ?_; rintro e w5 ⟨rfl, hb5⟩)
      go_ret
      exact ⟨rfl, chain (chain (chain (chain hb1 (Nat.le_refl _) hb2) (Nat.le_refl _) hb3) (Nat.le_refl _) hb4) (Nat.le_refl _) hb5⟩
/-- The octets that a number needs. -/
theorem need_octets (n j : Nat) (h : n < 2 ^ 64) (h1 : n / 256 ^ j < 256) (h2 : j = 0 ∨ 256 ^ j ≤ n) : j ≤ 7 ∧ n < 256 ^ (j + 1) ∧ (j = 0 ∨ ¬ n < 256 ^ j) := by
  have hj : j ≤ 7 := by
    rcases h2 with rfl | h2
    · omega
    · by_cases g : j ≤ 7
      · exact g
      · have : 256 ^ 8 ≤ 256 ^ j := Nat.pow_le_pow_right (by omega) (by omega)
        have e : (256 : Nat) ^ 8 = 2 ^ 64 := by decide
        omega
  refine ⟨hj, ?_, ?_⟩
  · have g := (Nat.div_lt_iff_lt_mul (Nat.pow_pos (by omega))).1 h1
    rw [Nat.pow_succ, Nat.mul_comm]; exact g
  · rcases h2 with h2 | h2
    · exact .inl h2
    · exact .inr (by omega)
set_option maxRecDepth 100000 in
set_option maxHeartbeats 2000000 in
theorem numWidths_walk (n wide : Int) (w : World) (h0 : 0 ≤ n) (h1 : n ≤ 18446744073709551615) (h4 : -9223372036854775808 ≤ wide) (h5 : wide ≤ 9223372036854775807) :
    Calls Try.prog 8 #[.int .u64 n, .int .i64 wide] w fun e w' => e = .returned (.bool true) ∧ Below w.heap.size w w' := by
  go_enter Try.func8, Try.ntmps8
  go_wp2
  go_loop [5, 6] (fun m q => ∃ j : Nat, j ≤ 8 ∧ m = .int .i64 (j + 1) ∧ q = .int .u64 (n / 256 ^ j) ∧ (j = 0 ∨ 256 ^ j ≤ n.toNat)) (fun m _ => 10 - (intOf m).toNat)
  case atStart => exact ⟨0, by omega, rfl, by simp, .inl rfl⟩
  case round =>
    obtain ⟨j, hj, rfl, rfl, hge⟩ := hrel
    obtain ⟨x, hx⟩ : ∃ x, x = n / 256 ^ j := ⟨_, rfl⟩
    have hx0 : 0 ≤ x := by rw [hx]; exact Int.ediv_nonneg h0 (Int.pow_nonneg (by omega))
    have hx1 : x ≤ 18446744073709551615 := by rw [hx]; exact Int.le_trans (Int.ediv_le_self _ h0) h1
    have hxn : x.toNat = n.toNat / 256 ^ j := by rw [hx]; exact toNat_div_pow n h0 256 j
    have hx2 : x / 256 = n / 256 ^ (j + 1) := by rw [hx, Int.ediv_ediv_of_nonneg (Int.pow_nonneg (by omega)), Int.pow_succ]
    rw [← hx]
    have Hx2 := Lib.hid hx2
    have Hge := Lib.hid hge
    have Hxn := Lib.hid hxn
    clear hx2 hge hxn hx
    by_cases hbig : 256 ≤ x
    · have hge' : 256 ^ (j + 1) ≤ n.toNat := by
        have : 256 ≤ n.toNat / 256 ^ j := by have := Hxn.out; omega
        rw [Nat.pow_succ, Nat.mul_comm]
        exact (Nat.le_div_iff_mul_le (Nat.pow_pos (by omega))).1 this
      have hj7 : j + 1 ≤ 8 := by
        by_cases g : j + 1 ≤ 8
        · exact g
        · have : 256 ^ 9 ≤ 256 ^ (j + 1) := Nat.pow_le_pow_right (by omega) (by omega)
          have e : (256 : Nat) ^ 9 = 2 ^ 72 := by decide
          omega
      have Hge' := Lib.hid hge'
      clear hge'
      go_wp2
      go_round
      case rel => exact ⟨j + 1, hj7, by go_num, by rw [Hx2.out], .inr Hge'.out⟩
      case measure => simp [intOf]; omega
    · have hxs : x < 256 := by omega
      obtain ⟨hj7, hlt, hno⟩ := need_octets n.toNat j (by omega) (by have := Hxn.out; omega) Hge.out
      obtain ⟨s, hse, hss, cs⟩ := put_yes n ((j : Int) + 1) h0 h1 ⟨by omega, by omega, by rw [show ((j : Int) + 1).toNat = j + 1 by omega]; exact hlt⟩
      have ct := put_no n (j : Int) h0 h1 (fun g => by
        obtain ⟨g1, g2, g3⟩ := g
        rw [Int.toNat_natCast] at g3
        rcases hno with h | h
        · omega
        · exact h g3)
      have Cs := Lib.hid cs
      have Ct := Lib.hid ct
      clear cs ct hno hlt hbig hse hss
      by_cases gw : goodW n wide
      · obtain ⟨a, ha, has, ca⟩ := put_yes n wide h0 h1 gw
        have hw18 : 1 ≤ wide ∧ wide ≤ 8 := ⟨gw.1, gw.2.1⟩
        have hsz : a.size ≤ 8 := by omega
        have Ca := Lib.hid ca
        by_cases g8 : wide = 8
        · have g8' : 8 ≤ wide := by omega
          clear ca ha gw g8 has
          go_wp2_with fail
          refine (Cs.out _).mono ?_
          rintro e w1 ⟨rfl, hb1⟩
          go_wp2_with fail
          refine (Ct.out _).mono ?_
          rintro e w2 ⟨rfl, rfl⟩
          go_wp2_with fail
          refine (Ca.out _).mono ?_
          rintro e w3 ⟨rfl, hb3⟩
          go_wp2_with (go_at_call 16; refine (awake_any _).mono ?_; rintro e w5 ⟨rfl, hb5⟩)
          go_ret
          exact ⟨rfl, chain (chain hb1 (Nat.le_refl _) hb3) (Nat.le_refl _) hb5⟩
        · have g8' : wide < 8 := by omega
          have hb : ∃ s' : ByteArray, s' = ⟨#[0]⟩ ++ a ∧ ∀ w, Calls Try.prog 10 #[.int .u64 n, .int .i64 (wide + 1)] w fun e w' => e = .returned (.tuple #[.string s', .int .i64 0]) ∧ Below w.heap.size w w' := by
            obtain ⟨s', hs', _, cs'⟩ := put_yes n (wide + 1) h0 h1 ⟨by omega, by omega, by
              rw [show (wide + 1).toNat = wide.toNat + 1 by omega, Nat.pow_succ]; have := gw.2.2; omega⟩
            refine ⟨s', ?_, cs'⟩
            rw [hs', ha, show (wide + 1).toNat = wide.toNat + 1 by omega, beL_zero _ _ gw.2.2, ByteArray.mk_append_mk]; simp
          obtain ⟨s', hs', cb⟩ := hb
          subst hs'
          have Cb := Lib.hid cb
          clear ca ha gw g8 has cb
          go_wp2_with fail
          refine (Cs.out _).mono ?_
          rintro e w1 ⟨rfl, hb1⟩
          go_wp2_with fail
          refine (Ct.out _).mono ?_
          rintro e w2 ⟨rfl, rfl⟩
          go_wp2_with fail
          refine (Ca.out _).mono ?_
          rintro e w3 ⟨rfl, hb3⟩
          go_wp2_with fail
          refine (Cb.out _).mono ?_
          rintro e w4 ⟨rfl, hb4⟩
          go_wp2_with (go_at_call 16; refine (awake_any _).mono ?_; rintro e w5 ⟨rfl, hb5⟩)
          go_ret
          exact ⟨rfl, chain (chain (chain hb1 (Nat.le_refl _) hb3) (Nat.le_refl _) hb4) (Nat.le_refl _) hb5⟩
      · have Ca := Lib.hid (put_no n wide h0 h1 gw)
        clear gw
        go_wp2_with fail
        refine (Cs.out _).mono ?_
        rintro e w1 ⟨rfl, hb1⟩
        go_wp2_with fail
        refine (Ct.out _).mono ?_
        rintro e w2 ⟨rfl, rfl⟩
        go_wp2_with fail
        refine (Ca.out _).mono ?_
        rintro e w3 ⟨rfl, rfl⟩
        go_wp2_with (go_at_call 16; refine (awake_any _).mono ?_; rintro e w5 ⟨rfl, hb5⟩)
        go_ret
        exact ⟨rfl, chain hb1 (Nat.le_refl _) hb5⟩
end Go.Proofs.Ytleddhmfamkbgaa
