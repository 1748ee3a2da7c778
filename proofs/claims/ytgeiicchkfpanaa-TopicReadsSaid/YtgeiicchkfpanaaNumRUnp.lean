/- Layer 1: the contract of the document's Unpack. -/
import Derived.Test.YtgeiicchkfpanaaNumMore
import Derived.Test.YtgeiicchkfpanaaNumMath3
namespace Go.Proofs.Ytgeiicchkfpanaa
open Go.RowKit
theorem rpack_as (n : Int) (h0 : 0 ≤ n) (h1 : n ≤ 18446744073709551615) (w : World) :
    Calls Try.prog 57 #[.int .u64 n] w fun e w' => e = .returned (.string ⟨(pkL n.toNat).toArray⟩) ∧ Below w.heap.size w w' :=
  rpack_any 9 n w h0 h1 (pkW_le9 _ (by omega))
theorem rpack_named (V : Nat) (h : V < 2 ^ 64) : ∃ p : ByteArray, p = ⟨(pkL V).toArray⟩ ∧ ∀ w, Calls Try.prog 57 #[.int .u64 (V : Int)] w fun e w' => e = .returned (.string p) ∧ Below w.heap.size w w' :=
  ⟨_, rfl, fun w => by have := rpack_as (V : Int) (by omega) (by omega) w; rwa [Int.toNat_natCast] at this⟩
theorem int_v {a b : Int} (h : a = b) : Value.int .u64 a = .int .u64 b := by rw [h]
def unpR (l : List UInt8) : Value := .tuple #[.int .u64 (unpS l).1, .int .i64 (unpS l).2.1, .int .i64 (unpS l).2.2]
theorem ret_unp {l : List UInt8} {a b c : Nat} {x y z : Int} (h : unpS l = (a, b, c)) (hx : x = a) (hy : y = b) (hz : z = c) : Ending.returned (.tuple #[.int .u64 x, .int .i64 y, .int .i64 z]) = .returned (unpR l) := by
  unfold unpR; rw [h, hx, hy, hz]
set_option maxRecDepth 100000 in
set_option maxHeartbeats 1000000 in
theorem runpack_any (s : ByteArray) (w : World) (hs : s.size ≤ 1000000) :
    Calls Try.prog 66 #[.string s] w fun e w' => e = .returned (unpR s.data.toList) ∧ Below w.heap.size w w' := by
  obtain ⟨l, hl⟩ : ∃ l, l = s.data.toList := ⟨_, rfl⟩
  have hlen : l.length = s.size := by rw [hl]; simp
  have hat : ∀ j (h : j < s.size), gB l j = (s[j]'h).toNat := fun j h => by rw [hl]; exact gB_at s j h
  have Hl := Lib.hid hl
  rw [← hl]
  have Hlen := Lib.hid hlen
  have Hat := Lib.hid hat
  clear hlen hat hl
  go_enter Try.func66, Try.ntmps66
  go_wp2
  go_loop [5] (fun i => ∃ j : Nat, j ≤ 10 ∧ j ≤ s.size ∧ i = .int .i64 j ∧ (∀ t, t < j → 128 ≤ gB l t)) (fun i => 10 - (intOf i).toNat)
  case atStart => exact ⟨0, by omega, by omega, rfl, fun t h => by omega⟩
  case round =>
    obtain ⟨j, hj, hjs, rfl, hb⟩ := hrel
    have Hb := Lib.hid hb
    clear hb
    by_cases hlt : j < s.size
    · have hbj : (0 : Int) ≤ ((s[j]'hlt).toNat : Int) ∧ ((s[j]'hlt).toNat : Int) < 256 := by have := (s[j]'hlt).toNat_lt; omega
      by_cases hbig : 128 ≤ ((s[j]'hlt).toNat : Int)
      · by_cases h10 : j < 10
        · go_wp2
          go_round
          case rel => exact ⟨j + 1, by omega, by omega, by go_num, gB_set l j _ (Hat.out j hlt) (by omega) Hb.out⟩
          case measure => simp [intOf]; omega
        · -- ten octets of 128 or more
          have h10' : 10 ≤ j := by omega
          clear h10
          go_wp2
          go_ret3
          exact ⟨ret_unp (unpS_long l (by have := Hlen.out; omega) (fun t ht => Hb.out t (by omega))) rfl rfl rfl, Below.refl _ _⟩
      · have hsm : ((s[j]'hlt).toNat : Int) < 128 := by omega
        clear hbig
        by_cases h10 : j = 10
        · have h10' : 10 ≤ j := by omega
          clear h10
          go_wp2
          go_ret3
          exact ⟨ret_unp (unpS_long l (by have := Hlen.out; omega) (fun t ht => Hb.out t (by omega))) rfl rfl rfl, Below.refl _ _⟩
        · have h10' : j < 10 := by omega
          clear h10
          have hne : ((j : Int) == (s.size : Int)) = false := by simp; omega
          by_cases h9 : j = 9
          · subst h9
            by_cases hw : 1 < ((s[9]'hlt).toNat : Int)
            · go_wp2
              go_ret3
              exact ⟨ret_unp (unpS_wide l (by have := Hlen.out; omega) Hb.out (by have := Hat.out 9 hlt; omega)) rfl rfl rfl, Below.refl _ _⟩
            · have hw' : ((s[9]'hlt).toNat : Int) ≤ 1 := by omega
              have E := Lib.hid (show EndsM l 9 from ⟨by omega, by have := Hlen.out; omega, Hb.out, by have := Hat.out 9 hlt; omega, fun _ => by have := Hat.out 9 hlt; omega⟩)
              clear hw
              go_wp2
              go_loop [6, 7] (fun n i => ∃ t : Nat, t ≤ 10 ∧ i = .int .i64 ((t : Int) - 1) ∧ n = .int .u64 ((val7 l (10) / 128 ^ t : Nat) : Int)) (fun _ i => (intOf i + 1).toNat)
              case atStart => exact ⟨10, Nat.le_refl _, by go_num, int_v (congrArg (fun n : Nat => (n : Int)) (Nat.div_eq_of_lt (val7_lt l 10)).symm)⟩
              case round =>
                obtain ⟨t, ht, rfl, rfl⟩ := hrel
                cases t with
                | succ u =>
                  rw [show ((u + 1 : Nat) : Int) - 1 = (u : Int) by omega]
                  have hul : u < s.size := by omega
                  have hg := Hat.out u hul
                  have hst := horner_step l u (10) (by omega)
                  have hle : val7 l (10) / 128 ^ u ≤ 18446744073709551615 := Nat.le_trans (Nat.div_le_self _ _) (Nat.le_of_lt_succ E.out.val_lt)
                  rw [hg] at hst
                  generalize hX : val7 l (10) / 128 ^ (u + 1) = X at *
                  generalize hY : val7 l (10) / 128 ^ u = Y at *
                  have hb1 : (0 : Int) ≤ ((s[u]'hul).toNat : Int) ∧ ((s[u]'hul).toNat : Int) < 256 := by have := (s[u]'hul).toNat_lt; omega
                  have hb2 : 128 * (X : Int) + ((s[u]'hul).toNat : Int) % 128 ≤ 18446744073709551615 := by omega
                  have Hst := Lib.hid hst
                  have HY := Lib.hid hY
                  clear hst hg hX hY hle
                  go_wp2
                  go_round
                  case rel => exact ⟨u, by omega, rfl, by first | (rw [HY.out]; done) | (rw [HY.out]; exact int_v (by have := Hst.out; omega))⟩
                  case measure => simp [intOf]
                | zero =>
                  rw [show ((0 : Nat) : Int) - 1 = -1 by omega, show val7 l (10) / 128 ^ 0 = val7 l (10) by simp]
                  have hV := E.out.val_lt
                  obtain ⟨p, hpe, cp⟩ := rpack_named (val7 l (10)) hV
                  have Cp := Lib.hid cp
                  have e1 : IntKind.i64.wrap 10 = 10 := IntWalk.i64_in _ (by omega)
                  have hle2 : (10 : Int) ≤ s.size := by omega
                  have hun := E.out.unp
                  have heq : (p.toList == (s.extract 0 (10)).toList) = mayEndB 9 (gB l 9) := by
                    rw [hpe, ByteArray.toList_mk, ByteArray.toList_eq, ext_data, ← Hl.out]
                    cases hm : mayEndB 9 (gB l 9) with
                    | true => simpa using E.out.yes hm
                    | false => simpa using E.out.no hm
                  have Hun := Lib.hid hun
                  generalize val7 l (10) = V at *
                  cases hm : mayEndB 9 (gB l 9) with
                  | true =>
                    rw [hm] at heq
                    have Hm := Lib.hid hm
                    clear cp hpe hun hV hm
                    go_wp2_with fail
                    go_region_with (go_at_call 57; refine (Cp.out _).mono ?_; rintro e w' ⟨rfl, hb⟩)
                    all_goals go_wp2
                    all_goals go_ret3
                    all_goals exact ⟨ret_unp (by rw [Hun.out, if_pos Hm.out]) rfl (by omega) rfl, ((Below.refl _ _).drew).trans (hb.mono (by simp))⟩
                  | false =>
                    rw [hm] at heq
                    have Hm := Lib.hid hm
                    clear cp hpe hun hV hm
                    go_wp2_with fail
                    go_region_with (go_at_call 57; refine (Cp.out _).mono ?_; rintro e w' ⟨rfl, hb⟩)
                    all_goals go_wp2
                    all_goals go_ret3
                    all_goals exact ⟨ret_unp (by rw [Hun.out, if_neg (by rw [Hm.out]; exact Bool.false_ne_true)]) rfl rfl rfl, ((Below.refl _ _).drew).trans (hb.mono (by simp))⟩
          · have h9' : ((j : Int) == 9) = false := by simp; omega
            have E := Lib.hid (show EndsM l j from ⟨by omega, by have := Hlen.out; omega, Hb.out, by have := Hat.out j hlt; omega, fun h => absurd h h9⟩)
            clear h9
            go_wp2
            go_loop [6, 7] (fun n i => ∃ t : Nat, t ≤ j + 1 ∧ i = .int .i64 ((t : Int) - 1) ∧ n = .int .u64 ((val7 l (j + 1) / 128 ^ t : Nat) : Int)) (fun _ i => (intOf i + 1).toNat)
            case atStart => exact ⟨j + 1, Nat.le_refl _, by go_num, int_v (congrArg (fun n : Nat => (n : Int)) (Nat.div_eq_of_lt (val7_lt l (j + 1))).symm)⟩
            case round =>
              obtain ⟨t, ht, rfl, rfl⟩ := hrel
              cases t with
              | succ u =>
                rw [show ((u + 1 : Nat) : Int) - 1 = (u : Int) by omega]
                have hul : u < s.size := by omega
                have hg := Hat.out u hul
                have hst := horner_step l u (j + 1) (by omega)
                have hle : val7 l (j + 1) / 128 ^ u ≤ 18446744073709551615 := Nat.le_trans (Nat.div_le_self _ _) (Nat.le_of_lt_succ E.out.val_lt)
                rw [hg] at hst
                generalize hX : val7 l (j + 1) / 128 ^ (u + 1) = X at *
                generalize hY : val7 l (j + 1) / 128 ^ u = Y at *
                have hb1 : (0 : Int) ≤ ((s[u]'hul).toNat : Int) ∧ ((s[u]'hul).toNat : Int) < 256 := by have := (s[u]'hul).toNat_lt; omega
                have hb2 : 128 * (X : Int) + ((s[u]'hul).toNat : Int) % 128 ≤ 18446744073709551615 := by omega
                have Hst := Lib.hid hst
                have HY := Lib.hid hY
                clear hst hg hX hY hle
                go_wp2
                go_round
                case rel => exact ⟨u, by omega, rfl, by first | (rw [HY.out]; done) | (rw [HY.out]; exact int_v (by have := Hst.out; omega))⟩
                case measure => simp [intOf]
              | zero =>
                rw [show ((0 : Nat) : Int) - 1 = -1 by omega, show val7 l (j + 1) / 128 ^ 0 = val7 l (j + 1) by simp]
                have hV := E.out.val_lt
                obtain ⟨p, hpe, cp⟩ := rpack_named (val7 l (j + 1)) hV
                have Cp := Lib.hid cp
                have e1 : IntKind.i64.wrap (j + 1) = j + 1 := IntWalk.i64_in _ (by omega)
                have e2 : ((j : Int) + 1).toNat = j + 1 := by omega
                have hle1 : (0 : Int) ≤ j + 1 := by omega
                have hle2 : (j : Int) + 1 ≤ s.size := by omega
                have hun := E.out.unp
                have heq : (p.toList == (s.extract 0 (j + 1)).toList) = mayEndB j (gB l j) := by
                  rw [hpe, ByteArray.toList_mk, ByteArray.toList_eq, ext_data, ← Hl.out]
                  cases hm : mayEndB j (gB l j) with
                  | true => simpa using E.out.yes hm
                  | false => simpa using E.out.no hm
                have Hun := Lib.hid hun
                generalize val7 l (j + 1) = V at *
                cases hm : mayEndB j (gB l j) with
                | true =>
                  rw [hm] at heq
                  have Hm := Lib.hid hm
                  clear cp hpe hun hV hm
                  go_wp2_with fail
                  go_region_with (go_at_call 57; refine (Cp.out _).mono ?_; rintro e w' ⟨rfl, hb⟩)
                  all_goals go_wp2
                  all_goals go_ret3
                  all_goals exact ⟨ret_unp (by rw [Hun.out, if_pos Hm.out]) rfl (by omega) rfl, ((Below.refl _ _).drew).trans (hb.mono (by simp))⟩
                | false =>
                  rw [hm] at heq
                  have Hm := Lib.hid hm
                  clear cp hpe hun hV hm
                  go_wp2_with fail
                  go_region_with (go_at_call 57; refine (Cp.out _).mono ?_; rintro e w' ⟨rfl, hb⟩)
                  all_goals go_wp2
                  all_goals go_ret3
                  all_goals exact ⟨ret_unp (by rw [Hun.out, if_neg (by rw [Hm.out]; exact Bool.false_ne_true)]) rfl rfl rfl, ((Below.refl _ _).drew).trans (hb.mono (by simp))⟩
    · have hje : j = s.size := by omega
      subst hje
      by_cases h10 : s.size = 10
      · have h10' : 10 ≤ s.size := by omega
        clear h10
        go_wp2
        go_ret3
        exact ⟨ret_unp (unpS_long l (by have := Hlen.out; omega) (fun t ht => Hb.out t (by omega))) rfl rfl rfl, Below.refl _ _⟩
      · have h10' : s.size < 10 := by omega
        clear h10
        by_cases h9 : s.size = 9
        · have h9' : ((s.size : Int) == 9) = true := by simp; omega
          clear h9
          go_wp2
          go_ret3
          exact ⟨ret_unp (unpS_short l s.size (by have := Hlen.out; omega) (by omega) Hb.out) rfl rfl rfl, Below.refl _ _⟩
        · have h9' : ((s.size : Int) == 9) = false := by simp; omega
          clear h9
          go_wp2
          go_ret3
          exact ⟨ret_unp (unpS_short l s.size (by have := Hlen.out; omega) (by omega) Hb.out) rfl rfl rfl, Below.refl _ _⟩
end Go.Proofs.Ytgeiicchkfpanaa
