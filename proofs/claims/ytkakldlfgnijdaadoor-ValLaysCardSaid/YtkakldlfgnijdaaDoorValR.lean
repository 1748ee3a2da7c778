/- Layer 3: the document's Write. -/
import Derived.Test.YtkakldlfgnijdaaDoorValQ
namespace Go.Proofs.YtkakldlfgnijdaaDoor
open Go.RowKit
set_option maxRecDepth 100000 in
set_option maxHeartbeats 400000 in
theorem rwrite_num (n : Int) (s : ByteArray) (w : World) (h0 : -9223372036854775808 ≤ n) (h1 : n ≤ 9223372036854775807) :
    Calls Tryd.prog 21 #[.agg #[.bool true, .int .i64 n, .string s]] w fun e w' => e = .returned (.string ⟨(Lib.itoa n).toArray⟩) ∧ Below w.heap.size w w' := by
  have C := Lib.hid (fun w => rdigits_any n w h0 h1)
  go_enter Tryd.func21, Tryd.ntmps21
  go_wp2_with fail
  refine (C.out _).mono ?_
  rintro e w2 ⟨rfl, hb2⟩
  go_wp2
  go_ret
  exact ⟨rfl, box_below hb2⟩
set_option maxRecDepth 100000 in
set_option maxHeartbeats 400000 in
theorem rwrite_text (s : ByteArray) (w : World) (hs : s.size ≤ 60) :
    Calls Tryd.prog 21 #[.agg #[.bool false, .int .i64 0, .string s]] w fun e w' => e = .returned (.string ⟨(34 :: escL s.data.toList ++ [34]).toArray⟩) ∧ Below w.heap.size w w' := by
  obtain ⟨l, hl⟩ : ∃ l, l = s.data.toList := ⟨_, rfl⟩
  have hlen : l.length = s.size := by rw [hl]; simp
  have Hat := Lib.hid (show ∀ j (h : j < s.size), escL (l.take (j + 1)) = escL (l.take j) ++ (if escB ((s[j]'h).toNat : Int) then [92, s[j]'h] else [s[j]'h]) from fun j h => by
    subst hl; exact escL_take s.data.toList j (by simpa using h))
  have Hex := Lib.hid (show ∀ j (h : j < s.size), s.extract j (j + 1) = ⟨#[s[j]'h]⟩ from fun j h => by
    apply Go.WideShapes.bytes_inj
    rw [ByteArray.data_extract, Array.toList_extract, ex_dt, drop_at s j h, show j + 1 - j = 1 by omega]; rfl)
  have Hlen := Lib.hid hlen
  rw [← hl]
  clear hl hlen
  go_enter Tryd.func21, Tryd.ntmps21
  go_wp2_with fail
  go_loop [3, 4] (fun sv i => ∃ (k : Nat) (S : ByteArray), k ≤ s.size ∧ sv = .string S ∧ i = .int .i64 k ∧ S.data.toList = 34 :: escL (l.take k)) (fun _ i => s.size - (intOf i).toNat)
  case atStart => exact ⟨0, ⟨#[34]⟩, Nat.zero_le _, rfl, rfl, by simp [escL]⟩
  case round =>
    obtain ⟨k, S, hk, rfl, rfl, hSd⟩ := hrel
    have hSl : S.size ≤ 121 := by
      have := congrArg List.length hSd
      rw [Array.length_toList] at this
      have h1 := escL_length (l.take k)
      have h2 : (l.take k).length ≤ k := List.length_take_le _ _
      have e : S.data.size = S.size := rfl
      simp only [List.length_cons] at this; omega
    by_cases hlt : k < s.size
    · have hst := Hat.out k hlt
      have hbd : (0 : Int) ≤ ((s[k]'hlt).toNat : Int) ∧ ((s[k]'hlt).toNat : Int) < 256 := by have := (s[k]'hlt).toNat_lt; omega
      have ex1 : (s.extract k (k + 1)).size = 1 := by rw [ByteArray.size_extract]; omega
      have hsum2 := fun W => run_string_add_sum (P := Tryd.prog) W (S ++ ⟨#[92]⟩) (s.extract k (k + 1)) (by rw [ByteArray.size_append]; have : (⟨#[92]⟩ : ByteArray).size = 1 := rfl; omega)
      have hsum1 := fun W => run_string_add_sum (P := Tryd.prog) W S ⟨#[92]⟩ (by have : (⟨#[92]⟩ : ByteArray).size = 1 := rfl; omega)
      have hsum3 := fun W => run_string_add_sum (P := Tryd.prog) W S (s.extract k (k + 1)) (by omega)
      by_cases h34 : (s[k]'hlt).toNat = 34
      · have he : escB ((s[k]'hlt).toNat : Int) = true := by simp [escB]; omega
        have g1 : ((s[k]'hlt).toNat : Int) = 34 := by omega
        clear h34
        rw [if_pos he] at hst
        have Hst := Lib.hid hst
        have HSd := Lib.hid hSd
        clear hst hSd he
        go_wp2
        go_round
        case rel => exact ⟨k + 1, S ++ ⟨#[92]⟩ ++ s.extract k (k + 1), by omega, rfl, by go_num, by rw [(Hex.out k hlt), ByteArray.data_append, Array.toList_append, ByteArray.data_append, Array.toList_append, HSd.out, Hst.out]; simp⟩
        case measure => simp [intOf]; omega
      · have g34 : (((s[k]'hlt).toNat : Int) == 34) = false := by simp; omega
        by_cases h92 : (s[k]'hlt).toNat = 92
        · have he : escB ((s[k]'hlt).toNat : Int) = true := by simp [escB]; omega
          have g1 : ((s[k]'hlt).toNat : Int) = 92 := by omega
          clear h34 h92
          rw [if_pos he] at hst
          have Hst := Lib.hid hst
          have HSd := Lib.hid hSd
          clear hst hSd he
          go_wp2
          go_round
          case rel => exact ⟨k + 1, S ++ ⟨#[92]⟩ ++ s.extract k (k + 1), by omega, rfl, by go_num, by rw [(Hex.out k hlt), ByteArray.data_append, Array.toList_append, ByteArray.data_append, Array.toList_append, HSd.out, Hst.out]; simp⟩
          case measure => simp [intOf]; omega
        · have he : ¬ escB ((s[k]'hlt).toNat : Int) = true := by simp [escB]; omega
          have g92 : (((s[k]'hlt).toNat : Int) == 92) = false := by simp; omega
          clear h34 h92
          rw [if_neg he] at hst
          have Hst := Lib.hid hst
          have HSd := Lib.hid hSd
          clear hst hSd he
          go_wp2
          go_round
          case rel => exact ⟨k + 1, S ++ s.extract k (k + 1), by omega, rfl, by go_num, by rw [(Hex.out k hlt), ByteArray.data_append, Array.toList_append, HSd.out, Hst.out]; simp⟩
          case measure => simp [intOf]; omega
    · have hke : k = s.size := by omega
      have HSd := Lib.hid hSd
      have hsum4 := fun W => run_string_add_sum (P := Tryd.prog) W S ⟨#[34]⟩ (by have : (⟨#[34]⟩ : ByteArray).size = 1 := rfl; omega)
      have hfull : (S ++ ⟨#[34]⟩ : ByteArray) = ⟨(34 :: escL l ++ [34]).toArray⟩ := by
        apply Go.WideShapes.bytes_inj
        rw [ByteArray.data_append, Array.toList_append, hSd, hke, ← Hlen.out, List.take_length]
      have Hfull := Lib.hid hfull
      have hke' : (s.size : Int) ≤ k := by omega
      clear hfull hSd hlt hke
      go_wp2
      go_ret
      exact ⟨congrArg (fun x => Ending.returned (.string x)) Hfull.out, (Below.refl _ _).alloc (Nat.le_refl _) _⟩
/-- The document's Lay, Write of a value that may be: what the program's are. -/
theorem rlay_as (b : Bool) (n : Int) (t : ByteArray) (h0 : -9223372036854775808 ≤ n) (h1 : n ≤ 9223372036854775807) (hm : mayB b n t = true) :
    ∃ L : ByteArray, L.data.toList = layL b n t ∧ ∀ w, Calls Tryd.prog 20 #[.agg #[.bool b, .int .i64 n, .string t]] w fun E w' => E = .returned (.string L) ∧ Below w.heap.size w w' := by
  cases b with
  | true => exact ⟨_, by rw [ByteArray.data_append]; simp [layL], fun w => rlay_num n t w h0 h1⟩
  | false =>
    simp only [mayB, Bool.false_eq_true, if_false, Bool.and_eq_true, decide_eq_true_eq] at hm
    obtain ⟨rfl, ht⟩ := hm
    refine ⟨_, ?_, fun w => rlay_text t w ht⟩
    rw [small_pk _ ht, ByteArray.data_append, Array.toList_append, ByteArray.data_append]; simp [layL]
theorem rwrite_as (b : Bool) (n : Int) (t : ByteArray) (h0 : -9223372036854775808 ≤ n) (h1 : n ≤ 9223372036854775807) (hm : mayB b n t = true) :
    ∀ w, Calls Tryd.prog 21 #[.agg #[.bool b, .int .i64 n, .string t]] w fun E w' => E = .returned (.string ⟨(wrL b n t).toArray⟩) ∧ Below w.heap.size w w' := by
  cases b with
  | true => exact fun w => rwrite_num n t w h0 h1
  | false =>
    simp only [mayB, Bool.false_eq_true, if_false, Bool.and_eq_true, decide_eq_true_eq] at hm
    obtain ⟨rfl, ht⟩ := hm
    exact fun w => rwrite_text t w ht
theorem itoa_len (n : Int) (h0 : -9223372036854775808 ≤ n) (h1 : n ≤ 9223372036854775807) : (Lib.itoa n).length ≤ 20 := by
  unfold Lib.itoa
  split
  · have := decDigits_len 18 n.natAbs (by omega); simp; omega
  · have := decDigits_len 18 n.toNat (by omega); omega
/-- Take of a value's octets. -/
theorem take_back (b : Bool) (n : Int) (t L : ByteArray) (h0 : -9223372036854775808 ≤ n) (h1 : n ≤ 9223372036854775807) (hm : mayB b n t = true) (hL : L.data.toList = layL b n t) :
    1 ≤ L.size ∧ L.size ≤ 100 ∧ ∀ w, Calls Tryd.prog 18 #[.string L] w fun E w' => E = .returned (.tuple #[.agg #[.bool b, .int .i64 n, .string t], .int .i64 L.size, .int .i64 0]) ∧ Below w.heap.size w w' := by
  have hsz : L.size = (layL b n t).length := by rw [← hL]; simp
  cases b with
  | true =>
    have ht := empty_of t hm
    subst ht
    have hf := foldZ_bd n h0 h1
    have h9 := pkW_le9 (foldZ n).toNat (by omega)
    have hlt : (foldZ n).toNat < 2 ^ 64 := by omega
    have hd : L.data.toList = 1 :: pkL (foldZ n).toNat := hL
    have hLs : L.size = pkW (foldZ n).toNat + 2 := by
      rw [hsz]; simp [layL, pkL_length]
    refine ⟨by omega, by omega, fun w => ?_⟩
    obtain ⟨hz, hs0⟩ := s0_of _ _ _ hd
    have hu := unpB_of _ _ _ hd
    rw [show pkL (foldZ n).toNat = pkL (foldZ n).toNat ++ [] by simp, unpS_pkL _ _ hlt] at hu
    have := take_num _ w hz (by omega) hs0 _ _ hu (by omega) (by omega)
    rw [Int.toNat_of_nonneg hf.1, unfold_fold] at this
    rw [hLs, show ((pkW (foldZ n).toNat + 2 : Nat) : Int) = 1 + ((pkW (foldZ n).toNat + 1 : Nat) : Int) by omega]
    exact this
  | false =>
    simp only [mayB, Bool.false_eq_true, if_false, Bool.and_eq_true, decide_eq_true_eq] at hm
    obtain ⟨rfl, ht⟩ := hm
    have hd : L.data.toList = 2 :: UInt8.ofNat t.size :: t.data.toList := hL
    have hLs : L.size = t.size + 2 := by
      have e : t.data.size = t.size := rfl
      rw [hsz]; simp [layL]
    refine ⟨by omega, by omega, fun w => ?_⟩
    obtain ⟨hz, hs0⟩ := s0_of _ _ _ hd
    have hu := unpB_of _ _ _ hd
    rw [unpS_one _ ht] at hu
    have hx := ext_of L t [2, UInt8.ofNat t.size] [] 2 (by rw [hd]; simp) rfl
    rw [hLs]
    refine take_by _ w hz (by omega) hs0 t.size 1 hu (by omega) t _ 0 (fun w => ?_)
    have := tt_ok L 2 t.size w (by omega) ht (by omega)
    rw [hx] at this
    rw [show ((t.size + 2 : Nat) : Int) = ((2 : Nat) : Int) + (t.size : Int) by omega]
    exact this
/-- ALL THAT THE LAW ValLays ASKS OF A VALUE THAT MAY BE. -/
theorem lays_all (b : Bool) (n : Int) (t : ByteArray) (h0 : -9223372036854775808 ≤ n) (h1 : n ≤ 9223372036854775807) (hm : mayB b n t = true) :
    ∃ L P : ByteArray, 1 ≤ L.size ∧ L.size ≤ 100 ∧ 1 ≤ P.size ∧ P.size ≤ 1000 ∧
      (∀ w, Calls Tryd.prog 11 #[.agg #[.bool b, .int .i64 n, .string t]] w fun E w' => E = .returned (.tuple #[.string L, .int .i64 0]) ∧ Below w.heap.size w w') ∧
      (∀ w, Calls Tryd.prog 20 #[.agg #[.bool b, .int .i64 n, .string t]] w fun E w' => E = .returned (.string L) ∧ Below w.heap.size w w') ∧
      (∀ w, Pow w → Calls Tryd.prog 12 #[.agg #[.bool b, .int .i64 n, .string t]] w fun E w' => E = .returned (.tuple #[.string P, .int .i64 0]) ∧ Below w.heap.size w w') ∧
      (∀ w, Calls Tryd.prog 21 #[.agg #[.bool b, .int .i64 n, .string t]] w fun E w' => E = .returned (.string P) ∧ Below w.heap.size w w') ∧
      (∀ w, Calls Tryd.prog 18 #[.string L] w fun E w' => E = .returned (.tuple #[.agg #[.bool b, .int .i64 n, .string t], .int .i64 L.size, .int .i64 0]) ∧ Below w.heap.size w w') ∧
      (∀ w, Calls Tryd.prog 19 #[.string P] w fun E w' => E = .returned (.tuple #[.agg #[.bool b, .int .i64 n, .string t], .int .i64 P.size, .int .i64 0]) ∧ Below w.heap.size w w') := by
  obtain ⟨L2, hL3, cl2⟩ := lay_as b n t h0 h1 hm
  obtain ⟨L3, hL4, cl3⟩ := rlay_as b n t h0 h1 hm
  have e23 : L2 = L3 := Go.WideShapes.bytes_inj (hL3.trans hL4.symm)
  have hPd : (⟨(wrL b n t).toArray⟩ : ByteArray).data.toList = wrL b n t := by simp
  have hPs : (⟨(wrL b n t).toArray⟩ : ByteArray).size = (wrL b n t).length := by show (wrL b n t).toArray.size = _; simp
  have hlen : 1 ≤ (wrL b n t).length ∧ (wrL b n t).length ≤ 1000 := by
    cases b with
    | true =>
      have := itoa_len n h0 h1
      have h2 : Lib.itoa n ≠ [] := by unfold Lib.itoa; split; simp; exact decDigits_ne _
      have := List.length_pos_iff.2 h2
      simp only [wrL, if_true]; omega
    | false =>
      simp only [mayB, Bool.false_eq_true, if_false, Bool.and_eq_true, decide_eq_true_eq] at hm
      have := escL_length t.data.toList
      simp only [wrL, Bool.false_eq_true, if_false, List.length_append, List.length_cons, Array.length_toList] at this ⊢
      have e : t.data.size = t.size := rfl
      simp; omega
  subst e23
  obtain ⟨hL1, hL2, ct⟩ := take_back b n t L2 h0 h1 hm hL3
  refine ⟨L2, ⟨(wrL b n t).toArray⟩, hL1, hL2, by omega, by omega, cl2, cl3, write_as b n t h0 h1 hm, rwrite_as b n t h0 h1 hm, ct, fun w => ?_⟩
  have := read_any ⟨(wrL b n t).toArray⟩ w (by omega)
  rw [hPd, readB_back b n t h0 h1 hm, ← hPs] at this
  exact this
end Go.Proofs.YtkakldlfgnijdaaDoor
