/- Layer 3: what is laid is taken as it was. -/
import Derived.Test.YtkakldlfgnijdaaDoorValF
namespace Go.Proofs.YtkakldlfgnijdaaDoor
open Go.RowKit
theorem s0_of (s : ByteArray) (b : UInt8) (l : List UInt8) (h : s.data.toList = b :: l) : ∃ h0 : 0 < s.size, s[0]'h0 = b := by
  have hl : s.data.toList.length = s.size := by simp
  have h0 : 0 < s.size := by rw [h] at hl; simp at hl; omega
  refine ⟨h0, ?_⟩
  have e : s.data.toList[0]'(by rw [hl]; exact h0) = b := by simp only [h]; rfl
  exact e
theorem ex_dt {α : Type} (l : List α) (a b : Nat) : l.extract a b = (l.drop a).take (b - a) := by
  rw [List.extract_eq_take_drop]
theorem unpB_of (s : ByteArray) (b : UInt8) (l : List UInt8) (h : s.data.toList = b :: l) : unpB s = unpS l := by
  unfold unpB
  congr 1
  rw [ByteArray.data_extract]
  have hl : s.data.toList.length = s.size := by simp
  simp only [Array.toList_extract, ex_dt]
  rw [h] at hl ⊢
  simp at hl ⊢
  exact List.take_of_length_le (by omega)
theorem ext_of (s t : ByteArray) (a c : List UInt8) (i : Nat) (h : s.data.toList = a ++ t.data.toList ++ c) (hi : a.length = i) : s.extract i (i + t.size) = t := by
  apply Go.WideShapes.bytes_inj
  have ht : t.data.toList.length = t.size := by simp
  rw [ByteArray.data_extract]
  simp only [Array.toList_extract, ex_dt]
  rw [h, List.append_assoc, List.drop_left' hi, show i + t.size - i = t.size by omega, List.take_left' ht]
theorem empty_of (t : ByteArray) (h : t.toList.isEmpty = true) : t = ⟨#[]⟩ := by
  apply Go.WideShapes.bytes_inj
  rw [ByteArray.toList_eq] at h; simpa using h
theorem data_mk (l : List UInt8) : (⟨l.toArray⟩ : ByteArray).data.toList = l := by simp
theorem small_pk (n : Nat) (h : n ≤ 60) : pkL n = [UInt8.ofNat n] := pkL_small n (by omega)
theorem unpS_one (n : Nat) (h : n ≤ 60) (r : List UInt8) : unpS (UInt8.ofNat n :: r) = (n, 1, 0) := by
  have := unpS_pkL n r (by omega)
  rw [small_pk n h, pkW_zero n (by omega)] at this
  exact this
/-- WHAT IS LAID IS TAKEN AS IT WAS, whatever stands behind; one octet less is too little. -/
theorem lays_back (b : Bool) (n : Int) (t : ByteArray) (h0 : -9223372036854775808 ≤ n) (h1 : n ≤ 9223372036854775807) (hm : mayB b n t = true) :
    ∃ L : ByteArray, 1 ≤ L.size ∧ L.size ≤ 100 ∧
      (∀ w, Calls Tryd.prog 11 #[.agg #[.bool b, .int .i64 n, .string t]] w fun E w' => E = .returned (.tuple #[.string L, .int .i64 0]) ∧ Below w.heap.size w w') ∧
      (∀ r : ByteArray, r.size ≤ 100 → ∀ w, Calls Tryd.prog 18 #[.string (L ++ r)] w fun E w' => E = .returned (.tuple #[.agg #[.bool b, .int .i64 n, .string t], .int .i64 L.size, .int .i64 0]) ∧ Below w.heap.size w w') ∧
      (∀ k, k + 1 = L.size → ∀ w, Calls Tryd.prog 18 #[.string (L.extract 0 k)] w fun E w' => E = .returned (.tuple #[.agg #[.bool false, .int .i64 0, .string ⟨#[]⟩], .int .i64 0, .int .i64 3]) ∧ Below w.heap.size w w') := by
  cases b with
  | true =>
    have ht := empty_of t hm
    subst ht
    have hf := foldZ_bd n h0 h1
    have h9 := pkW_le9 (foldZ n).toNat (by omega)
    have hlt : (foldZ n).toNat < 2 ^ 64 := by omega
    obtain ⟨P, hP⟩ : ∃ P, P = pkL (foldZ n).toNat := ⟨_, rfl⟩
    have hPl : P.length = pkW (foldZ n).toNat + 1 := by rw [hP, pkL_length]
    have hL : ((⟨#[1]⟩ : ByteArray) ++ ⟨P.toArray⟩).data.toList = 1 :: P := by rw [ByteArray.data_append]; simp
    have hLs : ((⟨#[1]⟩ : ByteArray) ++ ⟨P.toArray⟩).size = pkW (foldZ n).toNat + 2 := by
      have : ((⟨#[1]⟩ : ByteArray) ++ ⟨P.toArray⟩).data.toList.length = _ := congrArg List.length hL
      rw [Array.length_toList] at this
      show ((⟨#[1]⟩ : ByteArray) ++ ⟨P.toArray⟩).data.size = _
      rw [this]; simp; omega
    refine ⟨⟨#[1]⟩ ++ ⟨P.toArray⟩, by omega, by omega, fun w => ?_, fun r hr w => ?_, fun k hk w => ?_⟩
    · rw [hP]; exact lay_num n ⟨#[]⟩ w h0 h1 hm
    · have hd : ((⟨#[1]⟩ : ByteArray) ++ ⟨P.toArray⟩ ++ r).data.toList = 1 :: (P ++ r.data.toList) := by rw [ByteArray.data_append, Array.toList_append, hL]; simp
      obtain ⟨hz, hs0⟩ := s0_of _ _ _ hd
      have hu := unpB_of _ _ _ hd
      rw [hP, unpS_pkL _ _ hlt] at hu
      have := take_num _ w hz (by rw [ByteArray.size_append]; omega) hs0 _ _ (by rw [hP]; exact hu) (by omega) (by omega)
      rw [Int.toNat_of_nonneg hf.1, unfold_fold] at this
      rw [hLs]
      rw [show ((pkW (foldZ n).toNat + 2 : Nat) : Int) = 1 + ((pkW (foldZ n).toNat + 1 : Nat) : Int) by omega]
      exact this
    · have hk' : k = pkW (foldZ n).toNat + 1 := by omega
      have hd : (((⟨#[1]⟩ : ByteArray) ++ ⟨P.toArray⟩).extract 0 k).data.toList = 1 :: pre7 (pkW (foldZ n).toNat) (foldZ n).toNat := by
        rw [ext_data, hL, hk', List.take_succ_cons, hP]
        unfold pkL
        rw [List.take_left' (by rw [pre7_length])]
      obtain ⟨hz, hs0⟩ := s0_of _ _ _ hd
      have hu := unpB_of _ _ _ hd
      rw [unpS_pre _ hlt] at hu
      exact take_err _ w hz (by rw [ByteArray.size_extract]; omega) 1 hs0 (.inl rfl) 0 0 3 hu (by omega)
  | false =>
    simp only [mayB, Bool.false_eq_true, if_false, Bool.and_eq_true, decide_eq_true_eq] at hm
    obtain ⟨rfl, ht⟩ := hm
    have hL : ((⟨#[2]⟩ : ByteArray) ++ ⟨(pkL t.size).toArray⟩ ++ t).data.toList = 2 :: UInt8.ofNat t.size :: t.data.toList := by
      rw [small_pk _ ht, ByteArray.data_append, Array.toList_append, ByteArray.data_append]; simp
    have htl : t.data.toList.length = t.size := by simp
    have hLs : ((⟨#[2]⟩ : ByteArray) ++ ⟨(pkL t.size).toArray⟩ ++ t).size = t.size + 2 := by
      have : ((⟨#[2]⟩ : ByteArray) ++ ⟨(pkL t.size).toArray⟩ ++ t).data.toList.length = _ := congrArg List.length hL
      rw [Array.length_toList] at this
      show ((⟨#[2]⟩ : ByteArray) ++ ⟨(pkL t.size).toArray⟩ ++ t).data.size = _
      rw [this]; simp only [List.length_cons, htl]
    refine ⟨⟨#[2]⟩ ++ ⟨(pkL t.size).toArray⟩ ++ t, by omega, by omega, fun w => lay_text t w ht, fun r hr w => ?_, fun k hk w => ?_⟩
    · have hd : ((⟨#[2]⟩ : ByteArray) ++ ⟨(pkL t.size).toArray⟩ ++ t ++ r).data.toList = 2 :: UInt8.ofNat t.size :: (t.data.toList ++ r.data.toList) := by
        rw [ByteArray.data_append, Array.toList_append, hL]; simp
      obtain ⟨hz, hs0⟩ := s0_of _ _ _ hd
      have hu := unpB_of _ _ _ hd
      rw [unpS_one _ ht] at hu
      have hsz : ((⟨#[2]⟩ : ByteArray) ++ ⟨(pkL t.size).toArray⟩ ++ t ++ r).size = t.size + 2 + r.size := by rw [ByteArray.size_append, hLs]
      have hx := ext_of _ t [2, UInt8.ofNat t.size] r.data.toList 2 (by rw [hd]; simp) rfl
      rw [hLs]
      refine take_by _ w hz (by rw [hsz]; omega) hs0 t.size 1 hu (by omega) t _ 0 (fun w => ?_)
      have := tt_ok ((⟨#[2]⟩ : ByteArray) ++ ⟨(pkL t.size).toArray⟩ ++ t ++ r) 2 t.size w (by omega) ht (by rw [hsz]; omega)
      rw [hx] at this
      rw [show ((t.size + 2 : Nat) : Int) = ((2 : Nat) : Int) + (t.size : Int) by omega]
      exact this
    · by_cases h0t : t.size = 0
      · have hd : (((⟨#[2]⟩ : ByteArray) ++ ⟨(pkL t.size).toArray⟩ ++ t).extract 0 k).data.toList = 2 :: [] := by
          rw [ext_data, hL, show k = 0 + 1 by omega, List.take_succ_cons]; rfl
        obtain ⟨hz, hs0⟩ := s0_of _ _ _ hd
        have hu := unpB_of _ _ _ hd
        exact take_err _ w hz (by rw [ByteArray.size_extract]; omega) 2 hs0 (.inr rfl) 0 0 3 (by rw [hu]; decide) (by omega)
      · have hd : (((⟨#[2]⟩ : ByteArray) ++ ⟨(pkL t.size).toArray⟩ ++ t).extract 0 k).data.toList = 2 :: UInt8.ofNat t.size :: t.data.toList.take (t.size - 1) := by
          rw [ext_data, hL, show k = t.size - 1 + 1 + 1 by omega, List.take_succ_cons, List.take_succ_cons]
        obtain ⟨hz, hs0⟩ := s0_of _ _ _ hd
        have hu := unpB_of _ _ _ hd
        rw [unpS_one _ ht] at hu
        have hsz : (((⟨#[2]⟩ : ByteArray) ++ ⟨(pkL t.size).toArray⟩ ++ t).extract 0 k).size = k := by rw [ByteArray.size_extract]; omega
        exact take_by _ w hz (by rw [hsz]; omega) hs0 t.size 1 hu (by omega) ⟨#[]⟩ 0 3 (fun w => tt_short _ _ _ w (by omega) (by omega) (by omega) (by omega) (by rw [hsz]; omega))
end Go.Proofs.YtkakldlfgnijdaaDoor
