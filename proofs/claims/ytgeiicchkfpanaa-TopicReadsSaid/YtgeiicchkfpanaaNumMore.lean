/- Layer 1: what callers of Pack and Unpack want. -/
import Derived.Test.YtgeiicchkfpanaaNumUnpack
import Derived.Test.YtgeiicchkfpanaaNumMath2
namespace Go.Proofs.Ytgeiicchkfpanaa
open Go.RowKit
theorem chain {B : Nat} {a b c : World} (h : Below B a b) (hB : B ≤ a.heap.size) (k : Below b.heap.size b c) : Below B a c :=
  h.trans (k.mono (by have := h.size; omega))
theorem to_below {P : Program} {f : Nat} {args : Array Value} {w : World} {v : Value} (h : Calls P f args w fun e w' => e = .returned v ∧ w = w') :
    Calls P f args w fun e w' => e = .returned v ∧ Below w.heap.size w w' := h.mono fun _ _ ⟨a, b⟩ => ⟨a, b ▸ Below.refl _ _⟩
/-- Pack, its octets under a name. -/
theorem pack_as (n : Int) (h0 : 0 ≤ n) (h1 : n ≤ 18446744073709551615) : ∃ p : ByteArray, p = ⟨(pkL n.toNat).toArray⟩ ∧ p.size = pkW n.toNat + 1 ∧
    ∀ w, Calls Try.prog 48 #[.int .u64 n] w fun e w' => e = .returned (.string p) ∧ Below w.heap.size w w' :=
  ⟨_, rfl, pkL_size _, fun w => pack_any n w h0 h1⟩
theorem app_data (l : List UInt8) (r : ByteArray) : ((⟨l.toArray⟩ : ByteArray) ++ r).data.toList = l ++ r.data.toList := by
  rw [ByteArray.data_append]; simp
theorem unpack_behind (n : Int) (r : ByteArray) (w : World) (h0 : 0 ≤ n) (h1 : n ≤ 18446744073709551615) (hr : r.size ≤ 1000000) (p : ByteArray) (hp : p = ⟨(pkL n.toNat).toArray⟩) :
    Calls Try.prog 96 #[.string (p ++ r)] w fun e w' => e = .returned (.tuple #[.int .u64 n, .int .i64 p.size, .int .i64 0]) ∧ w = w' := by
  subst hp
  have h9 := pkW_le9 n.toNat (by omega)
  have h := unpack_any ((⟨(pkL n.toNat).toArray⟩ : ByteArray) ++ r) w (by rw [ByteArray.size_append, pkL_size]; omega)
  rw [app_data, unpS_pkL _ _ (by omega)] at h
  rw [pkL_size]
  simp only [Int.toNat_of_nonneg h0] at h
  exact h
theorem ext_data (p : ByteArray) (k : Nat) : (p.extract 0 k).data.toList = p.data.toList.take k := by
  rw [ByteArray.data_extract]; simp
theorem unpack_cut (n : Int) (w : World) (h0 : 0 ≤ n) (h1 : n ≤ 18446744073709551615) (p : ByteArray) (hp : p = ⟨(pkL n.toNat).toArray⟩) (k : Nat) (hk : k + 1 = p.size) :
    Calls Try.prog 96 #[.string (p.extract 0 k)] w fun e w' => e = .returned (.tuple #[.int .u64 0, .int .i64 0, .int .i64 3]) ∧ w = w' := by
  subst hp
  have h9 := pkW_le9 n.toNat (by omega)
  rw [pkL_size] at hk
  have h := unpack_any ((⟨(pkL n.toNat).toArray⟩ : ByteArray).extract 0 k) w (by rw [ByteArray.size_extract, pkL_size]; omega)
  have e : (pkL n.toNat).take k = pre7 (pkW n.toNat) n.toNat := by
    unfold pkL; rw [List.take_left' (by rw [pre7_length]; omega)]
  rw [ext_data, show (⟨(pkL n.toNat).toArray⟩ : ByteArray).data.toList = pkL n.toNat from by simp, e, unpS_pre _ (by omega)] at h
  exact h
theorem toList_ne (p : ByteArray) (h : p.size ≠ 0) : ¬ p.toList = [] := by
  intro e; rw [ByteArray.toList_eq] at e; simp at e; apply h; simp [ByteArray.size, e]
theorem toList_isEmpty (p : ByteArray) (h : p.size ≠ 0) : p.toList.isEmpty = false := by
  have := toList_ne p h; simpa using this
theorem beq_toList (p q : ByteArray) (h : p.data.toList ≠ q.data.toList) : (p.toList == q.toList) = false := by
  rw [ByteArray.toList_eq, ByteArray.toList_eq]; simpa using h
end Go.Proofs.Ytgeiicchkfpanaa
