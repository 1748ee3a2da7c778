/- Layer 1: the walk of the law NumBehind. -/
import Derived.Test.YtleddhmfamkbgaaNumLawB
import Derived.Test.YtleddhmfamkbgaaNumMath2
namespace Go.Proofs.Ytleddhmfamkbgaa
open Go.RowKit
theorem app_data (l : List UInt8) (r : ByteArray) : ((⟨l.toArray⟩ : ByteArray) ++ r).data.toList = l ++ r.data.toList := by
  rw [ByteArray.data_append]; simp
theorem unpack_behind (n : Int) (r : ByteArray) (w : World) (h0 : 0 ≤ n) (h1 : n ≤ 18446744073709551615) (hr : r.size ≤ 1000000) (p : ByteArray) (hp : p = ⟨(pkL n.toNat).toArray⟩) :
    Calls Try.prog 13 #[.string (p ++ r)] w fun e w' => e = .returned (.tuple #[.int .u64 n, .int .i64 p.size, .int .i64 0]) ∧ w = w' := by
  subst hp
  have h9 := pkW_le9 n.toNat (by omega)
  have h := unpack_any ((⟨(pkL n.toNat).toArray⟩ : ByteArray) ++ r) w (by rw [ByteArray.size_append, pkL_size]; omega)
  rw [app_data, unpS_pkL _ _ (by omega)] at h
  rw [pkL_size]
  simp only [Int.toNat_of_nonneg h0] at h
  exact h
theorem ext_data (p : ByteArray) (k : Nat) : (p.extract 0 k).data.toList = p.data.toList.take k := by
  rw [ByteArray.data_extract]; simp
theorem unpack_cut (n : Int) (w : World) (h0 : 0 ≤ n) (h1 : n ≤ 18446744073709551615) (p : ByteArray) (hp : p = ⟨(pkL n.toNat).toArray⟩) (k : Nat) (hk : k + 1 = p.size) :
    Calls Try.prog 13 #[.string (p.extract 0 k)] w fun e w' => e = .returned (.tuple #[.int .u64 0, .int .i64 0, .int .i64 3]) ∧ w = w' := by
  subst hp
  have h9 := pkW_le9 n.toNat (by omega)
  rw [pkL_size] at hk
  have h := unpack_any ((⟨(pkL n.toNat).toArray⟩ : ByteArray).extract 0 k) w (by rw [ByteArray.size_extract, pkL_size]; omega)
  have e : (pkL n.toNat).take k = pre7 (pkW n.toNat) n.toNat := by
    unfold pkL; rw [List.take_left' (by rw [pre7_length]; omega)]
  rw [ext_data, show (⟨(pkL n.toNat).toArray⟩ : ByteArray).data.toList = pkL n.toNat from by simp, e, unpS_pre _ (by omega)] at h
  exact h
theorem toList_ne (p : ByteArray) (h : p.size ≠ 0) : ¬ p.toList = [] := by
  intro e; rw [ByteArray.toList_eq] at e; simp at e; apply h; simp [ByteArray.size, e]
theorem toList_isEmpty (p : ByteArray) (h : p.size ≠ 0) : p.toList.isEmpty = false := by
  have := toList_ne p h; simpa using this
set_option maxRecDepth 100000 in
set_option maxHeartbeats 1000000 in
theorem numBehind_walk (a : Int) (s : ByteArray) (w : World) (h0 : 0 ≤ a) (h1 : a ≤ 18446744073709551615) (hs : s.size ≤ maxLen) :
    Calls Try.prog 7 #[.int .u64 a, .string s] w fun e w' => e = .returned (.bool true) ∧ Below w.heap.size w w' := by
  unfold maxLen at hs
  obtain ⟨p, hpe, hp, cp⟩ := pack_as a h0 h1
  have h9 := pkW_le9 a.toNat (by omega)
  have hps : 1 ≤ p.size ∧ p.size ≤ 10 := by omega
  have Cp := Lib.hid cp
  have Cu := Lib.hid (fun r w hr => unpack_behind a r w h0 h1 hr p hpe)
  have Cv := Lib.hid (fun w k hk => unpack_cut a w h0 h1 p hpe k hk)
  clear cp hpe hp h9
  have hpn := toList_ne p (by omega)
  have hpi := toList_isEmpty p (by omega)
  by_cases hbig : 40 < s.size
  · go_enter Try.func7, Try.ntmps7
    go_wp2_with fail
    refine (Cp.out _).mono ?_
    rintro e w1 ⟨rfl, hb1⟩
    go_wp2_with fail
    refine (Cu.out (s.extract 0 40) _ (by rw [ByteArray.size_extract]; omega)).mono ?_
    rintro e w2 ⟨rfl, rfl⟩
    go_wp2_with fail
    refine (Cv.out _ _ ?_).mono ?_
    case refine_1 => omega
    rintro e w2 ⟨rfl, rfl⟩
    go_wp2_with (go_at_call 16; refine (awake_any _).mono ?_; rintro e w3 ⟨rfl, hb3⟩)
    go_ret
    exact ⟨rfl, chain hb1 (Nat.le_refl _) hb3⟩
  · have hsm : s.size ≤ 40 := by omega
    clear hbig
    go_enter Try.func7, Try.ntmps7
    go_wp2_with fail
    refine (Cp.out _).mono ?_
    rintro e w1 ⟨rfl, hb1⟩
    go_wp2_with fail
    refine (Cu.out s _ (by omega)).mono ?_
    rintro e w2 ⟨rfl, rfl⟩
    go_wp2_with fail
    refine (Cv.out _ _ ?_).mono ?_
    case refine_1 => omega
    rintro e w2 ⟨rfl, rfl⟩
    go_wp2_with (go_at_call 16; refine (awake_any _).mono ?_; rintro e w3 ⟨rfl, hb3⟩)
    go_ret
    exact ⟨rfl, chain hb1 (Nat.le_refl _) hb3⟩
end Go.Proofs.Ytleddhmfamkbgaa
