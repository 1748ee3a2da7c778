/- Layer 2: the law NameLong. -/
import Derived.Test.YtepchkanpaakdaaDoorNmL
import Derived.Test.YtepchkanpaakdaaDoorNmM
namespace Go.Proofs.YtepchkanpaakdaaDoor
open Go.RowKit Go.Shelf
/-- How many parts are no double star. -/
def leastL (G : List (List UInt8)) : Nat := (G.filter (fun p => !decide (p = [42, 42]))).length
/-- Is some part a double star? -/
def anyL (G : List (List UInt8)) : Bool := G.any (fun p => decide (p = [42, 42]))
theorem meets_long : ∀ (n : Nat) (G T : List (List UInt8)), G.length + T.length ≤ n → meetsL G T = true → leastL G ≤ T.length ∧ (anyL G = true ∨ T.length = leastL G)
  | _, [], T, _, h => by
    rw [meetsL_nil] at h
    have : T = [] := by simpa using h
    subst this
    exact ⟨Nat.le_refl _, .inr rfl⟩
  | 0, p :: G, T, hn, h => by simp at hn
  | n + 1, p :: G, T, hn, h => by
    by_cases hp : p = [42, 42]
    · subst hp
      have e1 : leastL ([42, 42] :: G) = leastL G := by simp [leastL]
      have e2 : anyL ([42, 42] :: G) = true := by simp [anyL]
      rw [e1, e2]
      refine ⟨?_, .inl rfl⟩
      cases T with
      | nil =>
        rw [meetsL_many_nil] at h
        exact (meets_long n G [] (by simp at hn ⊢; omega) h).1
      | cons q T =>
        rw [meetsL_many_cons, Bool.or_eq_true] at h
        rcases h with h | h
        · exact (meets_long n G (q :: T) (by simp at hn ⊢; omega) h).1
        · have := (meets_long n ([42, 42] :: G) T (by simp at hn ⊢; omega) h).1
          rw [e1] at this
          simp
          omega
    · have e1 : leastL (p :: G) = leastL G + 1 := by simp [leastL, hp]
      have e2 : anyL (p :: G) = anyL G := by simp [anyL, hp]
      rw [e1, e2]
      cases T with
      | nil => rw [meetsL_oth_nil _ _ hp] at h; cases h
      | cons q T =>
        rw [meetsL_oth_cons _ _ _ _ hp, Bool.and_eq_true] at h
        have := meets_long n G T (by simp at hn ⊢; omega) h.2
        simp only [List.length_cons]
        exact ⟨by omega, this.2.imp id (by omega)⟩
theorem meetsB_parts (g t : ByteArray) (h : meetsB g t = true) : meetsL ((partsB g).map dl) ((partsB t).map dl) = true := by
  unfold meetsB at h
  simp only [Bool.and_eq_true] at h
  have e1 : partsB g = cutB g := by unfold partsB; rw [if_pos h.2.1]
  have e2 : partsB t = cutB t := by unfold partsB; rw [if_pos (topic_glob _ h.1)]
  rw [e1, e2, cutB_data, cutB_data]
  exact h.2.2
theorem leastL_snoc (G : List (List UInt8)) (p : List UInt8) : leastL (G ++ [p]) = leastL G + (if p = [42, 42] then 0 else 1) := by
  unfold leastL
  rw [List.filter_append, List.length_append]
  congr 1
  by_cases h : p = [42, 42] <;> simp [h]
theorem anyL_snoc (G : List (List UInt8)) (p : List UInt8) : anyL (G ++ [p]) = (anyL G || decide (p = [42, 42])) := by
  unfold anyL
  rw [List.any_append]; simp
theorem take_map (X : List ByteArray) (k : Nat) (h : k < X.length) : (X.take (k + 1)).map dl = (X.take k).map dl ++ [dl X[k]] := by
  rw [List.take_succ_eq_append_getElem h, List.map_append]; rfl
structure LongIs (m : Bool) (G : List (List UInt8)) (n : Nat) : Prop where
  out : m = true → leastL G ≤ n ∧ (anyL G = true ∨ n = leastL G)
structure LongF (m : Bool) (le : Nat) (an : Bool) (n : Nat) : Prop where
  out : m = true → le ≤ n ∧ (an = true ∨ n = le)
set_option maxHeartbeats 1000000 in
theorem nameLong_walk (g0 t0 : ByteArray) (w : World) (_h0 : g0.size ≤ maxLen) (_h1 : t0.size ≤ maxLen) :
    Calls Tryd.prog 9 #[.string g0, .string t0] w fun e w' => e = .returned (.bool true) ∧ Below w.heap.size w w' := by
  obtain ⟨g, hg⟩ : ∃ g, g = fw g0 := ⟨_, rfl⟩
  obtain ⟨t, ht⟩ : ∃ t, t = fw t0 := ⟨_, rfl⟩
  have F1 := Lib.hid (fun w => few_any g0 w)
  have F2 := Lib.hid (fun w => few_any t0 w)
  rw [← hg] at F1
  rw [← ht] at F2
  have A := Lib.hid awake_any
  have P1 := Lib.hid (fun w => parts_any g w)
  have P2 := Lib.hid (fun w => parts_any t w)
  have M := Lib.hid (fun w => meetsN_any g t w)
  have hm := fun h => meets_long _ ((partsB g).map dl) ((partsB t).map dl) (Nat.le_refl _) (meetsB_parts g t h)
  have h8 := partsB_8 g
  have h8' := partsB_8 t
  rw [List.length_map] at hm
  have HM : LongIs (meetsB g t) ((partsB g).map dl) (partsB t).length := ⟨hm⟩
  generalize meetsB g t = m at *
  clear hm hg ht
  go_enter Tryd.func9, Tryd.ntmps9
  go_wp2_with fail
  refine (F1.out _).mono ?_
  rintro e w0 ⟨rfl, rfl⟩
  go_wp2_with fail
  refine (F2.out _).mono ?_
  rintro e w0 ⟨rfl, rfl⟩
  go_wp2_with fail
  refine (P1.out _).mono ?_
  rintro e w1 ⟨pa, rfl, R, hb1⟩
  have Rc := Lib.hid R.cells
  generalize partsB g = X at *
  have hXi : (X.length : Int) ≤ 8 := by omega
  go_wp2_with fail
  go_loop [6, 7, 8] (fun le an i => ∃ k : Nat, i = .int .i64 k ∧ k ≤ X.length ∧ le = .int .i64 (leastL ((X.take k).map dl)) ∧ an = .bool (anyL ((X.take k).map dl)) ∧ leastL ((X.take k).map dl) ≤ k) (fun _ _ i => X.length - (intOf i).toNat)
  case atStart => exact ⟨0, rfl, Nat.zero_le _, rfl, rfl, Nat.le_refl _⟩
  case round =>
    obtain ⟨k, rfl, hk, rfl, rfl, hle⟩ := hrel
    by_cases hlt : k < X.length
    · obtain ⟨b, rfl, cx⟩ := Rc.out k hlt
      have hlt' : (k : Int) < X.length := by omega
      have hs1 := leastL_snoc ((X.take k).map dl) (dl X[k])
      have hs2 := anyL_snoc ((X.take k).map dl) (dl X[k])
      rw [← take_map X k hlt] at hs1 hs2
      generalize X[k] = x at *
      by_cases hx : dl x = [42, 42]
      · have x1 : x.toList = [42, 42] := by rw [ByteArray.toList_eq]; exact hx
        rw [if_pos hx] at hs1
        rw [show decide (dl x = [42, 42]) = true by simpa using hx, Bool.or_true] at hs2
        have S := Lib.hid (And.intro hs1 hs2)
        clear hs1 hs2 hx
        generalize leastL ((X.take k).map dl) = le at *
        generalize anyL ((X.take k).map dl) = an at *
        go_wp2
        go_round
        case rel => exact ⟨k + 1, by go_num, by omega, by rw [S.out.1]; rfl, by rw [S.out.2], by rw [S.out.1]; omega⟩
        case measure => simp [intOf]; omega
      · have x1 : ¬ x.toList = [42, 42] := by rw [ByteArray.toList_eq]; exact hx
        have x2 : (x.toList == [42, 42]) = false := by simpa using x1
        rw [if_neg hx] at hs1
        rw [show decide (dl x = [42, 42]) = false by simpa using hx, Bool.or_false] at hs2
        have S := Lib.hid (And.intro hs1 hs2)
        clear hs1 hs2 hx
        generalize leastL ((X.take k).map dl) = le at *
        generalize anyL ((X.take k).map dl) = an at *
        go_wp2
        go_round
        case rel => exact ⟨k + 1, by go_num, by omega, by rw [S.out.1]; go_num, by rw [S.out.2], by rw [S.out.1]; omega⟩
        case measure => simp [intOf]; omega
    · have hge : (X.length : Int) ≤ k := by omega
      rw [List.take_of_length_le (by omega)] at hle ⊢
      have fact := HM.out
      generalize leastL (X.map dl) = le at *
      generalize anyL (X.map dl) = an at *
      generalize hn : (partsB t).length = n at *
      have HF : LongF m le an n := ⟨fact⟩
      have Hn := Lib.hid hn
      clear Rc R fact hn HM
      go_wp2_with fail
      refine (P2.out _).mono ?_
      rintro e w2 ⟨pb, rfl, _, hb2⟩
      rw [Hn.out]
      have k2 := hb1.trans (hb2.mono hb1.size)
      clear hb1 hb2
      go_wp2_with fail
      refine (M.out _).mono ?_
      rintro e w3 ⟨rfl, hb3⟩
      have k3 := k2.trans (hb3.mono k2.size)
      clear k2 hb3
      cases m
      · go_wp2_with fail
        refine (A.out _).mono ?_
        rintro e w4 ⟨rfl, hb4⟩
        go_wp2
        go_ret
        exact ⟨by simp, k3.trans (hb4.mono k3.size)⟩
      · have f1 : (le : Int) ≤ n := by have := (HF.out rfl).1; omega
        cases an
        · have f2 : n = le := by
            rcases (HF.out rfl).2 with h | h
            · cases h
            · exact h
          subst f2
          go_wp2_with fail
          refine (A.out _).mono ?_
          rintro e w4 ⟨rfl, hb4⟩
          go_wp2
          go_ret
          exact ⟨by simp, k3.trans (hb4.mono k3.size)⟩
        · go_wp2_with fail
          refine (A.out _).mono ?_
          rintro e w4 ⟨rfl, hb4⟩
          go_wp2
          go_ret
          exact ⟨by simp, k3.trans (hb4.mono k3.size)⟩
end Go.Proofs.YtepchkanpaakdaaDoor
