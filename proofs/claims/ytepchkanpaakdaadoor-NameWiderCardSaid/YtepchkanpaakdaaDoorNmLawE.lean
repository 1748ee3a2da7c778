/- Layer 2: the law NameWider. -/
import Derived.Test.YtepchkanpaakdaaDoorNmL
import Derived.Test.YtepchkanpaakdaaDoorNmP
import Derived.Laws.Concat
import Derived.Deep.RegionHeld3
namespace Go.Proofs.YtepchkanpaakdaaDoor
open Go.RowKit Go.Shelf
theorem take_map (X : List ByteArray) (k : Nat) (h : k < X.length) : (X.take (k + 1)).map dl = (X.take k).map dl ++ [dl X[k]] := by
  rw [List.take_succ_eq_append_getElem h, List.map_append]; rfl
/-- A part that meets as much, or more. -/
def Wide (p q : List UInt8) : Prop := q = p ∨ q = [42, 42] ∨ (q = [42] ∧ p ≠ [42, 42])
theorem many_skip (G : List (List UInt8)) : ∀ T, meetsL G T = true → meetsL ([42, 42] :: G) T = true
  | [], h => by rw [meetsL_many_nil]; exact h
  | q :: T, h => by rw [meetsL_many_cons, h, Bool.true_or]
theorem meets_wide : ∀ (n : Nat) (G T : List (List UInt8)) (f : Nat → List UInt8 → List UInt8), G.length + T.length ≤ n → (∀ k p, Wide p (f k p)) → meetsL G T = true → meetsL (G.mapIdx f) T = true
  | _, [], T, f, _, _, h => by simpa using h
  | 0, p :: G, T, f, hn, _, _ => by simp at hn
  | n + 1, p :: G, T, f, hn, hf, h => by
    have hf' : ∀ k p, Wide p (f (k + 1) p) := fun k p => hf (k + 1) p
    rw [List.mapIdx_cons]
    by_cases hp : p = [42, 42]
    · subst hp
      have e : f 0 [42, 42] = [42, 42] := by
        rcases hf 0 [42, 42] with h | h | h
        · exact h
        · exact h
        · exact absurd rfl h.2
      rw [e]
      cases T with
      | nil =>
        rw [meetsL_many_nil] at h ⊢
        exact meets_wide n G [] _ (by simp at hn ⊢; omega) hf' h
      | cons q T =>
        rw [meetsL_many_cons, Bool.or_eq_true] at h ⊢
        rcases h with h | h
        · exact .inl (meets_wide n G (q :: T) _ (by simp at hn ⊢; omega) hf' h)
        · have := meets_wide n ([42, 42] :: G) T f (by simp at hn ⊢; omega) hf h
          rw [List.mapIdx_cons, e] at this
          exact .inr this
    · cases T with
      | nil => rw [meetsL_oth_nil _ _ hp] at h; cases h
      | cons q T =>
        rw [meetsL_oth_cons _ _ _ _ hp, Bool.and_eq_true] at h
        have ih := meets_wide n G T _ (by simp at hn ⊢; omega) hf' h.2
        rcases hf 0 p with e | e | e
        · rw [e, meetsL_oth_cons _ _ _ _ hp, h.1, Bool.true_and]; exact ih
        · rw [e, meetsL_many_cons, many_skip _ _ ih, Bool.or_true]
        · rw [e.1, meetsL_oth_cons _ _ _ _ (by decide)]
          simpa using ih
/-- The parts with one made wider. -/
def oneF (ii : Int) (k : Nat) (p : List UInt8) : List UInt8 := if (k : Int) = ii then (if p = [42, 42] then p else [42]) else p
def anyF (ii : Int) (k : Nat) (p : List UInt8) : List UInt8 := if (k : Int) = ii then [42, 42] else p
theorem oneF_wide (ii : Int) (k : Nat) (p : List UInt8) : Wide p (oneF ii k p) := by
  unfold oneF Wide
  split
  · split
    · exact .inl rfl
    · exact .inr (.inr ⟨rfl, by assumption⟩)
  · exact .inl rfl
theorem anyF_wide (ii : Int) (k : Nat) (p : List UInt8) : Wide p (anyF ii k p) := by
  unfold anyF Wide
  split
  · exact .inr (.inl rfl)
  · exact .inl rfl
theorem wide_dot {p q : List UInt8} (h : Wide p q) (hp : ∀ c ∈ p, c ≠ 46) : ∀ c ∈ q, c ≠ 46 := by
  rcases h with rfl | rfl | ⟨rfl, _⟩
  · exact hp
  · decide
  · decide
/-- A glob whose parts are made wider meets as much. -/
theorem wider_meets (g t u : ByteArray) (f : Nat → List UInt8 → List UInt8) (hf : ∀ k p, Wide p (f k p)) (h : meetsB g t = true) (hu : u.data.toList = joinL (((partsB g).map dl).mapIdx f)) (hg : globL u.data.toList = true) : meetsB u t = true := by
  unfold meetsB at h ⊢
  simp only [Bool.and_eq_true] at h ⊢
  obtain ⟨h1, h2, h3⟩ := h
  refine ⟨h1, hg, ?_⟩
  have e : (partsB g).map dl = cutL g.data.toList := by rw [partsB_data]; unfold partsL; rw [if_pos h2]
  rw [e] at hu
  rw [hu, cut_join]
  · exact meets_wide _ _ _ f (Nat.le_refl _) hf h3
  · intro e2
    have := congrArg List.length e2
    simp at this
    exact cutL_ne _ this
  · intro p hp
    rw [List.mem_iff_getElem] at hp
    obtain ⟨k, hk, rfl⟩ := hp
    rw [List.getElem_mapIdx]
    exact wide_dot (hf _ _) (cut_mem _ _ (List.getElem_mem _)).1
theorem partsB_le (s : ByteArray) (k : Nat) (hk : k < (partsB s).length) : (partsB s)[k].size ≤ 40 := by
  unfold partsB at *
  split at hk
  · rename_i hg
    have hd := cutB_data s
    have hm : dl (cutB s)[k] ∈ cutL s.data.toList := by rw [← hd]; exact List.mem_map.2 ⟨_, List.getElem_mem hk, rfl⟩
    have := (cut_mem _ _ hm).2
    have h8 := (glob_8 s hg).2
    simp only [hg, if_true]
    have e1 := size_list (cutB s)[k]
    have e2 := size_list s
    unfold dl at this
    omega
  · simp at hk
structure WideF (g m : Bool) : Prop where
  out : g = true → m = true
theorem mapIdx_take (X : List ByteArray) (k : Nat) (h : k < X.length) (f : Nat → List UInt8 → List UInt8) : ((X.take (k + 1)).map dl).mapIdx f = ((X.take k).map dl).mapIdx f ++ [f k (dl X[k])] := by
  rw [take_map X k h, List.mapIdx_concat]
  congr 2
  rw [List.length_map, List.length_take]
  congr 1
  omega
theorem step_join (T P : ByteArray) (X : List ByteArray) (k : Nat) (f : Nat → List UInt8 → List UInt8) (hk : k < X.length) (hT : T.data.toList = joinL (((X.take k).map dl).mapIdx f)) (hP : dl P = f k (dl X[k])) :
    (k = 0 → (T ++ P).data.toList = joinL (((X.take (k + 1)).map dl).mapIdx f)) ∧ (0 < k → (T ++ ⟨#[46]⟩ ++ P).data.toList = joinL (((X.take (k + 1)).map dl).mapIdx f)) := by
  rw [mapIdx_take X k hk f, join_snoc, ← hP]
  refine ⟨fun h => ?_, fun h => ?_⟩
  · subst h
    rw [ByteArray.data_append, Array.toList_append, hT]; rfl
  · rw [if_neg, ByteArray.data_append, Array.toList_append, ByteArray.data_append, Array.toList_append, hT, List.append_assoc]
    · rfl
    · intro e
      have hl : (((X.take k).map dl).mapIdx f).length = k := by rw [List.length_mapIdx, List.length_map, List.length_take]; omega
      rw [e] at hl
      exact absurd hl (by simp; omega)
set_option maxHeartbeats 2000000 in
theorem nameWider_walk (g0 t0 : ByteArray) (n : Int) (w : World) (_h0 : g0.size ≤ maxLen) (_h1 : t0.size ≤ maxLen) (hn0 : 0 ≤ n) (hn1 : n ≤ 255) :
    Calls Tryd.prog 6 #[.string g0, .string t0, .int .u8 n] w fun e w' => e = .returned (.bool true) ∧ Below w.heap.size w w' := by
  obtain ⟨g, hg⟩ : ∃ g, g = fw g0 := ⟨_, rfl⟩
  obtain ⟨t, ht⟩ : ∃ t, t = fw t0 := ⟨_, rfl⟩
  have F1 := Lib.hid (fun w => few_any g0 w)
  have F2 := Lib.hid (fun w => few_any t0 w)
  rw [← hg] at F1
  rw [← ht] at F2
  clear hg ht
  have A := Lib.hid awake_any
  have P1 := Lib.hid (fun w => parts_any g w)
  have M0 := Lib.hid (fun w => meetsN_any g t w)
  cases hgt : meetsB g t
  · rw [hgt] at M0
    clear hgt
    go_enter Tryd.func6, Tryd.ntmps6
    go_wp2_with fail
    refine (F1.out _).mono ?_
    rintro e w0 ⟨rfl, rfl⟩
    go_wp2_with fail
    refine (F2.out _).mono ?_
    rintro e w0 ⟨rfl, rfl⟩
    go_wp2_with fail
    refine (P1.out _).mono ?_
    rintro e w1 ⟨pa, rfl, _, hb1⟩
    go_wp2_with fail
    refine (M0.out _).mono ?_
    rintro e w2 ⟨rfl, hb2⟩
    have k2 := hb1.trans (hb2.mono hb1.size)
    go_wp2_with fail
    refine (A.out _).mono ?_
    rintro e w3 ⟨rfl, hb3⟩
    go_wp2
    go_ret
    exact ⟨rfl, k2.trans (hb3.mono k2.size)⟩
  · rw [hgt] at M0
    have hpos : 0 < (partsB g).length := by
      unfold meetsB at hgt
      simp only [Bool.and_eq_true] at hgt
      unfold partsB
      rw [if_pos hgt.2.1]
      exact cutB_pos g
    have h8 := partsB_8 g
    have h40 := partsB_le g
    have W1 := fun u f hf => wider_meets g t u f hf hgt
    generalize hX : partsB g = X at *
    have HX := Lib.hid hX
    have H40 := Lib.hid h40
    have HW := Lib.hid W1
    clear hgt hX h40 W1
    have hXi : (X.length : Int) ≤ 8 := by omega
    have hXp : (0 : Int) < X.length := by omega
    have hX0 : ¬ (X.length : Int) = 0 := by omega
    go_enter Tryd.func6, Tryd.ntmps6
    go_wp2_with fail
    refine (F1.out _).mono ?_
    rintro e w0 ⟨rfl, rfl⟩
    go_wp2_with fail
    refine (F2.out _).mono ?_
    rintro e w0 ⟨rfl, rfl⟩
    go_wp2_with fail
    refine (P1.out _).mono ?_
    rintro e w1 ⟨pa, rfl, R, hb1⟩
    rw [HX.out] at R ⊢
    go_wp2_with fail
    refine (M0.out _).mono ?_
    rintro e w2 ⟨rfl, hb2⟩
    have R2 := R.lift hb2
    have k2 := hb1.trans (hb2.mono hb1.size)
    clear hb1 hb2 R
    go_wp2_with fail
    generalize n % (X.length : Int) = ii at *
    go_loopw [9, 10, 11] (fun one any i wx => ∃ (k : Nat) (T1 T2 : ByteArray), i = .int .i64 k ∧ k ≤ X.length ∧ one = .string T1 ∧ any = .string T2 ∧ T1.data.toList = joinL (((X.take k).map dl).mapIdx (oneF ii)) ∧ T2.data.toList = joinL (((X.take k).map dl).mapIdx (anyF ii)) ∧ T1.size ≤ 41 * k ∧ T2.size ≤ 41 * k ∧ Row wx w.heap.size pa X ∧ Below w.heap.size w wx) (fun _ _ i _ => X.length - (intOf i).toNat)
    case atStart => exact ⟨0, _, _, rfl, Nat.zero_le _, rfl, rfl, by simp [joinL], by simp [joinL], Nat.le_refl _, Nat.le_refl _, R2, k2⟩
    case round =>
      clear R2 k2
      obtain ⟨k, T1, T2, rfl, hk, rfl, rfl, hT1, hT2, hz1, hz2, Rk, kk⟩ := hrel
      by_cases hlt : k < X.length
      · obtain ⟨b, rfl, cx⟩ := Rk.cells k hlt
        have hlt' : (k : Int) < X.length := by omega
        have hx40 := H40.out k hlt
        have Rd : Row wr.drew w.heap.size (some ⟨b, 0, none⟩) X := Rk.lift ((Below.refl _ _).drew)
        have kd : Below w.heap.size w wr.drew := kk.drew
        obtain ⟨x, hx⟩ : ∃ x, x = X[k] := ⟨_, rfl⟩
        rw [← hx] at cx hx40
        have HXk := Lib.hid hx
        clear hx
        go_wp2_with fail
        have hlt2 : (k : Int) < X.length := by omega
        have hk0 : (0 : Int) ≤ k := by omega
        go_region_held3 (fun w' => w'.cell? ⟨b, k, none⟩ = some (.string x)) (exact cx) (fail)
        clear cx Rk kk
        by_cases hii : (k : Int) = ii
        · subst hii
          by_cases hs : dl x = [42, 42]
          · have x1 : x.toList = [42, 42] := by rw [ByteArray.toList_eq]; exact hs
            have hP : dl x = oneF (k : Int) k (dl X[k]) := by unfold oneF; rw [if_pos rfl, ← HXk.out, if_pos hs]
            have hQ : dl ⟨#[42, 42]⟩ = anyF (k : Int) k (dl X[k]) := by unfold anyF; rw [if_pos rfl]
            by_cases h0 : k = 0
            · have e1 := (step_join T1 x X k (oneF (k : Int)) hlt hT1 hP).1 h0
              have e2 := (step_join T2 ⟨#[42, 42]⟩ X k (anyF (k : Int)) hlt hT2 hQ).1 h0
              have z1 : (T1 ++ x).size ≤ 41 * (k + 1) := by simp only [ByteArray.size_append]; have : (⟨#[46]⟩ : ByteArray).size = 1 := rfl; have : (⟨#[42]⟩ : ByteArray).size = 1 := rfl; have : (⟨#[42, 42]⟩ : ByteArray).size = 2 := rfl; omega
              have z2 : (T2 ++ ⟨#[42, 42]⟩).size ≤ 41 * (k + 1) := by simp only [ByteArray.size_append]; have : (⟨#[46]⟩ : ByteArray).size = 1 := rfl; have : (⟨#[42]⟩ : ByteArray).size = 1 := rfl; have : (⟨#[42, 42]⟩ : ByteArray).size = 2 := rfl; omega
              have E := Lib.hid (And.intro (And.intro e1 e2) (And.intro z1 z2))
              have s1 := fun W => run_string_add_sum (P := Tryd.prog) W T1 x (by simp only [ByteArray.size_append] at *; have : (⟨#[46]⟩ : ByteArray).size = 1 := rfl; have : (⟨#[42]⟩ : ByteArray).size = 1 := rfl; have : (⟨#[42, 42]⟩ : ByteArray).size = 2 := rfl; omega)
              have s2 := fun W => run_string_add_sum (P := Tryd.prog) W T2 ⟨#[42, 42]⟩ (by simp only [ByteArray.size_append] at *; have : (⟨#[46]⟩ : ByteArray).size = 1 := rfl; have : (⟨#[42]⟩ : ByteArray).size = 1 := rfl; have : (⟨#[42, 42]⟩ : ByteArray).size = 2 := rfl; omega)
              clear e1 e2 z1 z2 hT1 hT2 hP hQ
              generalize T1 ++ x = U1 at *
              generalize T2 ++ ⟨#[42, 42]⟩ = U2 at *
              subst h0
              go_wp2
              go_roundw
              case rel => exact ⟨0 + 1, U1, U2, by go_num, by omega, rfl, rfl, E.out.1.1, E.out.1.2, E.out.2.1, E.out.2.2, Rd, kd⟩
              case measure => simp [intOf]; omega
            · replace h0 : 0 < k := by omega
              have e1 := (step_join T1 x X k (oneF (k : Int)) hlt hT1 hP).2 h0
              have e2 := (step_join T2 ⟨#[42, 42]⟩ X k (anyF (k : Int)) hlt hT2 hQ).2 h0
              have z1 : (T1 ++ ⟨#[46]⟩ ++ x).size ≤ 41 * (k + 1) := by simp only [ByteArray.size_append]; have : (⟨#[46]⟩ : ByteArray).size = 1 := rfl; have : (⟨#[42]⟩ : ByteArray).size = 1 := rfl; have : (⟨#[42, 42]⟩ : ByteArray).size = 2 := rfl; omega
              have z2 : (T2 ++ ⟨#[46]⟩ ++ ⟨#[42, 42]⟩).size ≤ 41 * (k + 1) := by simp only [ByteArray.size_append]; have : (⟨#[46]⟩ : ByteArray).size = 1 := rfl; have : (⟨#[42]⟩ : ByteArray).size = 1 := rfl; have : (⟨#[42, 42]⟩ : ByteArray).size = 2 := rfl; omega
              have E := Lib.hid (And.intro (And.intro e1 e2) (And.intro z1 z2))
              have s1 := fun W => run_string_add_sum (P := Tryd.prog) W T1 ⟨#[46]⟩ (by simp only [ByteArray.size_append] at *; have : (⟨#[46]⟩ : ByteArray).size = 1 := rfl; have : (⟨#[42]⟩ : ByteArray).size = 1 := rfl; have : (⟨#[42, 42]⟩ : ByteArray).size = 2 := rfl; omega)
              have s2 := fun W => run_string_add_sum (P := Tryd.prog) W T2 ⟨#[46]⟩ (by simp only [ByteArray.size_append] at *; have : (⟨#[46]⟩ : ByteArray).size = 1 := rfl; have : (⟨#[42]⟩ : ByteArray).size = 1 := rfl; have : (⟨#[42, 42]⟩ : ByteArray).size = 2 := rfl; omega)
              have s3 := fun W => run_string_add_sum (P := Tryd.prog) W (T1 ++ ⟨#[46]⟩) x (by simp only [ByteArray.size_append] at *; have : (⟨#[46]⟩ : ByteArray).size = 1 := rfl; have : (⟨#[42]⟩ : ByteArray).size = 1 := rfl; have : (⟨#[42, 42]⟩ : ByteArray).size = 2 := rfl; omega)
              have s4 := fun W => run_string_add_sum (P := Tryd.prog) W (T2 ++ ⟨#[46]⟩) ⟨#[42, 42]⟩ (by simp only [ByteArray.size_append] at *; have : (⟨#[46]⟩ : ByteArray).size = 1 := rfl; have : (⟨#[42]⟩ : ByteArray).size = 1 := rfl; have : (⟨#[42, 42]⟩ : ByteArray).size = 2 := rfl; omega)
              clear e1 e2 z1 z2 hT1 hT2 hP hQ
              generalize T1 ++ ⟨#[46]⟩ ++ x = U1 at *
              generalize T2 ++ ⟨#[46]⟩ ++ ⟨#[42, 42]⟩ = U2 at *
              generalize T1 ++ ⟨#[46]⟩ = V1 at *
              generalize T2 ++ ⟨#[46]⟩ = V2 at *
              have h0' : (0 : Int) < k := by omega
              go_wp2
              go_roundw
              case rel => exact ⟨k + 1, U1, U2, by go_num, by omega, rfl, rfl, E.out.1.1, E.out.1.2, E.out.2.1, E.out.2.2, Rd, kd⟩
              case measure => simp [intOf]; omega
          · have x1 : ¬ x.toList = [42, 42] := by rw [ByteArray.toList_eq]; exact hs
            have x2 : (x.toList == [42, 42]) = false := by simpa using x1
            have hP : dl ⟨#[42]⟩ = oneF (k : Int) k (dl X[k]) := by unfold oneF; rw [if_pos rfl, ← HXk.out, if_neg hs]
            have hQ : dl ⟨#[42, 42]⟩ = anyF (k : Int) k (dl X[k]) := by unfold anyF; rw [if_pos rfl]
            by_cases h0 : k = 0
            · have e1 := (step_join T1 ⟨#[42]⟩ X k (oneF (k : Int)) hlt hT1 hP).1 h0
              have e2 := (step_join T2 ⟨#[42, 42]⟩ X k (anyF (k : Int)) hlt hT2 hQ).1 h0
              have z1 : (T1 ++ ⟨#[42]⟩).size ≤ 41 * (k + 1) := by simp only [ByteArray.size_append]; have : (⟨#[46]⟩ : ByteArray).size = 1 := rfl; have : (⟨#[42]⟩ : ByteArray).size = 1 := rfl; have : (⟨#[42, 42]⟩ : ByteArray).size = 2 := rfl; omega
              have z2 : (T2 ++ ⟨#[42, 42]⟩).size ≤ 41 * (k + 1) := by simp only [ByteArray.size_append]; have : (⟨#[46]⟩ : ByteArray).size = 1 := rfl; have : (⟨#[42]⟩ : ByteArray).size = 1 := rfl; have : (⟨#[42, 42]⟩ : ByteArray).size = 2 := rfl; omega
              have E := Lib.hid (And.intro (And.intro e1 e2) (And.intro z1 z2))
              have s1 := fun W => run_string_add_sum (P := Tryd.prog) W T1 ⟨#[42]⟩ (by simp only [ByteArray.size_append] at *; have : (⟨#[46]⟩ : ByteArray).size = 1 := rfl; have : (⟨#[42]⟩ : ByteArray).size = 1 := rfl; have : (⟨#[42, 42]⟩ : ByteArray).size = 2 := rfl; omega)
              have s2 := fun W => run_string_add_sum (P := Tryd.prog) W T2 ⟨#[42, 42]⟩ (by simp only [ByteArray.size_append] at *; have : (⟨#[46]⟩ : ByteArray).size = 1 := rfl; have : (⟨#[42]⟩ : ByteArray).size = 1 := rfl; have : (⟨#[42, 42]⟩ : ByteArray).size = 2 := rfl; omega)
              clear e1 e2 z1 z2 hT1 hT2 hP hQ
              generalize T1 ++ ⟨#[42]⟩ = U1 at *
              generalize T2 ++ ⟨#[42, 42]⟩ = U2 at *
              subst h0
              go_wp2
              go_roundw
              case rel => exact ⟨0 + 1, U1, U2, by go_num, by omega, rfl, rfl, E.out.1.1, E.out.1.2, E.out.2.1, E.out.2.2, Rd, kd⟩
              case measure => simp [intOf]; omega
            · replace h0 : 0 < k := by omega
              have e1 := (step_join T1 ⟨#[42]⟩ X k (oneF (k : Int)) hlt hT1 hP).2 h0
              have e2 := (step_join T2 ⟨#[42, 42]⟩ X k (anyF (k : Int)) hlt hT2 hQ).2 h0
              have z1 : (T1 ++ ⟨#[46]⟩ ++ ⟨#[42]⟩).size ≤ 41 * (k + 1) := by simp only [ByteArray.size_append]; have : (⟨#[46]⟩ : ByteArray).size = 1 := rfl; have : (⟨#[42]⟩ : ByteArray).size = 1 := rfl; have : (⟨#[42, 42]⟩ : ByteArray).size = 2 := rfl; omega
              have z2 : (T2 ++ ⟨#[46]⟩ ++ ⟨#[42, 42]⟩).size ≤ 41 * (k + 1) := by simp only [ByteArray.size_append]; have : (⟨#[46]⟩ : ByteArray).size = 1 := rfl; have : (⟨#[42]⟩ : ByteArray).size = 1 := rfl; have : (⟨#[42, 42]⟩ : ByteArray).size = 2 := rfl; omega
              have E := Lib.hid (And.intro (And.intro e1 e2) (And.intro z1 z2))
              have s1 := fun W => run_string_add_sum (P := Tryd.prog) W T1 ⟨#[46]⟩ (by simp only [ByteArray.size_append] at *; have : (⟨#[46]⟩ : ByteArray).size = 1 := rfl; have : (⟨#[42]⟩ : ByteArray).size = 1 := rfl; have : (⟨#[42, 42]⟩ : ByteArray).size = 2 := rfl; omega)
              have s2 := fun W => run_string_add_sum (P := Tryd.prog) W T2 ⟨#[46]⟩ (by simp only [ByteArray.size_append] at *; have : (⟨#[46]⟩ : ByteArray).size = 1 := rfl; have : (⟨#[42]⟩ : ByteArray).size = 1 := rfl; have : (⟨#[42, 42]⟩ : ByteArray).size = 2 := rfl; omega)
              have s3 := fun W => run_string_add_sum (P := Tryd.prog) W (T1 ++ ⟨#[46]⟩) ⟨#[42]⟩ (by simp only [ByteArray.size_append] at *; have : (⟨#[46]⟩ : ByteArray).size = 1 := rfl; have : (⟨#[42]⟩ : ByteArray).size = 1 := rfl; have : (⟨#[42, 42]⟩ : ByteArray).size = 2 := rfl; omega)
              have s4 := fun W => run_string_add_sum (P := Tryd.prog) W (T2 ++ ⟨#[46]⟩) ⟨#[42, 42]⟩ (by simp only [ByteArray.size_append] at *; have : (⟨#[46]⟩ : ByteArray).size = 1 := rfl; have : (⟨#[42]⟩ : ByteArray).size = 1 := rfl; have : (⟨#[42, 42]⟩ : ByteArray).size = 2 := rfl; omega)
              clear e1 e2 z1 z2 hT1 hT2 hP hQ
              generalize T1 ++ ⟨#[46]⟩ ++ ⟨#[42]⟩ = U1 at *
              generalize T2 ++ ⟨#[46]⟩ ++ ⟨#[42, 42]⟩ = U2 at *
              generalize T1 ++ ⟨#[46]⟩ = V1 at *
              generalize T2 ++ ⟨#[46]⟩ = V2 at *
              have h0' : (0 : Int) < k := by omega
              go_wp2
              go_roundw
              case rel => exact ⟨k + 1, U1, U2, by go_num, by omega, rfl, rfl, E.out.1.1, E.out.1.2, E.out.2.1, E.out.2.2, Rd, kd⟩
              case measure => simp [intOf]; omega
        · have hii' : ((k : Int) == ii) = false := by simpa using hii
          have hP : dl x = oneF ii k (dl X[k]) := by unfold oneF; rw [if_neg hii, ← HXk.out]
          have hQ : dl x = anyF ii k (dl X[k]) := by unfold anyF; rw [if_neg hii, ← HXk.out]
          by_cases h0 : k = 0
          · have e1 := (step_join T1 x X k (oneF ii) hlt hT1 hP).1 h0
            have e2 := (step_join T2 x X k (anyF ii) hlt hT2 hQ).1 h0
            have z1 : (T1 ++ x).size ≤ 41 * (k + 1) := by simp only [ByteArray.size_append]; have : (⟨#[46]⟩ : ByteArray).size = 1 := rfl; have : (⟨#[42]⟩ : ByteArray).size = 1 := rfl; have : (⟨#[42, 42]⟩ : ByteArray).size = 2 := rfl; omega
            have z2 : (T2 ++ x).size ≤ 41 * (k + 1) := by simp only [ByteArray.size_append]; have : (⟨#[46]⟩ : ByteArray).size = 1 := rfl; have : (⟨#[42]⟩ : ByteArray).size = 1 := rfl; have : (⟨#[42, 42]⟩ : ByteArray).size = 2 := rfl; omega
            have E := Lib.hid (And.intro (And.intro e1 e2) (And.intro z1 z2))
            have s1 := fun W => run_string_add_sum (P := Tryd.prog) W T1 x (by simp only [ByteArray.size_append] at *; have : (⟨#[46]⟩ : ByteArray).size = 1 := rfl; have : (⟨#[42]⟩ : ByteArray).size = 1 := rfl; have : (⟨#[42, 42]⟩ : ByteArray).size = 2 := rfl; omega)
            have s2 := fun W => run_string_add_sum (P := Tryd.prog) W T2 x (by simp only [ByteArray.size_append] at *; have : (⟨#[46]⟩ : ByteArray).size = 1 := rfl; have : (⟨#[42]⟩ : ByteArray).size = 1 := rfl; have : (⟨#[42, 42]⟩ : ByteArray).size = 2 := rfl; omega)
            clear e1 e2 z1 z2 hT1 hT2 hP hQ
            generalize T1 ++ x = U1 at *
            generalize T2 ++ x = U2 at *
            subst h0
            go_wp2
            go_roundw
            case rel => exact ⟨0 + 1, U1, U2, by go_num, by omega, rfl, rfl, E.out.1.1, E.out.1.2, E.out.2.1, E.out.2.2, Rd, kd⟩
            case measure => simp [intOf]; omega
          · replace h0 : 0 < k := by omega
            have e1 := (step_join T1 x X k (oneF ii) hlt hT1 hP).2 h0
            have e2 := (step_join T2 x X k (anyF ii) hlt hT2 hQ).2 h0
            have z1 : (T1 ++ ⟨#[46]⟩ ++ x).size ≤ 41 * (k + 1) := by simp only [ByteArray.size_append]; have : (⟨#[46]⟩ : ByteArray).size = 1 := rfl; have : (⟨#[42]⟩ : ByteArray).size = 1 := rfl; have : (⟨#[42, 42]⟩ : ByteArray).size = 2 := rfl; omega
            have z2 : (T2 ++ ⟨#[46]⟩ ++ x).size ≤ 41 * (k + 1) := by simp only [ByteArray.size_append]; have : (⟨#[46]⟩ : ByteArray).size = 1 := rfl; have : (⟨#[42]⟩ : ByteArray).size = 1 := rfl; have : (⟨#[42, 42]⟩ : ByteArray).size = 2 := rfl; omega
            have E := Lib.hid (And.intro (And.intro e1 e2) (And.intro z1 z2))
            have s1 := fun W => run_string_add_sum (P := Tryd.prog) W T1 ⟨#[46]⟩ (by simp only [ByteArray.size_append] at *; have : (⟨#[46]⟩ : ByteArray).size = 1 := rfl; have : (⟨#[42]⟩ : ByteArray).size = 1 := rfl; have : (⟨#[42, 42]⟩ : ByteArray).size = 2 := rfl; omega)
            have s2 := fun W => run_string_add_sum (P := Tryd.prog) W T2 ⟨#[46]⟩ (by simp only [ByteArray.size_append] at *; have : (⟨#[46]⟩ : ByteArray).size = 1 := rfl; have : (⟨#[42]⟩ : ByteArray).size = 1 := rfl; have : (⟨#[42, 42]⟩ : ByteArray).size = 2 := rfl; omega)
            have s3 := fun W => run_string_add_sum (P := Tryd.prog) W (T1 ++ ⟨#[46]⟩) x (by simp only [ByteArray.size_append] at *; have : (⟨#[46]⟩ : ByteArray).size = 1 := rfl; have : (⟨#[42]⟩ : ByteArray).size = 1 := rfl; have : (⟨#[42, 42]⟩ : ByteArray).size = 2 := rfl; omega)
            have s4 := fun W => run_string_add_sum (P := Tryd.prog) W (T2 ++ ⟨#[46]⟩) x (by simp only [ByteArray.size_append] at *; have : (⟨#[46]⟩ : ByteArray).size = 1 := rfl; have : (⟨#[42]⟩ : ByteArray).size = 1 := rfl; have : (⟨#[42, 42]⟩ : ByteArray).size = 2 := rfl; omega)
            clear e1 e2 z1 z2 hT1 hT2 hP hQ
            generalize T1 ++ ⟨#[46]⟩ ++ x = U1 at *
            generalize T2 ++ ⟨#[46]⟩ ++ x = U2 at *
            generalize T1 ++ ⟨#[46]⟩ = V1 at *
            generalize T2 ++ ⟨#[46]⟩ = V2 at *
            have h0' : (0 : Int) < k := by omega
            go_wp2
            go_roundw
            case rel => exact ⟨k + 1, U1, U2, by go_num, by omega, rfl, rfl, E.out.1.1, E.out.1.2, E.out.2.1, E.out.2.2, Rd, kd⟩
            case measure => simp [intOf]; omega
      · have hge : (X.length : Int) ≤ k := by omega
        rw [List.take_of_length_le (by omega)] at hT1 hT2
        have D1 : WideF (globL T1.data.toList) (meetsB T1 t) := ⟨fun h => HW.out T1 (oneF ii) (oneF_wide ii) hT1 h⟩
        have D2 : WideF (globL T2.data.toList) (meetsB T2 t) := ⟨fun h => HW.out T2 (anyF ii) (anyF_wide ii) hT2 h⟩
        have G1 := Lib.hid (fun w => glob_any T1 w)
        have G2 := Lib.hid (fun w => glob_any T2 w)
        have M1 := Lib.hid (fun w => meetsN_any T1 t w)
        have M2 := Lib.hid (fun w => meetsN_any T2 t w)
        clear hT1 hT2 HW
        generalize globL T1.data.toList = g1 at *
        generalize globL T2.data.toList = g2 at *
        generalize meetsB T1 t = m1 at *
        generalize meetsB T2 t = m2 at *
        go_wp2_with fail
        refine (G1.out _).mono ?_
        rintro e w4 ⟨rfl, hb4⟩
        have k4 := kk.trans (hb4.mono kk.size)
        clear hb4
        cases g1
        · go_wp2_with fail
          refine (G2.out _).mono ?_
          rintro e w6 ⟨rfl, hb6⟩
          have k6 := k4.trans (hb6.mono k4.size)
          clear hb6
          cases g2
          · go_wp2_with fail
            refine (A.out _).mono ?_
            rintro e w9 ⟨rfl, hb9⟩
            go_wp2
            go_ret
            exact ⟨by simp, k6.trans (hb9.mono k6.size)⟩
          · have i2 := D2.out rfl
            subst i2
            go_wp2_with fail
            refine (M2.out _).mono ?_
            rintro e w7 ⟨rfl, hb7⟩
            have k7 := k6.trans (hb7.mono k6.size)
            clear hb7
            go_wp2_with fail
            refine (A.out _).mono ?_
            rintro e w9 ⟨rfl, hb9⟩
            go_wp2
            go_ret
            exact ⟨by simp, k7.trans (hb9.mono k7.size)⟩
        · have i1 := D1.out rfl
          subst i1
          go_wp2_with fail
          refine (M1.out _).mono ?_
          rintro e w5 ⟨rfl, hb5⟩
          have k5 := k4.trans (hb5.mono k4.size)
          clear hb5
          go_wp2_with fail
          refine (G2.out _).mono ?_
          rintro e w6 ⟨rfl, hb6⟩
          have k6 := k5.trans (hb6.mono k5.size)
          clear hb6
          cases g2
          · go_wp2_with fail
            refine (A.out _).mono ?_
            rintro e w9 ⟨rfl, hb9⟩
            go_wp2
            go_ret
            exact ⟨by simp, k6.trans (hb9.mono k6.size)⟩
          · have i2 := D2.out rfl
            subst i2
            go_wp2_with fail
            refine (M2.out _).mono ?_
            rintro e w7 ⟨rfl, hb7⟩
            have k7 := k6.trans (hb7.mono k6.size)
            clear hb7
            go_wp2_with fail
            refine (A.out _).mono ?_
            rintro e w9 ⟨rfl, hb9⟩
            go_wp2
            go_ret
            exact ⟨by simp, k7.trans (hb9.mono k7.size)⟩
end Go.Proofs.YtepchkanpaakdaaDoor
