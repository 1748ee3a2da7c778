/- Layer 2: the law NameDeep. -/
import Derived.Test.YtepchkanpaakdaaDoorNmL
import Derived.Test.YtepchkanpaakdaaDoorNmP
import Derived.Laws.Concat
namespace Go.Proofs.YtepchkanpaakdaaDoor
open Go.RowKit Go.Shelf
/-- What meets goes on behind. -/
theorem meets_behind : ∀ (n : Nat) (G T H M : List (List UInt8)), G.length + T.length ≤ n → meetsL G T = true → meetsL H M = true → meetsL (G ++ H) (T ++ M) = true
  | _, [], T, H, M, _, h, h' => by
    rw [meetsL_nil] at h
    have : T = [] := by simpa using h
    subst this
    exact h'
  | 0, p :: G, T, H, M, hn, _, _ => by simp at hn
  | n + 1, p :: G, T, H, M, hn, h, h' => by
    by_cases hp : p = [42, 42]
    · subst hp
      cases T with
      | nil =>
        rw [meetsL_many_nil] at h
        have := meets_behind n G [] H M (by simp at hn ⊢; omega) h h'
        rw [List.nil_append] at this ⊢
        cases M with
        | nil => rw [List.cons_append, meetsL_many_nil]; exact this
        | cons q M => rw [List.cons_append, meetsL_many_cons, this, Bool.true_or]
      | cons q T =>
        rw [meetsL_many_cons, Bool.or_eq_true] at h
        rw [List.cons_append, List.cons_append, meetsL_many_cons, Bool.or_eq_true]
        rcases h with h | h
        · exact .inl (meets_behind n G (q :: T) H M (by simp at hn ⊢; omega) h h')
        · exact .inr (meets_behind n ([42, 42] :: G) T H M (by simp at hn ⊢; omega) h h')
    · cases T with
      | nil => rw [meetsL_oth_nil _ _ hp] at h; cases h
      | cons q T =>
        rw [meetsL_oth_cons _ _ _ _ hp, Bool.and_eq_true] at h
        rw [List.cons_append, List.cons_append, meetsL_oth_cons _ _ _ _ hp, h.1, Bool.true_and]
        exact meets_behind n G T H M (by simp at hn ⊢; omega) h.2 h'
theorem many_ahead (G : List (List UInt8)) : ∀ M T, meetsL G T = true → meetsL ([42, 42] :: G) (M ++ T) = true
  | [], T, h => by
    cases T with
    | nil => rw [List.nil_append, meetsL_many_nil]; exact h
    | cons q T => rw [List.nil_append, meetsL_many_cons, h, Bool.true_or]
  | q :: M, T, h => by rw [List.cons_append, meetsL_many_cons, many_ahead G M T h, Bool.or_true]
/-- A text, a dot, and another one. -/
theorem dot_data (a b : ByteArray) : (a ++ ⟨#[46]⟩ ++ b).data.toList = a.data.toList ++ 46 :: b.data.toList := by
  rw [ByteArray.data_append, Array.toList_append, ByteArray.data_append, Array.toList_append, List.append_assoc]; rfl
structure DeepIs (g t m : ByteArray) : Prop where
  a : ∀ u, u.data.toList = g.data.toList ++ [46, 42, 42] → globL u.data.toList = true → meetsB u t = true ∧ ∀ v, v.data.toList = t.data.toList ++ 46 :: m.data.toList → topicL v.data.toList = true → meetsB u v = true
  b : ∀ u, u.data.toList = [42, 42, 46] ++ g.data.toList → globL u.data.toList = true → meetsB u t = true ∧ ∀ v, v.data.toList = m.data.toList ++ 46 :: t.data.toList → topicL v.data.toList = true → meetsB u v = true
theorem deep_is (g t m : ByteArray) (h : meetsB g t = true) : DeepIs g t m := by
  unfold meetsB at h
  simp only [Bool.and_eq_true] at h
  obtain ⟨ht, hg, hm⟩ := h
  have e2 : cutL [42, 42] = [[42, 42]] := by decide
  refine ⟨fun u hu hgu => ?_, fun u hu hgu => ?_⟩
  · have hc : cutL u.data.toList = cutL g.data.toList ++ [[42, 42]] := by
      rw [hu, show g.data.toList ++ [46, 42, 42] = g.data.toList ++ 46 :: [42, 42] from rfl, cut_dot, e2]
    refine ⟨?_, fun v hv htv => ?_⟩
    · unfold meetsB
      rw [ht, hgu, hc]
      have := meets_behind _ (cutL g.data.toList) (cutL t.data.toList) [[42, 42]] [] (Nat.le_refl _) hm (meets_many [])
      rw [List.append_nil] at this
      rw [this]; rfl
    · unfold meetsB
      rw [htv, hgu, hc, hv, cut_dot, meets_behind _ _ _ _ _ (Nat.le_refl _) hm (meets_many _)]; rfl
  · have hc : cutL u.data.toList = [42, 42] :: cutL g.data.toList := by
      rw [hu, show [42, 42, 46] ++ g.data.toList = [42, 42] ++ 46 :: g.data.toList from rfl, cut_dot, e2]; rfl
    refine ⟨?_, fun v hv htv => ?_⟩
    · unfold meetsB
      rw [ht, hgu, hc]
      have := many_ahead (cutL g.data.toList) [] (cutL t.data.toList) hm
      rw [List.nil_append] at this
      rw [this]; rfl
    · unfold meetsB
      rw [htv, hgu, hc, hv, cut_dot, many_ahead _ _ _ hm]; rfl
structure DeepF (g m1 t m2 : Bool) : Prop where
  out : g = true → m1 = true ∧ (t = true → m2 = true)
set_option maxHeartbeats 1000000 in
theorem nameDeep_walk (g0 t0 m0 : ByteArray) (w : World) (_h0 : g0.size ≤ maxLen) (_h1 : t0.size ≤ maxLen) (_h2 : m0.size ≤ maxLen) :
    Calls Tryd.prog 8 #[.string g0, .string t0, .string m0] w fun e w' => e = .returned (.bool true) ∧ Below w.heap.size w w' := by
  obtain ⟨g, hg⟩ : ∃ g, g = fw g0 := ⟨_, rfl⟩
  obtain ⟨t, ht⟩ : ∃ t, t = fw t0 := ⟨_, rfl⟩
  obtain ⟨m, hm⟩ : ∃ m, m = fw m0 := ⟨_, rfl⟩
  have F1 := Lib.hid (fun w => few_any g0 w)
  have F2 := Lib.hid (fun w => few_any t0 w)
  have F3 := Lib.hid (fun w => few_any m0 w)
  rw [← hg] at F1
  rw [← ht] at F2
  rw [← hm] at F3
  have z1 : g.size ≤ 60 := by rw [hg]; exact fw_size _
  have z2 : t.size ≤ 60 := by rw [ht]; exact fw_size _
  have z3 : m.size ≤ 60 := by rw [hm]; exact fw_size _
  clear hg ht hm
  have A := Lib.hid awake_any
  have M0 := Lib.hid (fun w => meetsN_any g t w)
  have T0 := Lib.hid (fun w => topic_any m w)
  cases hgt : meetsB g t
  · rw [hgt] at M0
    clear hgt
    go_enter Tryd.func8, Tryd.ntmps8
    go_wp2_with fail
    refine (F1.out _).mono ?_
    rintro e w0 ⟨rfl, rfl⟩
    go_wp2_with fail
    refine (F2.out _).mono ?_
    rintro e w0 ⟨rfl, rfl⟩
    go_wp2_with fail
    refine (F3.out _).mono ?_
    rintro e w0 ⟨rfl, rfl⟩
    go_wp2_with fail
    refine (M0.out _).mono ?_
    rintro e w1 ⟨rfl, hb1⟩
    go_wp2_with fail
    refine (A.out _).mono ?_
    rintro e w2 ⟨rfl, hb2⟩
    go_wp2
    go_ret
    exact ⟨rfl, hb1.trans (hb2.mono hb1.size)⟩
  · rw [hgt] at M0
    have D := deep_is g t m hgt
    clear hgt
    cases htm : topicL m.data.toList
    · rw [htm] at T0
      clear htm D
      go_enter Tryd.func8, Tryd.ntmps8
      go_wp2_with fail
      refine (F1.out _).mono ?_
      rintro e w0 ⟨rfl, rfl⟩
      go_wp2_with fail
      refine (F2.out _).mono ?_
      rintro e w0 ⟨rfl, rfl⟩
      go_wp2_with fail
      refine (F3.out _).mono ?_
      rintro e w0 ⟨rfl, rfl⟩
      go_wp2_with fail
      refine (M0.out _).mono ?_
      rintro e w1 ⟨rfl, hb1⟩
      go_wp2_with fail
      refine (T0.out _).mono ?_
      rintro e w2 ⟨rfl, hb2⟩
      have k2 := hb1.trans (hb2.mono hb1.size)
      go_wp2_with fail
      refine (A.out _).mono ?_
      rintro e w3 ⟨rfl, hb3⟩
      go_wp2
      go_ret
      exact ⟨rfl, k2.trans (hb3.mono k2.size)⟩
    · rw [htm] at T0
      clear htm
      have q1 : (⟨#[46, 42, 42]⟩ : ByteArray).size = 3 := rfl
      have q2 : (⟨#[42, 42, 46]⟩ : ByteArray).size = 3 := rfl
      have q3 : (⟨#[46]⟩ : ByteArray).size = 1 := rfl
      have s1 := fun W => run_string_add_sum (P := Tryd.prog) W g ⟨#[46, 42, 42]⟩ (by omega)
      have s2 := fun W => run_string_add_sum (P := Tryd.prog) W ⟨#[42, 42, 46]⟩ g (by omega)
      have s3 := fun W => run_string_add_sum (P := Tryd.prog) W t ⟨#[46]⟩ (by omega)
      have s4 := fun W => run_string_add_sum (P := Tryd.prog) W (t ++ ⟨#[46]⟩) m (by rw [ByteArray.size_append]; omega)
      have s5 := fun W => run_string_add_sum (P := Tryd.prog) W m ⟨#[46]⟩ (by omega)
      have s6 := fun W => run_string_add_sum (P := Tryd.prog) W (m ++ ⟨#[46]⟩) t (by rw [ByteArray.size_append]; omega)
      have du : (g ++ ⟨#[46, 42, 42]⟩).data.toList = g.data.toList ++ [46, 42, 42] := by rw [ByteArray.data_append, Array.toList_append]
      have dv : (⟨#[42, 42, 46]⟩ ++ g).data.toList = [42, 42, 46] ++ g.data.toList := by rw [ByteArray.data_append, Array.toList_append]
      have D1 := D.a _ du
      have D2 := D.b _ dv
      have E1 := fun h => (D1 h).2 _ (dot_data t m)
      have E2 := fun h => (D2 h).2 _ (dot_data m t)
      generalize t ++ ⟨#[46]⟩ ++ m = v at *
      generalize m ++ ⟨#[46]⟩ ++ t = v' at *
      generalize t ++ ⟨#[46]⟩ = t1 at *
      generalize m ++ ⟨#[46]⟩ = m1 at *
      generalize g ++ ⟨#[46, 42, 42]⟩ = u at *
      generalize ⟨#[42, 42, 46]⟩ ++ g = u' at *
      have G1 := Lib.hid (fun w => glob_any u w)
      have G2 := Lib.hid (fun w => glob_any u' w)
      have M1 := Lib.hid (fun w => meetsN_any u t w)
      have M3 := Lib.hid (fun w => meetsN_any u' t w)
      have T2 := Lib.hid (fun w => topic_any v w)
      have T3 := Lib.hid (fun w => topic_any v' w)
      have M2 := Lib.hid (fun w => meetsN_any u v w)
      have M4 := Lib.hid (fun w => meetsN_any u' v' w)
      have DA : DeepF (globL u.data.toList) (meetsB u t) (topicL v.data.toList) (meetsB u v) := ⟨fun h => ⟨(D1 h).1, E1 h⟩⟩
      have DB : DeepF (globL u'.data.toList) (meetsB u' t) (topicL v'.data.toList) (meetsB u' v') := ⟨fun h => ⟨(D2 h).1, E2 h⟩⟩
      clear D D1 D2 E1 E2 du dv z1 z2 z3 q1 q2 q3
      generalize globL u.data.toList = ga at *
      generalize globL u'.data.toList = gb at *
      generalize meetsB u t = b1 at *
      generalize meetsB u' t = b3 at *
      generalize topicL v.data.toList = tv at *
      generalize topicL v'.data.toList = tw at *
      generalize meetsB u v = b2 at *
      generalize meetsB u' v' = b4 at *
      go_enter Tryd.func8, Tryd.ntmps8
      go_wp2_with fail
      refine (F1.out _).mono ?_
      rintro e w0 ⟨rfl, rfl⟩
      go_wp2_with fail
      refine (F2.out _).mono ?_
      rintro e w0 ⟨rfl, rfl⟩
      go_wp2_with fail
      refine (F3.out _).mono ?_
      rintro e w0 ⟨rfl, rfl⟩
      go_wp2_with fail
      refine (M0.out _).mono ?_
      rintro e w1 ⟨rfl, k1⟩
      go_wp2_with fail
      refine (T0.out _).mono ?_
      rintro e w2 ⟨rfl, hb2⟩
      have k2 := k1.trans (hb2.mono k1.size)
      clear hb2
      go_wp2_with fail
      refine (G1.out _).mono ?_
      rintro e w3 ⟨rfl, hb3⟩
      have k3 := k2.trans (hb3.mono k2.size)
      clear hb3
      cases ga
      · go_wp2_with fail
        refine (G2.out _).mono ?_
        rintro e w20 ⟨rfl, hb20⟩
        have k20 := k3.trans (hb20.mono k3.size)
        clear hb20
        cases gb
        · go_wp2_with fail
          refine (A.out _).mono ?_
          rintro e w21 ⟨rfl, hb21⟩
          go_wp2
          go_ret
          exact ⟨by simp, k20.trans (hb21.mono k20.size)⟩
        · have i3 := (DB.out rfl).1
          subst i3
          go_wp2_with fail
          refine (M3.out _).mono ?_
          rintro e w21 ⟨rfl, hb21⟩
          have k21 := k20.trans (hb21.mono k20.size)
          clear hb21
          go_wp2_with fail
          refine (T3.out _).mono ?_
          rintro e w22 ⟨rfl, hb22⟩
          have k22 := k21.trans (hb22.mono k21.size)
          clear hb22
          cases tw
          · go_wp2_with fail
            refine (A.out _).mono ?_
            rintro e w23 ⟨rfl, hb23⟩
            go_wp2
            go_ret
            exact ⟨by simp, k22.trans (hb23.mono k22.size)⟩
          · have i4 := (DB.out rfl).2 rfl
            subst i4
            go_wp2_with fail
            refine (M4.out _).mono ?_
            rintro e w23 ⟨rfl, hb23⟩
            have k23 := k22.trans (hb23.mono k22.size)
            clear hb23
            go_wp2_with fail
            refine (A.out _).mono ?_
            rintro e w24 ⟨rfl, hb24⟩
            go_wp2
            go_ret
            exact ⟨by simp, k23.trans (hb24.mono k23.size)⟩
      · have i1 := (DA.out rfl).1
        subst i1
        go_wp2_with fail
        refine (M1.out _).mono ?_
        rintro e w4 ⟨rfl, hb4⟩
        have k4 := k3.trans (hb4.mono k3.size)
        clear hb4
        go_wp2_with fail
        refine (T2.out _).mono ?_
        rintro e w5 ⟨rfl, hb5⟩
        have k5 := k4.trans (hb5.mono k4.size)
        clear hb5
        cases tv
        · go_wp2_with fail
          refine (G2.out _).mono ?_
          rintro e w20 ⟨rfl, hb20⟩
          have k20 := k5.trans (hb20.mono k5.size)
          clear hb20
          cases gb
          · go_wp2_with fail
            refine (A.out _).mono ?_
            rintro e w21 ⟨rfl, hb21⟩
            go_wp2
            go_ret
            exact ⟨by simp, k20.trans (hb21.mono k20.size)⟩
          · have i3 := (DB.out rfl).1
            subst i3
            go_wp2_with fail
            refine (M3.out _).mono ?_
            rintro e w21 ⟨rfl, hb21⟩
            have k21 := k20.trans (hb21.mono k20.size)
            clear hb21
            go_wp2_with fail
            refine (T3.out _).mono ?_
            rintro e w22 ⟨rfl, hb22⟩
            have k22 := k21.trans (hb22.mono k21.size)
            clear hb22
            cases tw
            · go_wp2_with fail
              refine (A.out _).mono ?_
              rintro e w23 ⟨rfl, hb23⟩
              go_wp2
              go_ret
              exact ⟨by simp, k22.trans (hb23.mono k22.size)⟩
            · have i4 := (DB.out rfl).2 rfl
              subst i4
              go_wp2_with fail
              refine (M4.out _).mono ?_
              rintro e w23 ⟨rfl, hb23⟩
              have k23 := k22.trans (hb23.mono k22.size)
              clear hb23
              go_wp2_with fail
              refine (A.out _).mono ?_
              rintro e w24 ⟨rfl, hb24⟩
              go_wp2
              go_ret
              exact ⟨by simp, k23.trans (hb24.mono k23.size)⟩
        · have i2 := (DA.out rfl).2 rfl
          subst i2
          go_wp2_with fail
          refine (M2.out _).mono ?_
          rintro e w6 ⟨rfl, hb6⟩
          have k6 := k5.trans (hb6.mono k5.size)
          clear hb6
          go_wp2_with fail
          refine (G2.out _).mono ?_
          rintro e w20 ⟨rfl, hb20⟩
          have k20 := k6.trans (hb20.mono k6.size)
          clear hb20
          cases gb
          · go_wp2_with fail
            refine (A.out _).mono ?_
            rintro e w21 ⟨rfl, hb21⟩
            go_wp2
            go_ret
            exact ⟨by simp, k20.trans (hb21.mono k20.size)⟩
          · have i3 := (DB.out rfl).1
            subst i3
            go_wp2_with fail
            refine (M3.out _).mono ?_
            rintro e w21 ⟨rfl, hb21⟩
            have k21 := k20.trans (hb21.mono k20.size)
            clear hb21
            go_wp2_with fail
            refine (T3.out _).mono ?_
            rintro e w22 ⟨rfl, hb22⟩
            have k22 := k21.trans (hb22.mono k21.size)
            clear hb22
            cases tw
            · go_wp2_with fail
              refine (A.out _).mono ?_
              rintro e w23 ⟨rfl, hb23⟩
              go_wp2
              go_ret
              exact ⟨by simp, k22.trans (hb23.mono k22.size)⟩
            · have i4 := (DB.out rfl).2 rfl
              subst i4
              go_wp2_with fail
              refine (M4.out _).mono ?_
              rintro e w23 ⟨rfl, hb23⟩
              have k23 := k22.trans (hb23.mono k22.size)
              clear hb23
              go_wp2_with fail
              refine (A.out _).mono ?_
              rintro e w24 ⟨rfl, hb24⟩
              go_wp2
              go_ret
              exact ⟨by simp, k23.trans (hb24.mono k23.size)⟩
end Go.Proofs.YtepchkanpaakdaaDoor
