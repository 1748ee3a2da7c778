/- Layer 11: the contract of the document's Set. -/
import Derived.Test.YtgipohicgbppaaaWhX
namespace Go.Proofs.Ytgipohicgbppaaa
open Go.RowKit Go.Shelf
set_option linter.unusedSimpArgs false in
set_option linter.unusedVariables false in
set_option maxHeartbeats 8000000 in
set_option maxRecDepth 100000 in
theorem rset_any (X : List Tm) (pa : Option Addr) (cap : Nat) (id a : Int) (w : World) (hX : X.length ≤ 130) (hR : Rd w pa X) :
    Calls Try.prog 11 #[.slice pa X.length cap, .int .u64 id, .int .i64 a] w (PairPost (setP X id a).1 (.int .i64 (setP X id a).2) w) := by
  have M := Lib.hid (may_any X pa cap w hX hR)
  have S := Lib.hid (fun w hR => rstop_any X pa cap id w hX hR)
  have HR := Lib.hid hR
  clear hR
  cases hm : mayT X
  · have hp : setP X id a = ([], 1) := by unfold setP; rw [hm]; rfl
    rw [hp]
    rw [hm] at M
    clear hp hm
    go_enter Try.func11, Try.ntmps11
    go_wp2_with fail
    refine M.out.mono ?_
    rintro e w1 ⟨rfl, hb1⟩
    go_wp2
    refine bodyPost_ret (v := .tuple #[_, _]) (by simp [results, Try.results11, go_sem]; exact ⟨rfl, rfl⟩) rfl ?_
    exact ⟨_, rfl, Own.nil _ _, hb1⟩
  · rw [hm] at M
    by_cases ta : 0 ≤ a ∧ a ≤ 1099511627775
    · have hmay := (mayT_iff X).1 hm
      have hr := stopL_may hmay id
      have hno : ∀ x ∈ stopL X id, x.2 ≠ id := fun x hx => ((stopL_mem hmay.ids x).1 hx).2
      have htk := ahead_take (a, id) (stopL X id) hr.ups hno
      have hP : setP X id a = if (stopL X id).length = 120 then ([], 6) else ((stopL X id).take (goesL (stopL X id) (a, id)) ++ (a, id) :: (stopL X id).drop (goesL (stopL X id) (a, id)), 0) := by
        unfold setP; rw [hm, (timeB_iff a).2 ta]; rfl
      have hlen := hr.len
      have hgl := goesL_le (stopL X id) (a, id)
      rw [← stopL_filter X id hmay.ids] at S
      have HP := Lib.hid hP
      have a0 : ¬ a < 0 := by omega
      have a1 : ¬ (1099511627775 : Int) < a := by omega
      have a0d : decide (a < 0) = false := by simpa using a0
      have a1d : decide ((1099511627775 : Int) < a) = false := by simpa using a1
      have Htk := Lib.hid htk
      clear hmay hr hno hP hm htk
      generalize setP X id a = p at *
      generalize stopL X id = R at *
      generalize goesL R (a, id) = n at *
      go_enter Try.func11, Try.ntmps11
      go_wp2_with fail
      refine M.out.mono ?_
      rintro e w1 ⟨rfl, hb1⟩
      have K1 := Lib.hid hb1
      have S1 := Lib.hid (S.out w1 (HR.out.lift hb1))
      clear hb1 M S
      go_wp2_with fail
      refine S1.out.mono ?_
      rintro e w2 ⟨v, rfl, hown, hb2⟩
      have K2 := Lib.hid (K1.out.trans (hb2.mono K1.out.size))
      obtain ⟨pb, cb, rfl, hcb, hrb, hnb⟩ := own_args hown
      have HRb := Lib.hid hrb
      clear hb2 hown hrb S1
      by_cases h120 : R.length = 120
      · have hp : p = ([], 6) := by rw [HP.out, if_pos h120]
        subst hp
        have h120i : (120 : Int) ≤ R.length := by omega
        go_wp2
        refine bodyPost_ret (v := .tuple #[_, _]) (by simp [results, Try.results11, go_sem]; exact ⟨rfl, rfl⟩) rfl ?_
        exact ⟨_, rfl, Own.nil _ _, K2.out⟩
      · have hp : p = (R.take n ++ (a, id) :: R.drop n, 0) := by rw [HP.out, if_neg h120]
        subst hp
        have h120i : ¬ (120 : Int) ≤ R.length := by omega
        have T0 : BoxT w2.heap.size w2 (w2.alloc (.cells #[.int .i64 a, .int .u64 id] 38)) (a, id) := by
          refine ⟨by simp [go_sem], by simp [go_sem], by simp, (Below.refl _ _).alloc (Nat.le_refl _) _⟩
        have AH := Lib.hid (fun x w => ahead_any x (a, id) w)
        go_wp2_with fail
        have Rb := Lib.hid (HRb.out.lift T0.below)
        have KW := Lib.hid (K2.out.trans (T0.below.mono K2.out.size))
        have B0 := Lib.hid T0
        clear T0 HP
        generalize w2.alloc (.cells #[.int .i64 a, .int .u64 id] 38) = W at *
        generalize hB : w2.heap.size = B at *
        go_loopw [10, 11] (fun u i wx => ∃ k : Nat, i = .int .i64 k ∧ k ≤ R.length ∧ Own wx W.heap.size u ((R.take k).filter (fun x => aheadB x (a, id))) ∧ Below W.heap.size W wx) (fun _ i _ => R.length - (intOf i).toNat)
        case atStart => exact ⟨0, rfl, Nat.zero_le _, Own.nil _ _, Below.refl _ _⟩
        case round =>
          obtain ⟨k, rfl, hk, hu, kk⟩ := hrel
          by_cases hlt : k < R.length
          · have hlt' : (k : Int) < R.length := by omega
            obtain ⟨b, o, rfl, hbz, c0, c1⟩ := (Rb.out.lift kk).at k hlt
            have hst := filter_step (fun x => aheadB x (a, id)) hlt
            have hle := filter_take_le R (fun x => aheadB x (a, id)) k
            have Bk := Lib.hid (B0.out.step kk)
            have d0 := Bk.out.c0
            have d1 := Bk.out.c1
            generalize R[k] = x at *
            obtain ⟨x1, x2⟩ := x
            simp only at c0 c1 d0 d1
            have AH2 := Lib.hid (fun w => AH.out (x1, x2) w)
            have Kk := Lib.hid kk
            have U := Lib.hid hu
            have hbz' : b < wr.drew.heap.size := hbz
            have hBz' : B < wr.drew.heap.size := Bk.out.size
            have Hle := Lib.hid hle
            cases hah : aheadB (x1, x2) (a, id)
            · rw [hah, if_neg (by simp), List.append_nil] at hst
              rw [hah] at AH2
              have Hst := Lib.hid hst
              clear hst hle hu kk hah Rb Bk
              go_wp2_with fail
              have k1 : (0 : Int) ≤ k := by omega
              have k2 : k < R.length := hlt
              go_region_held3 (fun w' => w'.cell? ⟨b, o + k * 2, none⟩ = some (.int .i64 x1) ∧ w'.cell? ⟨b, o + k * 2 + 1, none⟩ = some (.int .u64 x2) ∧ w'.cell? ⟨B, 0, none⟩ = some (.int .i64 a) ∧ w'.cell? ⟨B, 1, none⟩ = some (.int .u64 id)) (first | (exact ⟨c0, c1, d0, d1⟩) | (exact ⟨(hb3.cell (p := ⟨b, o + k * 2, none⟩) hbz').trans c0, (hb3.cell (p := ⟨b, o + k * 2 + 1, none⟩) hbz').trans c1, (hb3.cell (p := ⟨B, 0, none⟩) hBz').trans d0, (hb3.cell (p := ⟨B, 1, none⟩) hBz').trans d1⟩)) (first | (go_at_call 28; refine (AH2.out _).mono ?_; rintro e w3 ⟨rfl, hb3⟩))
              have kw := Lib.hid (Kk.out.drew.trans (hb3.mono Kk.out.size))
              have U2 := Lib.hid ((show Own wr.drew _ _ _ from ⟨U.out.own.drew⟩ : Own wr.drew _ _ _).lift hb3)
              clear hb3 c0 c1 d0 d1 AH2
              go_wp2
              go_roundw
              case rel => exact ⟨k + 1, by go_num, by omega, by rw [Hst.out]; exact U2.out, kw.out⟩
              case measure => simp [intOf]; omega
            · rw [hah, if_pos rfl] at hst
              rw [hah] at AH2
              have Hst := Lib.hid hst
              have Rk := Lib.hid (fun (w' : World) (h : Below wr.heap.size wr w') => Rb.out.lift (kk.trans (h.mono kk.size)))
              clear hst hle hu kk hah Bk
              go_wp2_with fail
              have k1 : (0 : Int) ≤ k := by omega
              have k2 : k < R.length := hlt
              go_region_held3 (fun w' => w'.cell? ⟨b, o + k * 2, none⟩ = some (.int .i64 x1) ∧ w'.cell? ⟨b, o + k * 2 + 1, none⟩ = some (.int .u64 x2) ∧ w'.cell? ⟨B, 0, none⟩ = some (.int .i64 a) ∧ w'.cell? ⟨B, 1, none⟩ = some (.int .u64 id)) (first | (exact ⟨c0, c1, d0, d1⟩) | (exact ⟨(hb3.cell (p := ⟨b, o + k * 2, none⟩) hbz').trans c0, (hb3.cell (p := ⟨b, o + k * 2 + 1, none⟩) hbz').trans c1, (hb3.cell (p := ⟨B, 0, none⟩) hBz').trans d0, (hb3.cell (p := ⟨B, 1, none⟩) hBz').trans d1⟩)) (first | (go_at_call 28; refine (AH2.out _).mono ?_; rintro e w3 ⟨rfl, hb3⟩))
              have hbw : Below wr.heap.size wr w3 := (Below.refl wr.heap.size wr).drew.trans hb3
              have kw := Lib.hid (Kk.out.trans (hbw.mono Kk.out.size))
              have U2 := Lib.hid (U.out.lift hbw)
              have e0 := (hb3.cell (p := ⟨b, o + k * 2, none⟩) hbz').trans c0
              have e1 := (hb3.cell (p := ⟨b, o + k * 2 + 1, none⟩) hbz').trans c1
              have hba : Below w3.heap.size w3 (w3.alloc (.cells #[.int .i64 x1, .int .u64 x2] 38)) := (Below.refl _ _).alloc (Nat.le_refl _) _
              have O := Lib.hid (U2.out.lift hba)
              have kb := Lib.hid (kw.out.trans (hba.mono kw.out.size))
              have R1 := Lib.hid (rd_one w3 (x1, x2))
              generalize (R.take k).filter (fun x => aheadB x (a, id)) = A at *
              have hl2 : A.length ≤ 1000 := by have := Hle.out; omega
              clear hb3 hbw c0 c1 d0 d1 AH2 U U2 Rk hba
              go_wp2_with (first | (at_builtin; refine wpList_oneT rfl (.tmp 45) (.tmp 50) rfl W.heap.size _ A (x1, x2) rfl O.out ⟨w3.heap.size, 0, none⟩ 1 rfl R1.out hl2 kb.out.size ?_))
              intro v4 w4 o4 hb4 _
              have O4 := Lib.hid o4
              have K4 := Lib.hid (kb.out.trans hb4)
              clear o4 hb4 O R1
              go_wp2
              go_roundw
              case rel => exact ⟨k + 1, by go_num, by omega, by rw [Hst.out]; exact O4.out, K4.out⟩
              case measure => simp [intOf]; omega
          · have hge : (R.length : Int) ≤ k := by omega
            rw [List.take_of_length_le (by omega), Htk.out] at hu
            have Bk := Lib.hid (B0.out.step kk)
            have d0 := Bk.out.c0
            have d1 := Bk.out.c1
            simp only at d0 d1
            have hln : (R.take n).length = n := by rw [List.length_take]; omega
            have hba : Below wr.heap.size wr (wr.alloc (.cells #[.int .i64 a, .int .u64 id] 38)) := (Below.refl _ _).alloc (Nat.le_refl _) _
            obtain ⟨pu, cu, rfl, _, _, _⟩ := own_args hu
            have O := Lib.hid (hu.lift hba)
            have kb := Lib.hid (kk.trans (hba.mono kk.size))
            have R1 := Lib.hid (rd_one wr (a, id))
            have hl2 : (R.take n).length ≤ 1000 := by omega
            rw [hln] at O
            have Rd := Lib.hid (fun (w' : World) (h : Below W.heap.size W w') => (Rb.out.lift h).drop n cb hcb)
            have fin : ∀ v5 w5, Own w5 W.heap.size v5 (R.take n ++ [(a, id)] ++ R.drop n) → Below W.heap.size W w5 → Own w5 w.heap.size v5 (R.take n ++ (a, id) :: R.drop n) ∧ Below w.heap.size w w5 := fun v5 w5 h1 h2 => by
              refine ⟨?_, KW.out.trans (h2.mono KW.out.size)⟩
              have := h1.mono KW.out.size
              simpa using this
            have Fin := Lib.hid fin
            have hnR : (n : Int) ≤ R.length := by omega
            have hnc : (n : Int) ≤ cb := by omega
            have hn0 : (0 : Int) ≤ n := by omega
            have hdl : (R.drop n).length = R.length - n := List.length_drop
            have hl5 : (R.take n ++ [(a, id)]).length + (R.drop n).length ≤ 1000 := by rw [List.length_append, hln, hdl]; simp; omega
            clear hu hba kk Rb Bk fin Htk HRb
            rw [hln]
            go_wp2_with (first | (at_builtin; refine wpList_oneT rfl (.tmp 54) (.tmp 56) rfl W.heap.size _ (R.take n) (a, id) rfl O.out ⟨wr.heap.size, 0, none⟩ 1 rfl R1.out hl2 kb.out.size ?_))
            intro v4 w4 o4 hb4 _
            have O4 := Lib.hid o4
            have K4 := Lib.hid (kb.out.trans hb4)
            have R4 := Lib.hid (Rd.out w4 K4.out)
            clear o4 hb4 O R1 kb Rd
            by_cases he : cb = n
            · have hA : cutA pb cb n = pb := by unfold cutA; rw [if_pos he]
              have hz : R.drop n = [] := List.drop_eq_nil_of_le (by omega)
              have hz2 : R.length - n = 0 := by omega
              rw [hz] at Fin
              have Hz := Lib.hid hz
              clear hA R4 hz hdl
              subst he
              go_wp2_with (first | (at_builtin; refine wpList_appT rfl (.tmp 58) (.tmp 61) rfl W.heap.size _ (R.take cb ++ [(a, id)]) [] rfl O4.out pb 0 rfl (Rd.nil _ _) (fun _ => rfl) (by rw [List.length_append, hln]; simp; omega) K4.out.size ?_))
              intro v5 w5 o5 hb5
              have F5 := Lib.hid (Fin.out v5 w5 (by simpa using o5) (K4.out.trans hb5))
              clear o5 hb5
              go_wp2
              refine bodyPost_ret (v := .tuple #[_, _]) (by simp [results, Try.results11, go_sem]; exact ⟨rfl, rfl⟩) rfl ?_
              exact ⟨_, rfl, by rw [Hz.out]; exact F5.out.1, F5.out.2⟩
            · have hA : cutA pb cb n = pb.map (fun x => x.add (n * 2)) := by unfold cutA; rw [if_neg he]
              have hcn : pb.map (fun x => x.add (n * 2)) = none → cb - n = 0 := fun h => cut_nil (k := n) hnb (by rw [hA]; exact h)
              rw [hA] at R4
              go_wp2_with (first | (at_builtin; refine wpList_appT rfl (.tmp 58) (.tmp 61) rfl W.heap.size _ (R.take n ++ [(a, id)]) (R.drop n) rfl O4.out (pb.map (fun x => x.add (n * 2))) (cb - n) (by rw [hdl]; rfl) R4.out hcn hl5 K4.out.size ?_))
              intro v5 w5 o5 hb5
              have F5 := Lib.hid (Fin.out v5 w5 (by simpa using o5) (K4.out.trans hb5))
              clear o5 hb5
              go_wp2
              refine bodyPost_ret (v := .tuple #[_, _]) (by simp [results, Try.results11, go_sem]; exact ⟨rfl, rfl⟩) rfl ?_
              exact ⟨_, rfl, F5.out.1, F5.out.2⟩
    · have hp : setP X id a = ([], 1) := setP_bad ta
      rw [hp]
      clear hp hm S
      by_cases a0 : a < 0
      · clear ta
        go_enter Try.func11, Try.ntmps11
        go_wp2_with fail
        refine M.out.mono ?_
        rintro e w1 ⟨rfl, hb1⟩
        go_wp2
        refine bodyPost_ret (v := .tuple #[_, _]) (by simp [results, Try.results11, go_sem]; exact ⟨rfl, rfl⟩) rfl ?_
        exact ⟨_, rfl, Own.nil _ _, hb1⟩
      · have a1 : (1099511627775 : Int) < a := by omega
        have a0d : decide (a < 0) = false := by simpa using a0
        clear ta
        go_enter Try.func11, Try.ntmps11
        go_wp2_with fail
        refine M.out.mono ?_
        rintro e w1 ⟨rfl, hb1⟩
        go_wp2
        refine bodyPost_ret (v := .tuple #[_, _]) (by simp [results, Try.results11, go_sem]; exact ⟨rfl, rfl⟩) rfl ?_
        exact ⟨_, rfl, Own.nil _ _, hb1⟩
end Go.Proofs.Ytgipohicgbppaaa
