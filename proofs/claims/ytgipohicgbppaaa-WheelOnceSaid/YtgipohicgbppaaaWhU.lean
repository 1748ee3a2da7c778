/- Layer 11: the contract of the document's May: its walk. -/
import Derived.Test.YtgipohicgbppaaaWhT
namespace Go.Proofs.Ytgipohicgbppaaa
open Go.RowKit Go.Shelf
set_option linter.unusedSimpArgs false in
set_option linter.unusedVariables false in
set_option maxHeartbeats 4000000 in
set_option maxRecDepth 100000 in
theorem may_any (X : List Tm) (pa : Option Addr) (cap : Nat) (w : World) (hX : X.length ≤ 130) (hR : Rd w pa X) :
    Calls Try.prog 16 #[.slice pa X.length cap] w fun e w' => e = .returned (.bool (mayT X)) ∧ Below w.heap.size w w' := by
  obtain ⟨V, hV⟩ : ∃ V, V = mayT X := ⟨_, rfl⟩
  rw [← hV]
  have HV := Lib.hid hV
  have HR := Lib.hid hR
  have hXi : (X.length : Int) ≤ 130 := by omega
  clear hV hR
  go_enter Try.func16, Try.ntmps16
  go_wp2_with fail
  go_loopw [3] (fun i wx => ∃ k : Nat, i = .int .i64 k ∧ k ≤ X.length ∧ Hid (MayPre (X.take k)) ∧ Below w.heap.size w wx) (fun i _ => X.length - (intOf i).toNat)
  case atStart => exact ⟨0, rfl, Nat.zero_le _, Lib.hid MayPre.nil, Below.refl _ _⟩
  case round =>
    obtain ⟨k, rfl, hk, hp, kk⟩ := hrel
    by_cases hlt : k < X.length
    · have hlt' : (k : Int) < X.length := by omega
      obtain ⟨b, o, rfl, hbz, c0, c1⟩ := (HR.out.lift kk).at k hlt
      have hlast := fun h => pre_last hlt h
      have hstep := pre_step hlt hp.out
      have HL := Lib.hid hlast
      have HS := Lib.hid hstep
      clear hlast hstep
      have kd := Lib.hid kk.drew
      generalize hx : X[k] = x at *
      obtain ⟨x1, x2⟩ := x
      simp only at c0 c1
      by_cases h1 : x1 < 0
      · have hv : V = false := by
          rw [HV.out]
          refine not_pre (k := k + 1) fun h => ?_
          have := (HL.out h).1.1
          simp only at this; omega
        subst hv
        clear HL HS hx
        go_wp2_with fail
        have k1 : (0 : Int) ≤ k := by omega
        have k2 : k < X.length := hlt
        have h1d : decide (x1 < 0) = true := by simpa using h1
        go_region
        go_wp2
        go_ret
        exact ⟨rfl, kd.out⟩
      · have h1d : decide (x1 < 0) = false := by simpa using h1
        by_cases h2 : 1099511627775 < x1
        · have hv : V = false := by
            rw [HV.out]
            refine not_pre (k := k + 1) fun h => ?_
            have := (HL.out h).1.2
            simp only at this; omega
          subst hv
          clear HL HS hx
          go_wp2_with fail
          have k1 : (0 : Int) ≤ k := by omega
          have k2 : k < X.length := hlt
          have h2d : decide (1099511627775 < x1) = true := by simpa using h2
          go_region
          go_wp2
          go_ret
          exact ⟨rfl, kd.out⟩
        · have h2d : decide (1099511627775 < x1) = false := by simpa using h2
          have ht : 0 ≤ x1 ∧ x1 ≤ 1099511627775 := by omega
          have HS2 := Lib.hid (HS.out ht)
          clear HS
          rcases Nat.eq_zero_or_pos k with h0 | h0
          · subst h0
            clear HL
            have Hp := Lib.hid (HS2.out (fun h => absurd h (by omega)) (fun j hj => absurd hj (by omega)))
            clear HS2 ht
            go_wp2_with fail
            have k2 : 0 < X.length := hlt
            have c0' : wr.cell? ⟨b, o, none⟩ = some (.int .i64 x1) := by simpa using c0
            have c1' : wr.cell? ⟨b, o + 1, none⟩ = some (.int .u64 x2) := by simpa using c1
            clear c0 c1
            go_region
            go_wp2_with fail
            go_loopw [4] (fun i wx => i = .int .i64 0 ∧ Below w.heap.size w wx) (fun i _ => (intOf i).toNat)
            case atStart => exact ⟨rfl, kd.out⟩
            case round =>
              obtain ⟨rfl, kk2⟩ := hrel
              go_wp2
              go_roundw
              case rel => exact ⟨1, by go_num, by omega, Hp, kk2⟩
              case measure => simp [intOf]; omega
          · obtain ⟨m, rfl⟩ : ∃ m, k = m + 1 := ⟨k - 1, by omega⟩
            have hkm : m < X.length := by omega
            obtain ⟨b', o', e', hbz2, q0, q1⟩ := (HR.out.lift kk).at m hkm
            obtain ⟨rfl, rfl⟩ : b = b' ∧ o = o' := by cases e'; exact ⟨rfl, rfl⟩
            clear e' hbz2
            have HL2 := Lib.hid (fun h => show ltT (X[m]'hkm) (x1, x2) from (HL.out h).2.1 h0)
            have HS3 := Lib.hid (fun (hl : ltT (X[m]'hkm) (x1, x2)) => HS2.out (fun _ => hl))
            have HN := Lib.hid (fun h => (HL.out h).2.2)
            clear HS2 HL
            generalize hy : X[m] = y at *
            obtain ⟨y1, y2⟩ := y
            simp only at q0 q1
            have AH := Lib.hid (fun w => ahead_any (y1, y2) (x1, x2) w)
            have hbz' : b < wr.drew.heap.size := hbz
            cases ha : aheadB (y1, y2) (x1, x2)
            · have hv : V = false := by
                rw [HV.out]
                refine not_pre (k := m + 1 + 1) fun h => ?_
                have := (aheadB_iff _ _).2 (HL2.out h)
                rw [ha] at this; cases this
              subst hv
              rw [ha] at AH
              clear HL2 HS3 hx hy ha HR HN
              go_wp2_with fail
              have k0 : (0 : Int) ≤ m := by omega
              have k1 : (m : Int) < X.length := by omega
              have k5 : (m : Int) + 1 < X.length := by omega
              have k6 : (0 : Int) ≤ (m : Int) + 1 := by omega
              have k8 : (0 : Int) < (m : Int) + 1 := by omega
              have k9 : decide ((0 : Int) < (m : Int) + 1) = true := by simp
              have w3 : wrap64 (m : Int) = m := by unfold wrap64; omega
              have w4 : IntKind.i64.wrap (m : Int) = m := IntWalk.i64_in _ (by omega)
              have k7 : ((m : Int) + 1).toNat = m + 1 := by omega
              have w1 : wrap64 ((m : Int) + 1 - 1) = m := by unfold wrap64; omega
              have w2 : IntKind.i64.wrap ((m : Int) + 1 - 1) = m := by rw [show (m : Int) + 1 - 1 = m by omega]; exact IntWalk.i64_in _ (by omega)
              go_region_held3 (fun w' => w'.cell? ⟨b, o + m * 2, none⟩ = some (.int .i64 y1) ∧ w'.cell? ⟨b, o + m * 2 + 1, none⟩ = some (.int .u64 y2) ∧ w'.cell? ⟨b, o + (m + 1) * 2, none⟩ = some (.int .i64 x1) ∧ w'.cell? ⟨b, o + (m + 1) * 2 + 1, none⟩ = some (.int .u64 x2)) (first | (exact ⟨q0, q1, c0, c1⟩) | (exact ⟨(hb1.cell (p := ⟨b, o + m * 2, none⟩) hbz').trans q0, (hb1.cell (p := ⟨b, o + m * 2 + 1, none⟩) hbz').trans q1, (hb1.cell (p := ⟨b, o + (m + 1) * 2, none⟩) hbz').trans c0, (hb1.cell (p := ⟨b, o + (m + 1) * 2 + 1, none⟩) hbz').trans c1⟩)) (first | (go_at_call 28; refine (AH.out _).mono ?_; rintro e w1 ⟨rfl, hb1⟩))
              have kw := kd.out.trans (hb1.mono kd.out.size)
              clear hb1
              go_wp2
              go_ret
              exact ⟨rfl, kw⟩
            · have hl := (aheadB_iff _ _).1 ha
              have HS4 := Lib.hid (HS3.out hl)
              rw [ha] at AH
              clear HL2 HS3 hl ha hy
              go_wp2_with fail
              have k0 : (0 : Int) ≤ m := by omega
              have k1 : (m : Int) < X.length := by omega
              have k5 : (m : Int) + 1 < X.length := by omega
              have k6 : (0 : Int) ≤ (m : Int) + 1 := by omega
              have k8 : (0 : Int) < (m : Int) + 1 := by omega
              have k9 : decide ((0 : Int) < (m : Int) + 1) = true := by simp
              have w3 : wrap64 (m : Int) = m := by unfold wrap64; omega
              have w4 : IntKind.i64.wrap (m : Int) = m := IntWalk.i64_in _ (by omega)
              have k7 : ((m : Int) + 1).toNat = m + 1 := by omega
              have w1 : wrap64 ((m : Int) + 1 - 1) = m := by unfold wrap64; omega
              have w2 : IntKind.i64.wrap ((m : Int) + 1 - 1) = m := by rw [show (m : Int) + 1 - 1 = m by omega]; exact IntWalk.i64_in _ (by omega)
              go_region_held3 (fun w' => w'.cell? ⟨b, o + m * 2, none⟩ = some (.int .i64 y1) ∧ w'.cell? ⟨b, o + m * 2 + 1, none⟩ = some (.int .u64 y2) ∧ w'.cell? ⟨b, o + (m + 1) * 2, none⟩ = some (.int .i64 x1) ∧ w'.cell? ⟨b, o + (m + 1) * 2 + 1, none⟩ = some (.int .u64 x2)) (first | (exact ⟨q0, q1, c0, c1⟩) | (exact ⟨(hb1.cell (p := ⟨b, o + m * 2, none⟩) hbz').trans q0, (hb1.cell (p := ⟨b, o + m * 2 + 1, none⟩) hbz').trans q1, (hb1.cell (p := ⟨b, o + (m + 1) * 2, none⟩) hbz').trans c0, (hb1.cell (p := ⟨b, o + (m + 1) * 2 + 1, none⟩) hbz').trans c1⟩)) (first | (go_at_call 28; refine (AH.out _).mono ?_; rintro e w1 ⟨rfl, hb1⟩))
              have kw := Lib.hid (kd.out.trans (hb1.mono kd.out.size))
              clear hb1 c0 c1 q0 q1 AH
              go_wp2_with fail
              go_loopw [4] (fun i wx => ∃ j : Nat, i = .int .i64 j ∧ j ≤ m + 1 ∧ Hid (∀ l (hl : l < j) (hx : l < X.length), X[l].2 ≠ x2) ∧ Below w.heap.size w wx) (fun i _ => m + 1 - (intOf i).toNat)
              case atStart => exact ⟨0, rfl, Nat.zero_le _, Lib.hid (fun l hl => absurd hl (by omega)), kw.out⟩
              case round =>
                obtain ⟨j, rfl, hj, hno, kk2⟩ := hrel
                by_cases hjm : j < m + 1
                · have hjX : j < X.length := by omega
                  have hjmi : (j : Int) < (m : Int) + 1 := by omega
                  obtain ⟨b', o', e', _, _, q1⟩ := (HR.out.lift kk2).at j hjX
                  obtain ⟨rfl, rfl⟩ : b = b' ∧ o = o' := by cases e'; exact ⟨rfl, rfl⟩
                  clear e'
                  obtain ⟨b', o', e', _, _, c1⟩ := (HR.out.lift kk2).at (m + 1) hlt
                  obtain ⟨rfl, rfl⟩ : b = b' ∧ o = o' := by cases e'; exact ⟨rfl, rfl⟩
                  clear e'
                  rw [hx] at c1
                  have kd2 := Lib.hid kk2.drew
                  generalize hz : X[j] = z at *
                  obtain ⟨z1, z2⟩ := z
                  simp only at q1 c1
                  by_cases he : z2 = x2
                  · have hv : V = false := by
                      rw [HV.out]
                      refine not_pre (k := m + 1 + 1) fun h => ?_
                      have := HN.out h j hjm
                      rw [hz] at this
                      exact this he
                    subst hv
                    subst he
                    clear HN HS4 hno hx hz HR
                    go_wp2_with fail
                    have i0 : (0 : Int) ≤ j := by omega
                    have i1 : (j : Int) < X.length := by omega
                    have i2 : j < X.length := hjX
                    have i3 : m + 1 < X.length := hlt
                    have k5 : (m : Int) + 1 < X.length := by omega
                    have k6 : (0 : Int) ≤ (m : Int) + 1 := by omega
                    have k7 : ((m : Int) + 1).toNat = m + 1 := by omega
                    go_region
                    go_wp2
                    go_ret
                    exact ⟨rfl, kd2.out⟩
                  · have hno2 := Lib.hid (fun l (hl : l < j + 1) (hxl : l < X.length) => show X[l].2 ≠ x2 by
                      rcases Nat.lt_or_ge l j with h | h
                      · exact hno.out l h hxl
                      · obtain rfl : l = j := by omega
                        rw [hz]; exact he)
                    clear HN HS4 hno hx hz HR
                    go_wp2_with fail
                    have i0 : (0 : Int) ≤ j := by omega
                    have i1 : (j : Int) < X.length := by omega
                    have i2 : j < X.length := hjX
                    have i3 : m + 1 < X.length := hlt
                    have k5 : (m : Int) + 1 < X.length := by omega
                    have k6 : (0 : Int) ≤ (m : Int) + 1 := by omega
                    have k7 : ((m : Int) + 1).toNat = m + 1 := by omega
                    go_region
                    go_wp2
                    go_roundw
                    case rel => exact ⟨j + 1, by go_num, by omega, hno2, kd2.out⟩
                    case measure => simp [intOf]; omega
                · have hge : ¬ (j : Int) < (m : Int) + 1 := by omega
                  have hged : decide ((j : Int) < (m : Int) + 1) = false := by simpa using hge
                  have Hp := Lib.hid (HS4.out (fun l hl => hno.out l (by omega) (by omega)))
                  clear HN HS4 hno hx
                  go_wp2
                  go_roundw
                  case rel => exact ⟨m + 1 + 1, by go_num, by omega, Hp, kk2⟩
                  case measure => simp [intOf]; omega
    · have hge : (X.length : Int) ≤ k := by omega
      have hv : V = decide (X.length ≤ 120) := by
        have h2 := hp.out
        rw [List.take_of_length_le (by omega)] at h2
        rw [HV.out]
        by_cases h : X.length ≤ 120
        · rw [(mayT_iff X).2 ((mayT_pre X).2 ⟨h, h2⟩)]; simp [h]
        · cases e : mayT X
          · simp [h]
          · exact absurd (mayT_len e) h
      clear HR hp
      by_cases h : X.length ≤ 120
      · have hi : (X.length : Int) ≤ 120 := by omega
        obtain rfl : V = true := by rw [hv]; simpa using h
        clear hv HV
        go_wp2
        go_ret
        exact ⟨rfl, kk⟩
      · have hi : ¬ (X.length : Int) ≤ 120 := by omega
        obtain rfl : V = false := by rw [hv]; simpa using h
        clear hv HV
        go_wp2
        go_ret
        exact ⟨rfl, kk⟩
end Go.Proofs.Ytgipohicgbppaaa
