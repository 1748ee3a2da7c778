/- Layer 11: the walk of WheelOnce. -/
import Derived.Test.YtgipohicgbppaaaWhW
import Derived.Test.YtgipohicgbppaaaLsBytes
namespace Go.Proofs.Ytgipohicgbppaaa
open Go.RowKit Go.Shelf Go.Maps
set_option linter.unusedVariables false
set_option linter.unusedSimpArgs false
theorem lawU : Keyed Try.prog 23 := int_keyed Try.underlying23
theorem zeroI (w : World) : (zeroValue 3).run Try.prog w = .ok (.int .i64 0) w := by kernel_rfl
theorem lit_inj {a b : Int} (h : (DataW.lit (.int .i64 a) : DataW Unit) = .lit (.int .i64 b)) : a = b := by injection h with h; injection h
structure Mp (w : World) (b n : Nat) (D : DataW Unit) : Prop where
  own : w.ownsMap Try.prog 23 (plainElem Try.prog 3) b n D
theorem Mp.lift {w w' : World} {b n : Nat} {D : DataW Unit} (h : Mp w b n D) (hb : Below w.heap.size w w') : Mp w' b n D := ⟨lsMap_lift h.own hb⟩
theorem Mp.lt {w : World} {b n : Nat} {D : DataW Unit} (h : Mp w b n D) : b < w.heap.size := by
  obtain ⟨es, clock, h1, _⟩ := h.own
  exact (Array.getElem?_eq_some_iff.1 h1).1
structure Cl (b o : Nat) (v : Value) (w : World) : Prop where
  c : w.cell? ⟨b, o, none⟩ = some v
  lt : b < w.heap.size
theorem Cl.lift {b o : Nat} {v : Value} {w w' : World} (h : Cl b o v w) (hb : Below w.heap.size w w') : Cl b o v w' := ⟨(hb.cell (p := ⟨b, o, none⟩) h.lt).trans h.c, Nat.lt_of_lt_of_le h.lt hb.size⟩
theorem own_kept {w w' : World} {base B : Nat} {v : Value} {L : List Tm} (h : Own w base v L) (hg : w.grownBy w' (some B)) (hB : B < base) : Own w' base v L :=
  ⟨h.own.kept hg (.inr fun e => by have := own_base h.own B e; omega)⟩
theorem ownU_kept {w w' : World} {base B : Nat} {v : Value} {L : List Int} (h : OwnU w base v L) (hg : w.grownBy w' (some B)) (hB : B < base) : OwnU w' base v L :=
  ⟨h.own.kept hg (.inr fun e => by have := own_base h.own B e; omega)⟩
theorem ringP_may {L : List Tm} (h : mayT L = true) (a : Int) : ringP L a = (L.drop (laterL L a), (L.take (laterL L a)).map (·.2)) := by unfold ringP; rw [h, if_pos rfl]
set_option maxHeartbeats 16000000 in
set_option maxRecDepth 100000 in
theorem wheelOnce_walk (X Z : List Int) (pa pz : Option Addr) (ca cz : Nat) (w : World) (hXm : X.length ≤ 9223372036854775807) (hZm : Z.length ≤ 9223372036854775807) (hX : RdI .u8 w pa X) (hZ : RdI .u8 w pz Z) (hXb : ∀ x ∈ X, 0 ≤ x ∧ x ≤ 255) (hZb : ∀ x ∈ Z, 0 ≤ x ∧ x ≤ 255) :
    Calls Try.prog 6 #[.slice pa X.length ca, .slice pz Z.length cz] w fun e w' => e = .returned (.bool true) ∧ Below w.heap.size w w' := by
  have hmm := @run_makeMap Try.prog
  have HX := Lib.hid hX
  have HZ := Lib.hid hZ
  have XB := Lib.hid hXb
  have ZB := Lib.hid hZb
  have AW := Lib.hid awake_any
  clear hX hZ hXb hZb
  go_enter Try.func6, Try.ntmps6
  go_wp2_with fail
  go_loopw [5, 7, 8] (fun v nw i wx => ∃ (k : Nat) (L : List Tm) (D : DataW Unit) (now : Int), i = .int .i64 k ∧ nw = .int .i64 now ∧ k ≤ X.length ∧ k ≤ 100 ∧ 0 ≤ now ∧ now ≤ 255 * k ∧ Own wx (w.heap.size + 1) v L ∧ Mp wx w.heap.size k D ∧ Hid (InvW L D) ∧ Below w.heap.size w wx) (fun _ _ i _ => 100 - (intOf i).toNat)
  case atStart => exact ⟨0, [], .map [], 0, rfl, rfl, Nat.zero_le _, Nat.zero_le _, by omega, by omega, Own.nil _ _, ⟨World.ownsMap_made _ _ _ _⟩, Lib.hid InvW.start, (Below.refl _ _).alloc (Nat.le_refl _) _⟩
  case round =>
    obtain ⟨k, L, D, now, rfl, rfl, hk, hk100, hn0, hn1, ho, hmp, hinv, kk⟩ := hrel
    by_cases hc : k < X.length ∧ k < 100
    · obtain ⟨hlt, h100⟩ := hc
      have i1 : (k : Int) < X.length := by omega
      have i3 : (k : Int) < 100 := by omega
      obtain ⟨b, o, rfl, hbz, c0⟩ := (HX.out.lift kk (Nat.le_refl _)).at k hlt
      have xb := XB.out _ (List.getElem_mem hlt)
      generalize X[k] = x at *
      obtain ⟨x0, x1⟩ := xb
      have hlen := hinv.out.len
      have hL : L.length ≤ 130 := by omega
      have hmay : mayT L = true := (mayT_iff L).2 hinv.out.may
      have m0 : (0 : Int) ≤ x % 8 := by omega
      have m1 : x % 8 < 8 := by omega
      have m2 : (0 : Int) ≤ x % 5 := by omega
      have m3 : x % 5 < 5 := by omega
      have hkey : keyOf Try.prog 23 (.int .u64 (x % 8)) = some (kU (x % 8)) := keyOf_int_mk Try.underlying23 (WalkArith.wf_u64 (by omega))
      have HK := Lib.hid hkey
      obtain ⟨pl, cl, rfl, hcl, hrl, hnl⟩ := own_args ho
      have RL := Lib.hid hrl
      have OL := Lib.hid ho
      have MP := Lib.hid hmp
      have CX := Lib.hid (Cl.mk c0 hbz)
      have KA := Lib.hid kk
      clear hrl ho hmp hkey kk hXm hZm
      have hk255 : (k : Int) ≤ 100 := by omega
      by_cases hz : k < Z.length
      · have i2 : (k : Int) < Z.length := by omega
        obtain ⟨b2, o2, rfl, hbz2, d0⟩ := (HZ.out.lift KA.out (Nat.le_refl _)).at k hz
        have zb := ZB.out _ (List.getElem_mem hz)
        generalize Z[k] = z at *
        obtain ⟨z0, z1⟩ := zb
        have CZ := Lib.hid (Cl.mk d0 hbz2)
        by_cases h5 : x % 5 = 0
        · have h5b : (x % 5 == 0) = true := by simpa using h5
          clear h5
          have INV := Lib.hid (hinv.out.stop (x % 8))
          have hh := hinv.out.has (x % 8)
          have ST := Lib.hid (fun w hR => stop_any L pl cl (x % 8) w hL hcl hR hnl)
          rw [hmay] at ST
          simp only [Bool.true_and, if_true] at ST
          have hsl := stopL_len L (x % 8)
          generalize stopL L (x % 8) = M at *
          generalize hasB L (x % 8) = hb at *
          have hmM : mayT M = true := (mayT_iff M).2 INV.out.may
          have CM := Lib.hid (fun pa cap w hR => check_any M pa cap w (by omega) hR)
          rw [hmM] at CM
          clear hmM hmay
          have hB5 := Lib.hid MP.out.lt
          have T1 := Lib.hid (ST.out wr RL.out)
          go_wp2_with fail
          refine T1.out.mono ?_
          rintro e w1 ⟨v5, rfl, oq5, hb1⟩
          have K1 := Lib.hid (KA.out.trans (hb1.mono KA.out.size))
          have RL1_ := Lib.hid (RL.out.lift hb1)
          have OL1_ := Lib.hid (OL.out.lift hb1)
          have MP1_ := Lib.hid (MP.out.lift hb1)
          have CX1_ := Lib.hid (CX.out.lift hb1)
          have CZ1_ := Lib.hid (CZ.out.lift hb1)
          clear T1 hb1 KA RL OL MP CX CZ
          have O5 := Lib.hid (oq5.mono (show w.heap.size + 1 ≤ _ from hB5.out))
          clear oq5 hB5
          obtain ⟨p5, c5, rfl, hc5, hr5, hn5⟩ := own_args O5.out
          clear hr5
          have cx1 := CX1_.out.c
          have HSZ := Lib.hid INV.out.size
          cases hb
          all_goals
            go_wp2_with (first | (at_lookup; refine wpList_lookup_own_ok_int _ rfl _ _ 51 rfl 23 3 .i64 lawU Try.underlying51 Try.underlying3 (zeroI _) w.heap.size k _ rfl MP1_.out.own _ _ rfl HK.out ?_; intro c hat hwc) | (at_delete; refine wpList_delete_own _ rfl _ _ 51 23 rfl 3 lawU Try.underlying51 _ w.heap.size k _ rfl MP1_.out.own _ _ rfl HK.out ?_; intro w10 hown10 hturn10) | (at_len; refine wpList_len_own _ rfl _ 51 rfl 23 3 Try.underlying51 _ w.heap.size _ _ rfl hown10 ?_; rw [HSZ.out]))
            have O6 := Lib.hid (own_kept O5.out hturn10.grown (by omega))
            have K6 := Lib.hid (K1.out.grown hturn10.grown K1.out.size (fun j hj => by cases hj; exact Nat.le_refl _))
            obtain ⟨p6, c6, e6, _, hr6, _⟩ := own_args O6.out
            obtain ⟨rfl, rfl⟩ : p5 = p6 ∧ c5 = c6 := by cases e6; exact ⟨rfl, rfl⟩
            have C6 := Lib.hid (CM.out p5 c5 w10 hr6)
            have M6 := Lib.hid (Mp.mk hown10)
            clear e6 hr6 hown10 hturn10
            refine C6.out.mono ?_
            rintro e w11 ⟨rfl, hb11⟩
            have O7 := Lib.hid (O6.out.lift hb11)
            have K7 := Lib.hid (K6.out.trans (hb11.mono K6.out.size))
            have M7 := Lib.hid (M6.out.lift hb11)
            clear hb11 C6
            go_wp2
            go_roundw
            case rel => exact ⟨k + 1, M, _, now, by go_num, rfl, by omega, by omega, hn0, by omega, O7.out, ⟨M7.out.own.mono (by omega)⟩, INV, K7.out⟩
            case measure => simp [intOf]; omega
        · have h5b : (x % 5 == 0) = false := by simpa using h5
          by_cases h6 : x % 5 = 1
          · have h6b : (x % 5 == 1) = true := by simpa using h6
            clear h5 h6
            have hq := later_at (now := now + z) hinv.out.may
            have RG := Lib.hid (fun w hR => ring_any L pl cl (now + z) w hL hcl hR hnl)
            rw [ringP_may hmay] at RG
            try simp only at RG
            have hql : laterL L (now + z) ≤ L.length := plL_le _ _
            generalize laterL L (now + z) = q at *
            obtain ⟨hq1, hq2⟩ := hq
            have hRl : ((L.take q).map (·.2)).length = q := by simp; omega
            have hRg : ∀ j (h : j < ((L.take q).map (·.2)).length) (h2 : j < L.length), ((L.take q).map (·.2))[j] = (L[j]).2 := fun j h h2 => by simp
            generalize (L.take q).map (·.2) = R at *
            have HM := Lib.hid (show L.drop q = L.drop q from rfl)
            have hMl : (L.drop q).length ≤ 8 := by simp; omega
            generalize hMM : L.drop q = M at HM RG hq2 hMl
            have HMM := Lib.hid hMM
            clear hMM HM
            have HQ1 := Lib.hid hq1
            have HQ2 := Lib.hid hq2
            have HRG := Lib.hid hRg
            have HRL := Lib.hid hRl
            have CM := Lib.hid (fun pa cap w hR => check_any M pa cap w (by omega) hR)
            clear hq1 hq2 hRg hRl hmay
            have hB5 := Lib.hid MP.out.lt
            have T2 := Lib.hid (RG.out wr RL.out)
            go_wp2_with fail
            refine T2.out.mono ?_
            rintro e w2 ⟨v5, u5, rfl, oq5, oqu5, hb2⟩
            have K2 := Lib.hid (KA.out.trans (hb2.mono KA.out.size))
            have RL2_ := Lib.hid (RL.out.lift hb2)
            have OL2_ := Lib.hid (OL.out.lift hb2)
            have MP2_ := Lib.hid (MP.out.lift hb2)
            have CX2_ := Lib.hid (CX.out.lift hb2)
            have CZ2_ := Lib.hid (CZ.out.lift hb2)
            clear T2 hb2 KA RL OL MP CX CZ
            have O5 := Lib.hid (oq5.mono (show w.heap.size + 1 ≤ _ from hB5.out))
            have U5 := Lib.hid (oqu5.mono (show w.heap.size + 1 ≤ _ from hB5.out))
            clear oq5 hB5 oqu5
            obtain ⟨p5, c5, rfl, hc5, hr5, hn5⟩ := own_args O5.out
            obtain ⟨pu, cu, rfl, hcu, hru⟩ := U5.out.rd
            clear hr5 hru
            have hRi : (R.length : Int) = q := by rw [HRL.out]
            have HRi := Lib.hid hRi
            clear hRi
            go_wp2_with fail
            go_loopw [17] (fun i wx => ∃ (j : Nat) (D2 : DataW Unit), i = .int .i64 j ∧ j ≤ q ∧ Own wx (w.heap.size + 1) (.slice p5 M.length c5) M ∧ OwnU wx (w.heap.size + 1) (.slice pu R.length cu) R ∧ Mp wx w.heap.size k D2 ∧ Hid (InvW (L.drop j) D2) ∧ Below w.heap.size w wx) (fun i _ => q - (intOf i).toNat)
            case atStart => exact ⟨0, D, rfl, Nat.zero_le _, O5.out, U5.out, MP2_.out, Lib.hid (by rw [List.drop_zero]; exact hinv.out), K2.out⟩
            case round =>
              obtain ⟨j, D2, rfl, hj, oM, oR, mp, iv, kk⟩ := hrel
              by_cases hlj : j < q
              · have hjL : j < L.length := by omega
                have hjR : j < R.length := by have := HRL.out; omega
                have hjRi : (j : Int) < R.length := by omega
                have hj0 : (0 : Int) ≤ j := by omega
                obtain ⟨pu2, cu2, e2, _, hru⟩ := oR.rd
                obtain ⟨rfl, rfl⟩ : pu = pu2 ∧ cu = cu2 := by cases e2; exact ⟨rfl, rfl⟩
                clear e2
                obtain ⟨b3, o3, e3, hbz3, d3⟩ := hru.at j hjR
                rw [HRG.out j hjR hjL] at d3
                have hdr : L.drop j = L[j] :: L.drop (j + 1) := List.drop_eq_getElem_cons hjL
                have iv2 := iv.out
                rw [hdr] at iv2
                have hdue := HQ1.out j hjL hlj
                have hat := iv2.at_ L[j] List.mem_cons_self
                have hhas : Maps.has D2 (kU L[j].2) = true := by rw [iv2.has]; exact (hasB_mem _ _).2 ⟨L[j], List.mem_cons_self, rfl⟩
                have hof := iv2.of L[j] List.mem_cons_self
                have INJ := Lib.hid iv2.head
                generalize L[j] = y at *
                obtain ⟨y1, y2⟩ := y
                simp only at d3 hdue hat hhas hof INJ
                subst e3
                have HVL := Lib.hid hat
                have hdued : decide ((now + z) < y1) = false := by simpa using hdue
                have HK2 := Lib.hid (show keyOf Try.prog 23 (.int .u64 y2) = some (kU y2) from keyOf_int_mk Try.underlying23 (WalkArith.wf_u64 (by omega)))
                have Mpj := Lib.hid mp
                have Kj := Lib.hid kk
                have Omj := Lib.hid oM
                have Orj := Lib.hid oR
                clear hdr iv2 hat hru mp kk oM oR iv
                go_wp2_with (first | (at_lookup; refine wpList_lookup_own_ok_int _ rfl _ _ 51 rfl 23 3 .i64 lawU Try.underlying51 Try.underlying3 (zeroI _) w.heap.size k _ rfl Mpj.out.own _ _ rfl HK2.out ?_; intro c hat hwc; obtain rfl : y1 = c := (lit_inj (hat.symm.trans (HVL.out _))).symm; rw [hhas]) | (at_delete; refine wpList_delete_own _ rfl _ _ 51 23 rfl 3 lawU Try.underlying51 _ w.heap.size k _ rfl Mpj.out.own _ _ rfl HK2.out ?_; intro w10 hown10 hturn10))
                go_roundw
                case rel => exact ⟨j + 1, _, by go_num, by omega, own_kept Omj.out hturn10.grown (by omega), ownU_kept Orj.out hturn10.grown (by omega), ⟨hown10⟩, INJ, Kj.out.grown hturn10.grown Kj.out.size (fun i hi => by cases hi; exact Nat.le_refl _)⟩
                case measure => simp [intOf]; omega
              · have hge : ¬ (j : Int) < R.length := by have := HRi.out; omega
                have hged : decide ((j : Int) < R.length) = false := by simpa using hge
                obtain rfl : j = q := by omega
                obtain ⟨wo, rfl⟩ : ∃ wo : World, wo = wr := ⟨_, rfl⟩
                have ivM := iv.out
                rw [HMM.out] at ivM
                have IVM := Lib.hid ivM
                have Om := Lib.hid oM
                have Kq := Lib.hid kk
                have Mpq := Lib.hid mp
                have HSZ := Lib.hid ivM.size
                have hmM : mayT M = true := (mayT_iff M).2 ivM.may
                rw [hmM] at CM
                clear iv oM oR kk mp ivM hmM
                go_wp2_with (first | (at_range; refine wpList_range_own _ rfl _ 51 rfl 23 3 lawU Try.underlying51 _ w.heap.size k D2 rfl Mpq.out.own ?_; intro w20 hrg0 hg0 hs0))
                try go_frame
                have hb20 : Below wo.heap.size wo w20 := (Below.refl _ _).grown hg0 (Nat.le_refl _) (fun i hi => by cases hi)
                clear hg0 hs0
                go_loopw [21] (fun _ wx => ∃ (left : Lit → Bool) (cnt : Nat), wx.ranges Try.prog 23 (plainElem Try.prog 3) w.heap.size wo.heap.size k D2 left cnt ∧ (∀ id : Int, left (kU id) = true → Maps.has D2 (kU id) = true) ∧ Below wo.heap.size wo wx) (fun _ wx => wx.rangeLeft w.heap.size wo.heap.size)
                case atStart => exact ⟨_, _, hrg0, fun id h => h, hb20⟩
                case round =>
                  obtain ⟨left, cnt, hrg, hlf, kb⟩ := hrel
                  have HLF := Lib.hid hlf
                  have Kb := Lib.hid kb
                  clear hlf kb
                  go_wp2_with (first | (at_next; refine wpList_next_ranges_ii _ rfl _ rfl 23 3 .u64 .i64 lawU Try.underlying23 Try.underlying3 w.heap.size wo.heap.size k _ _ _ rfl hrg ?_ ?_))
                  · intro _ hl0
                    have Mpn := Lib.hid (Mp.mk hrg.owns)
                    have O7 := Lib.hid (Om.out.lift Kb.out)
                    have K7 := Lib.hid (Kq.out.trans (Kb.out.mono Kq.out.size))
                    obtain ⟨p6, c6, e6, _, hr6, _⟩ := own_args O7.out
                    obtain ⟨rfl, rfl⟩ : p5 = p6 ∧ c5 = c6 := by cases e6; exact ⟨rfl, rfl⟩
                    have C6 := Lib.hid (CM.out p5 c5 wr hr6)
                    clear e6 hr6 hl0 hrg
                    go_wp2_with (first | (at_len; refine wpList_len_own _ rfl _ 51 rfl 23 3 Try.underlying51 _ w.heap.size _ _ rfl Mpn.out.own ?_; rw [HSZ.out]))
                    refine C6.out.mono ?_
                    rintro e w11 ⟨rfl, hb11⟩
                    have O8 := Lib.hid (O7.out.lift hb11)
                    have K8 := Lib.hid (K7.out.trans (hb11.mono K7.out.size))
                    have M8 := Lib.hid (Mpn.out.lift hb11)
                    clear hb11 C6
                    go_wp2
                    go_roundw
                    case rel => exact ⟨k + 1, M, D2, now + z, by go_num, rfl, by omega, by omega, by omega, by omega, O8.out, ⟨M8.out.own.mono (by omega)⟩, IVM, K8.out⟩
                    case measure => simp [intOf]; omega
                  · intro x5 c w21 cnt1 hwx hwc hlx hat hrg1 hlt9 hg1 hs1 hen
                    have hc5 : (now + z) < c := by
                      have h1 := HLF.out x5 hlx
                      rw [IVM.out.has] at h1
                      obtain ⟨y, hy, rfl⟩ := (hasB_mem _ _).1 h1
                      have h2 := IVM.out.at_ y hy (.lit (.int .i64 0))
                      rw [hat] at h2
                      rw [lit_inj h2]
                      exact HQ2.out y hy
                    have hc6 : decide (c ≤ (now + z)) = false := by simpa using hc5
                    have K21 := Lib.hid (Kb.out.grown hg1 Kb.out.size (fun i hi => by cases hi; exact Nat.le_refl _))
                    clear hat hwx hwc hg1 hs1
                    go_wp2
                    go_roundw
                    case rel => exact ⟨_, cnt1, hrg1, fun id h => HLF.out id (by simp at h; exact h.1), K21.out⟩
                    case measure => rw [hrg1.left_eq, hrg.left_eq]; exact hlt9
          · have h6b : (x % 5 == 1) = false := by simpa using h6
            clear h5 h6
            obtain ⟨hset, hi⟩ := hinv.out.set m0 m1 (a := now + z) (by omega)
            have INV := Lib.hid hi
            have SE := Lib.hid (fun w hR => set_any L pl cl (x % 8) (now + z) w hL hcl hR hnl)
            rw [hset] at SE
            simp only at SE
            have hsl := setL_len L (x % 8) (now + z)
            generalize setL L (x % 8) (now + z) = M at *
            have hmM : mayT M = true := (mayT_iff M).2 hi.may
            have CM := Lib.hid (fun pa cap w hR => check_any M pa cap w (by omega) hR)
            rw [hmM] at CM
            have HSZ := Lib.hid hi.size
            have wfa : (Lit.int .i64 (now + z)).wf = true := WalkArith.wf_i64 (by omega)
            clear hmM hmay hset hi
            have hB5 := Lib.hid MP.out.lt
            have T3 := Lib.hid (SE.out wr RL.out)
            go_wp2_with fail
            refine T3.out.mono ?_
            rintro e w3 ⟨v5, rfl, oq5, hb3⟩
            have K3 := Lib.hid (KA.out.trans (hb3.mono KA.out.size))
            have RL3_ := Lib.hid (RL.out.lift hb3)
            have OL3_ := Lib.hid (OL.out.lift hb3)
            have MP3_ := Lib.hid (MP.out.lift hb3)
            have CX3_ := Lib.hid (CX.out.lift hb3)
            have CZ3_ := Lib.hid (CZ.out.lift hb3)
            clear T3 hb3 KA RL OL MP CX CZ
            have O5 := Lib.hid (oq5.mono (show w.heap.size + 1 ≤ _ from hB5.out))
            clear oq5 hB5
            obtain ⟨p5, c5, rfl, hc5, hr5, hn5⟩ := own_args O5.out
            clear hr5
            have cx1 := CX3_.out.c
            go_wp2_with (first | (at_mapUpdate; refine wpList_mapUpdate_own _ rfl _ _ _ 51 rfl 23 3 lawU Try.underlying51 _ w.heap.size k _ rfl MP3_.out.own (by unfold maxLen; omega) _ _ _ rfl rfl HK.out _ [] (plainElem_int Try.underlying3 wfa) ?_; intro w10 hown10 hgrow10) | (at_len; refine wpList_len_own _ rfl _ 51 rfl 23 3 Try.underlying51 _ w.heap.size _ _ rfl hown10 ?_; rw [HSZ.out]))
            have O6 := Lib.hid (own_kept O5.out hgrow10 (by omega))
            have K6 := Lib.hid (K3.out.grown hgrow10 K3.out.size (fun j hj => by cases hj; exact Nat.le_refl _))
            obtain ⟨p6, c6, e6, _, hr6, _⟩ := own_args O6.out
            obtain ⟨rfl, rfl⟩ : p5 = p6 ∧ c5 = c6 := by cases e6; exact ⟨rfl, rfl⟩
            have C6 := Lib.hid (CM.out p5 c5 w10 hr6)
            have M6 := Lib.hid (Mp.mk hown10)
            clear e6 hr6 hown10 hgrow10
            refine C6.out.mono ?_
            rintro e w11 ⟨rfl, hb11⟩
            have O7 := Lib.hid (O6.out.lift hb11)
            have K7 := Lib.hid (K6.out.trans (hb11.mono K6.out.size))
            have M7 := Lib.hid (M6.out.lift hb11)
            clear hb11 C6
            go_wp2
            go_roundw
            case rel => exact ⟨k + 1, M, _, now, by go_num, rfl, by omega, by omega, hn0, by omega, O7.out, M7.out, INV, K7.out⟩
            case measure => simp [intOf]; omega
      · have i2 : ¬ (k : Int) < Z.length := by omega
        have i2d : decide ((k : Int) < Z.length) = false := by simpa using i2
        by_cases h5 : x % 5 = 0
        · have h5b : (x % 5 == 0) = true := by simpa using h5
          clear h5
          have INV := Lib.hid (hinv.out.stop (x % 8))
          have hh := hinv.out.has (x % 8)
          have ST := Lib.hid (fun w hR => stop_any L pl cl (x % 8) w hL hcl hR hnl)
          rw [hmay] at ST
          simp only [Bool.true_and, if_true] at ST
          have hsl := stopL_len L (x % 8)
          generalize stopL L (x % 8) = M at *
          generalize hasB L (x % 8) = hb at *
          have hmM : mayT M = true := (mayT_iff M).2 INV.out.may
          have CM := Lib.hid (fun pa cap w hR => check_any M pa cap w (by omega) hR)
          rw [hmM] at CM
          clear hmM hmay
          have hB5 := Lib.hid MP.out.lt
          have T4 := Lib.hid (ST.out wr RL.out)
          go_wp2_with fail
          refine T4.out.mono ?_
          rintro e w4 ⟨v5, rfl, oq5, hb4⟩
          have K4 := Lib.hid (KA.out.trans (hb4.mono KA.out.size))
          have RL4_ := Lib.hid (RL.out.lift hb4)
          have OL4_ := Lib.hid (OL.out.lift hb4)
          have MP4_ := Lib.hid (MP.out.lift hb4)
          have CX4_ := Lib.hid (CX.out.lift hb4)
          clear T4 hb4 KA RL OL MP CX
          have O5 := Lib.hid (oq5.mono (show w.heap.size + 1 ≤ _ from hB5.out))
          clear oq5 hB5
          obtain ⟨p5, c5, rfl, hc5, hr5, hn5⟩ := own_args O5.out
          clear hr5
          have cx1 := CX4_.out.c
          have HSZ := Lib.hid INV.out.size
          cases hb
          all_goals
            go_wp2_with (first | (at_lookup; refine wpList_lookup_own_ok_int _ rfl _ _ 51 rfl 23 3 .i64 lawU Try.underlying51 Try.underlying3 (zeroI _) w.heap.size k _ rfl MP4_.out.own _ _ rfl HK.out ?_; intro c hat hwc) | (at_delete; refine wpList_delete_own _ rfl _ _ 51 23 rfl 3 lawU Try.underlying51 _ w.heap.size k _ rfl MP4_.out.own _ _ rfl HK.out ?_; intro w10 hown10 hturn10) | (at_len; refine wpList_len_own _ rfl _ 51 rfl 23 3 Try.underlying51 _ w.heap.size _ _ rfl hown10 ?_; rw [HSZ.out]))
            have O6 := Lib.hid (own_kept O5.out hturn10.grown (by omega))
            have K6 := Lib.hid (K4.out.grown hturn10.grown K4.out.size (fun j hj => by cases hj; exact Nat.le_refl _))
            obtain ⟨p6, c6, e6, _, hr6, _⟩ := own_args O6.out
            obtain ⟨rfl, rfl⟩ : p5 = p6 ∧ c5 = c6 := by cases e6; exact ⟨rfl, rfl⟩
            have C6 := Lib.hid (CM.out p5 c5 w10 hr6)
            have M6 := Lib.hid (Mp.mk hown10)
            clear e6 hr6 hown10 hturn10
            refine C6.out.mono ?_
            rintro e w11 ⟨rfl, hb11⟩
            have O7 := Lib.hid (O6.out.lift hb11)
            have K7 := Lib.hid (K6.out.trans (hb11.mono K6.out.size))
            have M7 := Lib.hid (M6.out.lift hb11)
            clear hb11 C6
            go_wp2
            go_roundw
            case rel => exact ⟨k + 1, M, _, now, by go_num, rfl, by omega, by omega, hn0, by omega, O7.out, ⟨M7.out.own.mono (by omega)⟩, INV, K7.out⟩
            case measure => simp [intOf]; omega
        · have h5b : (x % 5 == 0) = false := by simpa using h5
          by_cases h6 : x % 5 = 1
          · have h6b : (x % 5 == 1) = true := by simpa using h6
            clear h5 h6
            have hq := later_at (now := now) hinv.out.may
            have RG := Lib.hid (fun w hR => ring_any L pl cl (now) w hL hcl hR hnl)
            rw [ringP_may hmay] at RG
            try simp only at RG
            have hql : laterL L (now) ≤ L.length := plL_le _ _
            generalize laterL L (now) = q at *
            obtain ⟨hq1, hq2⟩ := hq
            have hRl : ((L.take q).map (·.2)).length = q := by simp; omega
            have hRg : ∀ j (h : j < ((L.take q).map (·.2)).length) (h2 : j < L.length), ((L.take q).map (·.2))[j] = (L[j]).2 := fun j h h2 => by simp
            generalize (L.take q).map (·.2) = R at *
            have HM := Lib.hid (show L.drop q = L.drop q from rfl)
            have hMl : (L.drop q).length ≤ 8 := by simp; omega
            generalize hMM : L.drop q = M at HM RG hq2 hMl
            have HMM := Lib.hid hMM
            clear hMM HM
            have HQ1 := Lib.hid hq1
            have HQ2 := Lib.hid hq2
            have HRG := Lib.hid hRg
            have HRL := Lib.hid hRl
            have CM := Lib.hid (fun pa cap w hR => check_any M pa cap w (by omega) hR)
            clear hq1 hq2 hRg hRl hmay
            have hB5 := Lib.hid MP.out.lt
            have T5 := Lib.hid (RG.out wr RL.out)
            go_wp2_with fail
            refine T5.out.mono ?_
            rintro e w5 ⟨v5, u5, rfl, oq5, oqu5, hb5⟩
            have K5 := Lib.hid (KA.out.trans (hb5.mono KA.out.size))
            have RL5_ := Lib.hid (RL.out.lift hb5)
            have OL5_ := Lib.hid (OL.out.lift hb5)
            have MP5_ := Lib.hid (MP.out.lift hb5)
            have CX5_ := Lib.hid (CX.out.lift hb5)
            clear T5 hb5 KA RL OL MP CX
            have O5 := Lib.hid (oq5.mono (show w.heap.size + 1 ≤ _ from hB5.out))
            have U5 := Lib.hid (oqu5.mono (show w.heap.size + 1 ≤ _ from hB5.out))
            clear oq5 hB5 oqu5
            obtain ⟨p5, c5, rfl, hc5, hr5, hn5⟩ := own_args O5.out
            obtain ⟨pu, cu, rfl, hcu, hru⟩ := U5.out.rd
            clear hr5 hru
            have hRi : (R.length : Int) = q := by rw [HRL.out]
            have HRi := Lib.hid hRi
            clear hRi
            go_wp2_with fail
            go_loopw [17] (fun i wx => ∃ (j : Nat) (D2 : DataW Unit), i = .int .i64 j ∧ j ≤ q ∧ Own wx (w.heap.size + 1) (.slice p5 M.length c5) M ∧ OwnU wx (w.heap.size + 1) (.slice pu R.length cu) R ∧ Mp wx w.heap.size k D2 ∧ Hid (InvW (L.drop j) D2) ∧ Below w.heap.size w wx) (fun i _ => q - (intOf i).toNat)
            case atStart => exact ⟨0, D, rfl, Nat.zero_le _, O5.out, U5.out, MP5_.out, Lib.hid (by rw [List.drop_zero]; exact hinv.out), K5.out⟩
            case round =>
              obtain ⟨j, D2, rfl, hj, oM, oR, mp, iv, kk⟩ := hrel
              by_cases hlj : j < q
              · have hjL : j < L.length := by omega
                have hjR : j < R.length := by have := HRL.out; omega
                have hjRi : (j : Int) < R.length := by omega
                have hj0 : (0 : Int) ≤ j := by omega
                obtain ⟨pu2, cu2, e2, _, hru⟩ := oR.rd
                obtain ⟨rfl, rfl⟩ : pu = pu2 ∧ cu = cu2 := by cases e2; exact ⟨rfl, rfl⟩
                clear e2
                obtain ⟨b3, o3, e3, hbz3, d3⟩ := hru.at j hjR
                rw [HRG.out j hjR hjL] at d3
                have hdr : L.drop j = L[j] :: L.drop (j + 1) := List.drop_eq_getElem_cons hjL
                have iv2 := iv.out
                rw [hdr] at iv2
                have hdue := HQ1.out j hjL hlj
                have hat := iv2.at_ L[j] List.mem_cons_self
                have hhas : Maps.has D2 (kU L[j].2) = true := by rw [iv2.has]; exact (hasB_mem _ _).2 ⟨L[j], List.mem_cons_self, rfl⟩
                have hof := iv2.of L[j] List.mem_cons_self
                have INJ := Lib.hid iv2.head
                generalize L[j] = y at *
                obtain ⟨y1, y2⟩ := y
                simp only at d3 hdue hat hhas hof INJ
                subst e3
                have HVL := Lib.hid hat
                have hdued : decide ((now) < y1) = false := by simpa using hdue
                have HK2 := Lib.hid (show keyOf Try.prog 23 (.int .u64 y2) = some (kU y2) from keyOf_int_mk Try.underlying23 (WalkArith.wf_u64 (by omega)))
                have Mpj := Lib.hid mp
                have Kj := Lib.hid kk
                have Omj := Lib.hid oM
                have Orj := Lib.hid oR
                clear hdr iv2 hat hru mp kk oM oR iv
                go_wp2_with (first | (at_lookup; refine wpList_lookup_own_ok_int _ rfl _ _ 51 rfl 23 3 .i64 lawU Try.underlying51 Try.underlying3 (zeroI _) w.heap.size k _ rfl Mpj.out.own _ _ rfl HK2.out ?_; intro c hat hwc; obtain rfl : y1 = c := (lit_inj (hat.symm.trans (HVL.out _))).symm; rw [hhas]) | (at_delete; refine wpList_delete_own _ rfl _ _ 51 23 rfl 3 lawU Try.underlying51 _ w.heap.size k _ rfl Mpj.out.own _ _ rfl HK2.out ?_; intro w10 hown10 hturn10))
                go_roundw
                case rel => exact ⟨j + 1, _, by go_num, by omega, own_kept Omj.out hturn10.grown (by omega), ownU_kept Orj.out hturn10.grown (by omega), ⟨hown10⟩, INJ, Kj.out.grown hturn10.grown Kj.out.size (fun i hi => by cases hi; exact Nat.le_refl _)⟩
                case measure => simp [intOf]; omega
              · have hge : ¬ (j : Int) < R.length := by have := HRi.out; omega
                have hged : decide ((j : Int) < R.length) = false := by simpa using hge
                obtain rfl : j = q := by omega
                obtain ⟨wo, rfl⟩ : ∃ wo : World, wo = wr := ⟨_, rfl⟩
                have ivM := iv.out
                rw [HMM.out] at ivM
                have IVM := Lib.hid ivM
                have Om := Lib.hid oM
                have Kq := Lib.hid kk
                have Mpq := Lib.hid mp
                have HSZ := Lib.hid ivM.size
                have hmM : mayT M = true := (mayT_iff M).2 ivM.may
                rw [hmM] at CM
                clear iv oM oR kk mp ivM hmM
                go_wp2_with (first | (at_range; refine wpList_range_own _ rfl _ 51 rfl 23 3 lawU Try.underlying51 _ w.heap.size k D2 rfl Mpq.out.own ?_; intro w20 hrg0 hg0 hs0))
                try go_frame
                have hb20 : Below wo.heap.size wo w20 := (Below.refl _ _).grown hg0 (Nat.le_refl _) (fun i hi => by cases hi)
                clear hg0 hs0
                go_loopw [21] (fun _ wx => ∃ (left : Lit → Bool) (cnt : Nat), wx.ranges Try.prog 23 (plainElem Try.prog 3) w.heap.size wo.heap.size k D2 left cnt ∧ (∀ id : Int, left (kU id) = true → Maps.has D2 (kU id) = true) ∧ Below wo.heap.size wo wx) (fun _ wx => wx.rangeLeft w.heap.size wo.heap.size)
                case atStart => exact ⟨_, _, hrg0, fun id h => h, hb20⟩
                case round =>
                  obtain ⟨left, cnt, hrg, hlf, kb⟩ := hrel
                  have HLF := Lib.hid hlf
                  have Kb := Lib.hid kb
                  clear hlf kb
                  go_wp2_with (first | (at_next; refine wpList_next_ranges_ii _ rfl _ rfl 23 3 .u64 .i64 lawU Try.underlying23 Try.underlying3 w.heap.size wo.heap.size k _ _ _ rfl hrg ?_ ?_))
                  · intro _ hl0
                    have Mpn := Lib.hid (Mp.mk hrg.owns)
                    have O7 := Lib.hid (Om.out.lift Kb.out)
                    have K7 := Lib.hid (Kq.out.trans (Kb.out.mono Kq.out.size))
                    obtain ⟨p6, c6, e6, _, hr6, _⟩ := own_args O7.out
                    obtain ⟨rfl, rfl⟩ : p5 = p6 ∧ c5 = c6 := by cases e6; exact ⟨rfl, rfl⟩
                    have C6 := Lib.hid (CM.out p5 c5 wr hr6)
                    clear e6 hr6 hl0 hrg
                    go_wp2_with (first | (at_len; refine wpList_len_own _ rfl _ 51 rfl 23 3 Try.underlying51 _ w.heap.size _ _ rfl Mpn.out.own ?_; rw [HSZ.out]))
                    refine C6.out.mono ?_
                    rintro e w11 ⟨rfl, hb11⟩
                    have O8 := Lib.hid (O7.out.lift hb11)
                    have K8 := Lib.hid (K7.out.trans (hb11.mono K7.out.size))
                    have M8 := Lib.hid (Mpn.out.lift hb11)
                    clear hb11 C6
                    go_wp2
                    go_roundw
                    case rel => exact ⟨k + 1, M, D2, now, by go_num, rfl, by omega, by omega, by omega, by omega, O8.out, ⟨M8.out.own.mono (by omega)⟩, IVM, K8.out⟩
                    case measure => simp [intOf]; omega
                  · intro x5 c w21 cnt1 hwx hwc hlx hat hrg1 hlt9 hg1 hs1 hen
                    have hc5 : (now) < c := by
                      have h1 := HLF.out x5 hlx
                      rw [IVM.out.has] at h1
                      obtain ⟨y, hy, rfl⟩ := (hasB_mem _ _).1 h1
                      have h2 := IVM.out.at_ y hy (.lit (.int .i64 0))
                      rw [hat] at h2
                      rw [lit_inj h2]
                      exact HQ2.out y hy
                    have hc6 : decide (c ≤ (now)) = false := by simpa using hc5
                    have K21 := Lib.hid (Kb.out.grown hg1 Kb.out.size (fun i hi => by cases hi; exact Nat.le_refl _))
                    clear hat hwx hwc hg1 hs1
                    go_wp2
                    go_roundw
                    case rel => exact ⟨_, cnt1, hrg1, fun id h => HLF.out id (by simp at h; exact h.1), K21.out⟩
                    case measure => rw [hrg1.left_eq, hrg.left_eq]; exact hlt9
          · have h6b : (x % 5 == 1) = false := by simpa using h6
            clear h5 h6
            obtain ⟨hset, hi⟩ := hinv.out.set m0 m1 (a := now) (by omega)
            have INV := Lib.hid hi
            have SE := Lib.hid (fun w hR => set_any L pl cl (x % 8) (now) w hL hcl hR hnl)
            rw [hset] at SE
            simp only at SE
            have hsl := setL_len L (x % 8) (now)
            generalize setL L (x % 8) (now) = M at *
            have hmM : mayT M = true := (mayT_iff M).2 hi.may
            have CM := Lib.hid (fun pa cap w hR => check_any M pa cap w (by omega) hR)
            rw [hmM] at CM
            have HSZ := Lib.hid hi.size
            have wfa : (Lit.int .i64 (now)).wf = true := WalkArith.wf_i64 (by omega)
            clear hmM hmay hset hi
            have hB5 := Lib.hid MP.out.lt
            have T6 := Lib.hid (SE.out wr RL.out)
            go_wp2_with fail
            refine T6.out.mono ?_
            rintro e w6 ⟨v5, rfl, oq5, hb6⟩
            have K6 := Lib.hid (KA.out.trans (hb6.mono KA.out.size))
            have RL6_ := Lib.hid (RL.out.lift hb6)
            have OL6_ := Lib.hid (OL.out.lift hb6)
            have MP6_ := Lib.hid (MP.out.lift hb6)
            have CX6_ := Lib.hid (CX.out.lift hb6)
            clear T6 hb6 KA RL OL MP CX
            have O5 := Lib.hid (oq5.mono (show w.heap.size + 1 ≤ _ from hB5.out))
            clear oq5 hB5
            obtain ⟨p5, c5, rfl, hc5, hr5, hn5⟩ := own_args O5.out
            clear hr5
            have cx1 := CX6_.out.c
            go_wp2_with (first | (at_mapUpdate; refine wpList_mapUpdate_own _ rfl _ _ _ 51 rfl 23 3 lawU Try.underlying51 _ w.heap.size k _ rfl MP6_.out.own (by unfold maxLen; omega) _ _ _ rfl rfl HK.out _ [] (plainElem_int Try.underlying3 wfa) ?_; intro w10 hown10 hgrow10) | (at_len; refine wpList_len_own _ rfl _ 51 rfl 23 3 Try.underlying51 _ w.heap.size _ _ rfl hown10 ?_; rw [HSZ.out]))
            have O6 := Lib.hid (own_kept O5.out hgrow10 (by omega))
            have K6 := Lib.hid (K6.out.grown hgrow10 K6.out.size (fun j hj => by cases hj; exact Nat.le_refl _))
            obtain ⟨p6, c6, e6, _, hr6, _⟩ := own_args O6.out
            obtain ⟨rfl, rfl⟩ : p5 = p6 ∧ c5 = c6 := by cases e6; exact ⟨rfl, rfl⟩
            have C6 := Lib.hid (CM.out p5 c5 w10 hr6)
            have M6 := Lib.hid (Mp.mk hown10)
            clear e6 hr6 hown10 hgrow10
            refine C6.out.mono ?_
            rintro e w11 ⟨rfl, hb11⟩
            have O7 := Lib.hid (O6.out.lift hb11)
            have K7 := Lib.hid (K6.out.trans (hb11.mono K6.out.size))
            have M7 := Lib.hid (M6.out.lift hb11)
            clear hb11 C6
            go_wp2
            go_roundw
            case rel => exact ⟨k + 1, M, _, now, by go_num, rfl, by omega, by omega, hn0, by omega, O7.out, M7.out, INV, K7.out⟩
            case measure => simp [intOf]; omega
    · have AWK := AW
      by_cases hlt : k < X.length
      · have i1 : (k : Int) < X.length := by omega
        have i3 : ¬ (k : Int) < 100 := by omega
        have i3d : decide ((k : Int) < 100) = false := by simpa using i3
        have Kk := Lib.hid kk
        clear kk
        have T7 := Lib.hid (AW.out wr)
        go_wp2_with fail
        refine T7.out.mono ?_
        rintro e w7 ⟨rfl, hb7⟩
        have K7 := Lib.hid (Kk.out.trans (hb7.mono Kk.out.size))
        clear T7 hb7 Kk
        go_wp2
        go_ret
        exact ⟨rfl, K7.out⟩
      · have i1 : ¬ (k : Int) < X.length := by omega
        have i1d : decide ((k : Int) < X.length) = false := by simpa using i1
        have Kk := Lib.hid kk
        clear kk
        have T8 := Lib.hid (AW.out wr)
        go_wp2_with fail
        refine T8.out.mono ?_
        rintro e w8 ⟨rfl, hb8⟩
        have K8 := Lib.hid (Kk.out.trans (hb8.mono Kk.out.size))
        clear T8 hb8 Kk
        go_wp2
        go_ret
        exact ⟨rfl, K8.out⟩
end Go.Proofs.Ytgipohicgbppaaa
