/- Layer 13: the walk of DedupOnce. -/
import Derived.Test.YtflfbkoelhheoaaDdK
namespace Go.Proofs.Ytflfbkoelhheoaa.Dd
open Go.RowKit Go.Shelf Go.Proofs.Ytflfbkoelhheoaa Go.Proofs.Ytflfbkoelhheoaa.La Go.Maps
set_option linter.unusedVariables false
set_option linter.unusedSimpArgs false
theorem conv_one : ∀ (W : World) (b : Nat) (c : Int), 0 ≤ c → c < 256 → W.cell? ⟨b, 0, none⟩ = some (.int .u8 c) →
    (convert 44 9 (.slice (some ⟨b, 0, none⟩) 1 1)).run Try.prog W = .ok (.string ⟨#[UInt8.ofNat c.toNat]⟩) W := by
  intro W b c h0 h1 hc
  refine run_convert_bytes_back W 44 9 5 ⟨b, 0, none⟩ 1 [UInt8.ofNat c.toNat] Try.underlying44 Try.underlying5 Try.underlying9 fun j hj => ?_
  obtain rfl : j = 0 := by simpa using hj
  have ea : (⟨b, 0, none⟩ : Addr).add 0 = ⟨b, 0, none⟩ := by simp [Addr.add]
  rw [ea, hc]; simp; omega
theorem lawS : Keyed Try.prog 9 := string_keyed Try.underlying9
theorem zeroU (w : World) : (zeroValue 23).run Try.prog w = .ok (.int .u64 0) w := by kernel_rfl
theorem lit_inj {a b : Int} (h : (DataW.lit (.int .u64 a) : DataW Unit) = .lit (.int .u64 b)) : a = b := by injection h with h; injection h
structure Mp (w : World) (b n : Nat) (D : DataW Unit) : Prop where
  own : w.ownsMap Try.prog 9 (plainElem Try.prog 23) b n D
theorem Mp.lift {w w' : World} {b n : Nat} {D : DataW Unit} (h : Mp w b n D) (hb : Below w.heap.size w w') : Mp w' b n D := ⟨lsMap_lift h.own hb⟩
structure Cl (b o : Nat) (v : Value) (w : World) : Prop where
  c : w.cell? ⟨b, o, none⟩ = some v
  lt : b < w.heap.size
theorem Cl.lift {b o : Nat} {v : Value} {w w' : World} (h : Cl b o v w) (hb : Below w.heap.size w w') : Cl b o v w' := ⟨(hb.cell (p := ⟨b, o, none⟩) h.lt).trans h.c, Nat.lt_of_lt_of_le h.lt hb.size⟩
theorem Mp.lt {w : World} {b n : Nat} {D : DataW Unit} (h : Mp w b n D) : b < w.heap.size := by
  obtain ⟨es, clock, h1, _⟩ := h.own
  exact (Array.getElem?_eq_some_iff.1 h1).1
theorem own_kept {w w' : World} {base B : Nat} {v : Value} {L : List El} (h : Own w base v L) (hg : w.grownBy w' (some B)) (hB : B < base) : Own w' base v L :=
  ⟨h.own.kept hg (.inr fun e => by have := lsOwn_base h.own B e; omega)⟩
set_option maxHeartbeats 16000000 in
set_option maxRecDepth 100000 in
theorem dedupOnce_walk (X Z : List Int) (pa pz : Option Addr) (ca cz : Nat) (w : World) (hXm : X.length ≤ 9223372036854775807) (hZm : Z.length ≤ 9223372036854775807) (hX : RdI .u8 w pa X) (hZ : RdI .u8 w pz Z) (hXb : ∀ x ∈ X, 0 ≤ x ∧ x ≤ 255) (hZb : ∀ x ∈ Z, 0 ≤ x ∧ x ≤ 255) :
    Calls Try.prog 4 #[.slice pa X.length ca, .slice pz Z.length cz] w fun e w' => e = .returned (.bool true) ∧ Below w.heap.size w w' := by
  have hmm := @run_makeMap Try.prog
  have HX := Lib.hid hX
  have HZ := Lib.hid hZ
  have XB := Lib.hid hXb
  have ZB := Lib.hid hZb
  have AW := Lib.hid awakeD_any
  clear hX hZ hXb hZb
  go_enter Try.func4, Try.ntmps4
  go_wp2_with fail
  go_loopw [5, 7] (fun v i wx => ∃ (k : Nat) (L : List El) (D : DataW Unit), i = .int .i64 k ∧ k ≤ X.length ∧ k ≤ Z.length ∧ k ≤ 80 ∧ Own wx (w.heap.size + 1) v L ∧ wx.ownsMap Try.prog 9 (plainElem Try.prog 23) w.heap.size k D ∧ Hid (Inv L D) ∧ Below w.heap.size w wx) (fun _ i _ => 80 - (intOf i).toNat)
  case atStart => exact ⟨0, [], .map [], rfl, Nat.zero_le _, Nat.zero_le _, Nat.zero_le _, Own.nil _ _, World.ownsMap_made _ _ _ _, Lib.hid Inv.start, (Below.refl _ _).alloc (Nat.le_refl _) _⟩
  case round =>
    obtain ⟨k, L, D, rfl, hk, hk2, hk80, ho, hmp, hinv, kk⟩ := hrel
    by_cases hc : k < X.length ∧ k < Z.length ∧ k < 80
    · obtain ⟨hlt, hlt2, h80⟩ := hc
      have i1 : (k : Int) < X.length := by omega
      have i2 : (k : Int) < Z.length := by omega
      have i3 : (k : Int) < 80 := by omega
      obtain ⟨b, o, rfl, hbz, c0⟩ := (HX.out.lift kk (Nat.le_refl _)).at k hlt
      obtain ⟨b2, o2, rfl, hbz2, d0⟩ := (HZ.out.lift kk (Nat.le_refl _)).at k hlt2
      have xb := XB.out _ (List.getElem_mem hlt)
      have zb := ZB.out _ (List.getElem_mem hlt2)
      generalize X[k] = x at *
      generalize Z[k] = z at *
      obtain ⟨x0, x1⟩ := xb
      obtain ⟨z0, z1⟩ := zb
      have hcv := conv_one (wr.alloc (.cells #[.int .u8 (97 + x % 4)] 5)) wr.heap.size (97 + x % 4) (by omega) (by omega) (by simp [go_sem])
      have hlen := hinv.out.len
      have hL : L.length ≤ 100 := by omega
      have hq := findD_seq L (strC (x % 4)) hinv.out.oks
      have A1 := Lib.hid (fun pl cl w hR => ask_any L pl cl (strC (x % 4)) (z % 12) w hL hR hinv.out.oks (by omega) (by omega))
      have hxo : Ok (strC (x % 4), z % 12, 100 * (x % 4) + z % 12) := ⟨by rw [strC_size]; omega, by show 0 ≤ z % 12; omega, by show z % 12 ≤ 18446744073709551615; omega⟩
      have T1 := Lib.hid (fun pl cl w hc hR hn => take_any L pl cl (strC (x % 4), z % 12, 100 * (x % 4) + z % 12) w hL hc hR hn hinv.out.oks hxo)
      have hat := hinv.out.at_ (x % 4) (by omega) (by omega)
      have hkey : keyOf Try.prog 9 (.string (strC (x % 4))) = some (kS (x % 4)) := WideMaps.keyOf_string_mk Try.underlying9 (by rw [strC_size]; unfold maxLen; omega)
      have HK := Lib.hid hkey
      have HA := Lib.hid hat
      have m0 : (0 : Int) ≤ x % 4 := by omega
      have m1 : x % 4 < 4 := by omega
      have m2 : (0 : Int) ≤ z % 12 := by omega
      have m3 : z % 12 < 12 := by omega
      have hba : Below wr.heap.size wr (wr.alloc (.cells #[.int .u8 (97 + x % 4)] 5)) := (Below.refl _ _).alloc (Nat.le_refl _) _
      have KA1 := Lib.hid (kk.trans (hba.mono kk.size))
      obtain ⟨pl, cl, rfl, hcl, hrl, hnl⟩ := ho.args
      have RL := Lib.hid (hrl.lift hba)
      have OL := Lib.hid (ho.lift hba)
      have MP := Lib.hid (Mp.mk (lsMap_lift hmp hba))
      have CX := Lib.hid (Cl.lift ⟨c0, hbz⟩ hba)
      have CZ := Lib.hid (Cl.lift ⟨d0, hbz2⟩ hba)
      clear hba hrl kk hmp ho hkey hat hxo hXm hZm
      have cx0 := CX.out.c
      have cz0 := CZ.out.c
      have hst : (⟨#[UInt8.ofNat (97 + x % 4).toNat]⟩ : ByteArray) = strC (x % 4) := rfl
      rw [hst] at hcv
      clear hst
      have hinv2 := hinv.out
      have f0 : z % 12 = 0 → askD L (strC (x % 4)) (z % 12) = (0, 1) := fun h => by rw [h]; exact ask_none _ _
      have f1 : z % 12 ≠ 0 → z % 12 = (findD L (strC (x % 4))).1.2.1 + 1 → _ := fun _ h => hinv2.take m0 m1 h m3
      have f2 : z % 12 ≠ 0 → z % 12 = (findD L (strC (x % 4))).1.2.1 → askD L (strC (x % 4)) (z % 12) = (100 * (x % 4) + z % 12, 5) := fun h h2 => hinv2.there m0 m1 h h2
      have f3 : z % 12 ≠ 0 → z % 12 < (findD L (strC (x % 4))).1.2.1 → askD L (strC (x % 4)) (z % 12) = (0, 8) := fun h h2 => hinv2.late m0 m1 h h2
      have f4 : z % 12 ≠ 0 → (findD L (strC (x % 4))).1.2.1 + 1 < z % 12 → askD L (strC (x % 4)) (z % 12) = (0, 9) := fun h h2 => hinv2.gap m0 m1 h h2
      have fe : ∀ n e, askD L (strC (x % 4)) (z % 12) = (n, e) → e ≠ 0 → takeD L (strC (x % 4), z % 12, 100 * (x % 4) + z % 12) = ([], e) := fun n e h he => take_err h he
      have hl := takeD_len L (strC (x % 4), z % 12, 100 * (x % 4) + z % 12)
      generalize (findD L (strC (x % 4))).1.2.1 = tk at *
      generalize askD L (strC (x % 4)) (z % 12) = a at *
      generalize takeD L (strC (x % 4), z % 12, 100 * (x % 4) + z % 12) = t at *
      obtain ⟨a1, a2⟩ := a
      obtain ⟨M, t2⟩ := t
      simp only at *
      clear hinv2
      have hw1 : tk < 18446744073709551615 → IntKind.u64.wrap (tk + 1) = tk + 1 := fun h => IntWalk.u64_in _ (by omega)
      by_cases h0 : z % 12 = 0
      · have ha := f0 h0
        obtain ⟨rfl, rfl⟩ : a1 = 0 ∧ a2 = 1 := by simpa using ha
        obtain ⟨rfl, rfl⟩ : M = [] ∧ t2 = 1 := by simpa using fe 0 1 rfl (by decide)
        have h0b : (z % 12 == 0) = true := by simpa using h0
        clear f0 f1 f2 f3 f4 fe ha h0 hw1 hl
        have T1 := Lib.hid (A1.out pl cl (wr.alloc (.cells #[.int .u8 (97 + x % 4)] 5)) RL.out)
        go_wp2_with fail
        refine T1.out.mono ?_
        rintro e w1 ⟨rfl, hb1⟩
        have K1 := Lib.hid (KA1.out.trans (hb1.mono KA1.out.size))
        have RL1_ := Lib.hid (RL.out.lift hb1)
        have OL1_ := Lib.hid (OL.out.lift hb1)
        have MP1_ := Lib.hid (MP.out.lift hb1)
        have CX1_ := Lib.hid (CX.out.lift hb1)
        have CZ1_ := Lib.hid (CZ.out.lift hb1)
        clear T1 hb1 KA1 RL OL MP CX CZ
        have cx1 := CX1_.out.c
        have T2 := Lib.hid (T1.out pl cl w1 hcl RL1_.out hnl)
        go_wp2_with fail
        refine T2.out.mono ?_
        rintro e w2 ⟨v5, rfl, ho5, hb2⟩
        have Ho52 := Lib.hid (ho5.mono K1.out.size)
        have K2 := Lib.hid (K1.out.trans (hb2.mono K1.out.size))
        have RL2_ := Lib.hid (RL1_.out.lift hb2)
        have OL2_ := Lib.hid (OL1_.out.lift hb2)
        have MP2_ := Lib.hid (MP1_.out.lift hb2)
        have CX2_ := Lib.hid (CX1_.out.lift hb2)
        have CZ2_ := Lib.hid (CZ1_.out.lift hb2)
        clear T2 hb2 ho5 K1 RL1_ OL1_ MP1_ CX1_ CZ1_
        obtain ⟨p5, c5, rfl, hc5, hr5, hn5⟩ := Ho52.out.args
        have R5 := Lib.hid hr5
        clear hr5
        have cx2 := CX2_.out.c
        clear Ho52 R5
        go_wp2_with (first | (at_lookup; refine wpList_lookup_own_int _ rfl _ _ 45 rfl 9 23 .u64 lawS Try.underlying45 Try.underlying23 (zeroU _) w.heap.size k _ rfl MP2_.out.own _ _ rfl HK.out ?_; intro c hat hwc; obtain rfl : tk = c := (lit_inj (hat.symm.trans HA.out)).symm))
        go_roundw
        case rel => exact ⟨k + 1, L, D, by go_num, by omega, by omega, by omega, OL2_.out, MP2_.out.own.mono (by omega), hinv, K2.out⟩
        case measure => simp [intOf]; omega
      · have h0b : (z % 12 == 0) = false := by simpa using h0
        by_cases h1 : z % 12 = tk + 1
        · obtain ⟨ha, ht, hi⟩ := f1 h0 h1
          obtain ⟨rfl, rfl⟩ : a1 = 0 ∧ a2 = 0 := by simpa using ha
          obtain rfl : t2 = 0 := ht
          have h1b : (z % 12 == tk + 1) = true := by simpa using h1
          have hw1 := hw1 (by omega)
          have INV := Lib.hid hi
          have hmay := hi.may
          have CC := Lib.hid (fun pl cl w hR => check_any M pl cl w (by omega) hR)
          rw [hmay] at CC
          have wfz : (Lit.int .u64 (z % 12)).wf = true := WalkArith.wf_u64 (by omega)
          clear f0 f1 f2 f3 f4 fe ha h0 h1 hi hmay hl
          have T3 := Lib.hid (A1.out pl cl (wr.alloc (.cells #[.int .u8 (97 + x % 4)] 5)) RL.out)
          go_wp2_with fail
          refine T3.out.mono ?_
          rintro e w3 ⟨rfl, hb3⟩
          have K3 := Lib.hid (KA1.out.trans (hb3.mono KA1.out.size))
          have RL3_ := Lib.hid (RL.out.lift hb3)
          have OL3_ := Lib.hid (OL.out.lift hb3)
          have MP3_ := Lib.hid (MP.out.lift hb3)
          have CX3_ := Lib.hid (CX.out.lift hb3)
          have CZ3_ := Lib.hid (CZ.out.lift hb3)
          clear T3 hb3 KA1 RL OL MP CX CZ
          have cx1 := CX3_.out.c
          have hB5 := Lib.hid MP3_.out.lt
          have T4 := Lib.hid (T1.out pl cl w3 hcl RL3_.out hnl)
          go_wp2_with fail
          refine T4.out.mono ?_
          rintro e w4 ⟨v5, rfl, oq5, hb4⟩
          have K4 := Lib.hid (K3.out.trans (hb4.mono K3.out.size))
          have RL4_ := Lib.hid (RL3_.out.lift hb4)
          have OL4_ := Lib.hid (OL3_.out.lift hb4)
          have MP4_ := Lib.hid (MP3_.out.lift hb4)
          have CX4_ := Lib.hid (CX3_.out.lift hb4)
          have CZ4_ := Lib.hid (CZ3_.out.lift hb4)
          clear T4 hb4 K3 RL3_ OL3_ MP3_ CX3_ CZ3_
          have O5 := Lib.hid (oq5.mono (show w.heap.size + 1 ≤ _ from hB5.out))
          clear oq5 hB5
          obtain ⟨p5, c5, rfl, hc5, hr5, hn5⟩ := O5.out.args
          have R5 := Lib.hid hr5
          clear hr5
          have cx2 := CX4_.out.c
          have C5 := Lib.hid (CC.out p5 c5 w4 R5.out)
          go_wp2_with (first | (at_lookup; refine wpList_lookup_own_int _ rfl _ _ 45 rfl 9 23 .u64 lawS Try.underlying45 Try.underlying23 (zeroU _) w.heap.size k _ rfl MP4_.out.own _ _ rfl HK.out ?_; intro c hat hwc; obtain rfl : tk = c := (lit_inj (hat.symm.trans HA.out)).symm))
          refine C5.out.mono ?_
          rintro e w9 ⟨rfl, hb9⟩
          have OM := Lib.hid (O5.out.lift hb9)
          have MP9 := Lib.hid (MP4_.out.lift hb9)
          have K9 := Lib.hid (K4.out.trans (hb9.mono K4.out.size))
          clear C5 hb9
          go_wp2_with (first | (at_mapUpdate; refine wpList_mapUpdate_own _ rfl _ _ _ 45 rfl 9 23 lawS Try.underlying45 _ w.heap.size k _ rfl MP9.out.own (by unfold maxLen; omega) _ _ _ rfl rfl HK.out _ [] (plainElem_int Try.underlying23 wfz) ?_; intro w10 hown10 hgrow10))
          go_roundw
          case rel => exact ⟨k + 1, M, _, by go_num, by omega, by omega, by omega, own_kept OM.out hgrow10 (by omega), hown10, INV, K9.out.grown hgrow10 K9.out.size (fun j hj => by cases hj; exact Nat.le_refl _)⟩
          case measure => simp [intOf]; omega
        · have h1b : (z % 12 == tk + 1) = false := by simpa using h1
          have hwq : (z % 12 == IntKind.u64.wrap (tk + 1)) = false := by
            by_cases hb : tk < 18446744073709551615
            · rw [hw1 hb]; exact h1b
            · have : tk = 18446744073709551615 := by omega
              subst this
              have e : IntKind.u64.wrap (18446744073709551615 + 1) = 0 := by decide
              rw [e]; exact h0b
          clear hw1
          by_cases h2 : z % 12 = tk
          · have ha := f2 h0 h2
            obtain ⟨rfl, rfl⟩ : a1 = 100 * (x % 4) + z % 12 ∧ a2 = 5 := by simpa using ha
            obtain ⟨rfl, rfl⟩ : M = [] ∧ t2 = 5 := by simpa using fe _ 5 rfl (by decide)
            have h2b : (z % 12 == tk) = true := by simpa using h2
            clear f0 f1 f2 f3 f4 fe ha h0 h1 h2 hl
            have T5 := Lib.hid (A1.out pl cl (wr.alloc (.cells #[.int .u8 (97 + x % 4)] 5)) RL.out)
            go_wp2_with fail
            refine T5.out.mono ?_
            rintro e w5 ⟨rfl, hb5⟩
            have K5 := Lib.hid (KA1.out.trans (hb5.mono KA1.out.size))
            have RL5_ := Lib.hid (RL.out.lift hb5)
            have OL5_ := Lib.hid (OL.out.lift hb5)
            have MP5_ := Lib.hid (MP.out.lift hb5)
            have CX5_ := Lib.hid (CX.out.lift hb5)
            have CZ5_ := Lib.hid (CZ.out.lift hb5)
            clear T5 hb5 KA1 RL OL MP CX CZ
            have cx1 := CX5_.out.c
            have T6 := Lib.hid (T1.out pl cl w5 hcl RL5_.out hnl)
            go_wp2_with fail
            refine T6.out.mono ?_
            rintro e w6 ⟨v5, rfl, ho5, hb6⟩
            have Ho56 := Lib.hid (ho5.mono K5.out.size)
            have K6 := Lib.hid (K5.out.trans (hb6.mono K5.out.size))
            have RL6_ := Lib.hid (RL5_.out.lift hb6)
            have OL6_ := Lib.hid (OL5_.out.lift hb6)
            have MP6_ := Lib.hid (MP5_.out.lift hb6)
            have CX6_ := Lib.hid (CX5_.out.lift hb6)
            have CZ6_ := Lib.hid (CZ5_.out.lift hb6)
            clear T6 hb6 ho5 K5 RL5_ OL5_ MP5_ CX5_ CZ5_
            obtain ⟨p5, c5, rfl, hc5, hr5, hn5⟩ := Ho56.out.args
            have R5 := Lib.hid hr5
            clear hr5
            have cx2 := CX6_.out.c
            clear Ho56 R5
            go_wp2_with (first | (at_lookup; refine wpList_lookup_own_int _ rfl _ _ 45 rfl 9 23 .u64 lawS Try.underlying45 Try.underlying23 (zeroU _) w.heap.size k _ rfl MP6_.out.own _ _ rfl HK.out ?_; intro c hat hwc; obtain rfl : tk = c := (lit_inj (hat.symm.trans HA.out)).symm))
            go_roundw
            case rel => exact ⟨k + 1, L, D, by go_num, by omega, by omega, by omega, OL6_.out, MP6_.out.own.mono (by omega), hinv, K6.out⟩
            case measure => simp [intOf]; omega
          · have h2b : (z % 12 == tk) = false := by simpa using h2
            by_cases h3 : z % 12 < tk
            · have ha := f3 h0 h3
              obtain ⟨rfl, rfl⟩ : a1 = 0 ∧ a2 = 8 := by simpa using ha
              obtain ⟨rfl, rfl⟩ : M = [] ∧ t2 = 8 := by simpa using fe 0 8 rfl (by decide)
              have h3d : decide (z % 12 < tk) = true := by simpa using h3
              clear f0 f1 f2 f3 f4 fe ha h0 h1 h2 hl
              have T7 := Lib.hid (A1.out pl cl (wr.alloc (.cells #[.int .u8 (97 + x % 4)] 5)) RL.out)
              go_wp2_with fail
              refine T7.out.mono ?_
              rintro e w7 ⟨rfl, hb7⟩
              have K7 := Lib.hid (KA1.out.trans (hb7.mono KA1.out.size))
              have RL7_ := Lib.hid (RL.out.lift hb7)
              have OL7_ := Lib.hid (OL.out.lift hb7)
              have MP7_ := Lib.hid (MP.out.lift hb7)
              have CX7_ := Lib.hid (CX.out.lift hb7)
              have CZ7_ := Lib.hid (CZ.out.lift hb7)
              clear T7 hb7 KA1 RL OL MP CX CZ
              have cx1 := CX7_.out.c
              have T8 := Lib.hid (T1.out pl cl w7 hcl RL7_.out hnl)
              go_wp2_with fail
              refine T8.out.mono ?_
              rintro e w8 ⟨v5, rfl, ho5, hb8⟩
              have Ho58 := Lib.hid (ho5.mono K7.out.size)
              have K8 := Lib.hid (K7.out.trans (hb8.mono K7.out.size))
              have RL8_ := Lib.hid (RL7_.out.lift hb8)
              have OL8_ := Lib.hid (OL7_.out.lift hb8)
              have MP8_ := Lib.hid (MP7_.out.lift hb8)
              have CX8_ := Lib.hid (CX7_.out.lift hb8)
              have CZ8_ := Lib.hid (CZ7_.out.lift hb8)
              clear T8 hb8 ho5 K7 RL7_ OL7_ MP7_ CX7_ CZ7_
              obtain ⟨p5, c5, rfl, hc5, hr5, hn5⟩ := Ho58.out.args
              have R5 := Lib.hid hr5
              clear hr5
              have cx2 := CX8_.out.c
              clear Ho58 R5
              go_wp2_with (first | (at_lookup; refine wpList_lookup_own_int _ rfl _ _ 45 rfl 9 23 .u64 lawS Try.underlying45 Try.underlying23 (zeroU _) w.heap.size k _ rfl MP8_.out.own _ _ rfl HK.out ?_; intro c hat hwc; obtain rfl : tk = c := (lit_inj (hat.symm.trans HA.out)).symm))
              go_roundw
              case rel => exact ⟨k + 1, L, D, by go_num, by omega, by omega, by omega, OL8_.out, MP8_.out.own.mono (by omega), hinv, K8.out⟩
              case measure => simp [intOf]; omega
            · have ha := f4 h0 (by omega)
              obtain ⟨rfl, rfl⟩ : a1 = 0 ∧ a2 = 9 := by simpa using ha
              obtain ⟨rfl, rfl⟩ : M = [] ∧ t2 = 9 := by simpa using fe 0 9 rfl (by decide)
              have h3d : decide (z % 12 < tk) = false := by simpa using h3
              clear f0 f1 f2 f3 f4 fe ha h0 h1 h2 hl
              have T9 := Lib.hid (A1.out pl cl (wr.alloc (.cells #[.int .u8 (97 + x % 4)] 5)) RL.out)
              go_wp2_with fail
              refine T9.out.mono ?_
              rintro e w9 ⟨rfl, hb9⟩
              have K9 := Lib.hid (KA1.out.trans (hb9.mono KA1.out.size))
              have RL9_ := Lib.hid (RL.out.lift hb9)
              have OL9_ := Lib.hid (OL.out.lift hb9)
              have MP9_ := Lib.hid (MP.out.lift hb9)
              have CX9_ := Lib.hid (CX.out.lift hb9)
              have CZ9_ := Lib.hid (CZ.out.lift hb9)
              clear T9 hb9 KA1 RL OL MP CX CZ
              have cx1 := CX9_.out.c
              have T10 := Lib.hid (T1.out pl cl w9 hcl RL9_.out hnl)
              go_wp2_with fail
              refine T10.out.mono ?_
              rintro e w10 ⟨v5, rfl, ho5, hb10⟩
              have Ho510 := Lib.hid (ho5.mono K9.out.size)
              have K10 := Lib.hid (K9.out.trans (hb10.mono K9.out.size))
              have RL10_ := Lib.hid (RL9_.out.lift hb10)
              have OL10_ := Lib.hid (OL9_.out.lift hb10)
              have MP10_ := Lib.hid (MP9_.out.lift hb10)
              have CX10_ := Lib.hid (CX9_.out.lift hb10)
              have CZ10_ := Lib.hid (CZ9_.out.lift hb10)
              clear T10 hb10 ho5 K9 RL9_ OL9_ MP9_ CX9_ CZ9_
              obtain ⟨p5, c5, rfl, hc5, hr5, hn5⟩ := Ho510.out.args
              have R5 := Lib.hid hr5
              clear hr5
              have cx2 := CX10_.out.c
              clear Ho510 R5
              go_wp2_with (first | (at_lookup; refine wpList_lookup_own_int _ rfl _ _ 45 rfl 9 23 .u64 lawS Try.underlying45 Try.underlying23 (zeroU _) w.heap.size k _ rfl MP10_.out.own _ _ rfl HK.out ?_; intro c hat hwc; obtain rfl : tk = c := (lit_inj (hat.symm.trans HA.out)).symm))
              go_roundw
              case rel => exact ⟨k + 1, L, D, by go_num, by omega, by omega, by omega, OL10_.out, MP10_.out.own.mono (by omega), hinv, K10.out⟩
              case measure => simp [intOf]; omega
    · have hsz := hinv.out.size
      have Hs := Lib.hid hsz
      have MPz := Lib.hid (Mp.mk hmp)
      obtain ⟨pl, cl, rfl, hcl, hrl, hnl⟩ := ho.args
      have Kk := Lib.hid kk
      clear hsz hmp ho hrl kk
      by_cases hlt : k < X.length
      · have i1 : (k : Int) < X.length := by omega
        by_cases hlt2 : k < Z.length
        · have i2 : (k : Int) < Z.length := by omega
          have i3 : ¬ (k : Int) < 80 := by omega
          have i3d : decide ((k : Int) < 80) = false := by simpa using i3
          go_wp2_with (first | (at_len; refine wpList_len_own _ rfl _ 45 rfl 9 23 Try.underlying45 _ w.heap.size k D rfl MPz.out.own ?_; rw [Hs.out]))
          have T11 := Lib.hid (AW.out wr)
          go_wp2_with fail
          refine T11.out.mono ?_
          rintro e w11 ⟨rfl, hb11⟩
          have K11 := Lib.hid (Kk.out.trans (hb11.mono Kk.out.size))
          have MPz11_ := Lib.hid (MPz.out.lift hb11)
          clear T11 hb11 Kk MPz
          go_wp2
          go_ret
          exact ⟨rfl, K11.out⟩
        · have i2 : ¬ (k : Int) < Z.length := by omega
          have i2d : decide ((k : Int) < Z.length) = false := by simpa using i2
          go_wp2_with (first | (at_len; refine wpList_len_own _ rfl _ 45 rfl 9 23 Try.underlying45 _ w.heap.size k D rfl MPz.out.own ?_; rw [Hs.out]))
          have T12 := Lib.hid (AW.out wr)
          go_wp2_with fail
          refine T12.out.mono ?_
          rintro e w12 ⟨rfl, hb12⟩
          have K12 := Lib.hid (Kk.out.trans (hb12.mono Kk.out.size))
          have MPz12_ := Lib.hid (MPz.out.lift hb12)
          clear T12 hb12 Kk MPz
          go_wp2
          go_ret
          exact ⟨rfl, K12.out⟩
      · have i1 : ¬ (k : Int) < X.length := by omega
        have i1d : decide ((k : Int) < X.length) = false := by simpa using i1
        go_wp2_with (first | (at_len; refine wpList_len_own _ rfl _ 45 rfl 9 23 Try.underlying45 _ w.heap.size k D rfl MPz.out.own ?_; rw [Hs.out]))
        have T13 := Lib.hid (AW.out wr)
        go_wp2_with fail
        refine T13.out.mono ?_
        rintro e w13 ⟨rfl, hb13⟩
        have K13 := Lib.hid (Kk.out.trans (hb13.mono Kk.out.size))
        have MPz13_ := Lib.hid (MPz.out.lift hb13)
        clear T13 hb13 Kk MPz
        go_wp2
        go_ret
        exact ⟨rfl, K13.out⟩
end Go.Proofs.Ytflfbkoelhheoaa.Dd
