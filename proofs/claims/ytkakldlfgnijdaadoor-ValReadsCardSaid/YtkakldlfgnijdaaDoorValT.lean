/- Layer 3: the document's Read. -/
import Derived.Test.YtkakldlfgnijdaaDoorValU
import Derived.Test.YtkakldlfgnijdaaDoorValLawD
import Derived.Deep.CutBlock
import Derived.Deep.DeepCutAuto
namespace Go.Proofs.YtkakldlfgnijdaaDoor
open Go.RowKit
theorem Two.storeY {B : Nat} {w0 w : World} {b : Bool} {n : Int} {s : ByteArray} {b' : Bool} {n' : Int} {s' : ByteArray} (h : Two B w0 w b n s b' n' s') (c' : Bool) (m' : Int) (t' : ByteArray) :
    Two B w0 (((w.setCell ⟨B + 1, 0, none⟩ (.bool c')).setCell ⟨B + 1, 1, none⟩ (.int .i64 m')).setCell ⟨B + 1, 2, none⟩ (.string t')) b n s c' m' t' := by
  obtain ⟨⟨x0, x1, x2, xf0, xf1, xf2⟩, ⟨y0, y1, y2, yf0, yf1, yf2⟩, hz, hb⟩ := h
  refine ⟨⟨?_, ?_, ?_, ?_, ?_, ?_⟩, ⟨?_, ?_, ?_, ?_, ?_, ?_⟩, by simpa [World.setCell] using hz, ?_⟩
  case refine_13 => exact ((hb.setCell (p := ⟨B + 1, 0, none⟩) (Nat.le_succ _) _).setCell (p := ⟨B + 1, 1, none⟩) (Nat.le_succ _) _).setCell (p := ⟨B + 1, 2, none⟩) (Nat.le_succ _) _
  all_goals simp [go_sem, *]
/-- What the document's Read answers. -/
def rreadV : Option ((Bool × Int × List UInt8) × Nat) → Value
  | none => .tuple #[.agg #[.bool false, .int .i64 0, .string ⟨#[]⟩], .int .i64 0, .bool false]
  | some ((b, n, x), k) => .tuple #[.agg #[.bool b, .int .i64 n, .string ⟨x.toArray⟩], .int .i64 k, .bool true]
theorem mV_no (s : ByteArray) (J : Nat) (h : 0 < s.size) (hJ : 1 ≤ J) (h45 : (s[0]'h).toNat ≠ 45) : mV (s.data.toList.take J) = wrap64 (-(mF (s.data.toList.take J) 0)) := by
  have e := drop_at s 0 h
  rw [List.drop_zero] at e
  unfold mV
  rw [if_neg]
  obtain ⟨j, rfl⟩ : ∃ j, J = j + 1 := ⟨J - 1, by omega⟩
  rw [e, List.take_succ_cons]
  intro e2
  have : s[0]'h = 45 := by simpa using e2
  rw [this] at h45; exact h45 rfl
theorem mV_yes (s : ByteArray) (J : Nat) (h : 0 < s.size) (hJ : 1 ≤ J) (h45 : (s[0]'h).toNat = 45) : mV (s.data.toList.take J) = mF (s.data.toList.take J) 0 := by
  have e := drop_at s 0 h
  rw [List.drop_zero] at e
  unfold mV
  rw [if_pos]
  obtain ⟨j, rfl⟩ : ∃ j, J = j + 1 := ⟨J - 1, by omega⟩
  rw [e, List.take_succ_cons, show s[0]'h = 45 from UInt8.toNat_inj.1 h45]; rfl
/-- The text's box, and the two ahead. -/
structure Text (B G : Nat) (w0 w : World) (X : ByteArray) : Prop where
  two : Two B w0 w false 0 ⟨#[]⟩ false 0 ⟨#[]⟩
  x : Boxed w G false 0 X
  gB : B + 1 < G
  size : G < w.heap.size
theorem Text.put {B G : Nat} {w0 w : World} {X : ByteArray} (h : Text B G w0 w X) (X' : ByteArray) : Text B G w0 (w.setCell ⟨G, 2, none⟩ (.string X')) X' := by
  obtain ⟨⟨⟨x0, x1, x2, xf0, xf1, xf2⟩, ⟨y0, y1, y2, yf0, yf1, yf2⟩, hz, hb⟩, ⟨z0, z1, z2, zf0, zf1, zf2⟩, hg, hs⟩ := h
  have n1 : ¬ B = G := by omega
  have n2 : ¬ B + 1 = G := by omega
  have n3 : ¬ G = B := by omega
  have n4 : ¬ G = B + 1 := by omega
  refine ⟨⟨⟨?_, ?_, ?_, ?_, ?_, ?_⟩, ⟨?_, ?_, ?_, ?_, ?_, ?_⟩, by simpa [World.setCell] using hz, hb.setCell (p := ⟨G, 2, none⟩) (by show B ≤ G; omega) _⟩, ⟨?_, ?_, ?_, ?_, ?_, ?_⟩, hg, by simpa [World.setCell] using hs⟩
  all_goals simp [go_sem, *]
theorem Text.step {B G : Nat} {w0 w w' : World} {X : ByteArray} (h : Text B G w0 w X) (hb : Below w.heap.size w w') : Text B G w0 w' X :=
  ⟨h.two.step hb, h.x.lift hb h.size, h.gB, Nat.lt_of_lt_of_le h.size hb.size⟩
theorem Text.drew {B G : Nat} {w0 w : World} {X : ByteArray} (h : Text B G w0 w X) : Text B G w0 w.drew X := h.step (Below.refl _ _).drew
theorem keepT {B G : Nat} {w0 w w' : World} {X : ByteArray} (hb : Below w.heap.size w w') (h : Text B G w0 w X) :
    w'.cell? ⟨G, 0, none⟩ = some (.bool false) ∧ w'.cell? ⟨G, 1, none⟩ = some (.int .i64 0) ∧ w'.cell? ⟨G, 2, none⟩ = some (.string X) ∧ Text B G w0 w' X :=
  ⟨(h.step hb).x.c0, (h.step hb).x.c1, (h.step hb).x.c2, h.step hb⟩
set_option maxRecDepth 100000 in
set_option maxHeartbeats 4000000 in
theorem rread_any (s : ByteArray) (w : World) (hs : s.size ≤ 150) :
    Calls Tryd.prog 23 #[.string s] w fun e w' => e = .returned (rreadV (readB s.data.toList)) ∧ Below w.heap.size w w' := by
  obtain ⟨l, hl⟩ : ∃ l, l = s.data.toList := ⟨_, rfl⟩
  have hlen : l.length = s.size := by rw [hl]; simp
  have Hlen := Lib.hid hlen
  have Hmt := Lib.hid (show ∀ i (h : i < s.size), mF (l.take (i + 1)) 0 = mS (mF (l.take i) 0) ((s[i]'h).toNat : Int) from fun i h => by rw [hl]; exact mF_take s i h)
  have Hl := Lib.hid hl
  rw [← hl]
  obtain ⟨V, hV⟩ : ∃ V, V = rreadV (readB l) := ⟨_, rfl⟩
  rw [← hV]
  have HV := Lib.hid hV
  clear hl hlen hV
  go_enter Tryd.func23, Tryd.ntmps23
  go_upto_block 0 with fail
  have T0 : Two w.heap.size w ((w.alloc (.cells #[.bool false, .int .i64 0, .string ⟨#[]⟩] 23)).alloc (.cells #[.bool false, .int .i64 0, .string ⟨#[]⟩] 23)) false 0 ⟨#[]⟩ false 0 ⟨#[]⟩ := by
    refine ⟨⟨?_, ?_, ?_, ?_, ?_, ?_⟩, ⟨?_, ?_, ?_, ?_, ?_, ?_⟩, by simp, ((Below.refl _ _).alloc (Nat.le_refl _) _).alloc (by simp) _⟩
    all_goals simp [go_sem]
  generalize (w.alloc (.cells #[.bool false, .int .i64 0, .string ⟨#[]⟩] 23)).alloc (.cells #[.bool false, .int .i64 0, .string ⟨#[]⟩] 23) = W at *
  go_cut [6, 7, 8] (fun n f k wx => ∃ (J : Nat) (F : Bool) (N : Int) (n0 : Nat), n = .int .i64 n0 ∧ f = .bool F ∧ (J = l.length + 1 ∨ J = 21) ∧ J ≤ l.length + 1 ∧ Found l J F N n0 ∧ Two w.heap.size w wx false 0 ⟨#[]⟩ F N ⟨#[]⟩)
  case first =>
    go_wp2_with fail
    go_loopw [6, 7, 8] (fun n f k wr => ∃ (J : Nat) (F : Bool) (N : Int) (n0 : Nat), n = .int .i64 n0 ∧ f = .bool F ∧ k = .int .i64 J ∧ 1 ≤ J ∧ J ≤ s.size + 1 ∧ J ≤ 21 ∧ Found l J F N n0 ∧ Two w.heap.size w wr false 0 ⟨#[]⟩ F N ⟨#[]⟩) (fun _ _ k _ => 21 - (intOf k).toNat)
    case atStart => exact ⟨1, false, 0, 0, rfl, rfl, rfl, Nat.le_refl _, by omega, by omega, ⟨⟨by omega, by omega⟩, fun e => (by cases e), fun _ => ⟨rfl, rfl⟩, fun k h1 h2 => by omega⟩, T0⟩
    case round =>
      clear T0
      obtain ⟨J, F, N, n0, rfl, rfl, rfl, hJ1, hJs, hJ21, hF, T⟩ := hrel
      have HF := Lib.hid hF
      clear hF
      by_cases hgo : J ≤ s.size ∧ J ≤ 20
      · obtain ⟨hg1, hg2⟩ := hgo
        have hg1' : (J : Int) ≤ s.size := by omega
        go_wp2
        go_loop [9, 10] (fun m i => ∃ q : Nat, q ≤ J ∧ i = .int .i64 q ∧ m = .int .i64 (mF (l.take q) 0)) (fun _ i => J - (intOf i).toNat)
        case atStart => exact ⟨0, Nat.zero_le _, rfl, rfl⟩
        case round =>
          obtain ⟨q, hq, rfl, rfl⟩ := hrel
          have mb := mF_bd (l.take q) 0 (by omega) (by omega)
          by_cases hqJ : q < J
          · have hlt : q < s.size := by omega
            have hst := Hmt.out q hlt
            have hbd : (0 : Int) ≤ ((s[q]'hlt).toNat : Int) ∧ ((s[q]'hlt).toNat : Int) < 256 := by have := (s[q]'hlt).toNat_lt; omega
            by_cases h1 : (48 : Int) ≤ (s[q]'hlt).toNat
            · by_cases h2 : ((s[q]'hlt).toNat : Int) ≤ 57
              · have hS : mF (l.take (q + 1)) 0 = wrap64 (wrap64 (10 * mF (l.take q) 0) - (((s[q]'hlt).toNat : Int) - 48)) := by rw [hst]; unfold mS; rw [if_pos ⟨h1, h2⟩]
                have HS := Lib.hid hS
                clear hst hS
                generalize mF (l.take q) 0 = M at *
                go_wp2
                go_round
                case rel => exact ⟨q + 1, by omega, by go_num, by rw [HS.out]⟩
                case measure => simp [intOf]; omega
              · have hS : mF (l.take (q + 1)) 0 = mF (l.take q) 0 := by rw [hst]; unfold mS; rw [if_neg (by omega)]
                have HS := Lib.hid hS
                clear hst hS
                generalize mF (l.take q) 0 = M at *
                go_wp2
                go_round
                case rel => exact ⟨q + 1, by omega, by go_num, by rw [HS.out]⟩
                case measure => simp [intOf]; omega
            · have hS : mF (l.take (q + 1)) 0 = mF (l.take q) 0 := by rw [hst]; unfold mS; rw [if_neg (by omega)]
              have HS := Lib.hid hS
              clear hst hS
              generalize mF (l.take q) 0 = M at *
              go_wp2
              go_round
              case rel => exact ⟨q + 1, by omega, by go_num, by rw [HS.out]⟩
              case measure => simp [intOf]; omega
          · --
            have e : q = J := by omega
            subst e
            have HM := Lib.hid (show ∃ z, z = mF (l.take q) 0 from ⟨_, rfl⟩)
            have h0s : 0 < s.size := by omega
            have hbd : (0 : Int) ≤ ((s[0]'h0s).toNat : Int) ∧ ((s[0]'h0s).toNat : Int) < 256 := by have := (s[0]'h0s).toNat_lt; omega
            have C := Lib.hid (fun w => rdigits_any (mV (l.take q)) w (mV_bd _).1 (mV_bd _).2)
            have vb := mV_bd (l.take q)
            obtain ⟨D, hD⟩ : ∃ D : ByteArray, D = ⟨(Lib.itoa (mV (l.take q))).toArray⟩ := ⟨_, rfl⟩
            rw [← hD] at C
            have hcmp : (okN l q ∧ (D.toList == (s.extract 0 q).toList) = true) ∨ (¬ okN l q ∧ (D.toList == (s.extract 0 q).toList) = false) := by
              have e1 : D.toList = Lib.itoa (mV (l.take q)) := by rw [hD, ByteArray.toList_eq]
              have e2 : (s.extract 0 q).toList = l.take q := by rw [ByteArray.toList_eq, ext_data, Hl.out]
              rw [e1, e2]
              by_cases h : okN l q
              · exact .inl ⟨h, by unfold okN at h; simpa using h⟩
              · exact .inr ⟨h, by unfold okN at h; simpa using h⟩
            clear hD
            by_cases h45 : (s[0]'h0s).toNat = 45
            · have hv := mV_yes s q h0s hJ1 h45
              rw [← Hl.out] at hv
              have g45 : ((s[0]'h0s).toNat : Int) = 45 := by omega
              clear h45 HM
              generalize hMM : mV (l.take q) = M at *
              have HMM := Lib.hid hMM
              have Hv := Lib.hid hv.symm
              clear hMM hv
              generalize mF (l.take q) 0 = Z at *
              rcases hcmp with ⟨hok, hcmp⟩ | ⟨hok, hcmp⟩
              · have HF1 := Lib.hid (HF.out.step_yes hJ1 hok)
                rw [HMM.out] at HF1
                clear hok
                go_wp2_with fail
                rw [Hv.out]
                go_region_with (go_at_call 39; refine (C.out _).mono ?_; rintro e w1 ⟨rfl, hb1⟩; (first | (have T1 := T.step (below_undrew hb1)) | (have T1 := T.step hb1)); have qc0 := T1.y.c0; have qc1 := T1.y.c1; have qc2 := T1.y.c2; have qf0 := T1.y.f0; have qf1 := T1.y.f1; have qf2 := T1.y.f2)
                all_goals go_wp2
                all_goals go_roundw
                all_goals first
                  | (case rel => exact ⟨q + 1, true, M, q, rfl, rfl, by go_num, by omega, by omega, by omega, HF1.out, T1.storeY _ _ _⟩)
                  | skip
                all_goals (simp [intOf]; omega)
              · have HF1 := Lib.hid (HF.out.step_no hok)
                clear hok
                go_wp2_with fail
                rw [Hv.out]
                go_region_with (go_at_call 39; refine (C.out _).mono ?_; rintro e w1 ⟨rfl, hb1⟩; (first | (have T1 := T.step (below_undrew hb1)) | (have T1 := T.step hb1)))
                all_goals go_wp2
                all_goals go_roundw
                all_goals first
                  | (case rel => exact ⟨q + 1, F, N, n0, rfl, rfl, by go_num, by omega, by omega, by omega, HF1.out, T1⟩)
                  | skip
                all_goals (simp [intOf]; omega)
            · have hv := mV_no s q h0s hJ1 h45
              rw [← Hl.out] at hv
              have g45 : (((s[0]'h0s).toNat : Int) == 45) = false := by simp; omega
              clear h45 HM
              generalize hMM : mV (l.take q) = M at *
              have HMM := Lib.hid hMM
              have Hv := Lib.hid hv.symm
              clear hMM hv
              generalize mF (l.take q) 0 = Z at *
              rcases hcmp with ⟨hok, hcmp⟩ | ⟨hok, hcmp⟩
              · have HF1 := Lib.hid (HF.out.step_yes hJ1 hok)
                rw [HMM.out] at HF1
                clear hok
                go_wp2_with fail
                rw [Hv.out]
                go_region_with (go_at_call 39; refine (C.out _).mono ?_; rintro e w1 ⟨rfl, hb1⟩; (first | (have T1 := T.step (below_undrew hb1)) | (have T1 := T.step hb1)); have qc0 := T1.y.c0; have qc1 := T1.y.c1; have qc2 := T1.y.c2; have qf0 := T1.y.f0; have qf1 := T1.y.f1; have qf2 := T1.y.f2)
                all_goals go_wp2
                all_goals go_roundw
                all_goals first
                  | (case rel => exact ⟨q + 1, true, M, q, rfl, rfl, by go_num, by omega, by omega, by omega, HF1.out, T1.storeY _ _ _⟩)
                  | skip
                all_goals (simp [intOf]; omega)
              · have HF1 := Lib.hid (HF.out.step_no hok)
                clear hok
                go_wp2_with fail
                rw [Hv.out]
                go_region_with (go_at_call 39; refine (C.out _).mono ?_; rintro e w1 ⟨rfl, hb1⟩; (first | (have T1 := T.step (below_undrew hb1)) | (have T1 := T.step hb1)))
                all_goals go_wp2
                all_goals go_roundw
                all_goals first
                  | (case rel => exact ⟨q + 1, F, N, n0, rfl, rfl, by go_num, by omega, by omega, by omega, HF1.out, T1⟩)
                  | skip
                all_goals (simp [intOf]; omega)
      · have hJend : J = l.length + 1 ∨ J = 21 := by have := Hlen.out; omega
        have hJl : J ≤ l.length + 1 := by have := Hlen.out; omega
        have hng : (s.size : Int) < J ∨ ((J : Int) ≤ s.size ∧ (20 : Int) < J) := by omega
        clear hgo
        rcases hng with hng | ⟨hng, hng'⟩
        all_goals go_wp2
        all_goals go_meet
        all_goals exact ⟨J, F, N, n0, rfl, rfl, hJend, hJl, HF.out, T⟩
  case rest =>
    obtain ⟨J, F, N, n0, rfl, rfl, hJend, hJl, hF, T⟩ := hcut
    have HF := Lib.hid hF
    clear hF
    have xc0 := T.x.c0; have xc1 := T.x.c1; have xc2 := T.x.c2; have xf0 := T.x.f0; have xf1 := T.x.f1; have xf2 := T.x.f2
    have yc0 := T.y.c0; have yc1 := T.y.c1; have yc2 := T.y.c2
    cases F with
    | true =>
      have hr := HF.out.end_num hJend hJl
      have hv : V = .tuple #[.agg #[.bool true, .int .i64 N, .string ⟨#[]⟩], .int .i64 n0, .bool true] := by rw [HV.out, hr]; rfl
      subst hv
      clear hr hJend hJl
      go_wp2
      exact bodyPost_ret (v := .tuple #[.agg #[.bool true, .int .i64 N, .string ⟨#[]⟩], .int .i64 n0, .bool true]) (by simp [results, Tryd.results23, go_sem, xc0, xc1, xc2]) rfl ⟨rfl, ((T.below.setCell (Nat.le_refl _) _).setCell (Nat.le_refl _) _).setCell (Nat.le_refl _) _⟩
    | false =>
      have hno := HF.out.end_none hJend hJl
      obtain ⟨rfl, rfl⟩ := HF.out.no rfl
      clear hJend hJl
      by_cases h34 : ∃ t, l = 34 :: t
      · obtain ⟨t, ht⟩ := h34
        have h0s : 0 < s.size := by rw [← Hlen.out, ht]; simp
        have hn := toList_ne s (by omega)
        have hn' := toList_isEmpty s (by omega)
        have g34 : ((s[0]'h0s).toNat : Int) = 34 := by
          have e1 := drop_at s 0 h0s
          rw [List.drop_zero, ← Hl.out, ht] at e1
          rw [← (List.cons.inj e1).1]; rfl
        obtain ⟨U, hU⟩ : ∃ U, U = unT (l.drop 1) [] 1 := ⟨_, rfl⟩
        have HU := Lib.hid hU
        have Ht := Lib.hid ht
        have Hdrop := Lib.hid (show ∀ i (h : i < s.size), l.drop i = s[i]'h :: l.drop (i + 1) from fun i h => by rw [Hl.out]; exact drop_at s i h)
        have Hend := Lib.hid (show ∀ i, s.size ≤ i → l.drop i = [] from fun i h => List.drop_eq_nil_of_le (by have := Hlen.out; omega))
        have Hex := Lib.hid (show ∀ j (h : j < s.size), (s.extract j (j + 1)).data.toList = [s[j]'h] from fun j h => by
          rw [ByteArray.data_extract, Array.toList_extract, ex_dt, drop_at s j h, show j + 1 - j = 1 by omega]; rfl)
        clear hno ht hU HF
        go_wp2_with fail
        have TX : Text w.heap.size wc.heap.size w (wc.alloc (.cells #[.bool false, .int .i64 0, .string ⟨#[]⟩] 23)) ⟨#[]⟩ :=
          ⟨T.step ((Below.refl _ _).alloc (Nat.le_refl _) _), ⟨by simp, by simp, by simp, by simp, by simp, by simp⟩, T.size, by simp⟩
        generalize wc.alloc (.cells #[.bool false, .int .i64 0, .string ⟨#[]⟩] 23) = WX at *
        generalize wc.heap.size = G at *
        clear T xc0 xc1 xc2 xf0 xf1 xf2 yc0 yc1 yc2
        go_loopw [12] (fun iv wx => ∃ (i : Nat) (X : ByteArray), iv = .int .i64 i ∧ i ≤ s.size + 1 ∧ X.size ≤ i ∧ unT (l.drop i) X.data.toList i = U ∧ Text w.heap.size G w wx X) (fun iv _ => s.size + 2 - (intOf iv).toNat)
        case atStart => exact ⟨1, ⟨#[]⟩, rfl, by omega, by decide, HU.out.symm, TX⟩
        case round =>
          obtain ⟨i, X, rfl, hi, hXi, hu, TI⟩ := hrel
          have zc0 := TI.x.c0; have zc1 := TI.x.c1; have zc2 := TI.x.c2; have zf2 := TI.x.f2
          by_cases hlt : i < s.size
          · have hdr := Hdrop.out i hlt
            have hbd : (0 : Int) ≤ ((s[i]'hlt).toNat : Int) ∧ ((s[i]'hlt).toNat : Int) < 256 := by have := (s[i]'hlt).toNat_lt; omega
            by_cases h34 : (s[i]'hlt).toNat = 34
            · have g34 : ((s[i]'hlt).toNat : Int) = 34 := by omega
              have hU2 : U = (X.data.toList, i) := by rw [← hu, hdr, unT_34 _ _ _ _ h34]
              have hUt : unT t [] 1 = (X.data.toList, i) := by rw [← hU2, HU.out, Ht.out]; rfl
              have hi1 : (i : Int) + 1 ≤ s.size := by omega
              have hrb : readB l = (rdT t [] 1).map fun r => ((false, 0, r.1), r.2) := by rw [Ht.out, readB, if_pos (by decide)]
              cases hr : rdT t [] 1 with
              | some r =>
                obtain ⟨y, k⟩ := r
                obtain ⟨i', e1, e2, e3, e4, e5⟩ := text_found t y k hr
                rw [hUt] at e2
                obtain ⟨rfl, rfl⟩ : X.data.toList = y ∧ i = i' := by cases e2; exact ⟨rfl, rfl⟩
                have hv : V = .tuple #[.agg #[.bool false, .int .i64 0, .string X], .int .i64 (i + 1), .bool true] := by
                  rw [HV.out, hrb, hr, e1]
                  show Value.tuple #[.agg #[.bool false, .int .i64 0, .string ⟨X.data.toList.toArray⟩], .int .i64 ((i + 1 : Nat) : Int), .bool true] = _
                  rw [show (⟨X.data.toList.toArray⟩ : ByteArray) = X by simp]; rfl
                have hX60 : X.size ≤ 60 := by rw [Array.length_toList] at e4; exact e4
                have hP : (⟨(34 :: escL X.data.toList ++ [34]).toArray⟩ : ByteArray) = s.extract 0 (i + 1) := by
                  apply Go.WideShapes.bytes_inj
                  rw [ext_data, ← Hl.out, Ht.out, ← e1, ← e5]
                have cw := fun w => rwrite_text X w hX60
                rw [hP] at cw
                have Cw := Lib.hid cw
                subst hv
                clear hr hrb hUt hU2 hu hdr h34 e1 e2 e3 e4 e5 hP cw HU Hmt
                go_wp2_with fail
                have n1 : ¬ (s.size : Int) ≤ i := by omega
                have n2 : ¬ s.size ≤ i := by omega
                have n3 : decide ((60 : Int) < X.size) = false := by simp; omega
                have n4 : decide (60 < X.size) = false := by simp; omega
                have n5 : (i : Int) < s.size := by omega
                have n7 : ¬ (60 : Int) < X.size := by omega
                have n8 : ¬ 60 < X.size := by omega
                have n9 : (0 : Int) ≤ (i : Int) + 1 := by omega
                have n10 : IntKind.i64.wrap ((i : Int) + 1) = (i : Int) + 1 := IntWalk.i64_in _ (by omega)
                have n11 : wrap64 ((i : Int) + 1) = (i : Int) + 1 := by unfold wrap64; omega
                have n12 : (i : Int) + 1 ≤ s.size := by omega
                have hsh : ∀ W, (Instr.slice 9 (.string s) none (some (.int .i64 ((i : Int) + 1))) none).run Tryd.prog W = .ok (.string (s.extract 0 (i + 1))) W := fun W => by
                  have := run_slice_string_h (P := Tryd.prog) W 9 s Tryd.underlying9 .i64 ((i : Int) + 1) (by omega) (by omega)
                  rw [this, show ((i : Int) + 1).toNat = i + 1 by omega]
                go_region_held3 (fun w' => w'.cell? ⟨G, 0, none⟩ = some (.bool false) ∧ w'.cell? ⟨G, 1, none⟩ = some (.int .i64 0) ∧ w'.cell? ⟨G, 2, none⟩ = some (.string X) ∧ Text w.heap.size G w w' X) (first | (exact ⟨zc0, zc1, zc2, TI.drew⟩) | (go_split_ands; exact keepT hb1 (by assumption))) (first | (go_at_call 21; (with_reducible refine (Cw.out _).mono ?_); rintro e w1 ⟨rfl, hb1⟩))
                go_split_ands
                have T1 : Text w.heap.size G w w1 X := by assumption
                clear zc0 zc1 zc2 zf2 TI
                have pc0 := T1.x.c0; have pc1 := T1.x.c1; have pc2 := T1.x.c2; have rc0 := T1.two.x.c0; have rc1 := T1.two.x.c1; have rc2 := T1.two.x.c2; have rf0 := T1.two.x.f0; have rf1 := T1.two.x.f1; have rf2 := T1.two.x.f2
                go_wp2
                exact bodyPost_ret (v := .tuple #[.agg #[.bool false, .int .i64 0, .string X], .int .i64 (i + 1), .bool true]) (by simp [results, Tryd.results23, go_sem, rc0, rc1, rc2]) rfl ⟨rfl, (((T1.two.below).setCell (Nat.le_refl _) _).setCell (Nat.le_refl _) _).setCell (Nat.le_refl _) _⟩
              | none =>
                have hv : V = .tuple #[.agg #[.bool false, .int .i64 0, .string ⟨#[]⟩], .int .i64 0, .bool false] := by rw [HV.out, hrb, hr]; rfl
                subst hv
                by_cases hX60 : X.size ≤ 60
                · have hne := text_none t X.data.toList i hr (by rw [Array.length_toList]; exact hX60)
                  obtain ⟨P, hP⟩ : ∃ P : ByteArray, P = ⟨(34 :: escL X.data.toList ++ [34]).toArray⟩ := ⟨_, rfl⟩
                  have cw := fun w => rwrite_text X w hX60
                  rw [← hP] at cw
                  have Cw := Lib.hid cw
                  have hcmp : (P.toList == (s.extract 0 (i + 1)).toList) = false := by
                    refine beq_toList _ _ fun h => hne ?_
                    have h2 := h
                    rw [hP] at h2
                    simp only [ext_data, ← Hl.out, Ht.out] at h2
                    exact h2
                  clear hr hrb hUt hU2 hu hdr h34 hne hP cw HU Hmt
                  go_wp2_with fail
                  have n1 : ¬ (s.size : Int) ≤ i := by omega
                  have n2 : ¬ s.size ≤ i := by omega
                  have n3 : decide ((60 : Int) < X.size) = false := by simp; omega
                  have n4 : decide (60 < X.size) = false := by simp; omega
                  have n5 : (i : Int) < s.size := by omega
                  have n7 : ¬ (60 : Int) < X.size := by omega
                  have n8 : ¬ 60 < X.size := by omega
                  have n9 : (0 : Int) ≤ (i : Int) + 1 := by omega
                  have n10 : IntKind.i64.wrap ((i : Int) + 1) = (i : Int) + 1 := IntWalk.i64_in _ (by omega)
                  have n11 : wrap64 ((i : Int) + 1) = (i : Int) + 1 := by unfold wrap64; omega
                  have n12 : (i : Int) + 1 ≤ s.size := by omega
                  have hsh : ∀ W, (Instr.slice 9 (.string s) none (some (.int .i64 ((i : Int) + 1))) none).run Tryd.prog W = .ok (.string (s.extract 0 (i + 1))) W := fun W => by
                    have := run_slice_string_h (P := Tryd.prog) W 9 s Tryd.underlying9 .i64 ((i : Int) + 1) (by omega) (by omega)
                    rw [this, show ((i : Int) + 1).toNat = i + 1 by omega]
                  go_region_held3 (fun w' => w'.cell? ⟨G, 0, none⟩ = some (.bool false) ∧ w'.cell? ⟨G, 1, none⟩ = some (.int .i64 0) ∧ w'.cell? ⟨G, 2, none⟩ = some (.string X) ∧ Text w.heap.size G w w' X) (first | (exact ⟨zc0, zc1, zc2, TI.drew⟩) | (go_split_ands; exact keepT hb1 (by assumption))) (first | (go_at_call 21; (with_reducible refine (Cw.out _).mono ?_); rintro e w1 ⟨rfl, hb1⟩))
                  go_split_ands
                  have T1 : Text w.heap.size G w w1 X := by assumption
                  clear zc0 zc1 zc2 zf2 TI
                  have pc0 := T1.x.c0; have pc1 := T1.x.c1; have pc2 := T1.x.c2; have rc0 := T1.two.x.c0; have rc1 := T1.two.x.c1; have rc2 := T1.two.x.c2; have rf0 := T1.two.x.f0; have rf1 := T1.two.x.f1; have rf2 := T1.two.x.f2
                  go_wp2
                  exact bodyPost_ret (v := .tuple #[.agg #[.bool false, .int .i64 0, .string ⟨#[]⟩], .int .i64 0, .bool false]) (by simp [results, Tryd.results23, go_sem, rc0, rc1, rc2]) rfl ⟨rfl, ((T1.two.below.setCell (Nat.le_refl _) _).setCell (Nat.le_refl _) _).setCell (Nat.le_refl _) _⟩
                · have hX61 : (60 : Int) < X.size := by omega
                  have hD := TI.drew
                  have rc0 := TI.two.x.c0; have rc1 := TI.two.x.c1; have rc2 := TI.two.x.c2; have rf0 := TI.two.x.f0; have rf1 := TI.two.x.f1; have rf2 := TI.two.x.f2
                  clear hr hrb hUt hU2 hu hdr h34 HU Hmt
                  go_wp2_with fail
                  have n1 : ¬ (s.size : Int) ≤ i := by omega
                  have n2 : ¬ s.size ≤ i := by omega
                  have n3 : decide ((60 : Int) < X.size) = true := by simp; omega
                  have n4 : decide (60 < X.size) = true := by simp; omega
                  have n5 : (i : Int) < s.size := by omega
                  have n7 : (60 : Int) < X.size := by omega
                  have n8 : 60 < X.size := by omega
                  go_region
                  go_wp2
                  exact bodyPost_ret (v := .tuple #[.agg #[.bool false, .int .i64 0, .string ⟨#[]⟩], .int .i64 0, .bool false]) (by simp [results, Tryd.results23, go_sem, rc0, rc1, rc2]) rfl ⟨rfl, (((TI.two.below.drew).setCell (Nat.le_refl _) _).setCell (Nat.le_refl _) _).setCell (Nat.le_refl _) _⟩
            · have g34 : (((s[i]'hlt).toNat : Int) == 34) = false := by simp; omega
              by_cases h92 : (s[i]'hlt).toNat = 92
              · have g92 : ((s[i]'hlt).toNat : Int) = 92 := by omega
                by_cases hlt2 : i + 1 < s.size
                · have hdr2 := Hdrop.out (i + 1) hlt2
                  have hnext : unT (l.drop (i + 2)) (X ++ s.extract (i + 1) (i + 2)).data.toList (i + 2) = U := by
                    rw [ByteArray.data_append, Array.toList_append, Hex.out (i + 1) hlt2, ← hu, hdr, hdr2, unT_two _ _ _ _ _ h92]
                  have ex1 : (s.extract (i + 1) (i + 2)).size = 1 := by rw [ByteArray.size_extract]; omega
                  have hsum := fun W => run_string_add_sum (P := Tryd.prog) W X (s.extract (i + 1) (i + 2)) (by omega)
                  have hsl : ∀ W, (Instr.slice 9 (.string s) (some (.int .i64 ((i : Int) + 1))) (some (.int .i64 ((i : Int) + 1 + 1))) none).run Tryd.prog W = .ok (.string (s.extract (i + 1) (i + 2))) W := fun W => by
                    have := run_slice_string (P := Tryd.prog) W 9 s .i64 .i64 ((i : Int) + 1) ((i : Int) + 1 + 1) Tryd.underlying9 (by omega) (by omega) (by omega)
                    rw [this, show ((i : Int) + 1).toNat = i + 1 by omega, show ((i : Int) + 1 + 1).toNat = i + 2 by omega]
                  have hsl2 : ∀ W, (Instr.slice 9 (.string s) (some (.int .i64 ((i : Int) + 1))) (some (.int .i64 ((i : Int) + 2))) none).run Tryd.prog W = .ok (.string (s.extract (i + 1) (i + 2))) W := fun W => by
                    have := run_slice_string (P := Tryd.prog) W 9 s .i64 .i64 ((i : Int) + 1) ((i : Int) + 2) Tryd.underlying9 (by omega) (by omega) (by omega)
                    rw [this, show ((i : Int) + 1).toNat = i + 1 by omega, show ((i : Int) + 2).toNat = i + 2 by omega]
                  have Hn := Lib.hid hnext
                  clear hnext hu hdr hdr2 h34 h92
                  go_wp2_with fail
                  go_region
                  go_wp2
                  go_roundw
                  case rel => exact ⟨i + 2, X ++ s.extract (i + 1) (i + 2), by go_num, by omega, by rw [ByteArray.size_append, ex1]; omega, Hn.out, (TI.put _).drew⟩
                  case measure => simp [intOf]; omega
                · have hnext : unT (l.drop (i + 2)) X.data.toList (i + 2) = U := by
                    rw [Hend.out (i + 1) (by omega)] at hdr
                    rw [Hend.out (i + 2) (by omega), ← hu, hdr, unT_end _ _ _ h92]; rfl
                  have Hn := Lib.hid hnext
                  have hge : (s.size : Int) ≤ (i : Int) + 1 := by omega
                  clear hnext hu hdr h34 h92
                  go_wp2
                  go_roundw
                  case rel => exact ⟨i + 2, X, by go_num, by omega, by omega, Hn.out, TI⟩
                  case measure => simp [intOf]; omega
              · have g92 : (((s[i]'hlt).toNat : Int) == 92) = false := by simp; omega
                have hnext : unT (l.drop (i + 1)) (X ++ s.extract i (i + 1)).data.toList (i + 1) = U := by
                  rw [ByteArray.data_append, Array.toList_append, Hex.out i hlt, ← hu, hdr, unT_one _ _ _ _ h34 h92]
                have ex1 : (s.extract i (i + 1)).size = 1 := by rw [ByteArray.size_extract]; omega
                have hsum := fun W => run_string_add_sum (P := Tryd.prog) W X (s.extract i (i + 1)) (by omega)
                have Hn := Lib.hid hnext
                clear hnext hu hdr h34 h92
                have hi1 : (i : Int) + 1 ≤ s.size := by omega
                have hi2 : (i : Int) ≤ (i : Int) + 1 := by omega
                have hi3 : (0 : Int) ≤ i := by omega
                have hsl : ∀ W, (Instr.slice 9 (.string s) (some (.int .i64 (i : Int))) (some (.int .i64 ((i : Int) + 1))) none).run Tryd.prog W = .ok (.string (s.extract i (i + 1))) W := fun W => by
                  have := run_slice_string (P := Tryd.prog) W 9 s .i64 .i64 (i : Int) ((i : Int) + 1) Tryd.underlying9 (by omega) (by omega) (by omega)
                  simpa using this
                go_wp2_with fail
                go_region
                go_wp2
                go_roundw
                case rel => exact ⟨i + 1, X ++ s.extract i (i + 1), by go_num, by omega, by rw [ByteArray.size_append, ex1]; omega, Hn.out, (TI.put _).drew⟩
                case measure => simp [intOf]; omega
          · have hU2 : U = (X.data.toList, i) := by rw [← hu, Hend.out i (by omega)]; rfl
            have hUt : unT t [] 1 = (X.data.toList, i) := by rw [← hU2, HU.out, Ht.out]; rfl
            have hge : (s.size : Int) ≤ i := by omega
            have hrb : readB l = (rdT t [] 1).map fun r => ((false, 0, r.1), r.2) := by rw [Ht.out, readB, if_pos (by decide)]
            have hr : rdT t [] 1 = none := by
              cases hr : rdT t [] 1 with
              | none => rfl
              | some r =>
                obtain ⟨y, k⟩ := r
                obtain ⟨i', e1, e2, e3, e4, e5⟩ := text_found t y k hr
                rw [hUt] at e2
                have e6 : i = i' := by cases e2; rfl
                have e7 := Hlen.out
                rw [Ht.out] at e7
                simp at e7
                omega
            have hv : V = .tuple #[.agg #[.bool false, .int .i64 0, .string ⟨#[]⟩], .int .i64 0, .bool false] := by rw [HV.out, hrb, hr]; rfl
            subst hv
            have rc0 := TI.two.x.c0; have rc1 := TI.two.x.c1; have rc2 := TI.two.x.c2; have rf0 := TI.two.x.f0; have rf1 := TI.two.x.f1; have rf2 := TI.two.x.f2
            clear hr hrb hUt hU2 hu HU Hmt
            go_wp2_with fail
            go_region
            go_wp2
            exact bodyPost_ret (v := .tuple #[.agg #[.bool false, .int .i64 0, .string ⟨#[]⟩], .int .i64 0, .bool false]) (by simp [results, Tryd.results23, go_sem, rc0, rc1, rc2]) rfl ⟨rfl, (((TI.two.below.drew).setCell (Nat.le_refl _) _).setCell (Nat.le_refl _) _).setCell (Nat.le_refl _) _⟩
      · have hnone : readB l = none := by
          cases hr : readB l with
          | none => rfl
          | some r =>
            obtain ⟨⟨b, M, x⟩, K⟩ := r
            have hb := hno b M x K hr
            subst hb
            cases l with
            | nil => cases hr
            | cons c t =>
              rw [readB] at hr
              split at hr
              · rename_i h; exact absurd ⟨t, by rw [show c = 34 from UInt8.toNat_inj.1 h]⟩ h34
              · split at hr
                · split at hr
                  · cases hr
                  · cases hr
                · split at hr
                  · cases hr
                  · cases hr
        have hv : V = .tuple #[.agg #[.bool false, .int .i64 0, .string ⟨#[]⟩], .int .i64 0, .bool false] := by rw [HV.out, hnone]; rfl
        subst hv
        by_cases h0 : s.size = 0
        · have he : s.toList = [] := by rw [ByteArray.toList_eq]; exact List.eq_nil_of_length_eq_zero (by rw [Array.length_toList]; exact h0)
          have he' : s.toList.isEmpty = true := by rw [he]; rfl
          clear hno h34 hnone
          go_wp2
          all_goals exact bodyPost_ret (v := .tuple #[.agg #[.bool false, .int .i64 0, .string ⟨#[]⟩], .int .i64 0, .bool false]) (by simp [results, Tryd.results23, go_sem, xc0, xc1, xc2]) rfl ⟨rfl, ((T.below.setCell (Nat.le_refl _) _).setCell (Nat.le_refl _) _).setCell (Nat.le_refl _) _⟩
        · have h0s : 0 < s.size := by omega
          have hn := toList_ne s h0
          have hn' := toList_isEmpty s h0
          have g34 : (((s[0]'h0s).toNat : Int) == 34) = false := by
            simp only [beq_eq_false_iff_ne, ne_eq]
            intro e
            have e1 := drop_at s 0 h0s
            rw [List.drop_zero, ← Hl.out, show s[0]'h0s = 34 from UInt8.toNat_inj.1 (by show (s[0]'h0s).toNat = 34; omega)] at e1
            exact h34 ⟨_, e1⟩
          have g34' : (((s[0]'h0s).toNat : Int) != 34) = true := by rw [bne, g34]; rfl
          clear hno h34 hnone
          go_wp2
          exact bodyPost_ret (v := .tuple #[.agg #[.bool false, .int .i64 0, .string ⟨#[]⟩], .int .i64 0, .bool false]) (by simp [results, Tryd.results23, go_sem, xc0, xc1, xc2]) rfl ⟨rfl, ((T.below.setCell (Nat.le_refl _) _).setCell (Nat.le_refl _) _).setCell (Nat.le_refl _) _⟩
end Go.Proofs.YtkakldlfgnijdaaDoor
