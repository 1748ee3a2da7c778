/- Layer 13: the contracts of Find and Ask. -/
import Derived.Test.YtflfbkoelhheoaaDdB
namespace Go.Proofs.Ytflfbkoelhheoaa.Dd
open Go.RowKit Go.Shelf Go.Proofs.Ytflfbkoelhheoaa Go.Proofs.Ytflfbkoelhheoaa.La
set_option linter.unusedVariables false
set_option linter.unusedSimpArgs false
abbrev zE : El := (⟨#[]⟩, 0, 0)
/-- What Find says. -/
def findD (X : List El) (p : ByteArray) : El × Bool := match X[posD X p]? with
  | some x => (x, true)
  | none => (zE, false)
theorem findD_none (X : List El) (p : ByteArray) (h : posD X p = X.length) : findD X p = (zE, false) := by unfold findD; rw [h]; simp
theorem findD_some (X : List El) (p : ByteArray) (h : posD X p < X.length) : findD X p = (X[posD X p], true) := by unfold findD; rw [List.getElem?_eq_getElem h]
set_option maxHeartbeats 1000000 in
theorem find_any (X : List El) (pa : Option Addr) (cap : Nat) (p : ByteArray) (w : World) (hX : X.length ≤ 100) (hR : Rd w pa X) :
    Calls Try.prog 14 #[.slice pa X.length cap, .string p] w fun e w' => e = .returned (.tuple #[eV (findD X p).1, .bool (findD X p).2]) ∧ Below w.heap.size w w' := by
  have P := Lib.hid (fun w hR => placeD_any X pa cap p w hX hR)
  have hi := idxD_pos X p
  have H := Lib.hid hR
  have BX := Lib.hid (Bx.new zE w)
  clear hR
  rcases hi with ⟨h1, h2⟩ | ⟨h1, h2⟩
  · rw [h1] at P
    rw [findD_none X p h2]
    clear h1 h2
    have hb1 : Below w.heap.size w (w.alloc (.cells #[.string ⟨#[]⟩, .int .u64 0, .int .i64 0] 25)) := (Below.refl _ _).alloc (Nat.le_refl _) _
    have K1 := Lib.hid hb1
    have H1_ := Lib.hid (H.out.lift hb1)
    clear hb1 H
    go_enter Try.func14, Try.ntmps14
    have T2 := Lib.hid (P.out (w.alloc (.cells #[.string ⟨#[]⟩, .int .u64 0, .int .i64 0] 25)) H1_.out)
    go_wp2_with fail
    refine T2.out.mono ?_
    rintro e w2 ⟨rfl, hb2⟩
    have K2 := Lib.hid (K1.out.trans (hb2.mono K1.out.size))
    have H2_ := Lib.hid (H1_.out.lift hb2)
    have BX2_ := Lib.hid (BX.out.lift hb2)
    clear T2 hb2 K1 H1_ BX
    obtain ⟨y0, y1, y2⟩ := BX2_.out.c
    obtain ⟨q0, q1, q2⟩ := BX2_.out.f
    go_wp2
    exact bodyPost_ret (v := .tuple #[.agg #[.string ⟨#[]⟩, .int .u64 0, .int .i64 0], .bool false]) (by simp [results, Try.results14, go_sem, y0, y1, y2]) rfl ⟨rfl, ((K2.out.setCell (Nat.le_refl _) _).setCell (Nat.le_refl _) _).setCell (Nat.le_refl _) _⟩
  · rw [h1] at P
    rw [findD_some X p h2]
    have hq : (posD X p : Int) < X.length := by omega
    have hRk : ∀ w', Rd w' pa X → ∃ b o, pa = some ⟨b, o, none⟩ ∧ b < w'.heap.size ∧ w'.cell? ⟨b, o + posD X p * 3, none⟩ = some (.string X[posD X p].1) ∧ w'.cell? ⟨b, o + posD X p * 3 + 1, none⟩ = some (.int .u64 X[posD X p].2.1) ∧ w'.cell? ⟨b, o + posD X p * 3 + 2, none⟩ = some (.int .i64 X[posD X p].2.2) := fun w' h => h.at _ h2
    have HK := Lib.hid hRk
    have hpre : ∀ b o, pa = some ⟨b, o, none⟩ → b ≠ w.heap.size := fun b o e => by
      obtain ⟨b', o', e', hb, _⟩ := H.out.at _ h2
      rw [e] at e'; cases e'; omega
    have HPre := Lib.hid hpre
    clear h1 hRk hpre
    generalize X[posD X p] = x at *
    generalize posD X p = q at *
    obtain ⟨x1, x2, x3⟩ := x
    have hb3 : Below w.heap.size w (w.alloc (.cells #[.string ⟨#[]⟩, .int .u64 0, .int .i64 0] 25)) := (Below.refl _ _).alloc (Nat.le_refl _) _
    have K3 := Lib.hid hb3
    have H3_ := Lib.hid (H.out.lift hb3)
    clear hb3 H
    go_enter Try.func14, Try.ntmps14
    have T4 := Lib.hid (P.out (w.alloc (.cells #[.string ⟨#[]⟩, .int .u64 0, .int .i64 0] 25)) H3_.out)
    go_wp2_with fail
    refine T4.out.mono ?_
    rintro e w4 ⟨rfl, hb4⟩
    have K4 := Lib.hid (K3.out.trans (hb4.mono K3.out.size))
    have H4_ := Lib.hid (H3_.out.lift hb4)
    have BX4_ := Lib.hid (BX.out.lift hb4)
    clear T4 hb4 K3 H3_ BX
    obtain ⟨y0, y1, y2⟩ := BX4_.out.c
    obtain ⟨q0, q1, q2⟩ := BX4_.out.f
    obtain ⟨b, o, rfl, hbz, c0, c1, c2⟩ := HK.out _ H4_.out
    have hne := HPre.out b o rfl
    try simp only at c0 c1 c2
    clear HK HPre hbz
    go_wp2
    exact bodyPost_ret (v := .tuple #[.agg #[.string x1, .int .u64 x2, .int .i64 x3], .bool true]) (by simp [results, Try.results14, go_sem, y0, y1, y2]) rfl ⟨rfl, ((K4.out.setCell (Nat.le_refl _) _).setCell (Nat.le_refl _) _).setCell (Nat.le_refl _) _⟩
/-- What Ask says of a last number. -/
def askE (x : El) (s : Int) : Int × Int := if s = x.2.1 then (x.2.2, 5) else if s < x.2.1 then (0, 8) else if 1 < s - x.2.1 then (0, 9) else (0, 0)
def askD (X : List El) (p : ByteArray) (s : Int) : Int × Int := if mayD X && (fieldB p && !decide (s = 0)) then askE (findD X p).1 s else (0, 1)
theorem findD_seq (X : List El) (p : ByteArray) (h : Oks X) : 0 ≤ (findD X p).1.2.1 ∧ (findD X p).1.2.1 ≤ 18446744073709551615 := by
  rcases idxD_pos X p with ⟨_, h2⟩ | ⟨_, h2⟩
  · rw [findD_none X p h2]; decide
  · rw [findD_some X p h2]; exact ⟨(h _ (List.getElem_mem h2)).s0, (h _ (List.getElem_mem h2)).s1⟩
theorem pair_ret (a b a' b' : Int) (h1 : a = a') (h2 : b = b') : (#[Value.int .i64 a, Value.int .i64 b] : Array Value) = #[Value.int .i64 a', Value.int .i64 b'] := by rw [h1, h2]
set_option maxRecDepth 100000 in
set_option maxHeartbeats 2000000 in
theorem ask_any (X : List El) (pa : Option Addr) (cap : Nat) (p : ByteArray) (s : Int) (w : World) (hX : X.length ≤ 100) (hR : Rd w pa X) (hO : Oks X) (hs0 : 0 ≤ s) (hs1 : s ≤ 18446744073709551615) :
    Calls Try.prog 10 #[.slice pa X.length cap, .string p, .int .u64 s] w fun e w' => e = .returned (.tuple #[.int .i64 (askD X p s).1, .int .i64 (askD X p s).2]) ∧ Below w.heap.size w w' := by
  have C := Lib.hid (fun w hR => check_any X pa cap w hX hR)
  have F := Lib.hid (fun w => field_any p w)
  have N := Lib.hid (fun w hR => find_any X pa cap p w hX hR)
  have H := Lib.hid hR
  have hq := findD_seq X p hO
  obtain ⟨V, hV⟩ : ∃ V : Int × Int, V = askD X p s := ⟨_, rfl⟩
  rw [← hV]
  unfold askD at hV
  generalize mayD X = m at *
  generalize fieldB p = f at *
  generalize findD X p = y at *
  obtain ⟨⟨y1, y2, y3⟩, y4⟩ := y
  simp only at hq
  unfold askE at hV
  simp only at hV
  have hw : IntKind.u64.wrap (s - y2) = if y2 ≤ s then s - y2 else IntKind.u64.wrap (s - y2) := by
    split
    · exact IntWalk.u64_in _ (by omega)
    · rfl
  clear hR hO hs1
  cases m
  · obtain rfl : V = (0, 1) := by simpa using hV
    clear hV hq hw
    go_enter Try.func10, Try.ntmps10
    have T1 := Lib.hid (C.out w H.out)
    go_wp2_with fail
    refine T1.out.mono ?_
    rintro e w1 ⟨rfl, hb1⟩
    have K1 := Lib.hid hb1
    have H1_ := Lib.hid (H.out.lift hb1)
    clear T1 hb1 H
    go_wp2
    refine bodyPost_ret (v := .tuple #[_, _]) (by simp [results, Try.results10, go_sem]; exact ⟨rfl, rfl⟩) rfl ?_
    exact ⟨rfl, K1.out⟩
  · cases f
    · obtain rfl : V = (0, 1) := by simpa using hV
      clear hV hq hw
      go_enter Try.func10, Try.ntmps10
      have T2 := Lib.hid (C.out w H.out)
      go_wp2_with fail
      refine T2.out.mono ?_
      rintro e w2 ⟨rfl, hb2⟩
      have K2 := Lib.hid hb2
      have H2_ := Lib.hid (H.out.lift hb2)
      clear T2 hb2 H
      have T3 := Lib.hid (F.out w2)
      go_wp2_with fail
      refine T3.out.mono ?_
      rintro e w3 ⟨rfl, hb3⟩
      have K3 := Lib.hid (K2.out.trans (hb3.mono K2.out.size))
      have H3_ := Lib.hid (H2_.out.lift hb3)
      clear T3 hb3 K2 H2_
      go_wp2
      refine bodyPost_ret (v := .tuple #[_, _]) (by simp [results, Try.results10, go_sem]; exact ⟨rfl, rfl⟩) rfl ?_
      exact ⟨rfl, K3.out⟩
    · by_cases h0 : s = 0
      · subst h0
        obtain rfl : V = (0, 1) := by simpa using hV
        clear hV hq hw
        go_enter Try.func10, Try.ntmps10
        have T4 := Lib.hid (C.out w H.out)
        go_wp2_with fail
        refine T4.out.mono ?_
        rintro e w4 ⟨rfl, hb4⟩
        have K4 := Lib.hid hb4
        have H4_ := Lib.hid (H.out.lift hb4)
        clear T4 hb4 H
        have T5 := Lib.hid (F.out w4)
        go_wp2_with fail
        refine T5.out.mono ?_
        rintro e w5 ⟨rfl, hb5⟩
        have K5 := Lib.hid (K4.out.trans (hb5.mono K4.out.size))
        have H5_ := Lib.hid (H4_.out.lift hb5)
        clear T5 hb5 K4 H4_
        go_wp2
        refine bodyPost_ret (v := .tuple #[_, _]) (by simp [results, Try.results10, go_sem]; exact ⟨rfl, rfl⟩) rfl ?_
        exact ⟨rfl, K5.out⟩
      · have h0d : decide (s = 0) = false := by simpa using h0
        have hV2 : V = if s = y2 then (y3, 5) else if s < y2 then (0, 8) else if 1 < s - y2 then (0, 9) else (0, 0) := by rw [hV, h0d]; rfl
        clear hV
        by_cases h1 : s = y2
        · rw [if_pos h1] at hV2
          subst hV2 h1
          clear hq hw
          go_enter Try.func10, Try.ntmps10
          have T6 := Lib.hid (C.out w H.out)
          go_wp2_with fail
          refine T6.out.mono ?_
          rintro e w6 ⟨rfl, hb6⟩
          have K6 := Lib.hid hb6
          have H6_ := Lib.hid (H.out.lift hb6)
          clear T6 hb6 H
          have T7 := Lib.hid (F.out w6)
          go_wp2_with fail
          refine T7.out.mono ?_
          rintro e w7 ⟨rfl, hb7⟩
          have K7 := Lib.hid (K6.out.trans (hb7.mono K6.out.size))
          have H7_ := Lib.hid (H6_.out.lift hb7)
          clear T7 hb7 K6 H6_
          have T8 := Lib.hid (N.out w7 H7_.out)
          go_wp2_with fail
          refine T8.out.mono ?_
          rintro e w8 ⟨rfl, hb8⟩
          have K8 := Lib.hid (K7.out.trans (hb8.mono K7.out.size))
          have H8_ := Lib.hid (H7_.out.lift hb8)
          clear T8 hb8 K7 H7_
          go_wp2
          refine bodyPost_ret (v := .tuple #[_, _]) (by simp [results, Try.results10, go_sem]; exact ⟨rfl, rfl⟩) rfl ?_
          exact ⟨rfl, K8.out.alloc (K8.out.size) _⟩
        · rw [if_neg h1] at hV2
          by_cases h2 : s < y2
          · rw [if_pos h2] at hV2
            subst hV2
            clear hq hw
            go_enter Try.func10, Try.ntmps10
            have T9 := Lib.hid (C.out w H.out)
            go_wp2_with fail
            refine T9.out.mono ?_
            rintro e w9 ⟨rfl, hb9⟩
            have K9 := Lib.hid hb9
            have H9_ := Lib.hid (H.out.lift hb9)
            clear T9 hb9 H
            have T10 := Lib.hid (F.out w9)
            go_wp2_with fail
            refine T10.out.mono ?_
            rintro e w10 ⟨rfl, hb10⟩
            have K10 := Lib.hid (K9.out.trans (hb10.mono K9.out.size))
            have H10_ := Lib.hid (H9_.out.lift hb10)
            clear T10 hb10 K9 H9_
            have T11 := Lib.hid (N.out w10 H10_.out)
            go_wp2_with fail
            refine T11.out.mono ?_
            rintro e w11 ⟨rfl, hb11⟩
            have K11 := Lib.hid (K10.out.trans (hb11.mono K10.out.size))
            have H11_ := Lib.hid (H10_.out.lift hb11)
            clear T11 hb11 K10 H10_
            go_wp2
            refine bodyPost_ret (v := .tuple #[_, _]) (by simp [results, Try.results10, go_sem]; exact ⟨rfl, rfl⟩) rfl ?_
            exact ⟨rfl, K11.out.alloc (K11.out.size) _⟩
          · rw [if_neg h2] at hV2
            rw [if_pos (by omega)] at hw
            have hw1 : (0 : Int) ≤ s - y2 := by omega
            obtain ⟨z, hz⟩ : ∃ z, z = s - y2 := ⟨_, rfl⟩
            rw [← hz] at hw1 hV2
            have hwz : IntKind.u64.wrap (s - y2) = z := hw.trans hz.symm
            have h2n : ¬ s < y2 := h2
            clear hq hw hz
            by_cases h3 : 1 < z
            · rw [if_pos h3] at hV2
              subst hV2
              go_enter Try.func10, Try.ntmps10
              have T12 := Lib.hid (C.out w H.out)
              go_wp2_with fail
              refine T12.out.mono ?_
              rintro e w12 ⟨rfl, hb12⟩
              have K12 := Lib.hid hb12
              have H12_ := Lib.hid (H.out.lift hb12)
              clear T12 hb12 H
              have T13 := Lib.hid (F.out w12)
              go_wp2_with fail
              refine T13.out.mono ?_
              rintro e w13 ⟨rfl, hb13⟩
              have K13 := Lib.hid (K12.out.trans (hb13.mono K12.out.size))
              have H13_ := Lib.hid (H12_.out.lift hb13)
              clear T13 hb13 K12 H12_
              have T14 := Lib.hid (N.out w13 H13_.out)
              go_wp2_with fail
              refine T14.out.mono ?_
              rintro e w14 ⟨rfl, hb14⟩
              have K14 := Lib.hid (K13.out.trans (hb14.mono K13.out.size))
              have H14_ := Lib.hid (H13_.out.lift hb14)
              clear T14 hb14 K13 H13_
              go_wp2
              refine bodyPost_ret (v := .tuple #[_, _]) (by simp [results, Try.results10, go_sem]; exact ⟨rfl, rfl⟩) rfl ?_
              exact ⟨rfl, K14.out.alloc (K14.out.size) _⟩
            · rw [if_neg h3] at hV2
              subst hV2
              go_enter Try.func10, Try.ntmps10
              have T15 := Lib.hid (C.out w H.out)
              go_wp2_with fail
              refine T15.out.mono ?_
              rintro e w15 ⟨rfl, hb15⟩
              have K15 := Lib.hid hb15
              have H15_ := Lib.hid (H.out.lift hb15)
              clear T15 hb15 H
              have T16 := Lib.hid (F.out w15)
              go_wp2_with fail
              refine T16.out.mono ?_
              rintro e w16 ⟨rfl, hb16⟩
              have K16 := Lib.hid (K15.out.trans (hb16.mono K15.out.size))
              have H16_ := Lib.hid (H15_.out.lift hb16)
              clear T16 hb16 K15 H15_
              have T17 := Lib.hid (N.out w16 H16_.out)
              go_wp2_with fail
              refine T17.out.mono ?_
              rintro e w17 ⟨rfl, hb17⟩
              have K17 := Lib.hid (K16.out.trans (hb17.mono K16.out.size))
              have H17_ := Lib.hid (H16_.out.lift hb17)
              clear T17 hb17 K16 H16_
              go_wp2
              refine bodyPost_ret (v := .tuple #[_, _]) (by simp [results, Try.results10, go_sem]; exact ⟨rfl, rfl⟩) rfl ?_
              exact ⟨rfl, K17.out.alloc (K17.out.size) _⟩
end Go.Proofs.Ytflfbkoelhheoaa.Dd
