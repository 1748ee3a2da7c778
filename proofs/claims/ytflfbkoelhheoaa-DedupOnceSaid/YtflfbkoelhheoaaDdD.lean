/- Layer 13: the contract of Take. -/
import Derived.Test.YtflfbkoelhheoaaDdC
namespace Go.Proofs.Ytflfbkoelhheoaa.Dd
open Go.RowKit Go.Shelf Go.Proofs.Ytflfbkoelhheoaa Go.Proofs.Ytflfbkoelhheoaa.La
set_option linter.unusedVariables false
set_option linter.unusedSimpArgs false
theorem less_cmp (a b : ByteArray) : Op.bytesLess a.toList b.toList = decide (ordS a b < 0) := by
  unfold ordS cmpL dl
  rw [ByteArray.toList_eq, ByteArray.toList_eq]
  cases Op.bytesLess a.data.toList b.data.toList
  · simp; split <;> omega
  · simp
theorem gtr_cmp (a b : ByteArray) : (!Op.bytesLess a.toList b.toList && !a.toList == b.toList) = decide (ordS b a < 0) := by
  rw [← less_cmp]
  rcases less_total a.toList b.toList with h | h | h
  · rw [h, less_asymm _ _ h]; rfl
  · rw [h, less_irrefl]; simp
  · have h2 := less_asymm _ _ h
    have hne : ¬ a.toList = b.toList := fun e => by rw [e, less_irrefl] at h; cases h
    have hb : (a.toList == b.toList) = false := by simpa using hne
    rw [h, h2, hb]; rfl
theorem take1_any (y : El) (B : Nat) (x : El) (w : World) (hc : w.cell? ⟨B, 0, none⟩ = some (.string y.1)) (hB : B < w.heap.size) :
    Calls Try.prog 25 #[eV x, .pointer (some ⟨B, 0, none⟩)] w fun e w' => e = .returned (.bool (decide (ordS y.1 x.1 < 0))) ∧ Below w.heap.size w w' := by
  obtain ⟨x1, x2, x3⟩ := x
  obtain ⟨y1, y2, y3⟩ := y
  simp only at hc
  have hne : B ≠ w.heap.size := by omega
  have hc2 : (w.alloc (.cells #[.string x1, .int .u64 x2, .int .i64 x3] 25)).cell? ⟨B, 0, none⟩ = some (.string y1) := by
    rw [World.cell?_alloc_old _ _ _ hne]; exact hc
  have hl := gtr_cmp x1 y1
  simp only
  rw [← hl]
  clear hl
  generalize hb : (!Op.bytesLess x1.toList y1.toList && !x1.toList == y1.toList) = c
  have HB := Lib.hid hb
  clear hb
  go_enter Try.func25, Try.ntmps25
  go_wp2
  go_ret
  exact ⟨by rw [← HB.out]; rfl, (Below.refl _ _).alloc (Nat.le_refl _) _⟩
/-- Where a new producer goes. -/
def goesD (X : List El) (x : El) : Nat := lsPl (fun y => decide (ordS x.1 y.1 < 0)) X
def putD (X : List El) (x : El) : List El := if posD X x.1 < X.length then X.set (posD X x.1) x else X.take (goesD X x) ++ x :: X.drop (goesD X x)
def takeD (X : List El) (x : El) : List El × Int :=
  if (askD X x.1 x.2.1).2 = 0 then (if x.2.2 < 0 then ([], 1) else if posD X x.1 < X.length then (putD X x, 0) else if X.length = 50 then ([], 6) else (putD X x, 0)) else ([], (askD X x.1 x.2.1).2)
structure TakePost (r : List El × Int) (w : World) (e : Ending) (w' : World) : Prop where
  out : ∃ v, e = .returned (.tuple #[v, .int .i64 r.2]) ∧ Own w' w.heap.size v r.1 ∧ Below w.heap.size w w'
set_option maxRecDepth 100000 in
set_option maxHeartbeats 4000000 in
theorem take_any (X : List El) (pa : Option Addr) (cap : Nat) (x : El) (w : World) (hX : X.length ≤ 100) (hcap : X.length ≤ cap) (hR : Rd w pa X) (hnil : pa = none → cap = 0) (hO : Oks X) (hx : Ok x) :
    Calls Try.prog 12 #[.slice pa X.length cap, eV x] w (TakePost (takeD X x) w) := by
  have A := Lib.hid (fun w hR => ask_any X pa cap x.1 x.2.1 w hX hR hO hx.s0 hx.s1)
  have P := Lib.hid (fun w hR => placeD_any X pa cap x.1 w hX hR)
  have S := Lib.hid (fun k w hk hR => La.set_any X pa cap k x w (by omega) hk hR)
  have T := Lib.hid (fun k w hk hR => La.with_any X pa cap k x w (by omega) hcap hk hR hnil)
  have hp : ∀ B w, w.cell? ⟨B, 0, none⟩ = some (.string x.1) → B < w.heap.size → Pred 25 #[.pointer (some ⟨B, 0, none⟩)] (fun y => decide (ordS x.1 y.1 < 0)) X w := fun B w h1 h2 =>
    ⟨enters_of Try.func25 (by kernel_rfl) rfl, fun z _ w' hb => take1_any x B z w' ((hb.cell (p := ⟨B, 0, none⟩) h2).trans h1) (Nat.lt_of_lt_of_le h2 hb.size)⟩
  have G := Lib.hid (fun B w h1 h2 hR => La.place_any X pa cap _ _ _ w (by omega) hR (hp B w h1 h2))
  have hg : lsPl (fun y => decide (ordS x.1 y.1 < 0)) X = goesD X x := rfl
  rw [hg] at G
  have hgl : goesD X x ≤ X.length := lsPl_le _ _
  have hi := idxD_pos X x.1
  have H := Lib.hid hR
  have BX := Lib.hid (Bx.new x w)
  obtain ⟨r, hr⟩ : ∃ r, r = takeD X x := ⟨_, rfl⟩
  rw [← hr]
  unfold takeD putD at hr
  generalize askD X x.1 x.2.1 = a at *
  generalize idxD X x.1 = v at *
  generalize posD X x.1 = q at *
  generalize goesD X x = g at *
  have hXi : (X.length : Int) ≤ 100 := by omega
  obtain ⟨x1, x2, x3⟩ := x
  obtain ⟨a1, a2⟩ := a
  simp only at *
  clear hp hg hR hO hx
  have hb1 : Below w.heap.size w (w.alloc (.cells #[.string x1, .int .u64 x2, .int .i64 x3] 25)) := (Below.refl _ _).alloc (Nat.le_refl _) _
  have K1 := Lib.hid hb1
  have H1_ := Lib.hid (H.out.lift hb1)
  clear hb1 H
  by_cases h0 : a2 = 0
  · subst h0
    rw [if_pos rfl] at hr
    by_cases h3 : x3 < 0
    · rw [if_pos h3] at hr
      subst hr
      clear hi hgl
      go_enter Try.func12, Try.ntmps12
      have T2 := Lib.hid (A.out (w.alloc (.cells #[.string x1, .int .u64 x2, .int .i64 x3] 25)) H1_.out)
      go_wp2_with fail
      refine T2.out.mono ?_
      rintro e w2 ⟨rfl, hb2⟩
      have K2 := Lib.hid (K1.out.trans (hb2.mono K1.out.size))
      have H2_ := Lib.hid (H1_.out.lift hb2)
      have BX2_ := Lib.hid (BX.out.lift hb2)
      clear T2 hb2 K1 H1_ BX
      obtain ⟨y0, y1, y2⟩ := BX2_.out.c
      go_wp2
      refine bodyPost_ret (v := .tuple #[_, _]) (by simp [results, Try.results12, go_sem]; exact ⟨rfl, rfl⟩) rfl ?_
      exact ⟨_, rfl, Own.nil _ _, K2.out⟩
    · rw [if_neg h3] at hr
      have h3d : decide (x3 < 0) = false := by simpa using h3
      rcases hi with ⟨rfl, h2⟩ | ⟨rfl, h2⟩
      · rw [if_neg (by omega)] at hr
        have hb2 := Lib.hid h2
        by_cases h50 : X.length = 50
        · rw [if_pos h50] at hr
          subst hr
          have H50 := Lib.hid (show (X.length : Int) = 50 by omega)
          clear h2 hgl h50
          go_enter Try.func12, Try.ntmps12
          have T3 := Lib.hid (A.out (w.alloc (.cells #[.string x1, .int .u64 x2, .int .i64 x3] 25)) H1_.out)
          go_wp2_with fail
          refine T3.out.mono ?_
          rintro e w3 ⟨rfl, hb3⟩
          have K3 := Lib.hid (K1.out.trans (hb3.mono K1.out.size))
          have H3_ := Lib.hid (H1_.out.lift hb3)
          have BX3_ := Lib.hid (BX.out.lift hb3)
          clear T3 hb3 K1 H1_ BX
          obtain ⟨y0, y1, y2⟩ := BX3_.out.c
          have T4 := Lib.hid (P.out w3 H3_.out)
          go_wp2_with fail
          refine T4.out.mono ?_
          rintro e w4 ⟨rfl, hb4⟩
          have K4 := Lib.hid (K3.out.trans (hb4.mono K3.out.size))
          have H4_ := Lib.hid (H3_.out.lift hb4)
          have BX4_ := Lib.hid (BX3_.out.lift hb4)
          clear T4 hb4 K3 H3_ BX3_
          obtain ⟨y0, y1, y2⟩ := BX4_.out.c
          have h50i := H50.out
          go_wp2
          refine bodyPost_ret (v := .tuple #[_, _]) (by simp [results, Try.results12, go_sem]; exact ⟨rfl, rfl⟩) rfl ?_
          exact ⟨_, rfl, Own.nil _ _, K4.out⟩
        · rw [if_neg h50, if_neg (by omega)] at hr
          subst hr
          have h50i : ¬ (X.length : Int) = 50 := by omega
          have h50d : decide ((X.length : Int) = 50) = false := by simpa using h50i
          clear h2
          go_enter Try.func12, Try.ntmps12
          have T5 := Lib.hid (A.out (w.alloc (.cells #[.string x1, .int .u64 x2, .int .i64 x3] 25)) H1_.out)
          go_wp2_with fail
          refine T5.out.mono ?_
          rintro e w5 ⟨rfl, hb5⟩
          have K5 := Lib.hid (K1.out.trans (hb5.mono K1.out.size))
          have H5_ := Lib.hid (H1_.out.lift hb5)
          have BX5_ := Lib.hid (BX.out.lift hb5)
          clear T5 hb5 K1 H1_ BX
          obtain ⟨y0, y1, y2⟩ := BX5_.out.c
          have T6 := Lib.hid (P.out w5 H5_.out)
          go_wp2_with fail
          refine T6.out.mono ?_
          rintro e w6 ⟨rfl, hb6⟩
          have K6 := Lib.hid (K5.out.trans (hb6.mono K5.out.size))
          have H6_ := Lib.hid (H5_.out.lift hb6)
          have BX6_ := Lib.hid (BX5_.out.lift hb6)
          clear T6 hb6 K5 H5_ BX5_
          have T7 := Lib.hid (G.out w.heap.size w6 BX6_.out.c.1 BX6_.out.lt H6_.out)
          go_wp2_with fail
          refine T7.out.mono ?_
          rintro e w7 ⟨rfl, hb7⟩
          have K7 := Lib.hid (K6.out.trans (hb7.mono K6.out.size))
          have H7_ := Lib.hid (H6_.out.lift hb7)
          have BX7_ := Lib.hid (BX6_.out.lift hb7)
          clear T7 hb7 K6 H6_ BX6_
          obtain ⟨y0, y1, y2⟩ := BX7_.out.c
          have T8 := Lib.hid (T.out g w7 hgl H7_.out)
          go_wp2_with fail
          refine T8.out.mono ?_
          rintro e w8 ⟨v, rfl, ho, hb8⟩
          have Ho8 := Lib.hid (ho.mono K7.out.size)
          have K8 := Lib.hid (K7.out.trans (hb8.mono K7.out.size))
          have H8_ := Lib.hid (H7_.out.lift hb8)
          have BX8_ := Lib.hid (BX7_.out.lift hb8)
          clear T8 hb8 ho K7 H7_ BX7_
          go_wp2
          refine bodyPost_ret (v := .tuple #[_, _]) (by simp [results, Try.results12, go_sem]; exact ⟨rfl, rfl⟩) rfl ?_
          exact ⟨v, rfl, Ho8.out, K8.out⟩
      · rw [if_pos h2, if_pos h2] at hr
        subst hr
        have hqi : (0 : Int) ≤ q := by omega
        clear hgl
        have hbq := Lib.hid h2
        go_enter Try.func12, Try.ntmps12
        have T9 := Lib.hid (A.out (w.alloc (.cells #[.string x1, .int .u64 x2, .int .i64 x3] 25)) H1_.out)
        go_wp2_with fail
        refine T9.out.mono ?_
        rintro e w9 ⟨rfl, hb9⟩
        have K9 := Lib.hid (K1.out.trans (hb9.mono K1.out.size))
        have H9_ := Lib.hid (H1_.out.lift hb9)
        have BX9_ := Lib.hid (BX.out.lift hb9)
        clear T9 hb9 K1 H1_ BX
        obtain ⟨y0, y1, y2⟩ := BX9_.out.c
        have T10 := Lib.hid (P.out w9 H9_.out)
        go_wp2_with fail
        refine T10.out.mono ?_
        rintro e w10 ⟨rfl, hb10⟩
        have K10 := Lib.hid (K9.out.trans (hb10.mono K9.out.size))
        have H10_ := Lib.hid (H9_.out.lift hb10)
        have BX10_ := Lib.hid (BX9_.out.lift hb10)
        clear T10 hb10 K9 H9_ BX9_
        obtain ⟨y0, y1, y2⟩ := BX10_.out.c
        have T11 := Lib.hid (S.out q w10 hbq.out H10_.out)
        go_wp2_with fail
        refine T11.out.mono ?_
        rintro e w11 ⟨v, rfl, ho, hb11⟩
        have Ho11 := Lib.hid (ho.mono K10.out.size)
        have K11 := Lib.hid (K10.out.trans (hb11.mono K10.out.size))
        have H11_ := Lib.hid (H10_.out.lift hb11)
        have BX11_ := Lib.hid (BX10_.out.lift hb11)
        clear T11 hb11 ho K10 H10_ BX10_
        go_wp2
        refine bodyPost_ret (v := .tuple #[_, _]) (by simp [results, Try.results12, go_sem]; exact ⟨rfl, rfl⟩) rfl ?_
        exact ⟨v, rfl, Ho11.out, K11.out⟩
  · rw [if_neg h0] at hr
    subst hr
    have h0d : decide (a2 = 0) = false := by simpa using h0
    clear hi hgl
    go_enter Try.func12, Try.ntmps12
    have T12 := Lib.hid (A.out (w.alloc (.cells #[.string x1, .int .u64 x2, .int .i64 x3] 25)) H1_.out)
    go_wp2_with fail
    refine T12.out.mono ?_
    rintro e w12 ⟨rfl, hb12⟩
    have K12 := Lib.hid (K1.out.trans (hb12.mono K1.out.size))
    have H12_ := Lib.hid (H1_.out.lift hb12)
    have BX12_ := Lib.hid (BX.out.lift hb12)
    clear T12 hb12 K1 H1_ BX
    go_wp2
    refine bodyPost_ret (v := .tuple #[_, _]) (by simp [results, Try.results12, go_sem]; exact ⟨rfl, rfl⟩) rfl ?_
    exact ⟨_, rfl, Own.nil _ _, K12.out⟩
end Go.Proofs.Ytflfbkoelhheoaa.Dd
