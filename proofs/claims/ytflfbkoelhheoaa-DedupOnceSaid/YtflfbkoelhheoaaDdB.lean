/- Layer 13: what may be; the contracts of Check, place, Find. -/
import Derived.Test.YtflfbkoelhheoaaDdA
import Derived.Test.YtflfbkoelhheoaaLaC
import Derived.Test.YtflfbkoelhheoaaNmK
namespace Go.Proofs.Ytflfbkoelhheoaa.Dd
open Go.RowKit Go.Shelf Go.Proofs.Ytflfbkoelhheoaa Go.Proofs.Ytflfbkoelhheoaa.La
set_option linter.unusedVariables false
set_option linter.unusedSimpArgs false
/-- What is looked at: short texts, and numbers of 64 bits. -/
structure Ok (x : El) : Prop where
  sz : x.1.size ≤ 60
  s0 : 0 ≤ x.2.1
  s1 : x.2.1 ≤ 18446744073709551615
abbrev Oks (X : List El) : Prop := ∀ x ∈ X, Ok x
def okB (x : El) : Bool := fieldB x.1 && (decide (1 ≤ x.2.1) && decide (0 ≤ x.2.2))
def ordS (a b : ByteArray) : Int := cmpL (dl a) (dl b)
def ordE (x y : El) : Int := ordS x.1 y.1
def mayD (X : List El) : Bool := decide (X.length ≤ 50) && (X.all okB && lsRises ordE X)
set_option maxHeartbeats 1000000 in
theorem check1_any (x : El) (w : World) : Calls Try.prog 27 #[eV x] w fun e w' => e = .returned (.bool (!okB x)) ∧ Below w.heap.size w w' := by
  obtain ⟨x1, x2, x3⟩ := x
  have F := Lib.hid (fun w => field_any x1 w)
  have hb0 : Below w.heap.size w (w.alloc (.cells #[.string x1, .int .u64 x2, .int .i64 x3] 25)) := (Below.refl _ _).alloc (Nat.le_refl _) _
  unfold okB
  simp only
  generalize fieldB x1 = f at *
  have hsz : (w.alloc (.cells #[.string x1, .int .u64 x2, .int .i64 x3] 25)).heap.size = w.heap.size + 1 := by simp
  have Z : ∀ w', Below (w.heap.size + 1) (w.alloc (.cells #[.string x1, .int .u64 x2, .int .i64 x3] 25)) w' → w'.cell? ⟨w.heap.size, 1, none⟩ = some (.int .u64 x2) ∧ w'.cell? ⟨w.heap.size, 2, none⟩ = some (.int .i64 x3) := fun w' h => ⟨(h.cell (p := ⟨w.heap.size, 1, none⟩) (by simp)).trans (by simp [go_sem]), (h.cell (p := ⟨w.heap.size, 2, none⟩) (by simp)).trans (by simp [go_sem])⟩
  have HZ := Lib.hid Z
  have HB := Lib.hid hb0
  clear Z hb0
  have hm : (!(f && (decide (1 ≤ x2) && decide (0 ≤ x3)))) = (!f || (decide (x2 < 1) || decide (x3 < 0))) := by
    rw [Bool.not_and, Bool.not_and]; congr 1; congr 1 <;> (rw [Bool.eq_iff_iff]; simp)
  rw [hm]
  clear hm
  cases f
  · go_enter Try.func27, Try.ntmps27
    go_wp2_with fail
    refine (F.out _).mono ?_
    rintro e w1 ⟨rfl, hb1⟩
    have B1 := Lib.hid (HB.out.trans (hb1.mono (by simp)))
    clear hb1
    go_wp2
    go_ret
    exact ⟨rfl, B1.out⟩
  · by_cases h2 : x2 < 1
    · have h2d : decide (x2 < 1) = true := by simpa using h2
      go_enter Try.func27, Try.ntmps27
      go_wp2_with fail
      refine (F.out _).mono ?_
      rintro e w1 ⟨rfl, hb1⟩
      have B1 := Lib.hid (HB.out.trans (hb1.mono (by simp)))
      rw [hsz] at hb1
      obtain ⟨c1, c2⟩ := HZ.out w1 hb1
      clear hb1
      go_wp2
      go_ret
      exact ⟨by simp [h2], B1.out⟩
    · have h2d : decide (x2 < 1) = false := by simpa using h2
      by_cases h3 : x3 < 0
      · have h3d : decide (x3 < 0) = true := by simpa using h3
        go_enter Try.func27, Try.ntmps27
        go_wp2_with fail
        refine (F.out _).mono ?_
        rintro e w1 ⟨rfl, hb1⟩
        have B1 := Lib.hid (HB.out.trans (hb1.mono (by simp)))
        rw [hsz] at hb1
        obtain ⟨c1, c2⟩ := HZ.out w1 hb1
        clear hb1
        go_wp2
        go_ret
        exact ⟨by simp [h3], B1.out⟩
      · have h3d : decide (x3 < 0) = false := by simpa using h3
        go_enter Try.func27, Try.ntmps27
        go_wp2_with fail
        refine (F.out _).mono ?_
        rintro e w1 ⟨rfl, hb1⟩
        have B1 := Lib.hid (HB.out.trans (hb1.mono (by simp)))
        rw [hsz] at hb1
        obtain ⟨c1, c2⟩ := HZ.out w1 hb1
        clear hb1
        go_wp2
        go_ret
        exact ⟨by simp [h2d, h3d], B1.out⟩
theorem check2_any (x y : El) (w : World) : Calls Try.prog 28 #[eV x, eV y] w fun e w' => e = .returned (.int .i64 (ordE x y)) ∧ Below w.heap.size w w' := by
  obtain ⟨x1, x2, x3⟩ := x
  obtain ⟨y1, y2, y3⟩ := y
  have C := Lib.hid (fun w => cmpStr_dl x1 y1 w)
  have hV : cmpL (dl x1) (dl y1) = ordE (x1, x2, x3) (y1, y2, y3) := rfl
  rw [hV] at C
  clear hV
  generalize ordE (x1, x2, x3) (y1, y2, y3) = r at *
  go_enter Try.func28, Try.ntmps28
  go_wp2_with fail
  refine (C.out _).mono ?_
  rintro e w1 ⟨rfl, rfl⟩
  go_wp2
  go_ret
  exact ⟨rfl, ((Below.refl _ _).alloc (Nat.le_refl _) _).alloc (by simp) _⟩
theorem any_all (X : List El) : X.any (fun x => !okB x) = !X.all okB := by
  induction X with
  | nil => rfl
  | cons x X ih => rw [List.any_cons, List.all_cons, ih]; cases okB x <;> simp
set_option maxHeartbeats 1000000 in
theorem check_any (X : List El) (pa : Option Addr) (cap : Nat) (w : World) (hX : X.length ≤ 100) (hR : Rd w pa X) :
    Calls Try.prog 17 #[.slice pa X.length cap] w fun e w' => e = .returned (.int .i64 (if mayD X then 0 else 1)) ∧ Below w.heap.size w w' := by
  have hp : ∀ w, Pred 27 #[] (fun x => !okB x) X w := fun w =>
    ⟨enters_of Try.func27 (by kernel_rfl) rfl, fun x _ w' _ => check1_any x w'⟩
  have hq : ∀ w, Ord 28 #[] ordE X w := fun w =>
    ⟨enters_of Try.func28 (by kernel_rfl) rfl, fun x _ y _ w' _ => check2_any x y w'⟩
  have H := Lib.hid hR
  have C := Lib.hid (fun w hR => contains_any X pa cap _ _ _ w (by omega) hR (hp w))
  have O := Lib.hid (fun w hR => rises_any X pa cap _ _ _ w (by omega) hR (hq w))
  rw [any_all] at C
  obtain ⟨V, hV⟩ : ∃ V : Int, V = if mayD X then 0 else 1 := ⟨_, rfl⟩
  rw [← hV]
  unfold mayD at hV
  generalize X.all okB = a at *
  generalize lsRises ordE X = r at *
  clear hp hq hR
  by_cases h50 : X.length ≤ 50
  · have h50i : ¬ (50 : Int) < X.length := by omega
    have h50d : decide ((50 : Int) < X.length) = false := by simpa using h50i
    rw [show decide (X.length ≤ 50) = true by simpa using h50, Bool.true_and] at hV
    cases a
    · obtain rfl : V = 1 := by simpa using hV
      clear hV
      go_enter Try.func17, Try.ntmps17
      have T1 := Lib.hid (C.out w H.out)
      go_wp2_with fail
      refine T1.out.mono ?_
      rintro e w1 ⟨rfl, hb1⟩
      have K1 := Lib.hid hb1
      have H1_ := Lib.hid (H.out.lift hb1)
      clear T1 hb1 H
      go_wp2
      go_ret
      exact ⟨rfl, K1.out⟩
    · cases r
      · obtain rfl : V = 1 := by simpa using hV
        clear hV
        go_enter Try.func17, Try.ntmps17
        have T2 := Lib.hid (C.out w H.out)
        go_wp2_with fail
        refine T2.out.mono ?_
        rintro e w2 ⟨rfl, hb2⟩
        have K2 := Lib.hid hb2
        have H2_ := Lib.hid (H.out.lift hb2)
        clear T2 hb2 H
        have T3 := Lib.hid (O.out w2 H2_.out)
        go_wp2_with fail
        refine T3.out.mono ?_
        rintro e w3 ⟨rfl, hb3⟩
        have K3 := Lib.hid (K2.out.trans (hb3.mono K2.out.size))
        have H3_ := Lib.hid (H2_.out.lift hb3)
        clear T3 hb3 K2 H2_
        go_wp2
        go_ret
        exact ⟨rfl, K3.out⟩
      · obtain rfl : V = 0 := by simpa using hV
        clear hV
        go_enter Try.func17, Try.ntmps17
        have T4 := Lib.hid (C.out w H.out)
        go_wp2_with fail
        refine T4.out.mono ?_
        rintro e w4 ⟨rfl, hb4⟩
        have K4 := Lib.hid hb4
        have H4_ := Lib.hid (H.out.lift hb4)
        clear T4 hb4 H
        have T5 := Lib.hid (O.out w4 H4_.out)
        go_wp2_with fail
        refine T5.out.mono ?_
        rintro e w5 ⟨rfl, hb5⟩
        have K5 := Lib.hid (K4.out.trans (hb5.mono K4.out.size))
        have H5_ := Lib.hid (H4_.out.lift hb5)
        clear T5 hb5 K4 H4_
        go_wp2
        go_ret
        exact ⟨rfl, K5.out⟩
  · have h50i : (50 : Int) < X.length := by omega
    rw [show decide (X.length ≤ 50) = false by simpa using h50] at hV
    obtain rfl : V = 1 := by simpa using hV
    go_enter Try.func17, Try.ntmps17
    go_wp2
    go_ret
    exact ⟨rfl, Below.refl _ _⟩
theorem str_eq (a b : ByteArray) : a.toList = b.toList ↔ a = b := by
  rw [ByteArray.toList_eq, ByteArray.toList_eq]
  exact ⟨fun h => Go.WideShapes.bytes_inj h, fun h => by rw [h]⟩
theorem place1_any (p : ByteArray) (B : Nat) (x : El) (w : World) (hc : w.cell? ⟨B, 0, none⟩ = some (.string p)) (hB : B < w.heap.size) :
    Calls Try.prog 36 #[eV x, .pointer (some ⟨B, 0, none⟩)] w fun e w' => e = .returned (.bool (decide (x.1 = p))) ∧ Below w.heap.size w w' := by
  obtain ⟨x1, x2, x3⟩ := x
  have hne : B ≠ w.heap.size := by omega
  have hc2 : (w.alloc (.cells #[.string x1, .int .u64 x2, .int .i64 x3] 25)).cell? ⟨B, 0, none⟩ = some (.string p) := by
    rw [World.cell?_alloc_old _ _ _ hne]; exact hc
  by_cases h : x1 = p
  · subst h
    go_enter Try.func36, Try.ntmps36
    go_wp2
    go_ret
    exact ⟨by simp, (Below.refl _ _).alloc (Nat.le_refl _) _⟩
  · have h1 : ¬ x1.toList = p.toList := fun e => h ((str_eq _ _).1 e)
    have h2 : (x1.toList == p.toList) = false := by simpa using h1
    go_enter Try.func36, Try.ntmps36
    go_wp2
    go_ret
    exact ⟨by simp [h], (Below.refl _ _).alloc (Nat.le_refl _) _⟩
/-- The place of a producer; behind all, if there is none. -/
def posD (X : List El) (p : ByteArray) : Nat := lsPl (fun x => decide (x.1 = p)) X
def idxD (X : List El) (p : ByteArray) : Int := lsIdx (fun x => decide (x.1 = p)) X 0
theorem idxD_pos (X : List El) (p : ByteArray) : (idxD X p = -1 ∧ posD X p = X.length) ∨ (idxD X p = (posD X p : Nat) ∧ posD X p < X.length) := by
  have := lsIdx_pl (fun x : El => decide (x.1 = p)) X 0
  rwa [Nat.zero_add] at this
theorem placeD_any (X : List El) (pa : Option Addr) (cap : Nat) (p : ByteArray) (w : World) (hX : X.length ≤ 100) (hR : Rd w pa X) :
    Calls Try.prog 22 #[.slice pa X.length cap, .string p] w fun e w' => e = .returned (.int .i64 (idxD X p)) ∧ Below w.heap.size w w' := by
  have hR2 : Rd (w.alloc (.cells #[.string p] 9)) pa X := hR.lift ((Below.refl _ _).alloc (Nat.le_refl _) _)
  have hp : Pred 36 #[.pointer (some ⟨w.heap.size, 0, none⟩)] (fun x => decide (x.1 = p)) X (w.alloc (.cells #[.string p] 9)) :=
    ⟨enters_of Try.func36 (by kernel_rfl) rfl, fun x _ w' hb => place1_any p w.heap.size x w' (lsBox _ _ _ hb) (by have := hb.size; simp at this; omega)⟩
  have C := Lib.hid (idxFunc_any X pa cap _ _ _ _ (by omega) hR2 hp)
  have hV : lsIdx (fun x => decide (x.1 = p)) X 0 = idxD X p := rfl
  rw [hV] at C
  clear hR hR2 hp hV
  generalize idxD X p = v at *
  go_enter Try.func22, Try.ntmps22
  go_wp2_with fail
  refine C.out.mono ?_
  rintro e w2 ⟨rfl, hb2⟩
  go_wp2
  go_ret
  exact ⟨rfl, ((Below.refl _ _).alloc (Nat.le_refl _) _).trans (hb2.mono (by simp))⟩
end Go.Proofs.Ytflfbkoelhheoaa.Dd
