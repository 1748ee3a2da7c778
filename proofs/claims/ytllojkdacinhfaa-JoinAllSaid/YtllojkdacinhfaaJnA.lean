/- Layer 9: what may be a pattern, and what may wait: the program's small functions. -/
import Derived.Test.YtllojkdacinhfaaKeC
import Derived.Test.YtllojkdacinhfaaShelf
namespace Go.Proofs.Ytllojkdacinhfaa.Jn
open Go.RowKit Go.Shelf Go.Proofs.Ytllojkdacinhfaa Go.Proofs.Ytllojkdacinhfaa.Ke
set_option linter.unusedVariables false
set_option linter.unusedSimpArgs false
abbrev Pt := ByteArray × Int × Int × Int
abbrev jV (j : Pt) : Value := .agg #[.string j.1, .int .i64 j.2.1, .int .i64 j.2.2.1, .int .i64 j.2.2.2]
abbrev jBox (w : World) (k : ByteArray) (p n v : Int) : World := w.alloc (.cells #[.string k, .int .i64 p, .int .i64 n, .int .i64 v] 23)
def needB (k : ByteArray) (n : Int) : Bool :=
  if k.toList == [99, 111, 117, 110, 116] then decide (1 ≤ n) && decide (n ≤ 30) else if k.toList == [97, 108, 108] || k.toList == [97, 110, 121] then n == 0 else false
def mayB (j : Pt) : Bool := needB j.1 j.2.2.1 && (decide (1 ≤ j.2.1) && (decide (j.2.1 ≤ 6) && (decide (0 ≤ j.2.2.2) && decide (j.2.2.2 ≤ 1073741824))))
def timeB (at' : Int) : Bool := decide (0 ≤ at') && decide (at' ≤ 1099511627775)
def keptB (p : Int) (x : El) : Bool := decide (0 ≤ x.1) && (decide (x.1 < p) && timeB x.2.2)
def hasB (l : List El) (id : Int) : Bool := l.any fun x => x.2.1 == id
theorem jBelow (w : World) (k : ByteArray) (p n v : Int) : Below w.heap.size w (jBox w k p n v) := (Below.refl _ _).alloc (Nat.le_refl _) _
theorem need_any (k : ByteArray) (p n v : Int) (w : World) : Calls Try.prog 29 #[jV (k, p, n, v)] w fun e w' => e = .returned (.bool (needB k n)) ∧ Below w.heap.size w w' := by
  have HB := Lib.hid (jBelow w k p n v)
  unfold needB
  cases h1 : (k.toList == [99, 111, 117, 110, 116])
  · cases h2 : (k.toList == [97, 108, 108])
    · cases h3 : (k.toList == [97, 110, 121])
      · go_enter Try.func29, Try.ntmps29
        go_wp2
        go_ret
        exact ⟨by simp, HB.out⟩
      · go_enter Try.func29, Try.ntmps29
        go_wp2
        go_ret
        exact ⟨by simp, HB.out⟩
    · go_enter Try.func29, Try.ntmps29
      go_wp2
      go_ret
      exact ⟨by simp, HB.out⟩
  · by_cases h2 : 1 ≤ n
    · go_enter Try.func29, Try.ntmps29
      go_wp2
      go_ret
      exact ⟨by simp [h2] <;> (intros; omega), HB.out⟩
    · go_enter Try.func29, Try.ntmps29
      go_wp2
      go_ret
      exact ⟨by simp [h2] <;> (intros; omega), HB.out⟩
theorem may_any (k : ByteArray) (p n v : Int) (w : World) : Calls Try.prog 16 #[jV (k, p, n, v)] w fun e w' => e = .returned (.bool (mayB (k, p, n, v))) ∧ Below w.heap.size w w' := by
  have N := Lib.hid (fun w => need_any k p n v w)
  have HB := Lib.hid (jBelow w k p n v)
  unfold mayB
  simp only
  generalize needB k n = b at *
  have hsz : (jBox w k p n v).heap.size = w.heap.size + 1 := by simp
  have Z : ∀ w', Below (w.heap.size + 1) (jBox w k p n v) w' → w'.cell? ⟨w.heap.size, 1, none⟩ = some (.int .i64 p) ∧ w'.cell? ⟨w.heap.size, 3, none⟩ = some (.int .i64 v) := fun w' h => ⟨(h.cell (p := ⟨w.heap.size, 1, none⟩) (by simp)).trans (by simp [go_sem]), (h.cell (p := ⟨w.heap.size, 3, none⟩) (by simp)).trans (by simp [go_sem])⟩
  have HZ := Lib.hid Z
  clear Z
  cases b
  · go_enter Try.func16, Try.ntmps16
    go_wp2_with fail
    refine (N.out _).mono ?_
    rintro e w1 ⟨rfl, hb1⟩
    have B1 := Lib.hid (HB.out.trans (hb1.mono (by simp)))
    clear hb1
    go_wp2
    go_ret
    exact ⟨by simp, B1.out⟩
  · by_cases h1 : 1 ≤ p
    · by_cases h2 : p ≤ 6
      · by_cases h3 : 0 ≤ v
        · go_enter Try.func16, Try.ntmps16
          go_wp2_with fail
          refine (N.out _).mono ?_
          rintro e w1 ⟨rfl, hb1⟩
          have B1 := Lib.hid (HB.out.trans (hb1.mono (by simp)))
          rw [hsz] at hb1
          obtain ⟨c1, c3⟩ := HZ.out w1 hb1
          clear hb1
          go_wp2
          go_ret
          exact ⟨by simp [h1, h2, h3] <;> (intros; omega), B1.out⟩
        · go_enter Try.func16, Try.ntmps16
          go_wp2_with fail
          refine (N.out _).mono ?_
          rintro e w1 ⟨rfl, hb1⟩
          have B1 := Lib.hid (HB.out.trans (hb1.mono (by simp)))
          rw [hsz] at hb1
          obtain ⟨c1, c3⟩ := HZ.out w1 hb1
          clear hb1
          go_wp2
          go_ret
          exact ⟨by simp [h1, h2, h3] <;> (intros; omega), B1.out⟩
      · go_enter Try.func16, Try.ntmps16
        go_wp2_with fail
        refine (N.out _).mono ?_
        rintro e w1 ⟨rfl, hb1⟩
        have B1 := Lib.hid (HB.out.trans (hb1.mono (by simp)))
        rw [hsz] at hb1
        obtain ⟨c1, c3⟩ := HZ.out w1 hb1
        clear hb1
        go_wp2
        go_ret
        exact ⟨by simp [h1, h2] <;> (intros; omega), B1.out⟩
    · go_enter Try.func16, Try.ntmps16
      go_wp2_with fail
      refine (N.out _).mono ?_
      rintro e w1 ⟨rfl, hb1⟩
      have B1 := Lib.hid (HB.out.trans (hb1.mono (by simp)))
      rw [hsz] at hb1
      obtain ⟨c1, c3⟩ := HZ.out w1 hb1
      clear hb1
      go_wp2
      go_ret
      exact ⟨by simp [h1] <;> (intros; omega), B1.out⟩
theorem time_any (t : Int) (w : World) : Calls Try.prog 31 #[.int .i64 t] w fun e w' => e = .returned (.bool (timeB t)) ∧ w = w' := by
  unfold timeB
  by_cases h : 0 ≤ t
  · go_enter Try.func31, Try.ntmps31
    go_wp2
    go_ret
    exact ⟨by simp [h] <;> (intros; omega), rfl⟩
  · go_enter Try.func31, Try.ntmps31
    go_wp2
    go_ret
    exact ⟨by simp [h] <;> (intros; omega), rfl⟩
theorem kept_any (k : ByteArray) (p n v : Int) (x1 x2 x3 : Int) (w : World) : Calls Try.prog 23 #[jV (k, p, n, v), eV (x1, x2, x3)] w fun e w' => e = .returned (.bool (keptB p (x1, x2, x3))) ∧ Below w.heap.size w w' := by
  have T := Lib.hid (fun w => time_any x3 w)
  have HB := Lib.hid ((jBelow w k p n v).alloc (by simp) (.cells #[.int .i64 x1, .int .u64 x2, .int .i64 x3] 27))
  unfold keptB
  simp only
  generalize timeB x3 = b at *
  by_cases h1 : 0 ≤ x1
  · by_cases h2 : x1 < p
    · go_enter Try.func23, Try.ntmps23
      go_wp2_with fail
      refine (T.out _).mono ?_
      rintro e w1 ⟨rfl, rfl⟩
      go_wp2
      go_ret
      exact ⟨by simp [h1, h2] <;> (intros; omega), HB.out⟩
    · go_enter Try.func23, Try.ntmps23
      go_wp2
      go_ret
      exact ⟨by simp [h1, h2] <;> (intros; omega), HB.out⟩
  · go_enter Try.func23, Try.ntmps23
    go_wp2
    go_ret
    exact ⟨by simp [h1] <;> (intros; omega), HB.out⟩
theorem hasId1_any (x : El) (id : Int) (b : Nat) (w : World) (hc : w.cell? ⟨b, 0, none⟩ = some (.int .u64 id)) (hlt : b < w.heap.size) : Calls Try.prog 36 #[eV x, .pointer (some ⟨b, 0, none⟩)] w fun e w' => e = .returned (.bool (x.2.1 == id)) ∧ Below w.heap.size w w' := by
  obtain ⟨x1, x2, x3⟩ := x
  have hb : Below w.heap.size w (w.alloc (.cells #[.int .i64 x1, .int .u64 x2, .int .i64 x3] 27)) := (Below.refl _ _).alloc (Nat.le_refl _) _
  have hc2 : (w.alloc (.cells #[.int .i64 x1, .int .u64 x2, .int .i64 x3] 27)).cell? ⟨b, 0, none⟩ = some (.int .u64 id) := (hb.cell (p := ⟨b, 0, none⟩) hlt).trans hc
  have HB := Lib.hid hb
  clear hb
  go_enter Try.func36, Try.ntmps36
  go_wp2
  go_ret
  exact ⟨rfl, HB.out⟩
theorem hasId_any (X : List El) (pa : Option Addr) (cap : Nat) (id : Int) (w : World) (hX : X.length ≤ 7000) (hR : Rd w pa X) :
    Calls Try.prog 25 #[.slice pa X.length cap, .int .u64 id] w fun e w' => e = .returned (.bool (hasB X id)) ∧ Below w.heap.size w w' := by
  have hb : Below w.heap.size w (w.alloc (.cells #[.int .u64 id] 25)) := (Below.refl _ _).alloc (Nat.le_refl _) _
  have hP : Pred 36 #[.pointer (some ⟨w.heap.size, 0, none⟩)] (fun x => x.2.1 == id) X (w.alloc (.cells #[.int .u64 id] 25)) :=
    ⟨fun args W => by simp [go_sem], fun x _ W hW => hasId1_any x id w.heap.size W ((hW.cell (p := ⟨w.heap.size, 0, none⟩) (by simp)).trans (by simp [go_sem])) (Nat.lt_of_lt_of_le (by simp) hW.size)⟩
  have C := Lib.hid (contains_any X pa cap 36 #[.pointer (some ⟨w.heap.size, 0, none⟩)] (fun x => x.2.1 == id) _ hX (hR.lift hb) hP)
  have HB := Lib.hid hb
  clear hb hR
  go_enter Try.func25, Try.ntmps25
  go_wp2_with fail
  refine C.out.mono ?_
  rintro e w1 ⟨rfl, hb1⟩
  go_wp2
  go_ret
  exact ⟨rfl, HB.out.trans (hb1.mono (by simp))⟩
def lateB (l : List El) (t : Int) : Bool := decide (0 < l.length) && decide (t < (l[l.length - 1]?.getD (0, 0, 0)).2.2)
theorem late_any (X : List El) (pa : Option Addr) (cap : Nat) (t : Int) (w : World) (hX : X.length ≤ 7000) (hR : Rd w pa X) :
    Calls Try.prog 24 #[.slice pa X.length cap, .int .i64 t] w fun e w' => e = .returned (.bool (lateB X t)) ∧ w = w' := by
  unfold lateB
  by_cases h : 0 < X.length
  · obtain ⟨b, o, rfl, hlt, c0, c1, c2⟩ := hR.at (X.length - 1) (by omega)
    have he : X[X.length - 1]? = some X[X.length - 1] := List.getElem?_eq_getElem (by omega)
    rw [he]
    simp only [Option.getD_some]
    generalize X[X.length - 1] = y at *
    have hn : (X.length : Int) - 1 = ((X.length - 1 : Nat) : Int) := by omega
    have hn2 : X.length - 1 < X.length := by omega
    have hpos : 0 < (X.length : Int) := by omega
    go_enter Try.func24, Try.ntmps24
    go_wp2
    go_ret
    exact ⟨by simp [h] <;> (intros; omega), rfl⟩
  · have hn : ¬ 0 < (X.length : Int) := by omega
    go_enter Try.func24, Try.ntmps24
    go_wp2
    go_ret
    exact ⟨by simp [h] <;> (intros; omega), rfl⟩
end Go.Proofs.Ytllojkdacinhfaa.Jn
