/- Layer 11: places among timers, and whether they rise. -/
import Derived.Test.YtgipohicgbppaaaWhC
namespace Go.Proofs.Ytgipohicgbppaaa
open Go.RowKit Go.Shelf
abbrev ordV : Value := .func (.func 27) #[] #[]
theorem place1_any (t : Tm) (BO BT : Nat) (x : Tm) (w : World) (hO : w.cell? ⟨BO, 0, none⟩ = some ordV) (hT0 : w.cell? ⟨BT, 0, none⟩ = some (.int .i64 t.1)) (hT1 : w.cell? ⟨BT, 1, none⟩ = some (.int .u64 t.2)) (hBO : BO < w.heap.size) (hBT : BT < w.heap.size) :
    Calls Try.prog 36 #[tmV x, .pointer (some ⟨BO, 0, none⟩), .pointer (some ⟨BT, 0, none⟩)] w fun e w' => e = .returned (.bool (decide (0 < ordT x t))) ∧ Below w.heap.size w w' := by
  obtain ⟨x1, x2⟩ := x
  obtain ⟨t1, t2⟩ := t
  simp only at hT0 hT1
  have n1 : BO ≠ w.heap.size := by omega
  have n2 : BT ≠ w.heap.size := by omega
  have C := Lib.hid (fun w => order_any (x1, x2) (t1, t2) w)
  have o1 : (w.alloc (.cells #[.int .i64 x1, .int .u64 x2] 38)).cell? ⟨BO, 0, none⟩ = some ordV := by rw [World.cell?_alloc_old _ _ _ n1]; exact hO
  have o2 : (w.alloc (.cells #[.int .i64 x1, .int .u64 x2] 38)).cell? ⟨BT, 0, none⟩ = some (.int .i64 t1) := by rw [World.cell?_alloc_old _ _ _ n2]; exact hT0
  have o3 : (w.alloc (.cells #[.int .i64 x1, .int .u64 x2] 38)).cell? ⟨BT, 1, none⟩ = some (.int .u64 t2) := by rw [World.cell?_alloc_old _ _ _ n2]; exact hT1
  generalize ordT (x1, x2) (t1, t2) = r at *
  by_cases h : 0 < r
  · have h' : decide (0 < r) = true := by simpa using h
    rw [h']
    go_enter Try.func36, Try.ntmps36
    go_wp2_with fail
    refine (C.out _).mono ?_
    rintro e w2 ⟨rfl, hb2⟩
    go_wp2
    go_ret
    exact ⟨rfl, ((Below.refl _ _).alloc (Nat.le_refl _) _).trans (hb2.mono (by simp))⟩
  · have h' : decide (0 < r) = false := by simpa using h
    rw [h']
    go_enter Try.func36, Try.ntmps36
    go_wp2_with fail
    refine (C.out _).mono ?_
    rintro e w2 ⟨rfl, hb2⟩
    go_wp2
    go_ret
    exact ⟨rfl, ((Below.refl _ _).alloc (Nat.le_refl _) _).trans (hb2.mono (by simp))⟩
theorem inOrder1_any (BO : Nat) (x y : Tm) (w : World) (hO : w.cell? ⟨BO, 0, none⟩ = some ordV) (hBO : BO < w.heap.size) :
    Calls Try.prog 43 #[tmV x, tmV y, .pointer (some ⟨BO, 0, none⟩)] w fun e w' => e = .returned (.int .i64 (ordT x y)) ∧ Below w.heap.size w w' := by
  obtain ⟨x1, x2⟩ := x
  obtain ⟨y1, y2⟩ := y
  have n1 : BO ≠ w.heap.size := by omega
  have n2 : BO ≠ (w.alloc (.cells #[.int .i64 x1, .int .u64 x2] 38)).heap.size := by simp; omega
  have C := Lib.hid (fun w => order_any (x1, x2) (y1, y2) w)
  have o1 : ((w.alloc (.cells #[.int .i64 x1, .int .u64 x2] 38)).alloc (.cells #[.int .i64 y1, .int .u64 y2] 38)).cell? ⟨BO, 0, none⟩ = some ordV := by
    rw [World.cell?_alloc_old _ _ _ n2, World.cell?_alloc_old _ _ _ n1]; exact hO
  generalize ordT (x1, x2) (y1, y2) = r at *
  go_enter Try.func43, Try.ntmps43
  go_wp2_with fail
  refine (C.out _).mono ?_
  rintro e w2 ⟨rfl, hb2⟩
  go_wp2
  go_ret
  exact ⟨rfl, (((Below.refl _ _).alloc (Nat.le_refl _) _).alloc (by simp) _).trans (hb2.mono (by simp; omega))⟩
theorem find_any (X : List Tm) (pa : Option Addr) (cap : Nat) (id : Int) (w : World) (hX : X.length ≤ 130) (hR : Rd w pa X) :
    Calls Try.prog 29 #[.slice pa X.length cap, .int .u64 id] w fun e w' => e = .returned (.int .i64 (idxL (fun x => x.2 == id) X 0)) ∧ Below w.heap.size w w' := by
  have hR2 : Rd (w.alloc (.cells #[.int .u64 id] 23)) pa X := hR.lift ((Below.refl _ _).alloc (Nat.le_refl _) _)
  have hp : PredT 41 #[.pointer (some ⟨w.heap.size, 0, none⟩)] (fun x => x.2 == id) (w.alloc (.cells #[.int .u64 id] 23)) :=
    ⟨enters_of Try.func41 (by kernel_rfl) rfl, fun x w' hb => find1_any id w.heap.size x w' (boxed_cell _ _ _ hb) (by have := hb.size; simp at this; omega)⟩
  have C := Lib.hid (idxFunc_any X pa cap _ _ _ _ hX hR2 hp)
  clear hR hR2 hp
  go_enter Try.func29, Try.ntmps29
  go_wp2_with fail
  refine C.out.mono ?_
  rintro e w2 ⟨rfl, hb2⟩
  go_wp2
  go_ret
  exact ⟨rfl, ((Below.refl _ _).alloc (Nat.le_refl _) _).trans (hb2.mono (by simp))⟩
/-- Where the first one lies of which something holds; behind all, if there is none. -/
def plL (p : Tm → Bool) : List Tm → Nat
  | [] => 0
  | x :: r => if p x then 0 else plL p r + 1
theorem plL_le (p : Tm → Bool) : ∀ X : List Tm, plL p X ≤ X.length
  | [] => Nat.le_refl _
  | x :: r => by
    have := plL_le p r
    unfold plL
    split
    · omega
    · simp; omega
theorem idx_pl (p : Tm → Bool) : ∀ (X : List Tm) (k : Nat), (idxL p X k = -1 ∧ plL p X = X.length) ∨ (idxL p X k = (k + plL p X : Nat) ∧ plL p X < X.length)
  | [], k => .inl ⟨rfl, rfl⟩
  | x :: r, k => by
    unfold idxL plL
    cases p x
    · rcases idx_pl p r (k + 1) with ⟨h1, h2⟩ | ⟨h1, h2⟩
      · exact .inl ⟨h1, by simp [h2]⟩
      · refine .inr ⟨?_, by simp; exact h2⟩
        simp only [Bool.false_eq_true, if_false]
        rw [h1]; congr 1; omega
    · exact .inr ⟨by simp, by simp⟩
theorem lplace_any (X : List Tm) (pa : Option Addr) (cap fn : Nat) (lb : Array Value) (p : Tm → Bool) (w : World) (hX : X.length ≤ 130) (hR : Rd w pa X) (hp : PredT fn lb p w) :
    Calls Try.prog 33 #[.slice pa X.length cap, .func (.func fn) #[] lb] w fun e w' => e = .returned (.int .i64 (plL p X)) ∧ Below w.heap.size w w' := by
  have C := Lib.hid (idxFunc_any X pa cap fn lb p w hX hR hp)
  have hi := idx_pl p X 0
  have hle := plL_le p X
  rw [Nat.zero_add] at hi
  generalize plL p X = q at *
  generalize idxL p X 0 = v at *
  clear hR hp
  rcases hi with ⟨rfl, h2⟩ | ⟨rfl, h2⟩
  · have H2 := Lib.hid h2
    clear h2
    go_enter Try.func33, Try.ntmps33
    go_wp2_with fail
    refine C.out.mono ?_
    rintro e w2 ⟨rfl, hb2⟩
    go_wp2
    go_ret
    exact ⟨ret_int' (by rw [H2.out]), hb2⟩
  · go_enter Try.func33, Try.ntmps33
    go_wp2_with fail
    refine C.out.mono ?_
    rintro e w2 ⟨rfl, hb2⟩
    go_wp2
    go_ret
    exact ⟨rfl, hb2⟩
end Go.Proofs.Ytgipohicgbppaaa
