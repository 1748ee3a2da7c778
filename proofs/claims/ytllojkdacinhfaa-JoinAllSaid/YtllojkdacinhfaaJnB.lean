/- Layer 9: the places of those that meet a pattern: first, firstOfEach. -/
import Derived.Test.YtllojkdacinhfaaJnA
import Derived.Test.YtllojkdacinhfaaPlB
import Derived.Sort.OwnSortedInts
namespace Go.Proofs.Ytllojkdacinhfaa.Jn
open Go.RowKit Go.Shelf Go.Sort Go.Proofs.Ytllojkdacinhfaa Go.Proofs.Ytllojkdacinhfaa.Ke
set_option linter.unusedVariables false
set_option linter.unusedSimpArgs false
def upTo (k : Nat) : List Int := (List.range k).map fun i : Nat => (i : Int)
theorem upTo_succ (k : Nat) : upTo (k + 1) = upTo k ++ [(k : Int)] := by unfold upTo; rw [List.range_succ, List.map_append]; rfl
theorem upTo_len (k : Nat) : (upTo k).length = k := by simp [upTo]
def firstL (n : Nat) (X : List El) : List Int := if X.length < n then [] else upTo n
set_option maxHeartbeats 2000000 in
theorem first_any (X : List El) (pa : Option Addr) (cap : Nat) (n : Nat) (w : World) (hX : X.length ≤ 7000) (hR : Rd w pa X) :
    Calls Try.prog 40 #[.int .i64 n, .slice pa X.length cap] w (Pl.ListPost (firstL n X) w) := by
  unfold firstL
  by_cases h : X.length < n
  · rw [if_pos h]
    have hi : (X.length : Int) < n := by omega
    go_enter Try.func40, Try.ntmps40
    go_wp2
    go_ret
    exact ⟨_, rfl, Pl.Own.nil _ _, Below.refl _ _⟩
  · rw [if_neg h]
    have hi : ¬ (X.length : Int) < n := by omega
    have hn : n ≤ 7000 := by omega
    go_enter Try.func40, Try.ntmps40
    go_wp2_with fail
    go_loopw [5, 12] (fun v i wx => ∃ k : Nat, i = .int .i64 k ∧ k ≤ n ∧ Pl.Own wx w.heap.size v (upTo k) ∧ Below w.heap.size w wx) (fun _ i _ => n - (intOf i).toNat)
    case atStart => exact ⟨0, rfl, Nat.zero_le _, Pl.Own.nil _ _, Below.refl _ _⟩
    case round =>
      obtain ⟨k, rfl, hk, ho, kk⟩ := hrel
      by_cases hlt : k < n
      · have hlt' : (k : Int) < n := by omega
        have hst := upTo_succ k
        have hln := upTo_len k
        generalize upTo k = A at *
        have Hst := Lib.hid hst
        have hb2 : Below wr.heap.size wr (wr.alloc (.cells #[.int .i64 (k : Int)] 3)) := (Below.refl _ _).alloc (Nat.le_refl _) _
        have O := Lib.hid (ho.lift hb2)
        have kb := kk.trans (hb2.mono kk.size)
        have RR := Lib.hid (Pl.one_rd (k : Int) wr)
        have hl2 : A.length + [(k : Int)].length ≤ 8000 := by simp; omega
        clear hst hln ho hb2
        go_wp2_with (first | (at_builtin; refine Pl.wpList_app rfl (.tmp 15) (.tmp 17) rfl w.heap.size _ A [(k : Int)] rfl O.out (some ⟨wr.heap.size, 0, none⟩) 1 rfl RR.out (fun h => by cases h) hl2 kb.size ?_))
        intro v2 w2 o2 hb2
        have O2 := Lib.hid o2
        have K2 := Lib.hid (kb.trans hb2)
        clear o2 hb2 O RR
        go_wp2
        go_roundw
        case rel => exact ⟨k + 1, by go_num, by omega, by rw [Hst.out]; exact O2.out, K2.out⟩
        case measure => simp [intOf]; omega
      · have hge : ¬ (k : Int) < n := by omega
        obtain rfl : k = n := by omega
        go_wp2
        go_ret
        exact ⟨_, rfl, ho, kk⟩
def partIs (q : Nat) (x : El) : Bool := x.1 == (q : Int)
def eachL (X : List El) (k : Nat) : List Int := (List.range k).map fun q => lsIdx (partIs q) X 0
theorem eachL_succ (X : List El) (k : Nat) : eachL X (k + 1) = eachL X k ++ [lsIdx (partIs k) X 0] := by unfold eachL; rw [List.range_succ, List.map_append]; rfl
theorem eachL_len (X : List El) (k : Nat) : (eachL X k).length = k := by simp [eachL]
def neg (i : Int) : Bool := decide (i < 0)
def eachS (X : List El) (p : Nat) : List Int := if (eachL X p).any neg then [] else (eachL X p).mergeSort fun x y => decide (x ≤ y)
theorem eachL_neg (X : List El) (k p : Nat) (h : k < p) (hn : lsIdx (partIs k) X 0 < 0) : (eachL X p).any neg = true := by
  rw [List.any_eq_true]
  exact ⟨_, List.mem_map.2 ⟨k, List.mem_range.2 h, rfl⟩, by simpa [neg] using hn⟩
theorem flatPl : ∀ X : List Int, Pl.flat X = X.map (Value.int .i64)
  | [] => rfl
  | x :: X => by rw [Pl.flat_cons, flatPl X]; rfl
theorem each1_any (q : Nat) (x : El) (b : Nat) (w : World) (hc : w.cell? ⟨b, 0, none⟩ = some (.int .i64 q)) (hlt : b < w.heap.size) : Calls Try.prog 44 #[eV x, .pointer (some ⟨b, 0, none⟩)] w fun e w' => e = .returned (.bool (partIs q x)) ∧ Below w.heap.size w w' := by
  obtain ⟨x1, x2, x3⟩ := x
  have hb : Below w.heap.size w (w.alloc (.cells #[.int .i64 x1, .int .u64 x2, .int .i64 x3] 27)) := (Below.refl _ _).alloc (Nat.le_refl _) _
  have hc2 : (w.alloc (.cells #[.int .i64 x1, .int .u64 x2, .int .i64 x3] 27)).cell? ⟨b, 0, none⟩ = some (.int .i64 q) := (hb.cell (p := ⟨b, 0, none⟩) hlt).trans hc
  have HB := Lib.hid hb
  clear hb
  go_enter Try.func44, Try.ntmps44
  go_wp2
  go_ret
  exact ⟨rfl, HB.out⟩
/-- What was sorted in place, of the call's own. -/
theorem sorted_own {w : World} {base g cap n : Nat} {os : Array Obj} {A : List Int} (h : Pl.Own w base (.slice (some ⟨g, 0, none⟩) A.length cap) A) :
    Pl.Own (grow (putRow (Value.int .i64) (Sort.ahead w n) g 0 (A.mergeSort fun x y => decide (x ≤ y)).toArray) os) base (.slice (some ⟨g, 0, none⟩) A.length cap) (A.mergeSort fun x y => decide (x ≤ y)) ∧ base ≤ g ∧ Holds (Value.int .i64) w g 0 A.toArray ∧ g < w.heap.size := by
  have hl : (A.mergeSort fun x y => decide (x ≤ y)).length = A.length := List.length_mergeSort A
  rcases h.own.2 with ⟨e, _⟩ | ⟨g2, c2, cur, e, hg, hh, h1, h2, h3, h4⟩
  · simp at e
  · simp only [Value.slice.injEq, Option.some.injEq, Addr.mk.injEq] at e
    obtain ⟨⟨rfl, _⟩, _, rfl⟩ := e
    refine ⟨⟨?_⟩, hg, holds_of_blockI hh (by rw [Nat.mul_one, flatPl] at h4; exact h4), (Array.getElem?_eq_some_iff.1 hh).1⟩
    have := ownsRow_sortedI (base := base) (n := n) (os := os) (ts := A.mergeSort fun x y => decide (x ≤ y)) hl hg hh h1 h2 h3
    rw [hl, flatPl]
    exact this
set_option maxHeartbeats 2000000 in
theorem each_any (X : List El) (pa : Option Addr) (cap : Nat) (p : Nat) (w : World) (hp : 1 ≤ p) (hp6 : p ≤ 6) (hX : X.length ≤ 7000) (hR : Rd w pa X) :
    Calls Try.prog 38 #[.int .i64 p, .slice pa X.length cap] w (Pl.ListPost (eachS X p) w) := by
  have HR := Lib.hid hR
  clear hR
  go_enter Try.func38, Try.ntmps38
  go_wp2_with fail
  go_loopw [5, 9] (fun v i wx => ∃ k : Nat, i = .int .i64 k ∧ k ≤ p ∧ (eachL X k).any neg = false ∧ Pl.Own wx w.heap.size v (eachL X k) ∧ Below w.heap.size w wx) (fun _ i _ => p - (intOf i).toNat)
  case atStart => exact ⟨0, rfl, Nat.zero_le _, rfl, Pl.Own.nil _ _, Below.refl _ _⟩
  case round =>
    obtain ⟨k, rfl, hk, hno, ho, kk⟩ := hrel
    by_cases hlt : k < p
    · have hlt' : (k : Int) < p := by omega
      have hb : Below wr.heap.size wr (wr.alloc (.cells #[.int .i64 (k : Int)] 3)) := (Below.refl _ _).alloc (Nat.le_refl _) _
      have hP : Pred 44 #[.pointer (some ⟨wr.heap.size, 0, none⟩)] (partIs k) X (wr.alloc (.cells #[.int .i64 (k : Int)] 3)) :=
        ⟨fun args W => by simp [go_sem], fun x _ W hW => each1_any k x wr.heap.size W ((hW.cell (p := ⟨wr.heap.size, 0, none⟩) (by simp)).trans (by simp [go_sem])) (Nat.lt_of_lt_of_le (by simp) hW.size)⟩
      have C := Lib.hid (idxFunc_any X pa cap 44 #[.pointer (some ⟨wr.heap.size, 0, none⟩)] (partIs k) _ hX ((HR.out.lift kk).lift hb) hP)
      have hst := eachL_succ X k
      have hln := eachL_len X k
      have hneg := eachL_neg X k p hlt
      have KB := Lib.hid (kk.trans (hb.mono kk.size))
      have O := Lib.hid (ho.lift hb)
      have hid1 := lsIdx_pl (partIs k) X 0
      generalize eachL X k = A at *
      generalize lsIdx (partIs k) X 0 = ix at *
      clear hP hb ho
      have Hst := Lib.hid hst
      have Hno := Lib.hid hno
      have Hneg := Lib.hid hneg
      clear hst hno hneg
      go_wp2_with fail
      refine C.out.mono ?_
      rintro e w1 ⟨rfl, hb1⟩
      have KC := Lib.hid (KB.out.trans (hb1.mono KB.out.size))
      have O1 := Lib.hid (O.out.lift hb1)
      clear C hb1 O
      rcases hid1 with ⟨rfl, _⟩ | ⟨rfl, hlx⟩
      · go_wp2
        go_ret
        refine ⟨_, rfl, ?_, KC.out⟩
        unfold eachS
        rw [if_pos (Hneg.out (by decide))]
        exact Pl.Own.nil _ _
      · generalize hq : lsPl (partIs k) X = q at *
        have hq0 : ((0 + q : Nat) : Int) = (q : Int) := by rw [Nat.zero_add]
        rw [hq0] at Hst
        simp only [Nat.zero_add]
        have hb2 : Below w1.heap.size w1 (w1.alloc (.cells #[.int .i64 (q : Int)] 3)) := (Below.refl _ _).alloc (Nat.le_refl _) _
        have O2 := Lib.hid (O1.out.lift hb2)
        have K2 := Lib.hid (KC.out.trans (hb2.mono KC.out.size))
        have RR := Lib.hid (Pl.one_rd (q : Int) w1)
        have hl2 : A.length + [(q : Int)].length ≤ 8000 := by simp; omega
        have hqi : ¬ (q : Int) < 0 := by omega
        have hkb := K2.out.size
        clear hln hb2 O1 KC hq hlx Hneg
        go_wp2_with (first | (at_builtin; refine Pl.wpList_app rfl (.tmp 17) (.tmp 19) rfl w.heap.size _ A [(q : Int)] rfl O2.out (some ⟨w1.heap.size, 0, none⟩) 1 rfl RR.out (fun h => by cases h) hl2 hkb ?_))
        intro v2 w2 o2 hb2
        have O3 := Lib.hid o2
        have K3 := Lib.hid (K2.out.trans hb2)
        clear o2 hb2 O2 RR
        go_wp2
        go_roundw
        case rel => exact ⟨k + 1, by go_num, by omega, by rw [Hst.out, List.any_append, Hno.out]; simp [neg], by rw [Hst.out]; exact O3.out, K3.out⟩
        case measure => simp [intOf]; omega
    · have hge : ¬ (k : Int) < p := by omega
      obtain rfl : k = p := by omega
      have hln := eachL_len X k
      have hS : eachS X k = (eachL X k).mergeSort fun x y => decide (x ≤ y) := by unfold eachS; rw [hno]; rfl
      clear hno
      generalize eachL X k = A at *
      have HE := Lib.hid hS
      clear hS
      obtain ⟨g, c, rfl⟩ := lsForm ho.own (by omega)
      obtain ⟨_, hg, hH, hgl⟩ := sorted_own (n := 0) (os := #[]) ho
      have HS := Lib.hid (Try.slices_Sort_int g 0 c A wr hH hgl (by omega))
      have O := Lib.hid ho
      clear hH ho hln
      go_wp2_with fail
      refine HS.out.mono ?_
      rintro e w' ⟨rfl, nn, os, rfl⟩
      have o3 := (sorted_own (n := nn) (os := os) O.out).1
      have k3 := kk.grown (grownBy_sortedI (w := wr) (g := g) (n := nn) (os := os) (A.mergeSort fun x y => decide (x ≤ y)).toArray) kk.size (fun j hj => by cases hj; exact hg)
      generalize grow (putRow (Value.int .i64) (Sort.ahead wr nn) g 0 (A.mergeSort fun x y => decide (x ≤ y)).toArray) os = w3 at *
      go_wp2
      go_ret
      exact ⟨_, rfl, by rw [HE.out]; exact o3, k3⟩
end Go.Proofs.Ytllojkdacinhfaa.Jn
