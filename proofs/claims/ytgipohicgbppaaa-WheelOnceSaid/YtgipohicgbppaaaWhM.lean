/- Layer 11: the contracts of Stop, At, Next. -/
import Derived.Test.YtgipohicgbppaaaWhL
namespace Go.Proofs.Ytgipohicgbppaaa
open Go.RowKit Go.Shelf
/-- The place of an Id; behind all, if there is none. -/
def posL (X : List Tm) (id : Int) : Nat := plL (fun x => x.2 == id) X
def hasB (X : List Tm) (id : Int) : Bool := decide (posL X id < X.length)
def stopL (X : List Tm) (id : Int) : List Tm := if hasB X id then X.take (posL X id) ++ X.drop (posL X id + 1) else X
structure PairPost (X : List Tm) (r : Value) (w : World) (e : Ending) (w' : World) : Prop where
  out : ∃ v, e = .returned (.tuple #[v, r]) ∧ Own w' w.heap.size v X ∧ Below w.heap.size w w'
set_option maxHeartbeats 1000000 in
theorem stop_any (X : List Tm) (pa : Option Addr) (cap : Nat) (id : Int) (w : World) (hX : X.length ≤ 130) (hcap : X.length ≤ cap) (hR : Rd w pa X) (hnil : pa = none → cap = 0) :
    Calls Try.prog 17 #[.slice pa X.length cap, .int .u64 id] w (PairPost (if mayT X then stopL X id else []) (.bool (mayT X && hasB X id)) w) := by
  have C := Lib.hid (check_any X pa cap w hX hR)
  have F := Lib.hid (fun w hR => find_any X pa cap id w hX hR)
  have K := Lib.hid (fun w hR => clone_any X pa cap w hX hR)
  have O := Lib.hid (fun k w hk hR => without_any X pa cap k w hX hcap hk hR hnil)
  have HR := Lib.hid hR
  have hi := idx_pl (fun x => x.2 == id) X 0
  clear hR
  cases hm : mayT X
  · rw [hm] at C
    clear hi hm
    go_enter Try.func17, Try.ntmps17
    go_wp2_with fail
    refine C.out.mono ?_
    rintro e w1 ⟨rfl, hb1⟩
    go_wp2
    refine bodyPost_ret (v := .tuple #[_, _]) (by simp [results, Try.results17, go_sem]; exact ⟨rfl, rfl⟩) rfl ?_
    exact ⟨_, rfl, Own.nil _ _, hb1⟩
  · rw [hm] at C
    clear hm
    rcases hi with ⟨h1, h2⟩ | ⟨h1, h2⟩
    · rw [h1] at F
      have hh : hasB X id = false := by unfold hasB posL; rw [h2]; simp
      have hs : stopL X id = X := by unfold stopL; rw [hh]; rfl
      rw [hh, hs]
      clear h1 h2 hh hs
      go_enter Try.func17, Try.ntmps17
      go_wp2_with fail
      refine C.out.mono ?_
      rintro e w1 ⟨rfl, hb1⟩
      have F1 := Lib.hid (F.out w1 (HR.out.lift hb1))
      have B1 := Lib.hid hb1
      clear hb1
      go_wp2_with fail
      refine F1.out.mono ?_
      rintro e w2 ⟨rfl, hb2⟩
      have B2 := Lib.hid (B1.out.trans (hb2.mono B1.out.size))
      have K1 := Lib.hid (K.out w2 (HR.out.lift B2.out))
      clear hb2
      go_wp2_with fail
      refine K1.out.mono ?_
      rintro e w3 ⟨v, rfl, hown, hb3⟩
      have B3 := Lib.hid (B2.out.trans (hb3.mono B2.out.size))
      have Ho := Lib.hid (hown.mono B2.out.size)
      clear hown hb3
      go_wp2
      refine bodyPost_ret (v := .tuple #[_, _]) (by simp [results, Try.results17, go_sem]; exact ⟨rfl, rfl⟩) rfl ?_
      exact ⟨v, rfl, Ho.out, B3.out⟩
    · have hq : posL X id = plL (fun x => x.2 == id) X := rfl
      rw [h1, Nat.zero_add, ← hq] at F
      rw [← hq] at h2
      have hh : hasB X id = true := by unfold hasB; simp [h2]
      have hs : stopL X id = X.take (posL X id) ++ X.drop (posL X id + 1) := by unfold stopL; rw [hh]; rfl
      rw [hh, hs]
      have H2 := Lib.hid h2
      have hqi : ¬ (posL X id : Int) < 0 := by omega
      generalize posL X id = q at *
      clear h1 h2 hh hs hq
      go_enter Try.func17, Try.ntmps17
      go_wp2_with fail
      refine C.out.mono ?_
      rintro e w1 ⟨rfl, hb1⟩
      have F1 := Lib.hid (F.out w1 (HR.out.lift hb1))
      have B1 := Lib.hid hb1
      clear hb1
      go_wp2_with fail
      refine F1.out.mono ?_
      rintro e w2 ⟨rfl, hb2⟩
      have B2 := Lib.hid (B1.out.trans (hb2.mono B1.out.size))
      have K1 := Lib.hid (O.out q w2 H2.out (HR.out.lift B2.out))
      clear hb2
      go_wp2_with fail
      refine K1.out.mono ?_
      rintro e w3 ⟨v, rfl, hown, hb3⟩
      have B3 := Lib.hid (B2.out.trans (hb3.mono B2.out.size))
      have Ho := Lib.hid (hown.mono B2.out.size)
      clear hown hb3
      go_wp2
      refine bodyPost_ret (v := .tuple #[_, _]) (by simp [results, Try.results17, go_sem]; exact ⟨rfl, rfl⟩) rfl ?_
      exact ⟨v, rfl, Ho.out, B3.out⟩
end Go.Proofs.Ytgipohicgbppaaa
