/- Lists of api.Kept in a world: the first one of which something holds; lists that rise. -/
import Derived.Test.YtllojkdacinhfaaLsBase
namespace Go.Proofs.Ytllojkdacinhfaa.Ke
open Go.RowKit Go.Shelf Go.Proofs.Ytllojkdacinhfaa
set_option linter.unusedVariables false
set_option linter.unusedSimpArgs false
abbrev El := Int × Int × Int
abbrev eV (x : El) : Value := .agg #[.int .i64 x.1, .int .u64 x.2.1, .int .i64 x.2.2]
/-- A list, wherever it lies. -/
structure Rd (w : World) (pa : Option Addr) (X : List El) : Prop where
  out : X ≠ [] → ∃ b o, pa = some ⟨b, o, none⟩ ∧ b < w.heap.size ∧ ∀ i (h : i < X.length), w.cell? ⟨b, o + i * 3, none⟩ = some (.int .i64 X[i].1) ∧ w.cell? ⟨b, o + i * 3 + 1, none⟩ = some (.int .u64 X[i].2.1) ∧ w.cell? ⟨b, o + i * 3 + 2, none⟩ = some (.int .i64 X[i].2.2)
theorem Rd.at {w : World} {pa : Option Addr} {X : List El} (h : Rd w pa X) (i : Nat) (hi : i < X.length) : ∃ b o, pa = some ⟨b, o, none⟩ ∧ b < w.heap.size ∧ w.cell? ⟨b, o + i * 3, none⟩ = some (.int .i64 X[i].1) ∧ w.cell? ⟨b, o + i * 3 + 1, none⟩ = some (.int .u64 X[i].2.1) ∧ w.cell? ⟨b, o + i * 3 + 2, none⟩ = some (.int .i64 X[i].2.2) := by
  obtain ⟨b, o, e, hb, hc⟩ := h.out (by intro e; rw [e] at hi; exact absurd hi (by simp))
  exact ⟨b, o, e, hb, hc i hi⟩
theorem Rd.lift {w w' : World} {pa : Option Addr} {X : List El} (h : Rd w pa X) (hb : Below w.heap.size w w') : Rd w' pa X := ⟨fun hx => by
  obtain ⟨b, o, e, hlt, hc⟩ := h.out hx
  exact ⟨b, o, e, Nat.lt_of_lt_of_le hlt hb.size, fun i hi => ⟨(hb.cell (p := ⟨b, o + i * 3, none⟩) hlt).trans (hc i hi).1, (hb.cell (p := ⟨b, o + i * 3 + 1, none⟩) hlt).trans (hc i hi).2.1, (hb.cell (p := ⟨b, o + i * 3 + 2, none⟩) hlt).trans (hc i hi).2.2⟩⟩⟩
theorem Rd.nil (w : World) (pa : Option Addr) : Rd w pa [] := ⟨fun h => absurd rfl h⟩
theorem Rd.isNil {w : World} {X : List El} (h : Rd w none X) : X = [] := by
  cases X with
  | nil => rfl
  | cons x X => obtain ⟨b, o, e, _⟩ := h.out (by simp); cases e
theorem Rd.take {w : World} {pa : Option Addr} {X : List El} (h : Rd w pa X) (k : Nat) : Rd w pa (X.take k) := ⟨fun hx => by
  obtain ⟨b, o, e, hb, hc⟩ := h.out (by rintro rfl; simp at hx)
  refine ⟨b, o, e, hb, fun i hi => ?_⟩
  have hi2 : i < X.length := by rw [List.length_take] at hi; omega
  rw [List.getElem_take]
  exact hc i hi2⟩
theorem Rd.drop {w : World} {pa : Option Addr} {X : List El} (h : Rd w pa X) (k cap : Nat) (hcap : X.length ≤ cap) : Rd w (lsCut 3 pa cap k) (X.drop k) := ⟨fun hx => by
  have hlt : k < X.length := by
    apply Classical.byContradiction; intro hn
    exact hx (List.drop_eq_nil_of_le (by omega))
  obtain ⟨b, o, e, hb, hc⟩ := h.out (by rintro rfl; simp at hx)
  subst e
  refine ⟨b, o + k * 3, ?_, hb, fun i hi => ?_⟩
  · unfold lsCut
    rw [if_neg (by omega), Option.map_some, lsAdd]
  · rw [List.length_drop] at hi
    have := hc (k + i) (by omega)
    rw [List.getElem_drop]
    rw [show o + k * 3 + i * 3 = o + (k + i) * 3 by omega]
    exact this⟩
/-- What a function of the program says of each one of a list. -/
def Pred (fn : Nat) (lb : Array Value) (p : El → Bool) (X : List El) (w0 : World) : Prop := (∀ args w, (callFunc fn args).run Try.prog w = .ok (.enter fn args) w) ∧
  ∀ x ∈ X, ∀ (w : World), Below w0.heap.size w0 w → Calls Try.prog fn (#[eV x] ++ lb) w fun e w' => e = .returned (.bool (p x)) ∧ Below w.heap.size w w'
theorem Pred.lift {fn : Nat} {lb : Array Value} {p : El → Bool} {X : List El} {w w' : World} (h : Pred fn lb p X w) (hb : Below w.heap.size w w') : Pred fn lb p X w' :=
  ⟨h.1, fun x hx W hW => h.2 x hx W (hb.trans (hW.mono hb.size))⟩
set_option maxRecDepth 100000 in
set_option maxHeartbeats 1000000 in
theorem idxFunc_any (X : List El) (pa : Option Addr) (cap fn : Nat) (lb : Array Value) (p : El → Bool) (w : World) (hX : X.length ≤ 7000) (hR : Rd w pa X) (hp : Pred fn lb p X w) :
    Calls Try.prog 43 #[.slice pa X.length cap, .func (.func fn) #[] lb] w fun e w' => e = .returned (.int .i64 (lsIdx p X 0)) ∧ Below w.heap.size w w' := by
  obtain ⟨V, hV⟩ : ∃ V, V = lsIdx p X 0 := ⟨_, rfl⟩
  rw [← hV]
  have HV := Lib.hid hV
  have HR := Lib.hid hR
  have eg := hp.1
  have C := Lib.hid hp.2
  have hXi : (X.length : Int) ≤ 7000 := by omega
  clear hV hR hp
  go_enter Try.func43, Try.ntmps43
  go_wp2_with fail
  go_loopw [8] (fun i wx => ∃ k : Nat, i = .int .i64 k ∧ k ≤ X.length ∧ lsIdx p (X.drop k) k = V ∧ Below w.heap.size w wx) (fun i _ => X.length - (intOf i).toNat)
  case atStart => exact ⟨0, rfl, Nat.zero_le _, HV.out.symm, Below.refl _ _⟩
  case round =>
    obtain ⟨k, rfl, hk, hd, kk⟩ := hrel
    by_cases hlt : k < X.length
    · have hlt' : (k : Int) < X.length := by omega
      obtain ⟨b, o, rfl, hbz, c0, c1, c2⟩ := (HR.out.lift kk).at k hlt
      rw [List.drop_eq_getElem_cons hlt] at hd
      have C2 := Lib.hid (C.out X[k] (List.getElem_mem hlt) wr kk)
      generalize X[k] = x at *
      obtain ⟨x1, x2, x3⟩ := x
      simp only at c0 c1 c2
      unfold lsIdx at hd
      cases hpx : p (x1, x2, x3)
      · rw [hpx] at C2 hd
        have Hd := Lib.hid (show lsIdx p (X.drop (k + 1)) (k + 1) = V from hd)
        clear hd hpx C
        go_wp2_with fail
        refine C2.out.mono ?_
        rintro e w2 ⟨rfl, hb2⟩
        have k2 := kk.trans (hb2.mono kk.size)
        clear hb2
        go_wp2
        go_roundw
        case rel => exact ⟨k + 1, by go_num, by omega, Hd.out, k2⟩
        case measure => simp [intOf]; omega
      · rw [hpx] at C2 hd
        have Hd := Lib.hid (show (k : Int) = V from hd)
        clear hd hpx C
        go_wp2_with fail
        refine C2.out.mono ?_
        rintro e w2 ⟨rfl, hb2⟩
        have k2 := kk.trans (hb2.mono kk.size)
        clear hb2
        go_wp2
        go_ret
        exact ⟨lsRet Hd.out, k2⟩
    · have hge : (X.length : Int) ≤ k := by omega
      rw [List.drop_eq_nil_of_le (by omega)] at hd
      have Hd := Lib.hid (show (-1 : Int) = V from hd)
      clear hd C
      go_wp2
      go_ret
      exact ⟨lsRet Hd.out, kk⟩

theorem contains_any (X : List El) (pa : Option Addr) (cap fn : Nat) (lb : Array Value) (p : El → Bool) (w : World) (hX : X.length ≤ 7000) (hR : Rd w pa X) (hp : Pred fn lb p X w) :
    Calls Try.prog 35 #[.slice pa X.length cap, .func (.func fn) #[] lb] w fun e w' => e = .returned (.bool (X.any p)) ∧ Below w.heap.size w w' := by
  have C := Lib.hid (idxFunc_any X pa cap fn lb p w hX hR hp)
  have hi := lsIdx_any p X 0
  generalize lsIdx p X 0 = v at *
  generalize X.any p = a at *
  clear hR hp
  cases a
  · obtain rfl : v = -1 := hi.2 rfl
    clear hi
    go_enter Try.func35, Try.ntmps35
    go_wp2_with fail
    refine C.out.mono ?_
    rintro e w2 ⟨rfl, hb2⟩
    go_wp2
    go_ret
    exact ⟨rfl, hb2⟩
  · have hv : 0 ≤ v := hi.1 rfl
    clear hi
    go_enter Try.func35, Try.ntmps35
    go_wp2_with fail
    refine C.out.mono ?_
    rintro e w2 ⟨rfl, hb2⟩
    go_wp2
    go_ret
    exact ⟨rfl, hb2⟩

theorem place_any (X : List El) (pa : Option Addr) (cap fn : Nat) (lb : Array Value) (p : El → Bool) (w : World) (hX : X.length ≤ 7000) (hR : Rd w pa X) (hp : Pred fn lb p X w) :
    Calls Try.prog 32 #[.slice pa X.length cap, .func (.func fn) #[] lb] w fun e w' => e = .returned (.int .i64 (lsPl p X)) ∧ Below w.heap.size w w' := by
  have C := Lib.hid (idxFunc_any X pa cap fn lb p w hX hR hp)
  have hi := lsIdx_pl p X 0
  have hle := lsPl_le p X
  rw [Nat.zero_add] at hi
  generalize lsPl p X = q at *
  generalize lsIdx p X 0 = v at *
  clear hR hp
  rcases hi with ⟨rfl, h2⟩ | ⟨rfl, h2⟩
  · have H2 := Lib.hid h2
    clear h2
    go_enter Try.func32, Try.ntmps32
    go_wp2_with fail
    refine C.out.mono ?_
    rintro e w2 ⟨rfl, hb2⟩
    go_wp2
    go_ret
    exact ⟨lsRet (by rw [H2.out]), hb2⟩
  · go_enter Try.func32, Try.ntmps32
    go_wp2_with fail
    refine C.out.mono ?_
    rintro e w2 ⟨rfl, hb2⟩
    go_wp2
    go_ret
    exact ⟨rfl, hb2⟩

def Ord (fn : Nat) (lb : Array Value) (ord : El → El → Int) (X : List El) (w0 : World) : Prop := (∀ args w, (callFunc fn args).run Try.prog w = .ok (.enter fn args) w) ∧
  ∀ x ∈ X, ∀ y ∈ X, ∀ (w : World), Below w0.heap.size w0 w → Calls Try.prog fn (#[eV x, eV y] ++ lb) w fun e w' => e = .returned (.int .i64 (ord x y)) ∧ Below w.heap.size w w'
theorem Ord.lift {fn : Nat} {lb : Array Value} {p : El → El → Int} {X : List El} {w w' : World} (h : Ord fn lb p X w) (hb : Below w.heap.size w w') : Ord fn lb p X w' :=
  ⟨h.1, fun x hx y hy W hW => h.2 x hx y hy W (hb.trans (hW.mono hb.size))⟩
end Go.Proofs.Ytllojkdacinhfaa.Ke
