/- Lists of api.Last in a world: the first one of which something holds; lists that rise. -/
import Derived.Test.YtflfbkoelhheoaaLsBase
namespace Go.Proofs.Ytflfbkoelhheoaa.La
open Go.RowKit Go.Shelf Go.Proofs.Ytflfbkoelhheoaa
set_option linter.unusedVariables false
set_option linter.unusedSimpArgs false
abbrev El := ByteArray × Int × Int
abbrev eV (x : El) : Value := .agg #[.string x.1, .int .u64 x.2.1, .int .i64 x.2.2]
/-- A list, wherever it lies. -/
structure Rd (w : World) (pa : Option Addr) (X : List El) : Prop where
  out : X ≠ [] → ∃ b o, pa = some ⟨b, o, none⟩ ∧ b < w.heap.size ∧ ∀ i (h : i < X.length), w.cell? ⟨b, o + i * 3, none⟩ = some (.string X[i].1) ∧ w.cell? ⟨b, o + i * 3 + 1, none⟩ = some (.int .u64 X[i].2.1) ∧ w.cell? ⟨b, o + i * 3 + 2, none⟩ = some (.int .i64 X[i].2.2)
theorem Rd.at {w : World} {pa : Option Addr} {X : List El} (h : Rd w pa X) (i : Nat) (hi : i < X.length) : ∃ b o, pa = some ⟨b, o, none⟩ ∧ b < w.heap.size ∧ w.cell? ⟨b, o + i * 3, none⟩ = some (.string X[i].1) ∧ w.cell? ⟨b, o + i * 3 + 1, none⟩ = some (.int .u64 X[i].2.1) ∧ w.cell? ⟨b, o + i * 3 + 2, none⟩ = some (.int .i64 X[i].2.2) := by
  obtain ⟨b, o, e, hb, hc⟩ := h.out (by intro e; rw [e] at hi; exact absurd hi (by simp))
  exact ⟨b, o, e, hb, hc i hi⟩
theorem Rd.lift {w w' : World} {pa : Option Addr} {X : List El} (h : Rd w pa X) (hb : Below w.heap.size w w') : Rd w' pa X := ⟨fun hx => by
  obtain ⟨b, o, e, hlt, hc⟩ := h.out hx
  exact ⟨b, o, e, Nat.lt_of_lt_of_le hlt hb.size, fun i hi => ⟨(hb.cell (p := ⟨b, o + i * 3, none⟩) hlt).trans (hc i hi).1, (hb.cell (p := ⟨b, o + i * 3 + 1, none⟩) hlt).trans (hc i hi).2.1, (hb.cell (p := ⟨b, o + i * 3 + 2, none⟩) hlt).trans (hc i hi).2.2⟩⟩⟩
theorem Rd.nil (w : World) (pa : Option Addr) : Rd w pa [] := ⟨fun h => absurd rfl h⟩
theorem Rd.isNil {w : World} {X : List El} (h : Rd w none X) : X = [] := by
  cases X with
  | nil => rfl
  | cons x X => obtain ⟨b, o, e, _⟩ := h.out (by simp); cases e
theorem Rd.take {w : World} {pa : Option Addr} {X : List El} (h : Rd w pa X) (k : Nat) : Rd w pa (X.take k) := ⟨fun hx => by
  obtain ⟨b, o, e, hb, hc⟩ := h.out (by rintro rfl; simp at hx)
  refine ⟨b, o, e, hb, fun i hi => ?_⟩
  have hi2 : i < X.length := by rw [List.length_take] at hi; omega
  rw [List.getElem_take]
  exact hc i hi2⟩
theorem Rd.drop {w : World} {pa : Option Addr} {X : List El} (h : Rd w pa X) (k cap : Nat) (hcap : X.length ≤ cap) : Rd w (lsCut 3 pa cap k) (X.drop k) := ⟨fun hx => by
  have hlt : k < X.length := by
    apply Classical.byContradiction; intro hn
    exact hx (List.drop_eq_nil_of_le (by omega))
  obtain ⟨b, o, e, hb, hc⟩ := h.out (by rintro rfl; simp at hx)
  subst e
  refine ⟨b, o + k * 3, ?_, hb, fun i hi => ?_⟩
  · unfold lsCut
    rw [if_neg (by omega), Option.map_some, lsAdd]
  · rw [List.length_drop] at hi
    have := hc (k + i) (by omega)
    rw [List.getElem_drop]
    rw [show o + k * 3 + i * 3 = o + (k + i) * 3 by omega]
    exact this⟩
/-- What a function of the program says of each one of a list. -/
def Pred (fn : Nat) (lb : Array Value) (p : El → Bool) (X : List El) (w0 : World) : Prop := (∀ args w, (callFunc fn args).run Try.prog w = .ok (.enter fn args) w) ∧
  ∀ x ∈ X, ∀ (w : World), Below w0.heap.size w0 w → Calls Try.prog fn (#[eV x] ++ lb) w fun e w' => e = .returned (.bool (p x)) ∧ Below w.heap.size w w'
theorem Pred.lift {fn : Nat} {lb : Array Value} {p : El → Bool} {X : List El} {w w' : World} (h : Pred fn lb p X w) (hb : Below w.heap.size w w') : Pred fn lb p X w' :=
  ⟨h.1, fun x hx W hW => h.2 x hx W (hb.trans (hW.mono hb.size))⟩
set_option maxRecDepth 100000 in
set_option maxHeartbeats 1000000 in
theorem idxFunc_any (X : List El) (pa : Option Addr) (cap fn : Nat) (lb : Array Value) (p : El → Bool) (w : World) (hX : X.length ≤ 7000) (hR : Rd w pa X) (hp : Pred fn lb p X w) :
    Calls Try.prog 35 #[.slice pa X.length cap, .func (.func fn) #[] lb] w fun e w' => e = .returned (.int .i64 (lsIdx p X 0)) ∧ Below w.heap.size w w' := by
  obtain ⟨V, hV⟩ : ∃ V, V = lsIdx p X 0 := ⟨_, rfl⟩
  rw [← hV]
  have HV := Lib.hid hV
  have HR := Lib.hid hR
  have eg := hp.1
  have C := Lib.hid hp.2
  have hXi : (X.length : Int) ≤ 7000 := by omega
  clear hV hR hp
  go_enter Try.func35, Try.ntmps35
  go_wp2_with fail
  go_loopw [8] (fun i wx => ∃ k : Nat, i = .int .i64 k ∧ k ≤ X.length ∧ lsIdx p (X.drop k) k = V ∧ Below w.heap.size w wx) (fun i _ => X.length - (intOf i).toNat)
  case atStart => exact ⟨0, rfl, Nat.zero_le _, HV.out.symm, Below.refl _ _⟩
  case round =>
    obtain ⟨k, rfl, hk, hd, kk⟩ := hrel
    by_cases hlt : k < X.length
    · have hlt' : (k : Int) < X.length := by omega
      obtain ⟨b, o, rfl, hbz, c0, c1, c2⟩ := (HR.out.lift kk).at k hlt
      rw [List.drop_eq_getElem_cons hlt] at hd
      have C2 := Lib.hid (C.out X[k] (List.getElem_mem hlt) wr kk)
      generalize X[k] = x at *
      obtain ⟨x1, x2, x3⟩ := x
      simp only at c0 c1 c2
      unfold lsIdx at hd
      cases hpx : p (x1, x2, x3)
      · rw [hpx] at C2 hd
        have Hd := Lib.hid (show lsIdx p (X.drop (k + 1)) (k + 1) = V from hd)
        clear hd hpx C
        go_wp2_with fail
        refine C2.out.mono ?_
        rintro e w2 ⟨rfl, hb2⟩
        have k2 := kk.trans (hb2.mono kk.size)
        clear hb2
        go_wp2
        go_roundw
        case rel => exact ⟨k + 1, by go_num, by omega, Hd.out, k2⟩
        case measure => simp [intOf]; omega
      · rw [hpx] at C2 hd
        have Hd := Lib.hid (show (k : Int) = V from hd)
        clear hd hpx C
        go_wp2_with fail
        refine C2.out.mono ?_
        rintro e w2 ⟨rfl, hb2⟩
        have k2 := kk.trans (hb2.mono kk.size)
        clear hb2
        go_wp2
        go_ret
        exact ⟨lsRet Hd.out, k2⟩
    · have hge : (X.length : Int) ≤ k := by omega
      rw [List.drop_eq_nil_of_le (by omega)] at hd
      have Hd := Lib.hid (show (-1 : Int) = V from hd)
      clear hd C
      go_wp2
      go_ret
      exact ⟨lsRet Hd.out, kk⟩

theorem contains_any (X : List El) (pa : Option Addr) (cap fn : Nat) (lb : Array Value) (p : El → Bool) (w : World) (hX : X.length ≤ 7000) (hR : Rd w pa X) (hp : Pred fn lb p X w) :
    Calls Try.prog 30 #[.slice pa X.length cap, .func (.func fn) #[] lb] w fun e w' => e = .returned (.bool (X.any p)) ∧ Below w.heap.size w w' := by
  have C := Lib.hid (idxFunc_any X pa cap fn lb p w hX hR hp)
  have hi := lsIdx_any p X 0
  generalize lsIdx p X 0 = v at *
  generalize X.any p = a at *
  clear hR hp
  cases a
  · obtain rfl : v = -1 := hi.2 rfl
    clear hi
    go_enter Try.func30, Try.ntmps30
    go_wp2_with fail
    refine C.out.mono ?_
    rintro e w2 ⟨rfl, hb2⟩
    go_wp2
    go_ret
    exact ⟨rfl, hb2⟩
  · have hv : 0 ≤ v := hi.1 rfl
    clear hi
    go_enter Try.func30, Try.ntmps30
    go_wp2_with fail
    refine C.out.mono ?_
    rintro e w2 ⟨rfl, hb2⟩
    go_wp2
    go_ret
    exact ⟨rfl, hb2⟩

theorem place_any (X : List El) (pa : Option Addr) (cap fn : Nat) (lb : Array Value) (p : El → Bool) (w : World) (hX : X.length ≤ 7000) (hR : Rd w pa X) (hp : Pred fn lb p X w) :
    Calls Try.prog 24 #[.slice pa X.length cap, .func (.func fn) #[] lb] w fun e w' => e = .returned (.int .i64 (lsPl p X)) ∧ Below w.heap.size w w' := by
  have C := Lib.hid (idxFunc_any X pa cap fn lb p w hX hR hp)
  have hi := lsIdx_pl p X 0
  have hle := lsPl_le p X
  rw [Nat.zero_add] at hi
  generalize lsPl p X = q at *
  generalize lsIdx p X 0 = v at *
  clear hR hp
  rcases hi with ⟨rfl, h2⟩ | ⟨rfl, h2⟩
  · have H2 := Lib.hid h2
    clear h2
    go_enter Try.func24, Try.ntmps24
    go_wp2_with fail
    refine C.out.mono ?_
    rintro e w2 ⟨rfl, hb2⟩
    go_wp2
    go_ret
    exact ⟨lsRet (by rw [H2.out]), hb2⟩
  · go_enter Try.func24, Try.ntmps24
    go_wp2_with fail
    refine C.out.mono ?_
    rintro e w2 ⟨rfl, hb2⟩
    go_wp2
    go_ret
    exact ⟨rfl, hb2⟩

def Ord (fn : Nat) (lb : Array Value) (ord : El → El → Int) (X : List El) (w0 : World) : Prop := (∀ args w, (callFunc fn args).run Try.prog w = .ok (.enter fn args) w) ∧
  ∀ x ∈ X, ∀ y ∈ X, ∀ (w : World), Below w0.heap.size w0 w → Calls Try.prog fn (#[eV x, eV y] ++ lb) w fun e w' => e = .returned (.int .i64 (ord x y)) ∧ Below w.heap.size w w'
theorem Ord.lift {fn : Nat} {lb : Array Value} {p : El → El → Int} {X : List El} {w w' : World} (h : Ord fn lb p X w) (hb : Below w.heap.size w w') : Ord fn lb p X w' :=
  ⟨h.1, fun x hx y hy W hW => h.2 x hx y hy W (hb.trans (hW.mono hb.size))⟩
set_option maxRecDepth 100000 in
set_option maxHeartbeats 2000000 in
theorem rises_any (X : List El) (pa : Option Addr) (cap fn : Nat) (lb : Array Value) (ord : El → El → Int) (w : World) (hX : X.length ≤ 7000) (hR : Rd w pa X) (hp : Ord fn lb ord X w) :
    Calls Try.prog 31 #[.slice pa X.length cap, .func (.func fn) #[] lb] w fun e w' => e = .returned (.bool (lsRises ord X)) ∧ Below w.heap.size w w' := by
  obtain ⟨V, hV⟩ : ∃ V, V = lsRises ord X := ⟨_, rfl⟩
  rw [← hV]
  have HV := Lib.hid hV
  have HR := Lib.hid hR
  have eg := hp.1
  have C := Lib.hid hp.2
  have hXi : (X.length : Int) ≤ 7000 := by omega
  clear hV hR hp
  go_enter Try.func31, Try.ntmps31
  go_wp2_with fail
  go_loopw [5] (fun i wx => ∃ k : Nat, i = .int .i64 ((k : Int) + 1) ∧ (k + 1 ≤ X.length ∨ k = 0) ∧ lsRises ord (X.drop k) = V ∧ Below w.heap.size w wx) (fun i _ => X.length - (intOf i).toNat)
  case atStart => exact ⟨0, rfl, .inr rfl, HV.out.symm, Below.refl _ _⟩
  case round =>
    obtain ⟨k, rfl, hk, hd, kk⟩ := hrel
    by_cases hlt : k + 1 < X.length
    · have hlt' : (k : Int) + 1 < X.length := by omega
      obtain ⟨b, o, e, hbz, c0, c1, c2⟩ := (HR.out.lift kk).at k (by omega)
      obtain ⟨b2, o2, e2, _, d0, d1, d2⟩ := (HR.out.lift kk).at (k + 1) hlt
      subst e
      obtain ⟨rfl, rfl⟩ : b = b2 ∧ o = o2 := by cases e2; exact ⟨rfl, rfl⟩
      clear e2
      rw [List.drop_eq_getElem_cons (by omega : k < X.length), List.drop_eq_getElem_cons hlt] at hd
      have hd2 : (decide (ord X[k] X[k + 1] < 0) && lsRises ord (X.drop (k + 1))) = V := by
        rw [List.drop_eq_getElem_cons hlt]; exact hd
      clear hd
      have C2 := Lib.hid (C.out X[k] (List.getElem_mem (by omega)) X[k + 1] (List.getElem_mem hlt))
      generalize X[k] = x at *
      generalize X[k + 1] = y at *
      obtain ⟨x1, x2, x3⟩ := x
      obtain ⟨y1, y2, y3⟩ := y
      simp only at c0 c1 c2 d0 d1 d2
      have kd := kk.drew
      have hbz' : b < wr.drew.heap.size := hbz
      generalize ord (x1, x2, x3) (y1, y2, y3) = r at *
      have Hd := Lib.hid hd2
      clear hd2 C HV
      go_wp2_with fail
      have k0 : (0 : Int) ≤ k := by omega
      have k1 : (k : Int) < X.length := by omega
      have k2 : k < X.length := by omega
      have k3 : k + 1 < X.length := by omega
      have k4 : (k : Int) ≤ 7000 := by omega
      have k5 : (k : Int) + 1 < X.length := by omega
      have k6 : (0 : Int) ≤ (k : Int) + 1 := by omega
      have w3 : wrap64 (k : Int) = k := by unfold wrap64; omega
      have w4 : IntKind.i64.wrap (k : Int) = k := IntWalk.i64_in _ (by omega)
      have k7 : ((k : Int) + 1).toNat = k + 1 := by omega
      have w1 : wrap64 ((k : Int) + 1 - 1) = k := by unfold wrap64; omega
      have w2 : IntKind.i64.wrap ((k : Int) + 1 - 1) = k := by rw [show (k : Int) + 1 - 1 = k by omega]; exact IntWalk.i64_in _ (by omega)
      go_region_held3 (fun w' => w'.cell? ⟨b, o + k * 3, none⟩ = some (.string x1) ∧ w'.cell? ⟨b, o + k * 3 + 1, none⟩ = some (.int .u64 x2) ∧ w'.cell? ⟨b, o + k * 3 + 2, none⟩ = some (.int .i64 x3) ∧ w'.cell? ⟨b, o + (k + 1) * 3, none⟩ = some (.string y1) ∧ w'.cell? ⟨b, o + (k + 1) * 3 + 1, none⟩ = some (.int .u64 y2) ∧ w'.cell? ⟨b, o + (k + 1) * 3 + 2, none⟩ = some (.int .i64 y3)) (first | (exact ⟨c0, c1, c2, d0, d1, d2⟩) | (exact ⟨(hb1.cell (p := ⟨b, o + k * 3, none⟩) hbz').trans c0, (hb1.cell (p := ⟨b, o + k * 3 + 1, none⟩) hbz').trans c1, (hb1.cell (p := ⟨b, o + k * 3 + 2, none⟩) hbz').trans c2, (hb1.cell (p := ⟨b, o + (k + 1) * 3, none⟩) hbz').trans d0, (hb1.cell (p := ⟨b, o + (k + 1) * 3 + 1, none⟩) hbz').trans d1, (hb1.cell (p := ⟨b, o + (k + 1) * 3 + 2, none⟩) hbz').trans d2⟩)) (first | (go_at_fn fn; refine (C2.out _ kd).mono ?_; rintro e w1 ⟨rfl, hb1⟩))
      have kw := kd.trans (hb1.mono kd.size)
      clear hb1 kd hbz' C2
      by_cases hr : 0 ≤ r
      · have hv : V = false := by
          have := Hd.out
          rw [show decide (r < 0) = false by simp; omega, Bool.false_and] at this
          exact this.symm
        subst hv
        clear Hd
        go_wp2
        go_ret
        exact ⟨rfl, kw⟩
      · have hv : lsRises ord (X.drop (k + 1)) = V := by
          have := Hd.out
          rwa [show decide (r < 0) = true by simp; omega, Bool.true_and] at this
        have Hv := Lib.hid hv
        clear hv Hd
        go_wp2
        go_roundw
        case rel => exact ⟨k + 1, by go_num, .inl (by omega), Hv.out, kw⟩
        case measure => simp [intOf]; omega
    · have hge : (X.length : Int) ≤ (k : Int) + 1 := by omega
      have hv : V = true := by
        rw [← hd]
        cases e : X.drop k with
        | nil => rfl
        | cons x r =>
          have h1 := congrArg List.length e
          rw [List.length_drop] at h1
          have h2 : r = [] := List.eq_nil_of_length_eq_zero (by simp at h1; omega)
          rw [h2]; rfl
      subst hv
      clear hd HV
      go_wp2
      go_ret
      exact ⟨rfl, kk⟩
end Go.Proofs.Ytflfbkoelhheoaa.La
