/- Layer 11: lists of Ids of the call's own; the contract of Ring. -/
import Derived.Test.YtgipohicgbppaaaWhO
namespace Go.Proofs.Ytgipohicgbppaaa
open Go.RowKit Go.Shelf
def flatI (ids : List Int) : List Value := ids.map (Value.int .u64)
/-- A list of Ids of the call's own. -/
structure OwnU (w : World) (base : Nat) (v : Value) (ids : List Int) : Prop where
  own : w.ownsRow base 23 1 v ids.length (flatI ids)
theorem OwnU.nil (w : World) (base : Nat) : OwnU w base (.slice none 0 0) [] := ⟨World.ownsRow_nil _ _ _ _⟩
theorem row_lift {w w' : World} {base m size n : Nat} {e : TypeId} {v : Value} {xs : List Value} (h : w.ownsRow base e size v n xs) (hb : Below m w w') (hm : w.heap.size ≤ m) : w'.ownsRow base e size v n xs := ⟨h.1, by
  rcases h.2 with h0 | ⟨g, cap, cur, hv, hg, hh, hx⟩
  · exact .inl h0
  · refine .inr ⟨g, cap, cur, hv, hg, ?_, hx⟩
    have hlt : g < w.heap.size := (Array.getElem?_eq_some_iff.1 hh).1
    rw [hb.block g (by omega)]
    exact hh⟩
theorem Own.lift {w w' : World} {base : Nat} {v : Value} {X : List Tm} (h : Own w base v X) (hb : Below w.heap.size w w') : Own w' base v X := ⟨row_lift h.own hb (Nat.le_refl _)⟩
theorem OwnU.lift {w w' : World} {base : Nat} {v : Value} {X : List Int} (h : OwnU w base v X) (hb : Below w.heap.size w w') : OwnU w' base v X := ⟨row_lift h.own hb (Nat.le_refl _)⟩
theorem OwnU.mono {w : World} {b b' : Nat} {v : Value} {X : List Int} (h : OwnU w b v X) (hb : b' ≤ b) : OwnU w b' v X := ⟨h.own.1, by
  rcases h.own.2 with h0 | ⟨g, cap, cur, hv, hg, hx⟩
  · exact .inl h0
  · exact .inr ⟨g, cap, cur, hv, Nat.le_trans hb hg, hx⟩⟩
theorem info_u : (Try.prog.info? 23).map (fun i => (i.zero, i.size, i.bytes)) = some (some (.int .u64 0), 1, 8) := by kernel_rfl
/-- Where those begin that ring later. -/
def laterL (X : List Tm) (now : Int) : Nat := plL (fun x => decide (now < x.1)) X
def ringP (X : List Tm) (now : Int) : List Tm × List Int := if mayT X then (X.drop (laterL X now), (X.take (laterL X now)).map (·.2)) else ([], [])
structure TwoPost (p : List Tm × List Int) (w : World) (e : Ending) (w' : World) : Prop where
  out : ∃ v u, e = .returned (.tuple #[v, u]) ∧ Own w' w.heap.size v p.1 ∧ OwnU w' w.heap.size u p.2 ∧ Below w.heap.size w w'
set_option maxHeartbeats 2000000 in
set_option maxRecDepth 100000 in
theorem ring_any (X : List Tm) (pa : Option Addr) (cap : Nat) (now : Int) (w : World) (hX : X.length ≤ 130) (hcap : X.length ≤ cap) (hR : Rd w pa X) (hnil : pa = none → cap = 0) :
    Calls Try.prog 21 #[.slice pa X.length cap, .int .i64 now] w (TwoPost (ringP X now) w) := by
  obtain ⟨i0, hi, hz0, hz1, hz2⟩ := info_parts info_u
  have Hz0 := Lib.hid hz0
  have Hz1 := Lib.hid hz1
  have Hz2 := Lib.hid hz2
  have hb0 : Below w.heap.size w (w.alloc (.cells #[.int .i64 now] 3)) := (Below.refl _ _).alloc (Nat.le_refl _) _
  have C := Lib.hid (check_any X pa cap _ hX (hR.lift hb0))
  have HR := Lib.hid hR
  have HB := Lib.hid hb0
  have hp : ∀ w1, Below (w.alloc (.cells #[.int .i64 now] 3)).heap.size (w.alloc (.cells #[.int .i64 now] 3)) w1 → PredT 34 #[.pointer (some ⟨w.heap.size, 0, none⟩)] (fun x => decide (now < x.1)) w1 := fun w1 h1 =>
    ⟨enters_of Try.func34 (by kernel_rfl) rfl, fun x w' hb => ring1_any now w.heap.size x w' (boxed_cell _ _ _ (h1.trans (hb.mono h1.size))) (by have := hb.size; have := h1.size; simp at this; omega)⟩
  have P := Lib.hid (fun w1 h1 hR1 => lplace_any X pa cap _ _ _ w1 hX hR1 (hp w1 h1))
  have hq : plL (fun x => decide (now < x.1)) X = laterL X now := rfl
  rw [hq] at P
  have hle : laterL X now ≤ X.length := plL_le _ _
  have hV : ∀ p, ringP X now = p → p = if mayT X then (X.drop (laterL X now), (X.take (laterL X now)).map (·.2)) else ([], []) := fun p hp => by rw [← hp]; rfl
  clear hz0 hz1 hz2 hb0 hR hp hq
  generalize ringP X now = p at *
  have HV := Lib.hid (hV p rfl)
  clear hV
  have hsz : w.heap.size ≤ (w.alloc (.cells #[.int .i64 now] 3)).heap.size := by simp
  cases hm : mayT X
  · rw [hm] at C
    have hpv : p = ([], []) := by rw [HV.out, hm]; rfl
    subst hpv
    clear HV hm
    go_enter Try.func21, Try.ntmps21
    go_wp2_with fail
    refine C.out.mono ?_
    rintro e w1 ⟨rfl, hb1⟩
    go_wp2
    refine bodyPost_ret (v := .tuple #[_, _]) (by simp [results, Try.results21, go_sem]; exact ⟨rfl, rfl⟩) rfl ?_
    exact ⟨_, _, rfl, Own.nil _ _, OwnU.nil _ _, HB.out.trans (hb1.mono hsz)⟩
  · rw [hm] at C
    have HV2 := Lib.hid (show p = (X.drop (laterL X now), (X.take (laterL X now)).map (·.2)) by rw [HV.out, hm]; rfl)
    clear HV hm
    generalize laterL X now = q at *
    have hqX : (q : Int) ≤ X.length := by omega
    have hqc : (q : Int) ≤ cap := by omega
    have hq0 : (0 : Int) ≤ q := by omega
    have hX' : (X.length : Int) ≤ 130 := by omega
    go_enter Try.func21, Try.ntmps21
    go_wp2_with fail
    refine C.out.mono ?_
    rintro e w1 ⟨rfl, hb1⟩
    have P1 := Lib.hid (P.out w1 hb1 (HR.out.lift (HB.out.trans (hb1.mono hsz))))
    have B1 := Lib.hid (HB.out.trans (hb1.mono hsz))
    clear hb1 P
    go_wp2_with fail
    refine P1.out.mono ?_
    rintro e w2 ⟨rfl, hb2⟩
    have B2 := Lib.hid (B1.out.trans (hb2.mono B1.out.size))
    clear hb2 P1
    go_wp2_with fail
    go_loopw [7, 20] (fun u i wx => ∃ k : Nat, i = .int .i64 k ∧ k ≤ q ∧ OwnU wx w.heap.size u ((X.take k).map (·.2)) ∧ Below w.heap.size w wx) (fun _ i _ => q - (intOf i).toNat)
    case atStart => exact ⟨0, rfl, Nat.zero_le _, OwnU.nil _ _, B2.out⟩
    case round =>
      obtain ⟨k, rfl, hk, hu, kk⟩ := hrel
      by_cases hlt : k < q
      · have hltq : (k : Int) < q := by omega
        have hkX : k < X.length := by omega
        obtain ⟨b, o, rfl, hbz, c0, c1⟩ := (HR.out.lift kk).at k hkX
        have htk : (X.take (k + 1)).map (·.2) = (X.take k).map (·.2) ++ [X[k].2] := by rw [List.take_succ_eq_append_getElem hkX, List.map_append]; rfl
        have hln : ((X.take k).map (·.2)).length = k := by rw [List.length_map, List.length_take]; omega
        generalize X[k] = x at *
        obtain ⟨x1, x2⟩ := x
        simp only at c0 c1 htk
        have hs2 : (wr.alloc (.cells #[.int .i64 x1, .int .u64 x2] 38)).heap.size = wr.heap.size + 1 := by simp
        have hbw : Below wr.heap.size wr ((wr.alloc (.cells #[.int .i64 x1, .int .u64 x2] 38)).alloc (.cells #[.int .u64 x2] 23)) := ((Below.refl _ _).alloc (Nat.le_refl _) _).alloc (by simp) _
        have hown := (hu.lift hbw).own
        have hnews : ∀ (j : Nat) (v : Value), [Value.int .u64 x2][j]? = some v → ((wr.alloc (.cells #[.int .i64 x1, .int .u64 x2] 38)).alloc (.cells #[.int .u64 x2] 23)).cell? ((⟨wr.heap.size + 1, 0, none⟩ : Addr).add j) = some v := by
          intro j v hj
          match j, hj with
          | 0, hj => simp at hj; subst hj; simp [go_sem, Addr.add]
          | j + 1, hj => simp at hj
        have hone : ∀ v ∈ [Value.int .u64 x2], v.oneCell' = true := by intro v hv; simp at hv; subst hv; rfl
        have kw := kk.trans (hbw.mono kk.size)
        have Kw := Lib.hid kw
        have N := Lib.hid hnews
        have Ub := Lib.hid (own_base hown)
        have fin : ∀ v2 w3, w3.ownsRow w.heap.size 23 1 v2 (k + 1) (flatI ((X.take k).map (·.2)) ++ [Value.int .u64 x2]) → OwnU w3 w.heap.size v2 ((X.take (k + 1)).map (·.2)) := fun v2 w3 h => ⟨by
          rw [htk, List.length_append, hln]
          unfold flatI
          rw [List.map_append]
          exact h⟩
        rw [hln] at hown
        have O := Lib.hid hown
        have Fin := Lib.hid fin
        clear hown hnews kw fin htk hln hbw hu C
        generalize (X.take k).map (·.2) = A at *
        go_wp2_with (first | (at_builtin; refine wpList_append_own _ rfl (.tmp 24) (.tmp 27) 44 rfl w.heap.size 23 i0 (.int .u64 0) 1 8 Try.underlying44 hi Hz0.out Hz1.out Hz2.out rfl (by decide) _ _ _ rfl O.out ⟨wr.heap.size + 1, 0, none⟩ 1 1 [Value.int .u64 x2] rfl rfl N.out hone ?c3a ?c4a ?c5a ?_))
        case c3a => unfold maxLen; omega
        case c4a => omega
        case c5a => exact Kw.out.size
        intro v2 w3 hown2 hgr2 _
        have F2 := Lib.hid (Fin.out v2 w3 hown2)
        have K2 := Lib.hid (Kw.out.grown hgr2 Kw.out.size Ub.out)
        clear hown2 hgr2 Fin N O Ub Kw
        go_wp2
        go_roundw
        case rel => exact ⟨k + 1, by go_num, by omega, F2.out, K2.out⟩
        case measure => simp [intOf]; omega
      · have hge : (q : Int) ≤ k := by omega
        obtain rfl : k = q := by omega
        have U := Lib.hid hu
        have Kk := Lib.hid kk
        have hclone : ∀ A n c, cutA pa cap k = A → X.length - k = n → cap - k = c → Calls Try.prog 31 #[.slice A n c] wr (ListPost (X.drop k) wr) := by
          intro A n c hA hn hc
          subst hA hn hc
          have h := clone_any (X.drop k) (cutA pa cap k) (cap - k) wr (by rw [List.length_drop]; omega) ((HR.out.lift kk).drop k cap hcap)
          rw [List.length_drop] at h
          exact h
        clear hu kk C
        by_cases he : cap = k
        · have Cl := Lib.hid (hclone pa 0 0 (by unfold cutA; rw [if_pos he]) (by omega) (by omega))
          clear hclone
          subst he
          go_wp2_with fail
          refine Cl.out.mono ?_
          rintro e w3 ⟨v, rfl, hown, hb3⟩
          have U3 := Lib.hid (U.out.lift hb3)
          have O3 := Lib.hid (hown.mono Kk.out.size)
          have K3 := Lib.hid (Kk.out.trans (hb3.mono Kk.out.size))
          clear hb3 hown
          go_wp2
          rw [HV2.out]
          refine bodyPost_ret (v := .tuple #[_, _]) (by simp [results, Try.results21, go_sem]; exact ⟨rfl, rfl⟩) rfl ?_
          exact ⟨_, _, rfl, O3.out, U3.out, K3.out⟩
        · have Cl := Lib.hid (hclone _ _ _ (show cutA pa cap k = pa.map (fun x => x.add (k * 2)) by unfold cutA; rw [if_neg he]) rfl rfl)
          clear hclone
          go_wp2_with fail
          refine Cl.out.mono ?_
          rintro e w3 ⟨v, rfl, hown, hb3⟩
          have U3 := Lib.hid (U.out.lift hb3)
          have O3 := Lib.hid (hown.mono Kk.out.size)
          have K3 := Lib.hid (Kk.out.trans (hb3.mono Kk.out.size))
          clear hb3 hown
          go_wp2
          rw [HV2.out]
          refine bodyPost_ret (v := .tuple #[_, _]) (by simp [results, Try.results21, go_sem]; exact ⟨rfl, rfl⟩) rfl ?_
          exact ⟨_, _, rfl, O3.out, U3.out, K3.out⟩
end Go.Proofs.Ytgipohicgbppaaa
