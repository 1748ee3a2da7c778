/- Layer 11: parts of lists; the contract of the law's Few. -/
import Derived.Test.YtgipohicgbppaaaWhI
namespace Go.Proofs.Ytgipohicgbppaaa
open Go.RowKit Go.Shelf
theorem addr_add (b o j : Nat) : (⟨b, o, none⟩ : Addr).add j = ⟨b, o + j, none⟩ := by by_cases h : j = 0 <;> simp [Addr.add, h]
theorem Rd.take {w : World} {pa : Option Addr} {X : List Tm} (h : Rd w pa X) (k : Nat) : Rd w pa (X.take k) := ⟨fun hx => by
  obtain ⟨b, o, e, hb, hc⟩ := h.out (by rintro rfl; simp at hx)
  refine ⟨b, o, e, hb, fun i hi => ?_⟩
  have hi2 : i < X.length := by rw [List.length_take] at hi; omega
  rw [List.getElem_take]
  exact hc i hi2⟩
/-- A part from a place on, as the model cuts it. -/
def cutA (pa : Option Addr) (cap k : Nat) : Option Addr := if cap = k then pa else pa.map (·.add (k * 2))
theorem Rd.drop {w : World} {pa : Option Addr} {X : List Tm} (h : Rd w pa X) (k cap : Nat) (hcap : X.length ≤ cap) : Rd w (cutA pa cap k) (X.drop k) := ⟨fun hx => by
  have hlt : k < X.length := by
    apply Classical.byContradiction; intro hn
    exact hx (List.drop_eq_nil_of_le (by omega))
  obtain ⟨b, o, e, hb, hc⟩ := h.out (by rintro rfl; simp at hx)
  subst e
  refine ⟨b, o + k * 2, ?_, hb, fun i hi => ?_⟩
  · unfold cutA
    rw [if_neg (by omega), Option.map_some, addr_add]
  · rw [List.length_drop] at hi
    have := hc (k + i) (by omega)
    rw [List.getElem_drop]
    rw [show o + k * 2 + i * 2 = o + (k + i) * 2 by omega]
    exact this⟩
set_option maxHeartbeats 1000000 in
theorem few_any (X : List Tm) (pa : Option Addr) (cap : Nat) (w : World) (hcap : X.length ≤ cap) (hR : Rd w pa X) :
    Calls Try.prog 9 #[.slice pa X.length cap] w (ListPost (X.take 121) w) := by
  obtain ⟨i0, hi, hz0, hz1, hz2⟩ := info_parts info_tm
  have hown : Own (w.alloc (.cells #[] 38)) w.heap.size (.slice (some ⟨w.heap.size, 0, none⟩) 0 0) [] := by
    refine ⟨rfl, .inr ⟨w.heap.size, 0, #[], rfl, Nat.le_refl _, ?_, Nat.le_refl _, Nat.zero_le _, rfl, rfl⟩⟩
    show (w.heap.push _)[w.heap.size]? = _
    exact Array.getElem?_push_size
  have O := Lib.hid (show (w.alloc (.cells #[] 38)).ownsRow w.heap.size 38 2 (.slice (some ⟨w.heap.size, 0, none⟩) 0 0) 0 [] from hown.own)
  have HO := Lib.hid hown
  have hb1 : Below w.heap.size w (w.alloc (.cells #[] 38)) := (Below.refl _ _).alloc (Nat.le_refl _) _
  have hR2 := (hR.take 121).lift hb1
  have HB := Lib.hid hb1
  have Hz0 := Lib.hid hz0
  have Hz1 := Lib.hid hz1
  have Hz2 := Lib.hid hz2
  have fin : ∀ v2 w2, w2.ownsRow w.heap.size 38 2 v2 (0 + (X.take 121).length) ([] ++ flatT (X.take 121)) → (w.alloc (.cells #[] 38)).grownBy w2 (Value.slice (some ⟨w.heap.size, 0, none⟩) 0 0).ownBlock → Own w2 w.heap.size v2 (X.take 121) ∧ Below w.heap.size w w2 := by
    intro v2 w2 hown2 hgr2
    exact ⟨⟨by simpa using hown2⟩, hb1.grown hgr2 (by simp) (own_base O.out)⟩
  have Fin := Lib.hid fin
  clear hown hz0 hz1 hz2 fin hb1 hR
  by_cases hl : (121 : Int) < X.length
  · have hlt : (X.take 121).length = 121 := by rw [List.length_take]; omega
    have hcapi : (121 : Int) ≤ cap := by omega
    generalize hY : X.take 121 = Y at *
    cases pa with
    | none =>
      exact absurd (hR2.none) (by rintro rfl; simp at hlt)
    | some a =>
      have N := Lib.hid hR2.some
      have Hlt := Lib.hid hlt
      clear hR2 hlt hY hcap
      go_enter Try.func9, Try.ntmps9
      go_wp2_with (first | (at_builtin; refine wpList_append_own _ rfl (.tmp 8) (.tmp 9) 22 rfl w.heap.size 38 i0 (.agg #[.int .i64 0, .int .u64 0]) 2 16 Try.underlying22 hi Hz0.out Hz1.out Hz2.out rfl (by decide) _ _ _ rfl O.out a 121 cap (flatT Y) rfl (by rw [flatT_len, Hlt.out]) N.out (flatT_one Y) ?c3a ?c4a ?c5a ?_))
      case c3a => unfold maxLen; omega
      case c4a => omega
      case c5a => simp
      intro v2 w2 hown2 hgr2 _
      have hk := Lib.hid (Fin.out v2 w2 (by rw [Hlt.out]; exact hown2) hgr2)
      clear hown2 hgr2 Fin N O HO Hz0 Hz1 Hz2 HB Hlt
      go_wp2
      go_ret
      exact ⟨v2, rfl, hk.out.1, hk.out.2⟩
  · have hlt : X.take 121 = X := List.take_of_length_le (by omega)
    rw [hlt] at Fin hR2
    rw [hlt]
    have hl2 : X.length ≤ 121 := by omega
    have hdl : decide ((121 : Int) < X.length) = false := by simp; omega
    clear hlt
    cases pa with
    | none =>
      obtain rfl := hR2.none
      have hb := HB
      clear hR2 Fin
      go_enter Try.func9, Try.ntmps9
      go_wp2
      go_ret
      exact ⟨_, rfl, HO.out, hb.out⟩
    | some a =>
      have N := Lib.hid hR2.some
      clear hR2
      go_enter Try.func9, Try.ntmps9
      go_wp2_with (first | (at_builtin; refine wpList_append_own _ rfl (.tmp 8) (.tmp 9) 22 rfl w.heap.size 38 i0 (.agg #[.int .i64 0, .int .u64 0]) 2 16 Try.underlying22 hi Hz0.out Hz1.out Hz2.out rfl (by decide) _ _ _ rfl O.out a X.length cap (flatT X) rfl (flatT_len X) N.out (flatT_one X) ?c3a ?c4a ?c5a ?_))
      case c3a => unfold maxLen; omega
      case c4a => omega
      try (case c5a => simp)
      intro v2 w2 hown2 hgr2 _
      have hk := Lib.hid (Fin.out v2 w2 (by simpa using hown2) hgr2)
      clear hown2 hgr2 Fin N O HO Hz0 Hz1 Hz2 HB
      go_wp2
      go_ret
      exact ⟨v2, rfl, hk.out.1, hk.out.2⟩
end Go.Proofs.Ytgipohicgbppaaa
