/- Layer 3: contracts of Write of a text, Lay, Take, and the chapter's Read. -/
import Derived.Test.YtkakldlfgnijdaaDoorValA
namespace Go.Proofs.YtkakldlfgnijdaaDoor
open Go.RowKit
/-- A text as it is written, without the signs around it. -/
def escL : List UInt8 → List UInt8
  | [] => []
  | b :: t => (if escB b.toNat then [92, b] else [b]) ++ escL t
theorem escL_append : ∀ (a b : List UInt8), escL (a ++ b) = escL a ++ escL b
  | [], b => rfl
  | x :: a, b => by simp [escL, escL_append a b]
theorem escL_length : ∀ (a : List UInt8), (escL a).length ≤ 2 * a.length
  | [] => by simp [escL]
  | x :: a => by have := escL_length a; simp only [escL, List.length_append, List.length_cons]; split <;> simp <;> omega
theorem escL_take (l : List UInt8) (k : Nat) (h : k < l.length) : escL (l.take (k + 1)) = escL (l.take k) ++ (if escB (l[k].toNat : Int) then [92, l[k]] else [l[k]]) := by
  rw [List.take_succ_eq_append_getElem h, escL_append]; simp [escL]
def wrC (l : List UInt8) (k : Nat) : List Value := (34 :: escL (l.take k)).map byteV
theorem one_cell (w : World) (o : Value) {t : TypeId} : ∀ (j : Nat) (u : Value), [o][j]? = some u → (w.alloc (.cells #[o] t)).cell? ((⟨w.heap.size, 0, none⟩ : Addr).add j) = some u := by
  intro j u hj
  match j, hj with
  | 0, hj => simp at hj; subst hj; simp [Addr.add]
theorem own_base {w : World} {base : Nat} {t : TypeId} {z : Nat} {v : Value} {n : Nat} {xs : List Value} (h : w.ownsRow base t z v n xs) : ∀ k, v.ownBlock = some k → base ≤ k := by
  intro k hk
  rcases h.2 with ⟨rfl, _⟩ | ⟨g, cap, cur, rfl, hg, _⟩
  · simp [Value.ownBlock] at hk
  · simp [Value.ownBlock] at hk; omega
theorem own_some {w : World} {base : Nat} {t : TypeId} {z : Nat} {v : Value} {n : Nat} {xs : List Value} (h : w.ownsRow base t z v n xs) (hn : ¬ (v = .slice none 0 0 ∧ n = 0)) :
    ∃ g cap, v = .slice (some ⟨g, 0, none⟩) n cap ∧ w.ownsRow base t z (.slice (some ⟨g, 0, none⟩) n cap) n xs := by
  rcases h.2 with h' | ⟨g, cap, cur, rfl, hg, _⟩
  · exact absurd h' hn
  · exact ⟨g, cap, rfl, h⟩
theorem one_ok (b : Int) : ∀ u ∈ [Value.int .u8 b], u.oneCell' = true := by intro u hu; simp at hu; subst hu; rfl
set_option maxRecDepth 100000 in
set_option maxHeartbeats 1000000 in
theorem write_text (s : ByteArray) (w : World) (hs : s.size ≤ 60) :
    Calls Tryd.prog 12 #[.agg #[.bool false, .int .i64 0, .string s]] w fun e w' => e = .returned (.tuple #[.string ⟨(34 :: escL s.data.toList ++ [34]).toArray⟩, .int .i64 0]) ∧ Below w.heap.size w w' := by
  obtain ⟨i0, hi, hz0, hz1, hz2⟩ := info_parts info_u8
  have Hm := Lib.hid (show mayB false 0 s = true by simp [mayB]; omega)
  obtain ⟨l, hl⟩ : ∃ l, l = s.data.toList := ⟨_, rfl⟩
  have hlen : l.length = s.size := by rw [hl]; simp
  have Hat := Lib.hid (show ∀ j (h : j < s.size), escL (l.take (j + 1)) = escL (l.take j) ++ (if escB ((s[j]'h).toNat : Int) then [92, s[j]'h] else [s[j]'h]) from fun j h => by
    subst hl; exact escL_take s.data.toList j (by simpa using h))
  rw [← hl]
  obtain ⟨F, hF⟩ : ∃ F, F = 34 :: escL l ++ [34] := ⟨_, rfl⟩
  rw [← hF]
  have HF := Lib.hid hF
  have Hlen := Lib.hid hlen
  have Hz0 := Lib.hid hz0
  have Hz1 := Lib.hid hz1
  have Hz2 := Lib.hid hz2
  clear hl hlen hz0 hz1 hz2 hF
  go_enter Tryd.func12, Tryd.ntmps12
  go_wp2_with fail
  refine (may_any false 0 s _).mono ?_
  rintro e w1 ⟨rfl, hb1⟩
  rw [Hm.out]
  have hb0 : Below w.heap.size w w1 := ((Below.refl _ _).alloc (Nat.le_refl _) _).trans (hb1.mono (by simp))
  have hc := hb1.cell (p := ⟨w.heap.size, 0, none⟩) (by simp)
  have hc2 := hb1.cell (p := ⟨w.heap.size, 2, none⟩) (by simp)
  simp at hc hc2
  have hz : w.heap.size < w1.heap.size := by have := hb1.size; simp at this; omega
  have hown0 : (w1.alloc (.cells #[.int .u8 34] 5)).ownsRow w1.heap.size 5 1 (.slice (some ⟨w1.heap.size, 0, none⟩) 1 1) (wrC l 0).length (wrC l 0) := by
    refine ⟨by simp [wrC, escL], .inr ⟨w1.heap.size, 1, #[.int .u8 34], rfl, Nat.le_refl _, ?_, by simp [wrC, escL], by unfold maxLen; omega, by simp, by simp [wrC, escL, byteV]⟩⟩
    show (w1.heap.push _)[w1.heap.size]? = _
    simp
  go_wp2
  go_loopw [4, 18] (fun v i wr => ∃ k : Nat, k ≤ s.size ∧ i = .int .i64 k ∧ wr.ownsRow w1.heap.size 5 1 v (wrC l k).length (wrC l k) ∧ Below w1.heap.size w1 wr) (fun _ i _ => s.size - (intOf i).toNat)
  case atStart => exact ⟨0, Nat.zero_le _, rfl, hown0, (Below.refl _ _).alloc (Nat.le_refl _) _⟩
  case round =>
    clear hown0
    obtain ⟨k, hk, rfl, hown, hbel⟩ := hrel
    have hcr := (hbel.cell (p := ⟨w.heap.size, 2, none⟩) hz).trans hc2
    have hlw : (wrC l k).length ≤ 121 := by
      have := escL_length (l.take k)
      have h2 : (l.take k).length ≤ k := List.length_take_le _ _
      simp only [wrC, List.length_map, List.length_cons]; omega
    have hsz := hbel.size
    by_cases hlt : k < s.size
    · have hst := Hat.out k hlt
      have hbd : (0 : Int) ≤ ((s[k]'hlt).toNat : Int) ∧ ((s[k]'hlt).toNat : Int) < 256 := by have := (s[k]'hlt).toNat_lt; omega
      by_cases he : escB ((s[k]'hlt).toNat : Int) = true
      · rw [if_pos he] at hst
        have hw : wrC l (k + 1) = wrC l k ++ [.int .u8 92] ++ [.int .u8 ((s[k]'hlt).toNat : Int)] := by simp [wrC, hst, byteV]
        have He := Lib.hid he
        have Hw := Lib.hid hw
        clear he hst hw
        go_wp2_with fail
        refine (esc_any _ _).mono ?_
        rintro e wx ⟨rfl, rfl⟩
        rw [He.out]
        go_wp2_with (first | (at_builtin; refine wpList_append_own _ rfl (.tmp 26) (.tmp 27) 46 rfl w1.heap.size 5 i0 (.int .u8 0) 1 1 Tryd.underlying46 hi Hz0.out Hz1.out Hz2.out rfl (by decide) _ _ _ rfl (hown.alloc _) ⟨wr.heap.size, 0, none⟩ 1 1 [.int .u8 92] rfl rfl (one_cell _ _) (one_ok _) ?c3a ?c4a ?c5a ?_))
        case c3a => unfold maxLen; omega
        case c4a => omega
        case c5a => simp; omega
        intro v2 w2 hown2 hgr2 _
        have hb2 : Below w1.heap.size w1 w2 := (hbel.alloc hsz _).grown hgr2 (by simp; omega) (own_base hown)
        have hcr2 := (hb2.cell (p := ⟨w.heap.size, 2, none⟩) hz).trans hc2
        have hsz2 := hb2.size
        have hown2' : w2.ownsRow w1.heap.size 5 1 v2 (wrC l k ++ [Value.int IntKind.u8 92]).length (wrC l k ++ [Value.int IntKind.u8 92]) := by simpa using hown2
        have hl2 : (wrC l k ++ [Value.int IntKind.u8 92]).length ≤ 122 := by simp; omega
        clear hown hgr2 hown2 hcr hlw
        generalize hX : wrC l k ++ [Value.int IntKind.u8 92] = X at *
        have HX := Lib.hid hX
        clear hX
        go_wp2_with (first | (at_builtin; refine wpList_append_own _ rfl (.tmp 29) (.tmp 34) 46 rfl w1.heap.size 5 i0 (.int .u8 0) 1 1 Tryd.underlying46 hi Hz0.out Hz1.out Hz2.out rfl (by decide) _ _ _ rfl (hown2'.alloc _) ⟨w2.heap.size, 0, none⟩ 1 1 [.int .u8 ((s[k]'hlt).toNat : Int)] rfl rfl (one_cell _ _) (one_ok _) ?c3b ?c4b ?c5b ?_))
        case c3b => unfold maxLen; omega
        case c4b => omega
        case c5b => simp; omega
        intro v3 w3 hown3 hgr3 _
        have hb3 : Below w1.heap.size w1 w3 := (hb2.alloc hsz2 _).grown hgr3 (by simp; omega) (own_base hown2')
        have hown3' : w3.ownsRow w1.heap.size 5 1 v3 (wrC l (k + 1)).length (wrC l (k + 1)) := by rw [Hw.out]; simpa using hown3
        clear hown2' hgr3 hown3 hcr2 hb2 hbel
        go_wp2
        go_roundw
        case rel => exact ⟨k + 1, by omega, by go_num, hown3', hb3⟩
        case measure => simp [intOf]; omega
      · have he' : escB ((s[k]'hlt).toNat : Int) = false := by simpa using he
        rw [if_neg he] at hst
        have hw : wrC l (k + 1) = wrC l k ++ [.int .u8 ((s[k]'hlt).toNat : Int)] := by simp [wrC, hst, byteV]
        have He := Lib.hid he'
        have Hw := Lib.hid hw
        clear he he' hst hw
        go_wp2_with fail
        refine (esc_any _ _).mono ?_
        rintro e wx ⟨rfl, rfl⟩
        rw [He.out]
        go_wp2_with (first | (at_builtin; refine wpList_append_own _ rfl (.tmp 29) (.tmp 34) 46 rfl w1.heap.size 5 i0 (.int .u8 0) 1 1 Tryd.underlying46 hi Hz0.out Hz1.out Hz2.out rfl (by decide) _ _ _ rfl (hown.alloc _) ⟨wr.heap.size, 0, none⟩ 1 1 [.int .u8 ((s[k]'hlt).toNat : Int)] rfl rfl (one_cell _ _) (one_ok _) ?c3d ?c4d ?c5d ?_))
        case c3d => unfold maxLen; omega
        case c4d => omega
        case c5d => simp; omega
        intro v3 w3 hown3 hgr3 _
        have hb3 : Below w1.heap.size w1 w3 := (hbel.alloc hsz _).grown hgr3 (by simp; omega) (own_base hown)
        have hown3' : w3.ownsRow w1.heap.size 5 1 v3 (wrC l (k + 1)).length (wrC l (k + 1)) := by rw [Hw.out]; simpa using hown3
        clear hown hgr3 hown3 hcr hbel
        go_wp2
        go_roundw
        case rel => exact ⟨k + 1, by omega, by go_num, hown3', hb3⟩
        case measure => simp [intOf]; omega
    · have hke : k = s.size := by omega
      have hfull : (wrC l k ++ [Value.int .u8 34]) = F.map byteV := by
        rw [hke, ← Hlen.out, HF.out]; simp [wrC, byteV]
      have Hfull := Lib.hid hfull
      clear hfull hke
      go_wp2_with (first | (at_builtin; refine wpList_append_own _ rfl (.tmp 37) (.tmp 38) 46 rfl w1.heap.size 5 i0 (.int .u8 0) 1 1 Tryd.underlying46 hi Hz0.out Hz1.out Hz2.out rfl (by decide) _ _ _ rfl (hown.alloc _) ⟨wr.heap.size, 0, none⟩ 1 1 [.int .u8 34] rfl rfl (one_cell _ _) (one_ok _) ?c3e ?c4e ?c5e ?_))
      case c3e => unfold maxLen; omega
      case c4e => omega
      case c5e => simp; omega
      intro v3 w3 hown3 hgr3 hne
      have hb3 : Below w1.heap.size w1 w3 := (hbel.alloc hsz _).grown hgr3 (by simp; omega) (own_base hown)
      rw [Hfull.out] at hown3
      obtain ⟨g, cap, rfl, hg⟩ := own_some hown3 (fun h => hne h.1)
      have hll : (wrC l k).length + 1 = F.length := by
        have := congrArg List.length Hfull.out; simpa using this
      rw [hll] at hown3 hg ⊢
      have hcv := conv_owned (wr := w3) (base := w1.heap.size) hg
      clear hown hgr3 hown3 hcr hbel hne hg hll
      go_wp2
      go_ret2
      exact ⟨rfl, chain hb0 (Nat.le_refl _) hb3⟩
end Go.Proofs.YtkakldlfgnijdaaDoor
