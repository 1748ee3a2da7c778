/- Layer 2: the document's cut. -/
import Derived.Test.YtgeiicchkfpanaaNmRA
import Derived.Test.YtgeiicchkfpanaaNmP
import Derived.Laws.OwnMore
import Derived.Laws.AppendOwn
import Derived.Laws.MakeOwn
import Derived.Laws.Concat
import Derived.Lib.SmallJoins
import Derived.RegionTactic
import Derived.Deep.DeepHandedRow
namespace Go.Proofs.Ytgeiicchkfpanaa
open Go.RowKit Go.Shelf
theorem cut_snoc (c : UInt8) (hc : c ≠ 46) : ∀ (l : List UInt8) (Y : List (List UInt8)) (p : List UInt8), cutL l = Y ++ [p] → cutL (l ++ [c]) = Y ++ [p ++ [c]]
  | [], Y, p, h => by
    cases Y with
    | nil =>
      have : p = [] := by simpa [cutL] using h.symm
      subst this
      rw [List.nil_append, cutL, if_neg hc]; rfl
    | cons q Y => simp [cutL] at h
  | d :: t, Y, p, h => by
    by_cases hd : d = 46
    · subst hd
      rw [cutL_dot] at h
      rw [List.cons_append, cutL_dot]
      cases Y with
      | nil =>
        have := (List.cons.inj h).2
        exact absurd this (cutL_ne t)
      | cons q Y =>
        obtain ⟨h1, h2⟩ := List.cons.inj h
        rw [cut_snoc c hc t Y p h2, ← h1]; rfl
    · obtain ⟨q, r, e1, e2⟩ := cutL_oth d t hd
      rw [e2] at h
      cases Y with
      | nil =>
        obtain ⟨h1, h2⟩ := List.cons.inj h
        subst h2
        have := cut_snoc c hc t [] q (by rw [e1]; rfl)
        rw [List.cons_append, cutL, if_neg hd, this, ← h1]; rfl
      | cons q' Y =>
        obtain ⟨h1, h2⟩ := List.cons.inj h
        have := cut_snoc c hc t (q :: Y) p (by rw [e1, h2]; rfl)
        rw [List.cons_append, cutL, if_neg hd, this, ← h1]; rfl
theorem cut_length : ∀ l : List UInt8, (cutL l).length ≤ l.length + 1
  | [] => Nat.le_refl _
  | c :: t => by
    have ih := cut_length t
    by_cases hc : c = 46
    · subst hc; rw [cutL_dot]; simp; omega
    · obtain ⟨p, r, e1, e2⟩ := cutL_oth c t hc
      rw [e1] at ih
      rw [e2]; simp at ih ⊢; omega
theorem dl_inj : ∀ X Y : List ByteArray, X.map dl = Y.map dl → X = Y
  | [], [], _ => rfl
  | [], _ :: _, h => by cases h
  | _ :: _, [], h => by cases h
  | x :: X, y :: Y, h => by
    obtain ⟨h1, h2⟩ := List.cons.inj h
    rw [Go.WideShapes.bytes_inj h1, dl_inj X Y h2]
structure CutPost (s : ByteArray) (w : World) (e : Ending) (w' : World) : Prop where
  out : ∃ b cap, e = .returned (.slice (some ⟨b, 0, none⟩) (cutB s).length cap) ∧ w.heap.size ≤ b ∧ Held w' b (cutB s) ∧ Below w.heap.size w w' ∧ (cutB s).length ≤ cap
theorem info_str : (Try.prog.info? 9).map (fun i => (i.zero, i.size, i.bytes)) = some (some (.string ByteArray.empty), 1, 16) := by kernel_rfl
theorem own_base {w : World} {base : Nat} {t : TypeId} {z : Nat} {v : Value} {n : Nat} {xs : List Value} (h : w.ownsRow base t z v n xs) : ∀ k, v.ownBlock = some k → base ≤ k := by
  intro k hk
  rcases h.2 with ⟨rfl, _⟩ | ⟨g, cap, cur, rfl, hg, _⟩
  · simp [Value.ownBlock] at hk
  · simp [Value.ownBlock] at hk; omega
theorem own_some {w : World} {base : Nat} {t : TypeId} {z : Nat} {v : Value} {n : Nat} {xs : List Value} (h : w.ownsRow base t z v n xs) (hn : ¬ (v = .slice none 0 0 ∧ n = 0)) :
    ∃ g cap, v = .slice (some ⟨g, 0, none⟩) n cap ∧ base ≤ g ∧ w.ownsRow base t z (.slice (some ⟨g, 0, none⟩) n cap) n xs := by
  rcases h.2 with h' | ⟨g, cap, cur, rfl, hg, _⟩
  · exact absurd h' hn
  · exact ⟨g, cap, rfl, hg, h⟩
theorem own_cap {w : World} {base : Nat} {t : TypeId} {z g n cap : Nat} {xs : List Value} (h : w.ownsRow base t z (.slice (some ⟨g, 0, none⟩) n cap) n xs) : n ≤ cap := by
  rcases h.2 with ⟨h1, _⟩ | ⟨g', cap', cur, h1, _, _, h2, _⟩
  · cases h1
  · cases h1; exact h2
theorem own_drew {w : World} {base : Nat} {t : TypeId} {z : Nat} {v : Value} {n : Nat} {xs : List Value} (h : w.ownsRow base t z v n xs) : w.drew.ownsRow base t z v n xs := ⟨h.1, h.2⟩
theorem one_cell (w : World) (o : Value) {t : TypeId} : ∀ (j : Nat) (u : Value), [o][j]? = some u → (w.alloc (.cells #[o] t)).cell? ((⟨w.heap.size, 0, none⟩ : Addr).add j) = some u := by
  intro j u hj
  match j, hj with
  | 0, hj => simp at hj; subst hj; simp [Addr.add]
theorem one_ok (b : ByteArray) : ∀ u ∈ [Value.string b], u.oneCell' = true := by intro u hu; simp at hu; subst hu; rfl
set_option maxRecDepth 100000 in
set_option maxHeartbeats 1000000 in
theorem rcut_any (s : ByteArray) (w : World) (hs : s.size ≤ 60) : Calls Try.prog 79 #[.string s] w (CutPost s w) := by
  obtain ⟨i0, hi, hz0, hz1, hz2⟩ := info_parts info_str
  have Hz0 := Lib.hid hz0
  have Hz1 := Lib.hid hz1
  have Hz2 := Lib.hid hz2
  clear hz0 hz1 hz2
  go_enter Try.func79, Try.ntmps79
  go_wp2_with fail
  have hown0 : (w.alloc (.cells #[.string ⟨#[]⟩] 9)).ownsRow w.heap.size 9 1 (.slice (some ⟨w.heap.size, 0, none⟩) 1 1) [(⟨#[]⟩ : ByteArray)].length ([(⟨#[]⟩ : ByteArray)].map Value.string) := by
    refine ⟨by simp, .inr ⟨w.heap.size, 1, #[.string ⟨#[]⟩], rfl, Nat.le_refl _, ?_, by simp, by unfold maxLen; omega, by simp, by simp⟩⟩
    show (w.heap.push _)[w.heap.size]? = _
    simp
  go_loopw [3, 4] (fun v i wx => ∃ (k : Nat) (X : List ByteArray), k ≤ s.size ∧ i = .int .i64 k ∧ wx.ownsRow w.heap.size 9 1 v X.length (X.map Value.string) ∧ X.map dl = cutL (s.data.toList.take k) ∧ Below w.heap.size w wx) (fun _ i _ => s.size - (intOf i).toNat)
  case atStart => exact ⟨0, _, Nat.zero_le _, rfl, hown0, rfl, (Below.refl _ _).alloc (Nat.le_refl _) _⟩
  case round =>
    clear hown0
    obtain ⟨k, X, hk, rfl, hown, hX, hbel⟩ := hrel
    have hne : X ≠ [] := by
      rintro rfl
      exact cutL_ne _ hX.symm
    obtain ⟨g, cap, rfl, hg, hown⟩ := own_some hown (by rintro ⟨_, h⟩; exact hne (by simpa using h))
    have hsz := hbel.size
    have hl : X.length ≤ 61 := by
      have h1 := congrArg List.length hX
      have h2 := cut_length (s.data.toList.take k)
      rw [List.length_map] at h1
      rw [List.length_take, size_list] at h2
      omega
    by_cases hlt : k < s.size
    · have hlt' : (k : Int) < s.size := by omega
      have htk : s.data.toList.take (k + 1) = s.data.toList.take k ++ [s[k]'hlt] := by
        rw [List.take_succ_eq_append_getElem (by simpa using hlt)]; rfl
      by_cases hd : s[k]'hlt = 46
      · have hd' : ((s[k]'hlt).toNat : Int) = 46 := by rw [hd]; rfl
        have hX2 : (X ++ [(⟨#[]⟩ : ByteArray)]).map dl = cutL (s.data.toList.take (k + 1)) := by
          rw [htk, hd, cut_dot, ← hX, List.map_append]; rfl
        have HX2 := Lib.hid hX2
        clear hX hX2 htk hd
        go_wp2_with (first | (at_builtin; refine wpList_append_own _ rfl (.tmp 16) (.tmp 17) 43 rfl w.heap.size 9 i0 (.string ByteArray.empty) 1 16 Try.underlying43 hi Hz0.out Hz1.out Hz2.out rfl (by decide) _ _ _ rfl (hown.alloc _) ⟨wr.heap.size, 0, none⟩ 1 1 [.string ⟨#[]⟩] rfl rfl (one_cell _ _) (one_ok _) ?c3a ?c4a ?c5a ?_))
        case c3a => unfold maxLen; omega
        case c4a => omega
        case c5a => simp; omega
        intro v2 w2 hown2 hgr2 _
        have hb2 : Below w.heap.size w w2 := (hbel.alloc hsz _).grown hgr2 (by simp; omega) (own_base hown)
        have hown2' : w2.ownsRow w.heap.size 9 1 v2 (X ++ [(⟨#[]⟩ : ByteArray)]).length ((X ++ [(⟨#[]⟩ : ByteArray)]).map Value.string) := by simpa using hown2
        clear hown hgr2 hown2 hbel
        go_wp2
        go_roundw
        case rel => exact ⟨k + 1, X ++ [(⟨#[]⟩ : ByteArray)], by omega, by go_num, hown2', HX2.out, hb2⟩
        case measure => simp [intOf]; omega
      · obtain ⟨Y, x, rfl⟩ : ∃ Y x, X = Y ++ [x] := ⟨X.dropLast, X.getLast hne, (List.dropLast_concat_getLast hne).symm⟩
        have hd' : (((s[k]'hlt).toNat : Int) == 46) = false := by
          simp only [beq_eq_false_iff_ne, ne_eq]
          intro e
          exact hd (UInt8.toNat_inj.1 (by show (s[k]'hlt).toNat = 46; omega))
        have hx1 : (s.extract k (k + 1)).data.toList = [s[k]'hlt] := by
          rw [ext_list, List.drop_take, show k + 1 - k = 1 by omega, List.drop_eq_getElem_cons (by simpa using hlt)]; rfl
        have hX2 : (Y ++ [x ++ s.extract k (k + 1)]).map dl = cutL (s.data.toList.take (k + 1)) := by
          rw [htk, cut_snoc _ hd _ (Y.map dl) (dl x) (by rw [← hX, List.map_append]; rfl), List.map_append]
          have e : dl (x ++ s.extract k (k + 1)) = dl x ++ [s[k]'hlt] := by
            show (x ++ s.extract k (k + 1)).data.toList = _
            rw [ByteArray.data_append, Array.toList_append, hx1]
          rw [← e]; rfl
        have hx60 : x.size ≤ 60 := by
          have := (cut_mem _ (dl x) (by rw [← hX]; simp)).2
          rw [List.length_take] at this
          unfold dl at this
          rw [size_list] at this
          omega
        have cx : wr.cell? ⟨g, Y.length, none⟩ = some (.string x) := by
          rw [hown.cellAt Y.length (by simp)]; simp
        have fx := hown.frozenAt Y.length
        have hst := (hown.stored Y.length (.string (x ++ s.extract k (k + 1)))).1
        have hset : ((Y ++ [x]).map Value.string).set Y.length (.string (x ++ s.extract k (k + 1))) = (Y ++ [x ++ s.extract k (k + 1)]).map Value.string := by
          rw [List.map_append, List.map_append, List.set_append_right _ _ (by simp)]; simp
        rw [hset] at hst
        have hsum := fun W => run_string_add_sum (P := Try.prog) W x (s.extract k (k + 1)) (by rw [ByteArray.size_extract]; omega)
        have hsl : ∀ W, (Instr.slice 9 (.string s) (some (.int .i64 (k : Int))) (some (.int .i64 ((k : Int) + 1))) none).run Try.prog W = .ok (.string (s.extract k (k + 1))) W := fun W => by
          have := run_slice_string (P := Try.prog) W 9 s .i64 .i64 (k : Int) ((k : Int) + 1) Try.underlying9 (by omega) (by omega) (by omega)
          simpa using this
        have HX2 := Lib.hid hX2
        have Hst := Lib.hid (own_drew hst)
        have hYl : (Y ++ [x]).length = Y.length + 1 := by simp
        rw [hYl] at hown ⊢
        have hY61 : Y.length ≤ 60 := by rw [hYl] at hl; omega
        clear hX hX2 htk hd hx1 hst hset hown hne hx60
        generalize x ++ s.extract k (k + 1) = x2 at *
        generalize s.extract k (k + 1) = sx at *
        go_wp2_with fail
        have y1 : (0 : Int) ≤ (Y.length : Int) := by omega
        have y2 : (Y.length : Int) ≤ 60 := by omega
        have k1 : (0 : Int) ≤ (k : Int) := by omega
        have k2 : (k : Int) + 1 ≤ 60 := by omega
        have w1 : IntKind.i64.wrap ((k : Int) + 1) = (k : Int) + 1 := IntWalk.i64_in _ (by omega)
        have w2 : wrap64 ((k : Int) + 1) = (k : Int) + 1 := by unfold wrap64; omega
        go_region
        all_goals go_wp2
        all_goals go_roundw
        case rel => exact ⟨k + 1, Y ++ [x2], by omega, by go_num, by simpa [hYl] using Hst.out, HX2.out, hbel.drew.setCell hg _⟩
        case measure => simp [intOf]; omega
    · have hge : (s.size : Int) ≤ k := by omega
      rw [List.take_of_length_le (by simp; omega), ← cutB_data] at hX
      have hXc := dl_inj _ _ hX
      subst hXc
      have hcells : Held wr g (cutB s) := ⟨(hown.lt g rfl).2, fun i h => by
        rw [hown.cellAt i (by omega)]; simp [h]⟩
      have hcap := own_cap hown
      clear hX hown hne hl
      have Hcap := Lib.hid hcap
      clear hcap
      go_wp2
      go_ret
      exact ⟨g, cap, rfl, hg, hcells, hbel, Hcap.out⟩
end Go.Proofs.Ytgeiicchkfpanaa
