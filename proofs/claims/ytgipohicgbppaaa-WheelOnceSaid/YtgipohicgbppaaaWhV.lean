/- Layer 11: the contracts of the document's Stop and Ring. -/
import Derived.Test.YtgipohicgbppaaaWhApp
import Derived.Test.YtgipohicgbppaaaWhMathB
namespace Go.Proofs.Ytgipohicgbppaaa
open Go.RowKit Go.Shelf
theorem rd_one (w : World) (x : Tm) : Rd (w.alloc (.cells #[.int .i64 x.1, .int .u64 x.2] 38)) (some ⟨w.heap.size, 0, none⟩) [x] := ⟨fun _ => ⟨w.heap.size, 0, rfl, by simp, fun j hj => by
  obtain rfl : j = 0 := by simp at hj; exact hj
  constructor <;> simp [go_sem]⟩⟩
theorem rdU_one (w : World) (x : Int) : RdU (w.alloc (.cells #[.int .u64 x] 23)) (some ⟨w.heap.size, 0, none⟩) [x] := ⟨fun _ => ⟨w.heap.size, 0, rfl, by simp, fun j hj => by
  obtain rfl : j = 0 := by simp at hj; exact hj
  simp [go_sem]⟩⟩
theorem filter_step {X : List Tm} {k : Nat} (p : Tm → Bool) (h : k < X.length) : (X.take (k + 1)).filter p = (X.take k).filter p ++ (if p X[k] then [X[k]] else []) := by
  rw [List.take_succ_eq_append_getElem h, List.filter_append]
  congr 1
  simp only [List.filter_cons, List.filter_nil]
theorem filter_take_le (X : List Tm) (p : Tm → Bool) (k : Nat) : ((X.take k).filter p).length ≤ k :=
  Nat.le_trans (List.length_filter_le _ _) (by rw [List.length_take]; omega)
theorem wpList_oneT {w : World} {ops : Array Oper} {rest : List Oper} {o : Oper} {a : Act} {Q : Exit → Act → World → Prop} (hw : Region.wanted o (yielded ops a.tmps) = true) (s x : Operand)
    (ho : o.op = .call { callee := .builtin .append, args := #[s, x], argTypes := #[22, 22] }) (base : Nat) (v : Value) (A : List Tm) (t : Tm) (hs : a.eval s = v) (hown : Own w base v A)
    (ad : Addr) (cap : Nat) (hx : a.eval x = .slice (some ad) 1 cap) (hr : Rd w (some ad) [t]) (hl : A.length ≤ 1000) (hbase : base ≤ w.heap.size)
    (h : ∀ v' w', Own w' base v' (A ++ [t]) → Below base w w' → w.grownBy w' v.ownBlock → wpList Try.prog ops Q rest (a.put o.dst v') w') : wpList Try.prog ops Q (o :: rest) a w := by
  obtain ⟨i0, hi, hz0, hz1, hz2⟩ := info_parts info_tm
  refine BigFrame.wpList_want hw fun K hK => ?_
  refine wp_append_own _ s x 22 ho base 38 i0 (.agg #[.int .i64 0, .int .u64 0]) 2 16 Try.underlying22 hi hz0 hz1 hz2 rfl (by decide) v _ _ hs hown.own ad 1 cap (flatT [t]) hx (flatT_len [t]) hr.some (flatT_one [t]) (by unfold maxLen; omega) (by omega) hbase ?_
  intro v' w' h1 h2 _
  refine hK _ _ (h v' w' ⟨by rw [List.length_append, flatT_append]; exact h1⟩ ((Below.refl _ _).grown h2 hbase (own_base hown.own)) h2)
theorem wpList_oneU {w : World} {ops : Array Oper} {rest : List Oper} {o : Oper} {a : Act} {Q : Exit → Act → World → Prop} (hw : Region.wanted o (yielded ops a.tmps) = true) (s x : Operand)
    (ho : o.op = .call { callee := .builtin .append, args := #[s, x], argTypes := #[44, 44] }) (base : Nat) (v : Value) (A : List Int) (t : Int) (hs : a.eval s = v) (hown : OwnU w base v A)
    (ad : Addr) (cap : Nat) (hx : a.eval x = .slice (some ad) 1 cap) (hr : RdU w (some ad) [t]) (hl : A.length ≤ 1000) (hbase : base ≤ w.heap.size)
    (h : ∀ v' w', OwnU w' base v' (A ++ [t]) → Below base w w' → w.grownBy w' v.ownBlock → wpList Try.prog ops Q rest (a.put o.dst v') w') : wpList Try.prog ops Q (o :: rest) a w := by
  obtain ⟨i0, hi, hz0, hz1, hz2⟩ := info_parts info_u
  refine BigFrame.wpList_want hw fun K hK => ?_
  refine wp_append_own _ s x 44 ho base 23 i0 (.int .u64 0) 1 8 Try.underlying44 hi hz0 hz1 hz2 rfl (by decide) v _ _ hs hown.own ad 1 cap (flatI [t]) hx rfl hr.some (flatI_one [t]) (by unfold maxLen; omega) (by omega) hbase ?_
  intro v' w' h1 h2 _
  refine hK _ _ (h v' w' ⟨by simpa [flatI] using h1⟩ ((Below.refl _ _).grown h2 hbase (own_base hown.own)) h2)
theorem rows_ne {w : World} {b b' z z' n n' : Nat} {e e' : TypeId} {v v' : Value} {xs xs' : List Value} (h : w.ownsRow b e z v n xs) (h' : w.ownsRow b' e' z' v' n' xs') (he : e ≠ e') : v.ownBlock = none ∨ v.ownBlock ≠ v'.ownBlock := by
  rcases h.2 with ⟨rfl, _⟩ | ⟨g, cap, cur, rfl, _, hg, _⟩
  · exact .inl rfl
  · right
    rcases h'.2 with ⟨rfl, _⟩ | ⟨g', cap', cur', rfl, _, hg', _⟩
    · intro e; cases e
    · intro e
      obtain rfl : g = g' := by simpa [Value.ownBlock] using e
      rw [hg] at hg'
      simp at hg'
      exact he hg'.2
theorem Own.other {w w' : World} {b b' : Nat} {v u : Value} {A : List Tm} {B : List Int} (h : Own w b v A) (hu : OwnU w b' u B) (hg : w.grownBy w' u.ownBlock) : Own w' b v A := ⟨h.own.kept hg (rows_ne h.own hu.own (by decide))⟩
theorem OwnU.other {w w' : World} {b b' : Nat} {v u : Value} {A : List Tm} {B : List Int} (hu : OwnU w b u B) (h : Own w b' v A) (hg : w.grownBy w' v.ownBlock) : OwnU w' b u B := ⟨hu.own.kept hg (rows_ne hu.own h.own (by decide))⟩
set_option maxHeartbeats 4000000 in
set_option maxRecDepth 100000 in
theorem rstop_any (X : List Tm) (pa : Option Addr) (cap : Nat) (id : Int) (w : World) (hX : X.length ≤ 130) (hR : Rd w pa X) :
    Calls Try.prog 20 #[.slice pa X.length cap, .int .u64 id] w (ListPost (X.filter (fun x => decide (x.2 ≠ id))) w) := by
  have HR := Lib.hid hR
  clear hR
  go_enter Try.func20, Try.ntmps20
  go_wp2_with fail
  go_loopw [5, 6] (fun u i wx => ∃ k : Nat, i = .int .i64 k ∧ k ≤ X.length ∧ Own wx w.heap.size u ((X.take k).filter (fun x => decide (x.2 ≠ id))) ∧ Below w.heap.size w wx) (fun _ i _ => X.length - (intOf i).toNat)
  case atStart => exact ⟨0, rfl, Nat.zero_le _, Own.nil _ _, Below.refl _ _⟩
  case round =>
    obtain ⟨k, rfl, hk, hu, kk⟩ := hrel
    by_cases hlt : k < X.length
    · have hlt' : (k : Int) < X.length := by omega
      obtain ⟨b, o, rfl, hbz, c0, c1⟩ := (HR.out.lift kk).at k hlt
      have hst := filter_step (fun x => decide (x.2 ≠ id)) hlt
      have hle := filter_take_le X (fun x => decide (x.2 ≠ id)) k
      generalize X[k] = x at *
      obtain ⟨x1, x2⟩ := x
      simp only at c0 c1 hst
      have U := Lib.hid hu
      have Kk := Lib.hid kk
      by_cases he : x2 = id
      · rw [if_neg (by simpa using he), List.append_nil] at hst
        have Hst := Lib.hid hst
        clear hst hle hu
        go_wp2
        go_roundw
        case rel => exact ⟨k + 1, by go_num, by omega, by rw [Hst.out]; exact U.out, kk⟩
        case measure => simp [intOf]; omega
      · rw [if_pos (by simpa using he)] at hst
        have Hst := Lib.hid hst
        have hba : Below wr.heap.size wr (wr.alloc (.cells #[.int .i64 x1, .int .u64 x2] 38)) := (Below.refl _ _).alloc (Nat.le_refl _) _
        have O := Lib.hid (hu.lift hba)
        have kb := Lib.hid (kk.trans (hba.mono kk.size))
        have R1 := Lib.hid (rd_one wr (x1, x2))
        generalize (X.take k).filter (fun x => decide (x.2 ≠ id)) = A at *
        have hl2 : A.length + [(x1, x2)].length ≤ 1000 := by simp; omega
        clear hst hle hu U hba
        go_wp2_with (first | (at_builtin; refine wpList_appT rfl (.tmp 20) (.tmp 25) rfl w.heap.size _ A [(x1, x2)] rfl O.out (some ⟨wr.heap.size, 0, none⟩) 1 rfl R1.out (fun h => by cases h) hl2 kb.out.size ?_))
        intro v2 w2 o2 hb2
        have O2 := Lib.hid o2
        have K2 := Lib.hid (kb.out.trans hb2)
        clear o2 hb2 O R1
        go_wp2
        go_roundw
        case rel => exact ⟨k + 1, by go_num, by omega, by rw [Hst.out]; exact O2.out, K2.out⟩
        case measure => simp [intOf]; omega
    · have hge : (X.length : Int) ≤ k := by omega
      rw [List.take_of_length_le (by omega)] at hu
      go_wp2
      go_ret
      exact ⟨_, rfl, hu, kk⟩
set_option maxHeartbeats 4000000 in
set_option maxRecDepth 100000 in
theorem rring_any (X : List Tm) (pa : Option Addr) (cap : Nat) (now : Int) (w : World) (hX : X.length ≤ 130) (hR : Rd w pa X) :
    Calls Try.prog 22 #[.slice pa X.length cap, .int .i64 now] w (TwoPost (X.filter (fun x => decide (now < x.1)), (X.filter (fun x => decide (x.1 ≤ now))).map (·.2)) w) := by
  have HR := Lib.hid hR
  clear hR
  go_enter Try.func22, Try.ntmps22
  go_wp2_with fail
  go_loopw [6, 7, 8] (fun u v i wx => ∃ k : Nat, i = .int .i64 k ∧ k ≤ X.length ∧ Own wx w.heap.size u ((X.take k).filter (fun x => decide (now < x.1))) ∧ OwnU wx w.heap.size v (((X.take k).filter (fun x => decide (x.1 ≤ now))).map (·.2)) ∧ Below w.heap.size w wx) (fun _ _ i _ => X.length - (intOf i).toNat)
  case atStart => exact ⟨0, rfl, Nat.zero_le _, Own.nil _ _, OwnU.nil _ _, Below.refl _ _⟩
  case round =>
    obtain ⟨k, rfl, hk, hu, hv, kk⟩ := hrel
    by_cases hlt : k < X.length
    · have hlt' : (k : Int) < X.length := by omega
      obtain ⟨b, o, rfl, hbz, c0, c1⟩ := (HR.out.lift kk).at k hlt
      have hst := filter_step (fun x => decide (now < x.1)) hlt
      have hsr := filter_step (fun x => decide (x.1 ≤ now)) hlt
      have hle := filter_take_le X (fun x => decide (now < x.1)) k
      have hle2 := filter_take_le X (fun x => decide (x.1 ≤ now)) k
      generalize X[k] = x at *
      obtain ⟨x1, x2⟩ := x
      simp only at c0 c1 hst hsr
      by_cases he : x1 ≤ now
      · rw [if_neg (by simp; omega), List.append_nil] at hst
        rw [if_pos (by simpa using he)] at hsr
        have Hst := Lib.hid hst
        have hsr2 := congrArg (List.map (·.2)) hsr
        rw [List.map_append] at hsr2
        have Hsr := Lib.hid (show List.map (·.2) ((X.take (k + 1)).filter (fun x => decide (x.1 ≤ now))) = List.map (·.2) ((X.take k).filter (fun x => decide (x.1 ≤ now))) ++ [x2] from hsr2)
        have hba : Below wr.heap.size wr (wr.alloc (.cells #[.int .u64 x2] 23)) := (Below.refl _ _).alloc (Nat.le_refl _) _
        have O := Lib.hid (hu.lift hba)
        have O' := Lib.hid (hv.lift hba)
        have kb := Lib.hid (kk.trans (hba.mono kk.size))
        have R1 := Lib.hid (rdU_one wr x2)
        have hl2 : (List.map (·.2) ((X.take k).filter (fun x => decide (x.1 ≤ now)))).length ≤ 1000 := by rw [List.length_map]; omega
        generalize List.map (·.2) ((X.take k).filter (fun x => decide (x.1 ≤ now))) = A at *
        clear hst hsr hsr2 hle hle2 hu hv hba
        go_wp2_with (first | (at_builtin; refine wpList_oneU rfl (.tmp 22) (.tmp 28) rfl w.heap.size _ A x2 rfl O'.out ⟨wr.heap.size, 0, none⟩ 1 rfl R1.out hl2 kb.out.size ?_))
        intro v2 w2 o2 hb2 hg2
        have O2 := Lib.hid o2
        have U2 := Lib.hid (O.out.other O'.out hg2)
        have K2 := Lib.hid (kb.out.trans hb2)
        clear o2 hb2 hg2 O O' R1
        go_wp2
        go_roundw
        case rel => exact ⟨k + 1, by go_num, by omega, by rw [Hst.out]; exact U2.out, by rw [Hsr.out]; exact O2.out, K2.out⟩
        case measure => simp [intOf]; omega
      · rw [if_pos (by simp; omega)] at hst
        rw [if_neg (by simpa using he), List.append_nil] at hsr
        have Hst := Lib.hid hst
        have Hsr := Lib.hid hsr
        have hba : Below wr.heap.size wr (wr.alloc (.cells #[.int .i64 x1, .int .u64 x2] 38)) := (Below.refl _ _).alloc (Nat.le_refl _) _
        have O := Lib.hid (hu.lift hba)
        have O' := Lib.hid (hv.lift hba)
        have kb := Lib.hid (kk.trans (hba.mono kk.size))
        have R1 := Lib.hid (rd_one wr (x1, x2))
        have hl2 : ((X.take k).filter (fun x => decide (now < x.1))).length ≤ 1000 := by omega
        generalize (X.take k).filter (fun x => decide (now < x.1)) = A at *
        clear hst hsr hle hle2 hu hv hba
        go_wp2_with (first | (at_builtin; refine wpList_oneT rfl (.tmp 30) (.tmp 35) rfl w.heap.size _ A (x1, x2) rfl O.out ⟨wr.heap.size, 0, none⟩ 1 rfl R1.out hl2 kb.out.size ?_))
        intro v2 w2 o2 hb2 hg2
        have O2 := Lib.hid o2
        have U2 := Lib.hid (O'.out.other O.out hg2)
        have K2 := Lib.hid (kb.out.trans hb2)
        clear o2 hb2 hg2 O O' R1
        go_wp2
        go_roundw
        case rel => exact ⟨k + 1, by go_num, by omega, by rw [Hst.out]; exact O2.out, by rw [Hsr.out]; exact U2.out, K2.out⟩
        case measure => simp [intOf]; omega
    · have hge : (X.length : Int) ≤ k := by omega
      rw [List.take_of_length_le (by omega)] at hu hv
      go_wp2
      refine bodyPost_ret (v := .tuple #[_, _]) (by simp [results, Try.results22, go_sem]; exact ⟨rfl, rfl⟩) rfl ?_
      exact ⟨_, _, rfl, hu, hv, kk⟩
end Go.Proofs.Ytgipohicgbppaaa
