/- Layer 11: lists of the call's own; the contracts of Grow and Clone. -/
import Derived.Test.YtgipohicgbppaaaWhG
import Derived.Lib.AppendZeros
import Derived.Laws.AppendOwnNone
import Derived.Laws.Cover3
import Derived.Deep.DeepHandedRow
namespace Go.Proofs.Ytgipohicgbppaaa
open Go.RowKit Go.Shelf
/-- The cells of timers. -/
def flatT (X : List Tm) : List Value := X.flatMap fun x => [.int .i64 x.1, .int .u64 x.2]
theorem flatT_cons (x : Tm) (X : List Tm) : flatT (x :: X) = .int .i64 x.1 :: .int .u64 x.2 :: flatT X := rfl
theorem flatT_append (X Y : List Tm) : flatT (X ++ Y) = flatT X ++ flatT Y := by unfold flatT; rw [List.flatMap_append]
theorem flatT_len : ∀ X : List Tm, (flatT X).length = X.length * 2
  | [] => rfl
  | x :: X => by rw [flatT_cons]; simp only [List.length_cons]; rw [flatT_len X]; omega
theorem flatT_one (X : List Tm) : ∀ u ∈ flatT X, u.oneCell' = true := by
  intro u hu
  unfold flatT at hu
  rw [List.mem_flatMap] at hu
  obtain ⟨x, _, hx⟩ := hu
  simp at hx
  rcases hx with rfl | rfl <;> rfl
theorem flatT_get : ∀ (X : List Tm) (i : Nat) (h : i < X.length), (flatT X)[i * 2]? = some (.int .i64 X[i].1) ∧ (flatT X)[i * 2 + 1]? = some (.int .u64 X[i].2)
  | x :: X, 0, _ => by rw [flatT_cons]; simp
  | x :: X, i + 1, h => by
    have := flatT_get X i (by simpa using h)
    rw [flatT_cons, show (i + 1) * 2 = i * 2 + 1 + 1 by omega]
    simpa using this
theorem Rd.flat {w : World} {b o : Nat} {X : List Tm} (hc : ∀ i (h : i < X.length), w.cell? ⟨b, o + i * 2, none⟩ = some (.int .i64 X[i].1) ∧ w.cell? ⟨b, o + i * 2 + 1, none⟩ = some (.int .u64 X[i].2)) :
    ∀ (j : Nat) (u : Value), (flatT X)[j]? = some u → w.cell? ((⟨b, o, none⟩ : Addr).add j) = some u := by
  intro j u hj
  have hlt : j < X.length * 2 := by
    have := (List.getElem?_eq_some_iff.1 hj).1
    rw [flatT_len] at this; exact this
  have ea : (⟨b, o, none⟩ : Addr).add j = ⟨b, o + j, none⟩ := by by_cases h : j = 0 <;> simp [Addr.add, h]
  rw [ea]
  have hg := flatT_get X (j / 2) (by omega)
  have hh := hc (j / 2) (by omega)
  rcases (by omega : j = j / 2 * 2 ∨ j = j / 2 * 2 + 1) with e | e
  · rw [← e] at hg hh
    rw [hj] at hg
    have := hg.1
    cases this
    exact hh.1
  · rw [← e] at hg
    rw [show o + j / 2 * 2 + 1 = o + j by omega] at hh
    rw [hj] at hg
    have := hg.2
    cases this
    exact hh.2
/-- A list of the call's own. -/
structure Own (w : World) (base : Nat) (v : Value) (X : List Tm) : Prop where
  own : w.ownsRow base 38 2 v X.length (flatT X)
theorem own_base {w : World} {base : Nat} {t : TypeId} {z : Nat} {v : Value} {n : Nat} {xs : List Value} (h : w.ownsRow base t z v n xs) : ∀ k, v.ownBlock = some k → base ≤ k := by
  intro k hk
  rcases h.2 with ⟨rfl, _⟩ | ⟨g, cap, cur, rfl, hg, _⟩
  · simp [Value.ownBlock] at hk
  · simp [Value.ownBlock] at hk; omega
/-- A list of the call's own, to read. -/
theorem Own.rd {w : World} {base : Nat} {v : Value} {X : List Tm} (h : Own w base v X) : ∃ pa cap, v = .slice pa X.length cap ∧ X.length ≤ cap ∧ Rd w pa X ∧ (X = [] → pa = none ∨ ∃ a, pa = some a) := by
  rcases h.own.2 with ⟨rfl, h0⟩ | ⟨g, cap, cur, rfl, hg, hh, hc, _, _, hx⟩
  · have : X = [] := List.eq_nil_of_length_eq_zero h0
    subst this
    exact ⟨none, 0, rfl, Nat.le_refl _, Rd.nil _ _, fun _ => .inl rfl⟩
  · refine ⟨some ⟨g, 0, none⟩, cap, rfl, hc, ⟨fun _ => ⟨g, 0, rfl, (h.own.lt g rfl).2, fun i hi => ?_⟩⟩, fun _ => .inr ⟨_, rfl⟩⟩
    have hf := flatT_get X i hi
    have e1 := h.own.cellAt (i * 2) (by omega)
    have e2 := h.own.cellAt (i * 2 + 1) (by omega)
    rw [Nat.zero_add]
    exact ⟨e1.trans hf.1, e2.trans hf.2⟩
theorem Own.nil (w : World) (base : Nat) : Own w base (.slice none 0 0) [] := ⟨World.ownsRow_nil _ _ _ _⟩
theorem info_tm : (Try.prog.info? 38).map (fun i => (i.zero, i.size, i.bytes)) = some (some (.agg #[.int .i64 0, .int .u64 0]), 2, 16) := by kernel_rfl
theorem zeroCells_size (z : Array Value) (n : Nat) : (Builtin.zeroCells z n).size = n * z.size := by simp [Builtin.zeroCells]
set_option maxHeartbeats 1000000 in
theorem grow_nil (n : Nat) (w : World) (hn : n ≤ 1000) :
    Calls Try.prog 44 #[.slice none 0 0, .int .i64 n] w fun e w' => (∃ v, e = .returned v ∧ Own w' w.heap.size v []) ∧ Below w.heap.size w w' := by
  obtain ⟨i0, hi, hz0, hz1, hz2⟩ := info_parts info_tm
  have hni : (n : Int) ≤ 1000 := by omega
  by_cases h0 : n = 0
  · subst h0
    go_enter Try.func44, Try.ntmps44
    go_wp2
    go_ret
    exact ⟨⟨_, rfl, Own.nil _ _⟩, Below.refl _ _⟩
  · have hpos : (0 : Int) < n := by omega
    have hrun := fun W ty => Lib.run_append_nil_zeros (P := Try.prog) W 22 3 ty 38 i0 (.agg #[.int .i64 0, .int .u64 0]) .i64 .i64 Try.underlying22 Try.underlying3 hi hz0 n (by omega) (by rw [hz1]; decide) (by omega) (by rw [hz2]; omega)
    have hge := grownCap_ge w n 0 38
    have hle := grownCap_le_maxLen w n 0 38 (by unfold maxLen; omega)
    generalize hc : grownCap w n 0 38 = c at *
    have hrun2 := hrun w
    rw [hc] at hrun2
    have hsz : (Builtin.zeroCells (Value.agg #[.int .i64 0, .int .u64 0]).cells n ++ Builtin.zeroCells (Value.agg #[.int .i64 0, .int .u64 0]).cells (c - n)).size = c * 2 := by
      rw [Array.size_append, zeroCells_size, zeroCells_size]
      show n * 2 + (c - n) * 2 = c * 2
      omega
    generalize Builtin.zeroCells (Value.agg #[.int .i64 0, .int .u64 0]).cells n ++ Builtin.zeroCells (Value.agg #[.int .i64 0, .int .u64 0]).cells (c - n) = cur at *
    have hown : Own (w.drew.alloc (.cells cur 38)) w.heap.size (.slice (some ⟨w.heap.size, 0, none⟩) 0 c) [] := by
      refine ⟨rfl, .inr ⟨w.heap.size, c, cur, rfl, Nat.le_refl _, ?_, Nat.zero_le _, hle, hsz, rfl⟩⟩
      show (w.drew.heap.push _)[w.heap.size]? = _
      exact Array.getElem?_push_size
    have hb : Below w.heap.size w (w.drew.alloc (.cells cur 38)) := ((Below.refl _ _).drew).alloc (Nat.le_refl _) _
    have Z := Lib.hid (And.intro hown hb)
    clear hrun hge hle hc hsz hown hb hz0 hz1 hz2
    go_enter Try.func44, Try.ntmps44
    have Hrun := Lib.hid hrun2
    clear hrun2
    go_wp2_with (first | (at_builtin; refine Lib.wpList_append_run w rfl (.tmp 20) (.tmp 21) 22 3 rfl _ _ rfl rfl _ _ (Hrun.out _) ?_))
    go_wp2
    go_ret
    exact ⟨⟨_, rfl, Z.out.1⟩, Z.out.2⟩
end Go.Proofs.Ytgipohicgbppaaa
