/- slices.Grow of a nil list of api.Timer. -/
import Derived.Test.YtoicgilcdlakkaaProg
import Derived.Lib.AppendZeros
import Derived.Laws.AppendOwnNone
import Derived.Laws.Cover3
import Derived.Lib.Hide
import Derived.WalkKit
import Derived.Below
import Derived.OwnWalk
import Derived.LoopTactic
import Derived.RegionTactic
import Derived.ProofKit
namespace Go.Proofs.Ytoicgilcdlakkaa
open Go.RowKit
set_option linter.unusedVariables false
set_option linter.unusedSimpArgs false
theorem infoT : (Try.prog.info? 73).map (fun i => (i.zero, i.size, i.bytes)) = some (some (.agg #[.int .i64 0, .int .u64 0]), 2, 16) := by kernel_rfl
theorem info_partsT {o : Option TypeInfo} {a : Option Value} {b c : Nat} (h : o.map (fun i => (i.zero, i.size, i.bytes)) = some (a, b, c)) : ∃ i, o = some i ∧ i.zero = a ∧ i.size = b ∧ i.bytes = c := by
  obtain ⟨i, h1, h2⟩ := Option.map_eq_some_iff.1 h
  simp only [Prod.mk.injEq] at h2
  exact ⟨i, h1, h2.1, h2.2.1, h2.2.2⟩
theorem zeroT_size (z : Array Value) (n : Nat) : (Builtin.zeroCells z n).size = n * z.size := by simp [Builtin.zeroCells]
set_option maxRecDepth 100000 in
set_option maxHeartbeats 1000000 in
theorem growT_nil (n : Nat) (w : World) (hn : n ≤ 100000) :
    Calls Try.prog 92 #[.slice none 0 0, .int .i64 (n : Int)] w fun e w' => (e = .returned (.slice none 0 0) ∧ w' = w) ∨ ∃ cap cur, e = .returned (.slice (some ⟨w.heap.size, 0, none⟩) 0 cap) ∧ w' = w.drew.alloc (.cells cur 73) ∧ cur.size = cap * 2 ∧ cap ≤ maxLen := by
  obtain ⟨i0, hi, hz0, hz1, hz2⟩ := info_partsT infoT
  have hni : (n : Int) ≤ 100000 := by omega
  by_cases h0 : n = 0
  · subst h0
    go_enter Try.func92, Try.ntmps92
    go_wp2
    go_ret
    exact .inl ⟨rfl, rfl⟩
  · have hpos : (0 : Int) < n := by omega
    have hrun := fun W ty => Lib.run_append_nil_zeros (P := Try.prog) W 86 3 ty 73 i0 (.agg #[.int .i64 0, .int .u64 0]) .i64 .i64 Try.underlying86 Try.underlying3 hi hz0 n (by omega) (by rw [hz1]; decide) (by omega) (by rw [hz2]; omega)
    have hge := grownCap_ge w n 0 73
    have hle := grownCap_le_maxLen w n 0 73 (by unfold maxLen; omega)
    generalize hc : grownCap w n 0 73 = c at *
    have hrun2 := hrun w
    rw [hc] at hrun2
    have hsz : (Builtin.zeroCells (Value.cells (.agg #[.int .i64 0, .int .u64 0])) n ++ Builtin.zeroCells (Value.cells (.agg #[.int .i64 0, .int .u64 0])) (c - n)).size = c * 2 := by
      rw [Array.size_append, zeroT_size, zeroT_size]
      show n * 2 + (c - n) * 2 = c * 2
      omega
    generalize Builtin.zeroCells (Value.cells (.agg #[.int .i64 0, .int .u64 0])) n ++ Builtin.zeroCells (Value.cells (.agg #[.int .i64 0, .int .u64 0])) (c - n) = cur at *
    have Z := Lib.hid (And.intro hsz hle)
    clear hrun hge hle hc hsz hz0 hz1 hz2
    go_enter Try.func92, Try.ntmps92
    have Hrun := Lib.hid hrun2
    clear hrun2
    go_wp2_with (first | (at_builtin; refine Lib.wpList_append_run w rfl (.tmp 20) (.tmp 21) 86 3 rfl _ _ rfl rfl _ _ (Hrun.out _) ?_))
    go_wp2
    go_ret
    exact .inr ⟨c, cur, rfl, rfl, Z.out.1, Z.out.2⟩
end Go.Proofs.Ytoicgilcdlakkaa
