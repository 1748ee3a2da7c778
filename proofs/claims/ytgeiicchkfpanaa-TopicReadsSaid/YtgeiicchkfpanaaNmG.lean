/- Layer 2: the contract of meets. -/
import Derived.Test.YtgeiicchkfpanaaNmE
import Derived.Test.YtgeiicchkfpanaaNmF
import Derived.Laws.AppendOwn
import Derived.Deep.DeepCutAuto
import Derived.Deep.RegionHeld3
import Derived.RegionTactic
namespace Go.Proofs.Ytgeiicchkfpanaa
open Go.RowKit Go.Shelf
abbrev dl (s : ByteArray) : List UInt8 := s.data.toList
/-- A row of texts in a world. -/
structure Held (w : World) (b : Nat) (X : List ByteArray) : Prop where
  lt : b < w.heap.size
  cell : ∀ i (h : i < X.length), w.cell? ⟨b, i, none⟩ = some (.string X[i])
theorem Held.keep {w w' : World} {b : Nat} {X : List ByteArray} (h : Held w b X) {M : Nat} (hg : w.grownBy w' (some M)) (hb : b ≠ M) : Held w' b X :=
  ⟨Nat.lt_of_lt_of_le h.lt hg.size, fun i hi => (World.cell?_of_block (w := w) (a := ⟨b, i, none⟩) (hg.block b h.lt (fun e => hb (Option.some.inj e)))).trans (h.cell i hi)⟩
/-- What a call of meets answers. -/
structure Told (G T : List (List UInt8)) (K K' : List (Nat × Nat)) (i j : Nat) (r : Bool) : Prop where
  sub : ∀ x ∈ K, x ∈ K'
  yes : r = true → meetsL (suf G i) (suf T j) = true
  own : r = false → (i, j) ∈ K'
  bad : r = false → ∀ x ∈ K', x ∉ K → Bad G T K' x
structure MeetsPost (G T : List (List UInt8)) (M : Nat) (w : World) (K : List (Nat × Nat)) (i j : Nat) (e : Ending) (w' : World) : Prop where
  out : ∃ (r : Bool) (K' : List (Nat × Nat)), e = .returned (.bool r) ∧ MapIs w' M K' ∧ w.grownBy w' (some M) ∧ Told G T K K' i j r
theorem MapIs.lt {w : World} {M : Nat} {K : List (Nat × Nat)} (h : MapIs w M K) : M < w.heap.size := by
  obtain ⟨es, c, h, _⟩ := h.out
  exact (Array.getElem?_eq_some_iff.1 h).1
theorem grown_set (w : World) (o1 o2 : Obj) (M : Nat) (es : Array MapEntry) (clock : Nat) : w.grownBy (setMap ((w.alloc o1).alloc o2) M es clock) (some M) := by
  refine ⟨rfl, rfl, rfl, by rw [setMap_size]; simp; omega, fun k hk hne => ?_⟩
  rw [setMap_block _ _ _ _ _ (fun e => hne (by rw [e])), Below.heap_alloc _ _ _ (by simp; omega), Below.heap_alloc _ _ _ hk]
theorem slice_tail (b n i : Nat) (pa : Option Addr) (h : i + 1 ≤ n) (hp : pa = some ⟨b, n - (i + 1), none⟩) : ∃ pa', (0 < i → pa' = some ⟨b, n - i, none⟩) ∧
    ∀ W, (Instr.slice 43 (.slice pa (i + 1) (i + 1)) (some (.int .i64 1)) none none).run Try.prog W = .ok (.slice pa' i i) W := by
  subst hp
  by_cases h0 : i = 0
  · subst h0
    refine ⟨some ⟨b, n - 1, none⟩, fun h => absurd h (by omega), fun W => ?_⟩
    rw [run_slice_l (ht := by simp [Program.elem, Try.underlying43]) (h0 := by decide) (h1 := by omega)]
    simp [Program.elem, Try.underlying43, go_sem, sliced]
  · refine ⟨some ⟨b, n - i, none⟩, fun _ => rfl, fun W => ?_⟩
    rw [run_slice_l (ht := by simp [Program.elem, Try.underlying43]) (h0 := by decide) (h1 := by omega)]
    simp [Program.elem, Try.underlying43, go_sem, sliced]
    rw [if_neg h0, show n - (i + 1) + 1 = n - i by omega]
theorem grown_trans {a b c : World} {r : Option Nat} (h : a.grownBy b r) (k : b.grownBy c r) : a.grownBy c r :=
  ⟨k.os.trans h.os, k.tape.trans h.tape, k.output.trans h.output, Nat.le_trans h.size k.size, fun i hi hr => (k.block i (Nat.lt_of_lt_of_le hi h.size) hr).trans (h.block i hi hr)⟩
theorem grown_two (w : World) (o1 o2 : Obj) (M : Nat) : w.grownBy ((w.alloc o1).alloc o2) (some M) :=
  ⟨rfl, rfl, rfl, by simp; omega, fun k hk _ => by rw [Below.heap_alloc _ _ _ (by simp; omega), Below.heap_alloc _ _ _ hk]⟩
/-- A world in which meets may be asked. -/
structure Okay (G T : List ByteArray) (bg bt M : Nat) (K : List (Nat × Nat)) (w W : World) : Prop where
  g : Held W bg G
  t : Held W bt T
  m : MapIs W M K
  grown : w.grownBy W (some M)
theorem Okay.drew {G T : List ByteArray} {bg bt M : Nat} {K : List (Nat × Nat)} {w W : World} (h : Okay G T bg bt M K w W) : Okay G T bg bt M K w W.drew :=
  ⟨⟨h.g.lt, h.g.cell⟩, ⟨h.t.lt, h.t.cell⟩, h.m.keep rfl, ⟨h.grown.os, h.grown.tape, h.grown.output, h.grown.size, h.grown.block⟩⟩
theorem told_step {G T : List (List UInt8)} {K K1 : List (Nat × Nat)} {i j : Nat} {p q : List UInt8} {r : Bool} (hi : i + 1 ≤ G.length) (hj : j + 1 ≤ T.length) (eg : suf G (i + 1) = p :: suf G i) (et : suf T (j + 1) = q :: suf T j) (hm : p ≠ [42, 42])
    (hq : p = [42] ∨ p = q) (Td : Told G T (K ++ [(i + 1, j + 1)]) K1 i j r) : Told G T K K1 (i + 1) (j + 1) r := by
  refine ⟨fun x h => Td.sub x (by simp [h]), fun h => ?_, fun _ => Td.sub _ (by simp), fun h x hx hx' => ?_⟩
  · rw [eg, et, meetsL_oth_cons _ _ _ _ hm, Td.yes h, show (p == [42] || p == q) = true by simpa using hq]; rfl
  · by_cases h0 : x ∈ K ++ [(i + 1, j + 1)]
    · have e : x = (i + 1, j + 1) := by
        rcases List.mem_append.1 h0 with h0 | h0
        · exact absurd h0 hx'
        · simpa using h0
      subst e
      refine ⟨hi, hj, ?_⟩
      simp only [eg, et, if_neg hm]
      exact fun _ => Td.own h
    · exact Td.bad h x hx h0
theorem told_none {G T : List (List UInt8)} {K : List (Nat × Nat)} {i j : Nat} {p q : List UInt8} (hi : i + 1 ≤ G.length) (hj : j + 1 ≤ T.length) (eg : suf G (i + 1) = p :: suf G i) (et : suf T (j + 1) = q :: suf T j) (hm : p ≠ [42, 42])
    (hq : ¬ (p = [42] ∨ p = q)) : Told G T K (K ++ [(i + 1, j + 1)]) (i + 1) (j + 1) false := by
  refine ⟨fun x h => by simp [h], fun h => (by cases h), fun _ => by simp, fun _ x hx hx' => ?_⟩
  have e : x = (i + 1, j + 1) := by
    rcases List.mem_append.1 hx with h0 | h0
    · exact absurd h0 hx'
    · simpa using h0
  subst e
  refine ⟨hi, hj, ?_⟩
  simp only [eg, et, if_neg hm]
  exact fun h => absurd h hq
end Go.Proofs.Ytgeiicchkfpanaa
