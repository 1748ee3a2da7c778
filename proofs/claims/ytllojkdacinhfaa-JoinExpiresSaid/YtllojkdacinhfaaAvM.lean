/- A part of a way to reckon what a Go program does without its memory (AvM). -/
import Derived.Test.YtllojkdacinhfaaAvL
namespace Go.Av
open Go Go.RowKit
set_option autoImplicit false
set_option linter.all false
section
variable {P : Program} {C : Ctx} {K : KV}
/-! ### A world that has grown -/
def Ctx.ext (C : Ctx) (w : World) : Ctx := { C with w := w }
structure Grows (w w' : World) : Prop where
  os : w'.os = w.os
  tape : w'.tape = w.tape
  output : w'.output = w.output
  size : w.heap.size ≤ w'.heap.size
  block : ∀ b, b < w.heap.size → w'.heap[b]? = w.heap[b]?
theorem ext_tr {w : World} (h : Grows C.w w) : Tr C (C.ext w) := ⟨h.os, h.tape, h.output, h.size, rfl, fun b hb hn => ⟨h.block b hb, hn⟩, fun g s hs => ⟨s, hs, STr.refl _ _⟩⟩
theorem ext_rep {w : World} (hC : HRep C) (h : Grows C.w w) : HRep (C.ext w) :=
  ⟨fun g e he => (hC.ent g e he).keep (ext_tr h) rfl (fun ho b c hb => h.block b (own_lt hC ⟨g, e, c, he, ho, hb⟩)), hC.inj, hC.nF, fun b hb => Nat.lt_of_lt_of_le (hC.ltF b hb) h.size⟩
theorem ext_av {w : World} {b : Nat} : (C.ext w).av b ↔ C.av b := Iff.rfl
theorem Grows.alloc (w : World) (o : Obj) : Grows w (w.alloc o) := ⟨rfl, rfl, rfl, by simp, fun b hb => Below.heap_alloc w o b hb⟩
theorem new_free (hC : HRep C) {b : Nat} (hb : C.w.heap.size ≤ b) : ¬ C.av b := fun h => by
  rcases h with h | h
  · have := own_lt hC h; omega
  · have := hC.ltF b h; omega

/-! ### No number in it: read so -/
mutual
theorem noid_deep {R : Rd} : ∀ (x : V) (v : Value), noid x = true → VRep R x v → VRep R.deep x v
  | .bool _, _, _, h => by simpa only [VRep] using h
  | .int _ _, _, _, h => by simpa only [VRep] using h
  | .str _, _, _, h => by simpa only [VRep] using h
  | .agg cs, _, hn, h => by
    simp only [VRep] at h ⊢
    obtain ⟨ds, rfl, hc⟩ := h
    exact ⟨ds, rfl, noids_deep cs ds (by simpa only [noid] using hn) hc⟩
  | .tup cs, _, hn, h => by
    simp only [VRep] at h ⊢
    obtain ⟨ds, rfl, hc⟩ := h
    exact ⟨ds, rfl, noids_deep cs ds (by simpa only [noid] using hn) hc⟩
  | .nilsl, _, _, h => by simpa only [VRep] using h
  | .sl n xs, _, _, h => by simp only [VRep] at h ⊢; exact h
  | .slx n xs, _, _, h => by simp only [VRep] at h ⊢; exact h
  | .own g len, _, hn, _ => by simp [noid] at hn
  | .nilp, _, _, h => by simpa only [VRep] using h
  | .ref cs, _, _, h => by simp only [VRep] at h ⊢; exact h
  | .ptr g o, _, hn, _ => by simp [noid] at hn
  | .eptr .., _, hn, _ => by simp [noid] at hn
  | .nilfn, _, _, h => by simpa only [VRep] using h
  | .fn f a b, _, hn, h => by
    simp only [noid, Bool.and_eq_true] at hn
    simp only [VRep] at h ⊢
    obtain ⟨x, y, rfl, h1, h2⟩ := h
    exact ⟨x, y, rfl, noids_deep a x hn.1 h1, noids_deep b y hn.2 h2⟩
  | .nilmap, _, _, h => by simpa only [VRep] using h
  | .map g, _, hn, _ => by simp [noid] at hn
  | .it g, _, hn, _ => by simp [noid] at hn
  | .junk, _, _, _ => by simp only [VRep]
theorem noids_deep {R : Rd} : ∀ (cs : List V) (ds : List Value), noids cs = true → CRep R cs ds → CRep R.deep cs ds
  | [], _, _, h => by simpa only [CRep] using h
  | c :: cs, ds, hn, h => by
    simp only [noids, Bool.and_eq_true] at hn
    simp only [CRep] at h ⊢
    obtain ⟨d, r, rfl, h1, h2⟩ := h
    exact ⟨d, r, rfl, noid_deep c d hn.1 h1, noids_deep cs r hn.2 h2⟩
end
theorem atom_cell {R : Rd} {x : V} {v : Value} (hx : atom x = true) (h : VRep R x v) : v.oneCell' = true := by
  have hc := cells_rep h (by rintro rfl; simp [atom] at hx)
  have hl := CRep_length hc
  cases x <;> simp only [atom, Bool.false_eq_true] at hx <;> simp only [VRep] at h
  all_goals first
    | exact h.1
    | (subst h; rfl)
    | (rcases h with ⟨_, _, _, rfl⟩ | ⟨_, _, _, _, rfl, _⟩ <;> rfl)
    | (rcases h with ⟨_, _, rfl⟩ | ⟨_, _, _, rfl, _⟩ <;> rfl)
    | (obtain ⟨_, _, _, rfl, _⟩ := h; rfl)
    | (obtain ⟨_, _, rfl, _⟩ := h; rfl)
theorem atoms_cells {R : Rd} : ∀ {cs : List V} {ds : List Value}, atoms cs = true → CRep R cs ds → ∀ u ∈ ds, u.oneCell' = true
  | [], ds, _, h, u, hu => by simp only [CRep] at h; subst h; cases hu
  | c :: cs, ds, hn, h, u, hu => by
    simp only [atoms, Bool.and_eq_true] at hn
    simp only [CRep] at h
    obtain ⟨d, r, rfl, h1, h2⟩ := h
    rcases List.mem_cons.1 hu with rfl | hu
    · exact atom_cell hn.1 h1
    · exact atoms_cells hn.2 h2 u hu
theorem cells_one {v : Value} (h : v.oneCell' = true) : v.cells = #[v] := by cases v <;> first | rfl | simp [Value.oneCell'] at h
theorem okC_cells {R : Rd} {x : V} {v : Value} (hx : okC x = true) (h : VRep R x v) : ∀ u ∈ v.cells.toList, u.oneCell' = true := by
  by_cases ha : ∃ cs, x = .agg cs
  · obtain ⟨cs, rfl⟩ := ha
    simp only [VRep] at h
    obtain ⟨ds, rfl, hc⟩ := h
    simpa [Value.cells] using atoms_cells (by simpa only [okC] using hx) hc
  · have hx2 : atom x = true := by cases x <;> first | (exact absurd ⟨_, rfl⟩ ha) | exact hx
    have h1 := atom_cell hx2 h
    rw [cells_one h1]
    simpa using h1
theorem okEl_parts {n : Nat} {g : Bool} {R : Rd} {x : V} {v : Value} (hx : okEl n g x = true) (h : VRep R x v) : v.cells.size = n ∧ (x ≠ .junk ∧ ∀ u ∈ v.cells.toList, u.oneCell' = true) := by
  unfold okEl at hx
  split at hx
  · rename_i cs
    simp only [Bool.and_eq_true] at hx
    have h' := h
    simp only [VRep] at h
    obtain ⟨ds, rfl, hc⟩ := h
    refine ⟨?_, by simp, okC_cells (x := .agg cs) (by simpa only [okC] using hx.2) h'⟩
    have := lenEq_iff.1 hx.1
    simpa [Value.cells, ← CRep_length hc] using this
  · simp only [Bool.and_eq_true, beq_iff_eq] at hx
    have h1 := atom_cell hx.1 h
    rw [cells_one h1]
    refine ⟨by simp [hx.2], by rintro rfl; simp [atom] at hx, by simpa using h1⟩
  · cases hx
theorem okEls_rep {n : Nat} {g : Bool} {R : Rd} : ∀ {xs : List V} {vs : List Value}, okEls n g xs = true → noids xs = true → CRep R xs vs → ERep R.deep n xs (vs.flatMap fun v => v.cells.toList)
  | [], vs, _, _, h => by simp only [CRep] at h; subst h; simp [ERep]
  | x :: xs, vs, hk, hn, h => by
    simp only [okEls, Bool.and_eq_true] at hk
    simp only [noids, Bool.and_eq_true] at hn
    simp only [CRep] at h
    obtain ⟨d, r, rfl, h1, h2⟩ := h
    obtain ⟨k1, k2⟩ := okEl_parts hk.1 h1
    simp only [ERep]
    exact ⟨d, _, rfl, k1, k2, noid_deep x d hn.1 h1, okEls_rep hk.2 hn.2 h2⟩
theorem ERep_cells {R : Rd} {n : Nat} : ∀ {xs : List V} {cells : List Value}, ERep R n xs cells → ∀ u ∈ cells, u.oneCell' = true
  | [], cells, h, u, hu => by simp only [ERep] at h; subst h; cases hu
  | x :: xs, cells, h, u, hu => by
    simp only [ERep] at h
    obtain ⟨v, r, rfl, h1, hj, h2, h3⟩ := h
    rcases List.mem_append.1 hu with hu | hu
    · exact hj.2 u hu
    · exact ERep_cells h3 u hu
theorem ERep_append {R : Rd} {n : Nat} : ∀ {xs ys : List V} {cells ds : List Value}, ERep R n xs cells → ERep R n ys ds → ERep R n (xs ++ ys) (cells ++ ds)
  | [], ys, cells, ds, h, h2 => by simp only [ERep] at h; subst h; exact h2
  | x :: xs, ys, cells, ds, h, h2 => by
    simp only [List.cons_append, ERep] at h ⊢
    obtain ⟨v, r, rfl, h1, hj, h3, h4⟩ := h
    exact ⟨v, r ++ ds, by simp, h1, hj, h3, ERep_append h4 h2⟩
theorem ERep_take {R : Rd} {n : Nat} : ∀ {xs : List V} {cells : List Value} (i : Nat), ERep R n xs cells → ERep R n (xs.take i) (cells.take (i * n))
  | xs, cells, 0, h => by simp [ERep]
  | [], cells, i + 1, h => by simp only [ERep] at h; subst h; simp [ERep]
  | x :: xs, cells, i + 1, h => by
    simp only [ERep] at h
    obtain ⟨v, r, rfl, h1, hj, h3, h4⟩ := h
    simp only [List.take_succ_cons, ERep]
    refine ⟨v, r.take (i * n), ?_, h1, hj, h3, ERep_take i h4⟩
    have : v.cells.toList.length = n := by simpa using h1
    rw [Nat.add_mul, Nat.one_mul, Nat.add_comm, List.take_append, this]
    simp [List.take_of_length_le, this]
theorem ERep_drop {R : Rd} {n : Nat} : ∀ {xs : List V} {cells : List Value} (i : Nat), ERep R n xs cells → ERep R n (xs.drop i) (cells.drop (i * n))
  | xs, cells, 0, h => by simpa using h
  | [], cells, i + 1, h => by simp only [ERep] at h; subst h; simp [ERep]
  | x :: xs, cells, i + 1, h => by
    simp only [ERep] at h
    obtain ⟨v, r, rfl, h1, hj, h3, h4⟩ := h
    have : v.cells.toList.length = n := by simpa using h1
    have := ERep_drop i h4
    simp only [List.drop_succ_cons]
    rw [Nat.add_mul, Nat.one_mul, Nat.add_comm, ← List.drop_drop, List.drop_left' (by simpa using h1)]
    exact this

/-! ### A row that is written out -/
theorem fill_row {n : Nat} : ∀ (vs : List Value) (i : Nat) (cur : Array Value), (∀ v ∈ vs, v.cells.size = n) → cur.size = (i + vs.length) * n →
    ∃ cur', Instr.fill (fun j => some (j * n, n)) cur (vs.zipIdx i |>.map fun x => (x.2, x.1)) = some cur' ∧ cur'.toList = cur.toList.take (i * n) ++ vs.flatMap fun v => v.cells.toList
  | [], i, cur, _, h => ⟨cur, rfl, by simp at h; simp [List.take_of_length_le, h]⟩
  | v :: vs, i, cur, hv, h => by
    have h1 := hv v List.mem_cons_self
    have hfit : i * n + v.cells.size ≤ cur.size := by rw [h1, h, List.length_cons, show i * n + n = (i + 1) * n by rw [Nat.add_mul, Nat.one_mul]]; exact Nat.mul_le_mul_right n (by omega)
    have hfold := fill_fold cur (i * n) v.cells.toList 0 cur (by simpa using hfit)
    rw [← Array.toList_zipIdx, Array.foldl_toList] at hfold
    obtain ⟨cur', k1, k2⟩ := fill_row vs (i + 1) (v.cells.zipIdx.foldl (fun cs (c, j) => cs.setIfInBounds (i * n + j) c) cur) (fun u hu => hv u (List.mem_cons_of_mem _ hu)) (by
      have := congrArg List.length hfold
      simp only [Array.length_toList, List.length_append, List.length_take, List.length_drop, Nat.add_zero] at this
      rw [this, h]
      simp only [List.length_cons] at h ⊢
      rw [show i + 1 + vs.length = i + (vs.length + 1) by omega]
      omega)
    refine ⟨cur', ?_, ?_⟩
    · simp only [List.zipIdx_cons, List.map_cons, Instr.fill]
      rw [if_neg (by simp only [Bool.or_eq_true, decide_eq_true_eq, ne_eq]; omega)]
      exact k1
    · rw [k2, hfold]
      have hl : v.cells.toList.length = n := by simpa using h1
      have e1 : i * n ≤ cur.toList.length := by simp; omega
      rw [Nat.add_mul, Nat.one_mul, List.take_append_of_le_length (by simp; omega), List.take_append]
      simp only [Nat.add_zero, List.append_assoc, List.flatMap_cons, List.length_take, Nat.min_eq_left e1, List.take_take, Nat.min_eq_right (Nat.le_add_right (i * n) n), Nat.add_sub_cancel_left]
      rw [List.take_of_length_le (Nat.le_of_eq hl)]
end
end Go.Av
