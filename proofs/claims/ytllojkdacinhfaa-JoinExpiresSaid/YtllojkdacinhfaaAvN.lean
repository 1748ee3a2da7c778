/- A part of a way to reckon what a Go program does without its memory (AvN). -/
import Derived.Test.YtllojkdacinhfaaAvM
namespace Go.Av
open Go Go.RowKit
set_option autoImplicit false
set_option linter.all false
section
variable {P : Program} {C : Ctx} {K : KV}
theorem inOrder_eval {R : Rd} {a : Act} {e : List V} (hE : CRep R e a.tmps.toList) : ∀ {i : Nat} {parts : List (Nat × Operand)} {l : List Opd}, inOrder i parts = some l →
    ∃ vs : List Value, parts.map (fun x => (x.1, a.eval x.2)) = ((vs.zipIdx i).map fun x => (x.2, x.1)) ∧ CRep R (evs e l) vs ∧ l.length = vs.length
  | i, [], l, h => by
    simp only [inOrder, Option.some.injEq] at h
    subst h
    exact ⟨[], rfl, by simp [evs, CRep], rfl⟩
  | i, (j, x) :: parts, l, h => by
    simp only [inOrder] at h
    split at h
    · rename_i hij
      subst hij
      split at h
      · rename_i o b ho hb
        cases h
        obtain ⟨vs, h1, h2, h3⟩ := inOrder_eval hE hb
        exact ⟨a.eval x :: vs, by simp [h1], CRep_cons (opd_rep ho hE) h2, by simp [h3]⟩
      · cases h
    · cases h
theorem CRep_mem {R : Rd} {n : Nat} {g : Bool} : ∀ {xs : List V} {vs : List Value}, okEls n g xs = true → CRep R xs vs → ∀ v ∈ vs, v.cells.size = n
  | [], vs, _, h, v, hv => by simp only [CRep] at h; subst h; cases hv
  | x :: xs, vs, hk, h, v, hv => by
    simp only [okEls, Bool.and_eq_true] at hk
    simp only [CRep] at h
    obtain ⟨d, r, rfl, h1, h2⟩ := h
    rcases List.mem_cons.1 hv with rfl | hv
    · exact (okEl_parts hk.1 h1).1
    · exact CRep_mem hk.2 h2 v hv
theorem bsl_core {t el : TypeId} {n len : Nat} {g : Bool} {parts : Array (Nat × Operand)} {xs : List V} {vs : List Value} {a : Act} (hu : P.underlying t = some (.slice el)) (hn : sizeT P el = some n) (h1 : parts.toList.map (fun x => (x.1, a.eval x.2)) = ((vs.zipIdx 0).map fun x => (x.2, x.1))) (hvl : vs.length = len)
    (h24 : len * n ≤ 2 ^ 24) (hz : (zeroT P el).isSome = true) (hC : HRep C) (h2 : CRep C.R xs vs) (hk : bslK n (okEls n g xs && noids xs) xs C.H K) :
    Does P (Instr.buildSlice t len (parts.map fun (i, x) => (i, a.eval x))) C K := by
  unfold bslK at hk
  split at hk
  · rename_i hok
    simp only [Bool.and_eq_true] at hok
    obtain ⟨z, hzz⟩ := Option.isSome_iff_exists.1 hz
    obtain ⟨i, zv, hi, hzv, _, _, _⟩ := zero_rep (R := C.R) hzz
    obtain ⟨z0, hz0⟩ : ∃ z0 : Array Value, z0 = if len * n = 0 then #[] else zv.cells := ⟨_, rfl⟩
    obtain ⟨cur, k1, k2⟩ := fill_row (n := n) vs 0 ((Array.range (len * n)).map (z0[· % z0.size]!)) (CRep_mem hok.1 h2) (by simp [hvl])
    have hparts : (parts.map fun (i, x) => (i, a.eval x)).toList = (vs.zipIdx 0).map fun x => (x.2, x.1) := by simpa using h1
    have hrun : (Instr.buildSlice t len (parts.map fun (i, x) => (i, a.eval x))).run P C.w = .ok (.slice (some ⟨C.w.heap.size, 0, none⟩) len len) (C.w.alloc (.cells cur el)) := by
      unfold Instr.buildSlice
      simp only [Sem.run_bind, run_underlying' hu, run_sizeOf hn, Result.andThen_ok]
      rw [if_neg (by omega)]
      by_cases h0 : len * n = 0
      · rw [if_pos h0] at hz0 ⊢
        simp only [Sem.run_bind, Sem.run_pure, Result.andThen_ok, ← hz0, hparts, k1]
        simp [newRow]
      · rw [if_neg h0] at hz0 ⊢
        simp only [Sem.run_bind, Sem.run_pure, Result.andThen_ok, zeroValue, typeInfo, run_program, hi, hzv, ← hz0, hparts, k1]
        simp [newRow]
    have he := okEls_rep hok.1 hok.2 h2
    simp only [Nat.zero_mul, List.take_zero, List.nil_append] at k2
    have hlen2 : (xs).length = len := by rw [CRep_length h2]; exact hvl
    refine ⟨C.ext (C.w.alloc (.cells cur el)), .slx n (xs), _, hrun, ext_tr (Grows.alloc _ _), ext_rep hC (Grows.alloc _ _), ?_, hk⟩
    simp only [VRep]
    refine .inr ⟨C.w.heap.size, 0, cur.toList, by rw [hlen2], new_free hC (Nat.le_refl _), by simp [Ctx.R, Ctx.ext], cellsAt_row (heap_alloc_new C.w _), ?_⟩
    rw [k2]
    exact ERep_tr (ext_tr (C := C) (Grows.alloc _ _)).R.deep _ _ _ he
  · exact hk.elim
theorem zero_part {R : Rd} {t : TypeId} {n : Nat} {z : V} {zv : Value} (hzr : VRep R z zv) (hzj : z ≠ .junk) (hzc : CRep R z.cells zv.cells.toList) (hzl : z.cells.length = n) (hn : 0 < n) (ht : isAggT P t = false → n = 1) (hok : okEl n (isAggT P t) (part n (isAggT P t) z.cells) = true)
    (hnd : noid (part n (isAggT P t) z.cells) = true) : ∃ v, v.cells = zv.cells ∧ v.cells.size = n ∧ (part n (isAggT P t) z.cells ≠ .junk ∧ ∀ u ∈ v.cells.toList, u.oneCell' = true) ∧ VRep R.deep (part n (isAggT P t) z.cells) v := by
  have hl := CRep_length hzc
  cases hg : isAggT P t with
  | true =>
    have hv : VRep R (.agg z.cells) (.agg zv.cells) := by simp only [VRep]; exact ⟨zv.cells.toList, by simp, hzc⟩
    have hp : part n true z.cells = .agg z.cells := by simp [part, ← hzl]
    rw [hg] at hok hnd
    rw [hp] at hok hnd ⊢
    obtain ⟨k1, k2⟩ := okEl_parts hok hv
    exact ⟨.agg zv.cells, rfl, k1, k2, noid_deep _ _ hnd hv⟩
  | false =>
    have h1 := ht hg
    subst h1
    rw [hg] at hok hnd
    have hp : part 1 false z.cells = nth z.cells 0 := rfl
    rw [hp] at hok hnd ⊢
    have hzl2 : zv.cells.size = 1 := by simpa [hzl] using hl.symm
    obtain ⟨u, hu⟩ : ∃ u, zv.cells = #[u] := by
      have h3 : zv.cells.toList.length = 1 := by simpa using hzl2
      match hh : zv.cells.toList, h3 with
      | [u], _ => exact ⟨u, by rw [← Array.toArray_toList (xs := zv.cells), hh]⟩
    have hv : VRep R (nth z.cells 0) u := CRep_get 0 u hzc (by simp [hu])
    obtain ⟨k1, k2⟩ := okEl_parts hok hv
    have h1c : u.oneCell' = true := by
      simp only [okEl, Bool.and_eq_true] at hok
      exact atom_cell hok.1 hv
    exact ⟨u, by rw [cells_one h1c, hu], k1, k2, noid_deep _ _ hnd hv⟩
theorem madeCells_rows {R : Rd} {n : Nat} {x : V} {v : Value} (hn : 0 < n) (hs : v.cells.size = n) (hx : x ≠ .junk ∧ ∀ u ∈ v.cells.toList, u.oneCell' = true) (hv : VRep R x v) : ∀ m : Nat, ERep R n (List.replicate m x) (madeCells v.cells (m * n)).toList
  | 0 => by simp [madeCells, ERep, Array.range_zero']
  | m + 1 => by
    rw [List.replicate_succ]
    simp only [ERep]
    refine ⟨v, (madeCells v.cells (m * n)).toList, ?_, hs, hx, hv, madeCells_rows hn hs hx hv m⟩
    apply List.ext_getElem?
    intro i
    rcases Nat.lt_or_ge i n with h | h
    · rw [List.getElem?_append_left (by simpa [hs] using h)]
      have : i < (m + 1) * n := Nat.lt_of_lt_of_le h (by rw [Nat.add_mul, Nat.one_mul]; omega)
      simp [madeCells, this, hs, Nat.mod_eq_of_lt h, h]
    · rw [List.getElem?_append_right (by simpa [hs] using h)]
      simp only [madeCells, Array.length_toList, hs, Array.toList_map, Array.toList_range, List.getElem?_map, List.getElem?_range']
      by_cases h2 : i < (m + 1) * n
      · have h3 : i - n < m * n := by rw [Nat.add_mul, Nat.one_mul] at h2; omega
        have h4 : i % n = (i - n) % n := by rw [Nat.mod_eq_sub_mod h]
        simp [List.getElem?_range, h2, h3, h4]
      · have h3 : ¬ i - n < m * n := by rw [Nat.add_mul, Nat.one_mul] at h2; omega
        simp [h2, h3]
end
end Go.Av
