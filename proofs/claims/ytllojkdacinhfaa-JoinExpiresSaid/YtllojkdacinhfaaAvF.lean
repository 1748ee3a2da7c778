/- A part of a way to reckon what a Go program does without its memory (AvF). -/
import Derived.Test.YtllojkdacinhfaaAvE
namespace Go.Av
open Go Go.RowKit
set_option autoImplicit false
set_option linter.all false

/-- A step is carried out, and what comes of it meets K. -/
def Does (P : Program) (s : Sem Value) (C : Ctx) (K : KV) : Prop :=
  ∃ (C' : Ctx) (x : V) (v : Value), s.run P C.w = .ok v C'.w ∧ Tr C C' ∧ HRep C' ∧ VRep C'.R x v ∧ K x C'.H
def DoesU (P : Program) (s : Sem Unit) (C : Ctx) (K : KV) : Prop :=
  ∃ (C' : Ctx), s.run P C.w = .ok () C'.w ∧ Tr C C' ∧ HRep C' ∧ K undefV C'.H
section
variable {P : Program} {C : Ctx} {K : KV}
theorem Does.pure {s : Sem Value} {x : V} {v : Value} (hC : HRep C) (h : s.run P C.w = .ok v C.w) (hv : VRep C.R x v) (hk : K x C.H) : Does P s C K := ⟨C, x, v, h, Tr.refl C, hC, hv, hk⟩
theorem run_underlying' {t : TypeId} {d : TypeDesc} {w : World} (h : P.underlying t = some d) : (underlying t).run P w = .ok d w := by
  unfold underlying; simp [h]
theorem run_sizeOf {t : TypeId} {n : Nat} {w : World} (h : sizeT P t = some n) : (sizeOf t).run P w = .ok n w := by
  unfold sizeT at h
  cases hi : P.info? t with
  | none => simp [hi] at h
  | some i => simp [hi] at h; subst h; simp [sizeOf, typeInfo, hi]
theorem run_isAgg {t : TypeId} {n : Nat} {w : World} (h : sizeT P t = some n) (hu : (P.underlying t).isSome = true) : (isAgg t).run P w = .ok (isAggT P t) w := by
  unfold isAgg isAggT
  obtain ⟨d, hd⟩ := Option.isSome_iff_exists.1 hu
  simp only [Sem.run_bind, run_underlying' hd, Result.andThen_ok, hd]
  cases d <;> rfl
/-- A number of which there is an entry. -/
theorem sh_of {j : Nat} {e : Entry} (h : C.H[j]? = some e) : C.sh j = some e.shp := by simp [Ctx.sh, h]
theorem ptr_at {j off : Nat} {e : Entry} {v : Value} (hv : VRep C.R (.ptr j off) v) (he : C.H[j]? = some e) (hs : e.shp = .box) : ∃ b c, C.β j = some (b, c) ∧ v = .pointer (some ⟨b, off, none⟩) := by
  simp only [VRep, Ctx.R, sh_of he, hs] at hv
  exact hv.2
theorem own_at {j len n : Nat} {e : Entry} {v : Value} {xs : List V} (hv : VRep C.R (.own j len) v) (he : C.H[j]? = some e) (hs : e.shp = .row n xs.length) (hl : len = xs.length) :
    (C.β j = none ∧ ∃ a, v = .slice a 0 0) ∨ ∃ b c, C.β j = some (b, c) ∧ v = .slice (some ⟨b, 0, none⟩) len c := by
  simp only [VRep, Ctx.R, sh_of he, hs] at hv
  exact hv.2.2 hl
theorem eptr_at {j len i off n : Nat} {e : Entry} {v : Value} {xs : List V} (hv : VRep C.R (.eptr j len i off) v) (he : C.H[j]? = some e) (hs : e.shp = .row n xs.length) (hl : len = xs.length) :
    ∃ b c, C.β j = some (b, c) ∧ v = .pointer (some ⟨b, i * n + off, none⟩) := by
  simp only [VRep, Ctx.R, sh_of he, hs] at hv
  exact hv.2.2 hl
theorem map_at {j : Nat} {e : Entry} {v : Value} (hv : VRep C.R (.map j) v) (he : C.H[j]? = some e) (hs : e.shp = .map) : ∃ b c, C.β j = some (b, c) ∧ v = .map (some b) := by
  simp only [VRep, Ctx.R, sh_of he, hs] at hv
  exact hv.2
theorem it_at {j : Nat} {e : Entry} {v : Value} (hv : VRep C.R (.it j) v) (he : C.H[j]? = some e) (hs : e.shp = .it) : ∃ b c, C.β j = some (b, c) ∧ v = .pointer (some ⟨b, 0, none⟩) := by
  simp only [VRep, Ctx.R, sh_of he, hs] at hv
  exact hv.2

/-! New blocks -/
theorem newVar_does {t : TypeId} {v : Value} {cs : List V} (hC : HRep C) (hv : CRep C.R cs v.cells.toList) (hk : K (.ptr C.H.length 0) (C.H ++ [.box cs])) :
    Does P (do Pure.pure (Value.pointer (some (← newVar t v)))) C K := by
  refine ⟨C.push (.cells v.cells t) 0 (.box cs), .ptr C.H.length 0, .pointer (some ⟨C.w.heap.size, 0, none⟩), ?_, push_tr, push_rep hC ?_, ?_, hk⟩
  · simp [newVar, newRow, Ctx.push]
  · refine ⟨C.w.heap.size, 0, v.cells, t, push_beta_new, heap_alloc_new C.w _, CRep_tr push_tr.R _ _ hv⟩
  · simp only [VRep, Ctx.R]
    refine ⟨rfl, ?_⟩
    rw [sh_of push_get_new]
    exact ⟨_, _, push_beta_new, rfl⟩

/-! Loads -/
theorem cellsAt_load {w : World} {b o : Nat} {cells : List Value} (h : cellsAt w b o cells) (off n : Nat) :
    ∀ (j : Nat) (c : Value), ((cells.drop off).take n)[j]? = some c → w.cell? ((⟨b, o + off, none⟩ : Addr).add j) = some c := by
  intro j c hc
  rw [Addr.add_lit]
  rw [List.getElem?_take] at hc
  split at hc
  · rw [List.getElem?_drop] at hc
    have := h _ _ hc
    rwa [← Nat.add_assoc] at this
  · cases hc
theorem load_cells {t : TypeId} {n off b o : Nat} {cells : List Value} {cs : List V} (hs : sizeT P t = some n) (hu : (P.underlying t).isSome = true) (h1 : isAggT P t = false → n = 1) (hc : cellsAt C.w b o cells) (hr : CRep C.R cs cells) (hn : off + n ≤ cs.length) :
    ∃ v, (Instr.loadAt t (.pointer (some ⟨b, o + off, none⟩))).run P C.w = .ok v C.w ∧ VRep C.R (part n (isAggT P t) (cs.drop off)) v := by
  have hl := CRep_length hr
  have hld := run_loadCells_list (P := P) C.w ⟨b, o + off, none⟩ ((cells.drop off).take n) (cellsAt_load hc off n)
  have hlen : ((cells.drop off).take n).length = n := by simp; omega
  rw [hlen] at hld
  cases hg : isAggT P t with
  | true =>
    refine ⟨.agg ((cells.drop off).take n).toArray, ?_, ?_⟩
    · simp [Instr.loadAt, Instr.sureAddr, loadVar, run_isAgg hs hu, hg, run_sizeOf hs, hld]
    · simp only [part, cond_true, VRep]
      exact ⟨_, rfl, CRep_take n (CRep_drop off hr)⟩
  | false =>
    have e1 := h1 hg
    subst e1
    have hlt : off < cells.length := by omega
    refine ⟨cells[off], ?_, ?_⟩
    · have := hc off _ (List.getElem?_eq_getElem hlt)
      simp [Instr.loadAt, Instr.sureAddr, loadVar, run_isAgg hs hu, hg, this]
    · simp only [part, cond_false]
      exact CRep_get 0 _ (CRep_drop off hr) (by simp [List.getElem?_drop, hlt])
theorem cellsAt_row {w : World} {b : Nat} {cur : Array Value} {E : TypeId} {fr : Nat × Nat} (h : w.heap[b]? = some (.cells cur E fr)) : cellsAt w b 0 cur.toList := by
  intro k c hc
  rw [cell_of_row w b _ cur E fr h, Nat.zero_add]
  simpa using hc
theorem ERep_length {R : Rd} {n : Nat} : ∀ {xs : List V} {cells : List Value}, ERep R n xs cells → cells.length = xs.length * n
  | [], cells, h => by simp only [ERep] at h; subst h; simp
  | x :: xs, cells, h => by
    simp only [ERep] at h
    obtain ⟨v, r, rfl, h1, _, _, h3⟩ := h
    simp [ERep_length h3, h1, Nat.add_mul, Nat.add_comm]
theorem ERep_at {R : Rd} {n : Nat} : ∀ {xs : List V} {cells : List Value} (i : Nat), ERep R n xs cells → i < xs.length →
    ∃ v, v.cells.toList = (cells.drop (i * n)).take n ∧ v.cells.size = n ∧ nth xs i ≠ .junk ∧ VRep R (nth xs i) v
  | [], cells, i, h, hi => by simp at hi
  | x :: xs, cells, 0, h, hi => by
    simp only [ERep] at h
    obtain ⟨v, r, rfl, h1, hj, h2, h3⟩ := h
    exact ⟨v, by simp [h1], h1, hj.1, h2⟩
  | x :: xs, cells, i + 1, h, hi => by
    simp only [ERep] at h
    obtain ⟨v, r, rfl, h1, hj, h2, h3⟩ := h
    obtain ⟨u, k1, k2, k3⟩ := ERep_at i h3 (by simpa using hi)
    refine ⟨u, ?_, k2, k3⟩
    rw [k1, Nat.add_mul, Nat.one_mul, Nat.add_comm (i * n) n, ← List.drop_drop, List.drop_left' (by simpa using h1)]
theorem cellsAt_drop {w : World} {b o : Nat} {cells : List Value} (h : cellsAt w b o cells) (m n : Nat) : cellsAt w b (o + m) ((cells.drop m).take n) := by
  intro k c hc
  rw [List.getElem?_take] at hc
  split at hc
  · rw [List.getElem?_drop] at hc
    rw [Nat.add_assoc]
    exact h _ _ hc
  · cases hc
/-- What is read with no number in it is read with numbers as well. -/
theorem RTr_deep (R : Rd) : RTr R.deep R := ⟨Nat.le_refl _, fun _ _ h => ⟨rfl, h⟩, fun g s h => by cases h⟩
end
end Go.Av
