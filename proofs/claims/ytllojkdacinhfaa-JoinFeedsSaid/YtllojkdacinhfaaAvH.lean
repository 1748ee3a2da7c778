/- A part of a way to reckon what a Go program does without its memory (AvH). -/
import Derived.Test.YtllojkdacinhfaaAvG
namespace Go.Av
open Go Go.RowKit
set_option autoImplicit false
set_option linter.all false
section
variable {P : Program} {C : Ctx} {K : KV}
theorem row_none {j n : Nat} {e : Entry} {xs : List V} (hC : HRep C) (he : C.H[j]? = some e) (hs : e.shp = .row n xs.length) (hb : C.β j = none) (h : 0 < xs.length) : False := by
  have := hC.ent j e he
  cases e <;> simp only [Entry.shp, Shp.row.injEq, reduceCtorEq] at hs
  · rcases this with ⟨_, rfl⟩ | ⟨b, _, _, _, k1, _⟩
    · simp at hs; omega
    · rw [hb] at k1; cases k1
  · rcases this with ⟨_, rfl⟩ | ⟨b, _, _, k1, _⟩
    · simp at hs; omega
    · rw [hb] at k1; cases k1

/-! An element's place -/
theorem indexAt_run {t e : TypeId} {n : Nat} (hu : P.underlying t = some (.slice e)) (hn : sizeT P e = some n) (b o len cap : Nat) (q : IntKind) (j : Int) (h0 : 0 ≤ j) (h1 : j < len) {w : World} :
    (Instr.indexAt t (.slice (some ⟨b, o, none⟩) len cap) (.int q j)).run P w = .ok (.pointer (some ⟨b, o + j.toNat * n, none⟩)) w := by
  simp [Instr.indexAt, asIntOf, run_underlying' hu, run_sizeOf hn, Addr.add_lit, h0, h1]
theorem iad_does {t e : TypeId} {n : Nat} {x i : V} {v u : Value} (hu : P.underlying t = some (.slice e)) (hn : sizeT P e = some n) (hC : HRep C) (hv : VRep C.R x v) (hi : VRep C.R i u)
    (hk : iadK n x i C.H K) : Does P (Instr.indexAt t v u) C K := by
  have key : ∀ {xs : List V} {q : IntKind} {j : Int} {b o cap : Nat} {cells : List Value}, ¬ C.av b → b < C.w.heap.size → cellsAt C.w b o cells → ERep C.R.deep n xs cells → 0 ≤ j ∧ j < xs.length → K (.ref (nth xs j.toNat).cells) C.H →
      Does P (Instr.indexAt t (.slice (some ⟨b, o, none⟩) xs.length cap) (.int q j)) C K := by
    intro xs q j b o cap cells h1 h2 hc hr hj hk
    obtain ⟨u, e1, e2, e3, e4⟩ := ERep_at j.toNat hr (by omega)
    refine Does.pure hC (indexAt_run hu hn b o _ cap q j hj.1 hj.2) ?_ hk
    simp only [VRep]
    refine ⟨b, o + j.toNat * n, _, rfl, h1, h2, cellsAt_drop hc (j.toNat * n) n, ?_⟩
    rw [← e1]
    exact cells_rep e4 e3
  unfold iadK at hk
  split at hk
  · rename_i m xs q j
    obtain ⟨⟨rfl, hj⟩, hk⟩ := hk
    rw [VRep_int] at hi
    subst hi
    simp only [VRep] at hv
    rcases hv with ⟨rfl, _⟩ | ⟨b, o, cap, cells, rfl, _, h1, h2, hc, hr⟩
    · simp at hj; omega
    · exact key h1 h2 hc hr hj hk
  · rename_i m xs q j
    obtain ⟨⟨rfl, hj⟩, hk⟩ := hk
    rw [VRep_int] at hi
    subst hi
    simp only [VRep] at hv
    rcases hv with ⟨rfl, _⟩ | ⟨b, o, cells, rfl, h1, h2, hc, hr⟩
    · simp at hj; omega
    · exact key h1 h2 hc hr hj hk
  · rename_i g len q j
    rw [VRep_int] at hi
    subst hi
    obtain ⟨hj, hk⟩ := hk
    obtain ⟨en, m, xs, he, hs, hl, ⟨hm, hk2⟩, hor⟩ := isRow_at hk
    clear hk
    have hk := hk2
    have hm2 : m = n := by
      rw [he] at hm
      rcases hor with ⟨E, rfl⟩ | rfl <;> simpa [rowN] using hm
    subst hm2
    rcases own_at hv he hs hl with ⟨hb, a, rfl⟩ | ⟨b, c, hb, rfl⟩
    · exact (row_none hC he hs hb (by omega)).elim
    · refine Does.pure hC (indexAt_run hu hn b 0 _ c q j hj.1 hj.2) ?_ hk
      simp only [VRep, Ctx.R, sh_of he, hs]
      exact ⟨rfl, by omega, fun _ => ⟨b, c, hb, by simp⟩⟩
  · exact hk.elim

/-! Places in an array; parts of a value -/
theorem iaa_does {t e : TypeId} {len n : Nat} {x i : V} {v u : Value} (hu : P.underlying t = some (.array len e)) (hn : sizeT P e = some n) (hC : HRep C) (hv : VRep C.R x v) (hi : VRep C.R i u)
    (hk : iaaK len n x i C.H K) : Does P (Instr.indexAt t v u) C K := by
  have run : ∀ (b o : Nat) (q : IntKind) (j : Int), 0 ≤ j → j < len → (Instr.indexAt t (.pointer (some ⟨b, o, none⟩)) (.int q j)).run P C.w = .ok (.pointer (some ⟨b, o + j.toNat * n, none⟩)) C.w := by
    intro b o q j h0 h1
    simp [Instr.indexAt, asIntOf, run_underlying' hu, run_sizeOf hn, Addr.add_lit, h0, h1, Instr.sureAddr]
  unfold iaaK at hk
  split at hk
  · rename_i cs q j
    rw [VRep_int] at hi
    subst hi
    simp only [VRep] at hv
    obtain ⟨b, o, cells, rfl, h1, h2, hc, hr⟩ := hv
    refine Does.pure hC (run b o q j hk.1.1 hk.1.2) ?_ hk.2
    simp only [VRep]
    refine ⟨b, o + j.toNat * n, cells.drop (j.toNat * n), rfl, h1, h2, ?_, CRep_drop _ hr⟩
    intro k c hk
    rw [List.getElem?_drop] at hk
    rw [Nat.add_assoc]
    exact hc _ _ hk
  · rename_i g o q j
    rw [VRep_int] at hi
    subst hi
    obtain ⟨b, c, hb, rfl, hsh, hk2⟩ := box_at hv hk.2
    refine Does.pure hC (run b o q j hk.1.1 hk.1.2) ?_ hk2
    simp only [VRep, hsh]
    exact ⟨rfl, b, c, hb, rfl⟩
  · exact hk.elim
theorem part_run {t : TypeId} {n off : Nat} {cs : List V} {ds : List Value} (hs : sizeT P t = some n) (ht : tyOk P t n = true) (hr : CRep C.R cs ds) (hl : off + n ≤ cs.length) {w : World} :
    ∃ v, (Go.part t ds.toArray off).run P w = .ok v w ∧ VRep C.R (part n (isAggT P t) (cs.drop off)) v := by
  obtain ⟨hu, h1⟩ := tyOk_parts ht
  have hlen := CRep_length hr
  cases hg : isAggT P t with
  | true =>
    refine ⟨.agg ((ds.drop off).take n).toArray, ?_, ?_⟩
    · simp [Go.part, run_isAgg hs hu, hg, run_sizeOf hs]
    · simp only [part, cond_true, VRep]
      exact ⟨_, rfl, CRep_take n (CRep_drop off hr)⟩
  | false =>
    have e1 := h1 hg
    subst e1
    have hlt : off < ds.length := by omega
    refine ⟨ds[off], ?_, ?_⟩
    · simp [Go.part, run_isAgg hs hu, hg, hlt]
    · simp only [part, cond_false]
      exact CRep_get 0 _ (CRep_drop off hr) (by simp [List.getElem?_drop, hlt])
theorem fld_does {s : TypeId} {fs : Array Field} {g : Field} {f n : Nat} {x : V} {v : Value} (hu : P.underlying s = some (.struct fs)) (hf : fs[f]? = some g) (hn : sizeT P g.type = some n) (ht : tyOk P g.type n = true) (hC : HRep C)
    (hv : VRep C.R x v) (hk : fldK g.offset n (isAggT P g.type) x C.H K) : Does P (Instr.field s v f) C K := by
  unfold fldK at hk
  split at hk
  · rename_i cs
    simp only [VRep] at hv
    obtain ⟨ds, rfl, hr⟩ := hv
    obtain ⟨u, h1, h2⟩ := part_run (C := C) (w := C.w) hn ht hr hk.1
    refine Does.pure hC ?_ h2 hk.2
    simp [Instr.field, run_underlying' hu, hf, asAgg, h1]
  · exact hk.elim
theorem ixa_does {t e : TypeId} {len n : Nat} {x i : V} {v u : Value} (hu : P.underlying t = some (.array len e)) (hn : sizeT P e = some n) (ht : tyOk P e n = true) (hC : HRep C) (hv : VRep C.R x v) (hi : VRep C.R i u)
    (hk : ixaK len n (isAggT P e) x i C.H K) : Does P (Instr.index t v u) C K := by
  unfold ixaK at hk
  split at hk
  · rename_i cs q j
    rw [VRep_int] at hi
    subst hi
    simp only [VRep] at hv
    obtain ⟨ds, rfl, hr⟩ := hv
    obtain ⟨⟨h0, h1, h2⟩, hk⟩ := hk
    have hfit : j.toNat * n + n ≤ cs.length := by
      have : (j.toNat + 1) * n ≤ len * n := Nat.mul_le_mul_right n (by omega)
      rw [Nat.add_mul, Nat.one_mul] at this
      omega
    obtain ⟨z, k1, k2⟩ := part_run (C := C) (w := C.w) hn ht hr hfit
    refine Does.pure hC ?_ k2 hk
    simp [Instr.index, asIntOf, run_underlying' hu, h0, h1, run_sizeOf hn, k1]
  · exact hk.elim
theorem ixs_does {t : TypeId} {x i : V} {v u : Value} (hu : P.underlying t = some .string) (hC : HRep C) (hv : VRep C.R x v) (hi : VRep C.R i u) (hk : ixsK x i C.H K) : Does P (Instr.index t v u) C K := by
  unfold ixsK at hk
  split at hk
  · rename_i s q j
    rw [VRep_int] at hi
    rw [VRep_str] at hv
    subst hi hv
    obtain ⟨⟨h0, h1⟩, hk⟩ := hk
    have hlt : j.toNat < s.length := by omega
    refine Does.pure hC (v := .int .u8 (octet s j.toNat)) ?_ (by simp [VRep]) hk
    have hb : (⟨s.toArray⟩ : ByteArray)[j.toNat]? = some s[j.toNat] := by
      have hsz : j.toNat < (⟨s.toArray⟩ : ByteArray).size := by simpa [ByteArray.size] using hlt
      rw [getElem?_pos (⟨s.toArray⟩ : ByteArray) j.toNat hsz]
      rfl
    simp [Instr.index, asIntOf, run_underlying' hu, h0, hb, octet, hlt]
  · exact hk.elim
theorem ext_does {i : Nat} {x : V} {v : Value} (hC : HRep C) (hv : VRep C.R x v) (hk : extK i x C.H K) : Does P (Instr.extract v i) C K := by
  unfold extK at hk
  split at hk
  · rename_i vs
    simp only [VRep] at hv
    obtain ⟨ds, rfl, hr⟩ := hv
    have hl := CRep_length hr
    have hlt : i < ds.length := by omega
    refine Does.pure hC (v := ds[i]) ?_ (CRep_get i _ hr (List.getElem?_eq_getElem hlt)) hk.2
    simp [Instr.extract, hlt]
  · exact hk.elim
end
end Go.Av
