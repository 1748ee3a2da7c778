/- A part of a way to reckon what a Go program does without its memory (AvT). -/
import Derived.Test.YtllojkdacinhfaaAvR
namespace Go.Av
open Go Go.RowKit
set_option autoImplicit false
set_option linter.all false
section
variable {P : Program} {C : Ctx} {K : KV}
theorem MRep_length {R : Rd} : ∀ {kvs : List (V × V)} {es : List MapEntry}, MRep R kvs es → kvs.length = es.length
  | [], es, h => by simp only [MRep] at h; subst h; rfl
  | (k, x) :: l, es, h => by
    obtain ⟨e, r, rfl, _, _, h3⟩ := h
    simp [MRep_length h3]
/-- What a kind of a thing that has a length is. -/
def lenOk : Nat → Option TypeDesc → Bool
  | 0, some .string | 1, some (.slice _) | 2, some (.map _ _) => true
  | _, _ => false
theorem len_does {kind : Nat} {t ty : TypeId} {x : V} {v : Value} (ht : lenOk kind (P.underlying t) = true) (hC : HRep C) (hv : VRep C.R x v) (hk : lenK kind x C.H K) : Does P (Builtin.len_ #[t] ty #[v]) C K := by
  have hstr : kind = 0 → (underlying t).run P C.w = .ok .string C.w := by
    intro h; subst h; unfold lenOk at ht; split at ht <;> simp_all; exact run_underlying' (by assumption)
  have hsl : kind = 1 → ∃ e, (underlying t).run P C.w = .ok (.slice e) C.w := by
    intro h; subst h; unfold lenOk at ht; split at ht <;> simp_all; exact ⟨_, run_underlying' (by assumption)⟩
  have hmp : kind = 2 → ∃ e f, (underlying t).run P C.w = .ok (.map e f) C.w := by
    intro h; subst h; unfold lenOk at ht; split at ht <;> simp_all; exact ⟨_, _, run_underlying' (by assumption)⟩
  unfold lenK at hk
  split at hk
  · rename_i s
    rw [VRep_str] at hv; subst hv
    have hsz : (⟨s.toArray⟩ : ByteArray).size = s.length := rfl
    exact Does.pure hC (by simp [Builtin.len_, hstr rfl, goInt, hsz]) (VRep_int.2 rfl) hk
  · obtain ⟨e, he⟩ := hsl rfl
    simp only [VRep] at hv
    rcases hv with ⟨rfl, a, c, rfl⟩ | ⟨b, o, c, cells, rfl, _⟩ <;> exact Does.pure hC (by simp [Builtin.len_, he, goInt]) (VRep_int.2 rfl) hk
  · obtain ⟨e, he⟩ := hsl rfl
    simp only [VRep] at hv
    rcases hv with ⟨rfl, a, rfl⟩ | ⟨b, o, cells, rfl, _⟩ <;> exact Does.pure hC (by simp [Builtin.len_, he, goInt]) (VRep_int.2 rfl) hk
  · obtain ⟨e, he⟩ := hsl rfl
    simp only [VRep] at hv
    subst hv
    exact Does.pure hC (by simp [Builtin.len_, he, goInt]) (VRep_int.2 rfl) hk
  · rename_i g n
    obtain ⟨e, he⟩ := hsl rfl
    obtain ⟨en, m, xs, h1, h2, h3, hk, _⟩ := isRow_at hk
    rcases own_at hv h1 h2 h3 with ⟨hb, a, rfl⟩ | ⟨b, c, hb, rfl⟩
    · have h0 : n = 0 := by
        rcases Nat.eq_zero_or_pos n with h | h
        · exact h
        · exact (row_none hC h1 h2 hb (by omega)).elim
      subst h0
      exact Does.pure hC (by simp [Builtin.len_, he, goInt]) (VRep_int.2 rfl) hk
    · exact Does.pure hC (by simp [Builtin.len_, he, goInt]) (VRep_int.2 rfl) hk
  · obtain ⟨e, f, he⟩ := hmp rfl
    simp only [VRep] at hv
    subst hv
    exact Does.pure hC (by simp [Builtin.len_, he, goInt]) (VRep_int.2 rfl) hk
  · obtain ⟨e, f, he⟩ := hmp rfl
    rename_i j
    unfold lenH at hk
    split at hk
    · rename_i kvs h1
      obtain ⟨b, c, hb, rfl⟩ := map_at hv h1 rfl
      obtain ⟨b', c', es, clock, k1, k2, k3⟩ := hC.ent j _ h1
      rw [hb] at k1
      obtain ⟨rfl, rfl⟩ : b = b' ∧ c = c' := by simpa using k1
      have hl := MRep_length k3
      refine Does.pure hC ?_ (VRep_int.2 rfl) hk
      have hg : (getObj b).run P C.w = .ok (.map es clock) C.w := by simp [getObj, Sem.run, k2]
      simp [Builtin.len_, he, hg, goInt, hl]
    · exact hk.elim
  · exact hk.elim
theorem sls_does {t : TypeId} {x : V} {lo hi : Option V} {v : Value} {lv uv : Option Value} (hu : P.underlying t = some .string) (hC : HRep C) (hv : VRep C.R x v) (hlo : OptRep C.R lo lv) (hhi : OptRep C.R hi uv) (hk : slsK x lo hi C.H K) :
    Does P (Instr.sliceAt t v lv uv none) C K := by
  unfold slsK at hk
  split at hk
  · rename_i s
    split at hk
    · rename_i L Hh hL hH
      obtain ⟨⟨h0, h1, h2⟩, hk⟩ := hk
      rw [VRep_str] at hv
      subst hv
      have hsz : (⟨s.toArray⟩ : ByteArray).size = s.length := by simp [ByteArray.size]
      have hb := bounds_run (P := P) (isS := false) (len := s.length) (cap := s.length) (mv := none) (w := C.w) (lo_run hlo hL) (hi_run hhi hH) h0 h1 h2
      refine Does.pure hC (v := .string ⟨((s.take Hh.toNat).drop L.toNat).toArray⟩) ?_ (VRep_str.2 rfl) hk
      have : (⟨s.toArray⟩ : ByteArray).extract L.toNat Hh.toNat = ⟨((s.take Hh.toNat).drop L.toNat).toArray⟩ := by
        rw [ByteArray.extract_mk, List.drop_take]
      simp [Instr.sliceAt, Instr.slice, run_underlying' hu, hsz, hb, this]
    · exact hk.elim
  · exact hk.elim
theorem u8_cells {R : Rd} : ∀ {xs : List V} {cells : List Value}, ERep R 1 xs cells → allU8 xs = true → ∃ ns : List Int, cells = ns.map (Value.int .u8) ∧ xs.map u8Of = ns.map fun n => UInt8.ofNat n.toNat
  | [], cells, h, _ => by simp only [ERep] at h; subst h; exact ⟨[], rfl, rfl⟩
  | x :: xs, cells, h, ha => by
    simp only [allU8, Bool.and_eq_true] at ha
    simp only [ERep] at h
    obtain ⟨v, r, rfl, h1, hj, h2, h3⟩ := h
    obtain ⟨ns, k1, k2⟩ := u8_cells h3 ha.2
    have hx := ha.1
    unfold isU8 at hx
    split at hx
    · rename_i n
      rw [VRep_int] at h2
      subst h2
      exact ⟨n :: ns, by simp [Value.cells, k1], by simp [u8Of, k2]⟩
    · cases hx
theorem push_all (ns : List Int) : ∀ s : List UInt8, ns.foldl (fun (r : ByteArray) n => r.push (UInt8.ofNat n.toNat)) ⟨s.toArray⟩ = ⟨(s ++ ns.map fun n => UInt8.ofNat n.toNat).toArray⟩ := by
  induction ns with
  | nil => intro s; simp
  | cons n ns ih =>
    intro s
    simp only [List.foldl_cons, List.map_cons]
    have : (ByteArray.push ⟨s.toArray⟩ (UInt8.ofNat n.toNat)) = ⟨(s ++ [UInt8.ofNat n.toNat]).toArray⟩ := by
      simp [ByteArray.push]
    rw [this, ih]
    simp
theorem b2s_does {s t e : TypeId} {x : V} {v : Value} (hs : P.underlying s = some (.slice e)) (he : P.underlying e = some (.int .u8)) (ht : P.underlying t = some .string) (hC : HRep C) (hv : VRep C.R x v) (hk : b2sK (listOf 1 C.H x) C.H K) : Does P (convert s t v) C K := by
  unfold b2sK at hk
  split at hk
  · rename_i xs hx
    rcases list_src hC hv hx with ⟨rfl, a, c, rfl⟩ | ⟨b, o, c, cells, rfl, hc, hr⟩
    · refine Does.pure hC (v := .string ByteArray.empty) ?_ (by rw [List.map_nil, VRep_str]; rfl) hk.2
      rw [run_convert_bytes_string C.w s t e a 0 c hs he ht]
      cases a with
      | none => simp [Conv.bytesToString]
      | some a => exact run_bytesToString (P := P) C.w a 0 c [] (by simp [loadCells, loadCellsFrom])
    · obtain ⟨ns, h1, h2⟩ := u8_cells hr hk.1
      refine Does.pure hC (v := .string ⟨(xs.map u8Of).toArray⟩) ?_ (VRep_str.2 rfl) hk.2
      rw [run_convert_bytes_string C.w s t e _ _ c hs he ht]
      have hl := run_loadCells_list (P := P) C.w ⟨b, o, none⟩ cells (cellsAt_add hc)
      have hlen : cells.length = xs.length := by simpa using ERep_length hr
      rw [hlen] at hl
      have := run_bytesToString (P := P) C.w ⟨b, o, none⟩ xs.length c ns (by rw [hl, h1])
      rw [this, h2]
      have h3 := push_all ns []
      simp only [List.nil_append] at h3
      rw [← h3]
      rfl
  · exact hk.elim
end
end Go.Av
