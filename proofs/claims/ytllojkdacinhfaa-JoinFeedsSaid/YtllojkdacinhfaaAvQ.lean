/- A part of a way to reckon what a Go program does without its memory (AvQ). -/
import Derived.Test.YtllojkdacinhfaaAvP
namespace Go.Av
open Go Go.RowKit
set_option autoImplicit false
set_option linter.all false
section
variable {P : Program} {C : Ctx} {K : KV}
/-- A number more, of which there is no block yet. -/
def Ctx.more (C : Ctx) (e : Entry) : Ctx := ⟨C.w, fun g => if g = C.H.length then none else C.β g, C.H ++ [e], C.F⟩
section more
variable {e : Entry}
theorem more_get_new : (C.more e).H[C.H.length]? = some e := by simp [Ctx.more]
theorem more_beta_new : (C.more e).β C.H.length = none := by simp [Ctx.more]
theorem more_beta_old {g : Nat} (h : g < C.H.length) : (C.more e).β g = C.β g := by simp only [Ctx.more]; rw [if_neg (by omega)]
theorem more_cases {g : Nat} {e' : Entry} (h : (C.more e).H[g]? = some e') : (g < C.H.length ∧ C.H[g]? = some e') ∨ (g = C.H.length ∧ e' = e) := push_cases (C := C) (o := .map #[] 0) (c := 0) h
theorem more_own {b : Nat} (h : (C.more e).own b) : C.own b := by
  obtain ⟨g, e', c', h1, h2, h3⟩ := h
  rcases more_cases h1 with ⟨k1, k2⟩ | ⟨rfl, rfl⟩
  · rw [more_beta_old k1] at h3
    exact ⟨g, e', c', k2, h2, h3⟩
  · rw [more_beta_new] at h3
    cases h3
theorem more_tr : Tr C (C.more e) :=
  ⟨rfl, rfl, rfl, Nat.le_refl _, rfl, fun b hb hn => ⟨rfl, fun k => hn (more_own k)⟩, fun g s hs => by
    have hg : g < C.H.length := by
      rcases Nat.lt_or_ge g C.H.length with h | h
      · exact h
      · simp [Ctx.sh, List.getElem?_eq_none h] at hs
    refine ⟨s, ?_, ?_⟩
    · have : (C.more e).H[g]? = C.H[g]? := List.getElem?_append_left hg
      simp only [Ctx.sh, this]; exact hs
    · rw [more_beta_old hg]; exact STr.refl _ _⟩
theorem more_rep (h : HRep C) (he : EntRep (C.more e) C.H.length e) : HRep (C.more e) := by
  refine ⟨fun g e' hg => ?_, ?_, fun b hb => h.nF b (more_own hb), h.ltF⟩
  · rcases more_cases hg with ⟨k1, k2⟩ | ⟨rfl, rfl⟩
    · exact (h.ent g e' k2).keep more_tr (more_beta_old k1) (fun _ _ _ _ => rfl)
    · exact he
  · intro g g' e1 e2 b c1 c2 h1 h2 o1 o2 b1 b2
    rcases more_cases h1 with ⟨k1, k2⟩ | ⟨rfl, rfl⟩
    · rw [more_beta_old k1] at b1
      rcases more_cases h2 with ⟨m1, m2⟩ | ⟨rfl, rfl⟩
      · rw [more_beta_old m1] at b2
        exact h.inj g g' e1 e2 b c1 c2 k2 m2 o1 o2 b1 b2
      · rw [more_beta_new] at b2; cases b2
    · rw [more_beta_new] at b1; cases b1
end more
/-- An append that makes a row anew. -/
theorem appN_does {t t2 ty el : TypeId} {i : TypeInfo} {z : Value} {xs : List V} {r : Option (List V)} {v x : Value} (hu : P.underlying t = some (.slice el)) (hi : P.info? el = some i) (hz : i.zero = some z) (hzs : z.cells.size = i.size) (hsz : 0 < i.size)
    (h2 : ∃ d, P.underlying t2 = some d ∧ ∀ k, d ≠ .int k) (hC : HRep C)
    (hv : (xs = [] ∧ ∃ a, v = .slice a 0 0) ∨ ∃ b o cells, v = .slice (some ⟨b, o, none⟩) xs.length xs.length ∧ cellsAt C.w b o cells ∧ ERep C.R.deep i.size xs cells)
    (hx : ∀ ys, r = some ys → (ys = [] ∧ ∀ a l c, l ≤ c → (Builtin.append_ #[t, t2] ty #[.slice a l c, x]).run P C.w = .ok (.slice a l c) C.w) ∨ (∃ news, ys ≠ [] ∧ Src P C.w i.size x ys.length news ∧ ERep C.R.deep i.size ys news))
    (hk : appN el i.size i.bytes xs r C.H K) : Does P (Builtin.append_ #[t, t2] ty #[v, x]) C K := by
  cases r with
  | none => exact hk.elim
  | some ys =>
  obtain ⟨⟨hne, hb, h63⟩, hk⟩ := hk
  rcases hx ys rfl with ⟨rfl, hnone⟩ | ⟨news, hyne, hsrc, hrep⟩
  · have hxs : xs = [] := by
      rcases Classical.em (xs = []) with h | h
      · exact h
      · exact absurd rfl (hne h)
    subst hxs
    have hva : ∃ a, v = .slice a 0 0 := by
      rcases hv with ⟨_, a, rfl⟩ | ⟨b, o, cells, rfl, _, _⟩
      · exact ⟨a, rfl⟩
      · exact ⟨_, rfl⟩
    obtain ⟨a, rfl⟩ := hva
    have hm : HRep (C.more (.row el i.size [])) := more_rep hC (.inl ⟨more_beta_new, rfl⟩)
    refine ⟨C.more (.row el i.size []), .own C.H.length 0, .slice a 0 0, hnone a 0 0 (Nat.le_refl _), more_tr, hm, ?_, hk⟩
    simp only [VRep, Ctx.R, sh_of more_get_new, Entry.shp]
    exact ⟨rfl, Nat.le_refl _, fun _ => .inl ⟨more_beta_new, a, rfl⟩⟩
  · have hnl := ERep_length hrep
    have go : ∀ (a : Option Addr) (cells : List Value), (∀ w', w'.heap = C.w.heap → (Builtin.firstCells i.size xs.length (.slice a xs.length xs.length)).run P w' = .ok cells.toArray w') → ERep C.R.deep i.size xs cells → v = .slice a xs.length xs.length →
        Does P (Builtin.append_ #[t, t2] ty #[v, x]) C K := by
      intro a cells hfc hr hve
      subst hve
      have hcl := ERep_length hr
      have hnew := ERep_append hr hrep
      have hcap : xs.length < xs.length + ys.length := by have := List.length_pos_iff.2 hyne; omega
      have hrun := append_grow' (ty := ty) hu hi hz h2 hsrc (a := a) (len := xs.length) (cap := xs.length) hfc hcap (by omega) (growslice_fits hcap hb)
      have hge := grownCap_ge C.w (xs.length + ys.length) xs.length el
      have hmx : grownCap C.w (xs.length + ys.length) xs.length el ≤ maxLen := grownCap_le_maxLen _ _ _ _ (by simp only [maxLen]; omega)
      have hD : HRep C.drew := drew_rep hC
      have hpr := app_new (C' := C.drew) (E := el) (n := i.size) (zs := xs ++ ys) (cells := cells ++ news) (z := z) (cap := grownCap C.w (xs.length + ys.length) xs.length el) hD hzs (ERep_tr (drew_tr C).R.deep _ _ _ hnew) (by simpa using hge) hmx
      rw [List.length_append] at hpr
      refine ⟨_, .own C.H.length (xs ++ ys).length, _, hrun, (drew_tr C).trans push_tr, hpr, ?_, hk⟩
      rw [List.length_append]
      exact own_rep_new (push_get_new (C := C.drew)) (push_beta_new (C := C.drew)) (by simp)
    rcases hv with ⟨rfl, a, rfl⟩ | ⟨b, o, cells, rfl, hc, hr⟩
    · refine go a [] (fun w' _ => ?_) (by simp [ERep]) rfl
      cases a <;> simp [Builtin.firstCells, loadCells, loadCellsFrom]
    · refine go _ cells (fun w' hw => ?_) hr rfl
      refine run_firstCells_some (P := P) w' i.size xs.length _ xs.length xs.length cells (ERep_length hr) (cellsAt_add ?_)
      intro k u hku
      exact (World.cell?_of_block (w := C.w) (by rw [hw])).trans (hc k u hku)
theorem appK_does {t t2 ty el : TypeId} {i : TypeInfo} {z : Value} {x0 : V} {r : Option (List V)} {v x : Value} (hu : P.underlying t = some (.slice el)) (hi : P.info? el = some i) (hz : i.zero = some z) (hzs : z.cells.size = i.size) (hsz : 0 < i.size)
    (h2 : ∃ d, P.underlying t2 = some d ∧ ∀ k, d ≠ .int k) (hC : HRep C) (hv : VRep C.R x0 v)
    (hx : ∀ ys, r = some ys → (ys = [] ∧ ∀ a l c, l ≤ c → (Builtin.append_ #[t, t2] ty #[.slice a l c, x]).run P C.w = .ok (.slice a l c) C.w) ∨ (∃ news, ys ≠ [] ∧ Src P C.w i.size x ys.length news ∧ ERep C.R.deep i.size ys news))
    (hk : appK el i.size i.bytes x0 r C.H K) : Does P (Builtin.append_ #[t, t2] ty #[v, x]) C K := by
  unfold appK at hk
  split at hk
  · exact appH_does hu hi hz hzs hsz h2 hC hv hx hk
  · simp only [VRep] at hv
    subst hv
    exact appN_does hu hi hz hzs hsz h2 hC (.inl ⟨rfl, none, rfl⟩) hx hk
  · obtain ⟨rfl, hk⟩ := hk
    simp only [VRep] at hv
    refine appN_does hu hi hz hzs hsz h2 hC ?_ hx hk
    rcases hv with hv | ⟨b, o, cells, rfl, _, _, h4, h5⟩
    · exact .inl hv
    · exact .inr ⟨b, o, cells, rfl, h4, h5⟩
  · exact hk.elim
theorem app_does {t ty el : TypeId} {i : TypeInfo} {z : Value} {x y : V} {v u : Value} (hu : P.underlying t = some (.slice el)) (hi : P.info? el = some i) (hz : i.zero = some z) (hzs : z.cells.size = i.size) (hsz : 0 < i.size)
    (hC : HRep C) (hv : VRep C.R x v) (hw : VRep C.R y u) (hk : appK el i.size i.bytes x (listOf i.size C.H y) C.H K) : Does P (Builtin.append_ #[t, t] ty #[v, u]) C K := by
  refine appK_does hu hi hz hzs hsz ⟨_, hu, fun k h => by cases h⟩ hC hv (fun ys hys => ?_) hk
  rcases list_src hC hw hys with ⟨rfl, a, c, rfl⟩ | ⟨b, o, c, cells, rfl, hc, hr⟩
  · exact .inl ⟨rfl, fun a' l c' hl => append_none hu hi a' a l c' c hl⟩
  · by_cases hy : ys = []
    · subst hy
      exact .inl ⟨rfl, fun a' l c' hl => append_none hu hi a' _ l c' c hl⟩
    · exact .inr ⟨cells, hy, Src.slice hc (ERep_length hr), hr⟩
theorem u8_rep {R : Rd} : ∀ s : List UInt8, ERep R 1 (s.map u8V) (s.map fun b => Value.int .u8 (b.toNat : Int))
  | [] => by simp [ERep]
  | b :: s => by
    simp only [List.map_cons, ERep]
    exact ⟨.int .u8 b.toNat, _, rfl, rfl, ⟨by simp [u8V], by simp [Value.cells, Value.oneCell']⟩, by simp [u8V, VRep], u8_rep s⟩
theorem apps_does {t t2 ty el : TypeId} {i : TypeInfo} {z : Value} {x y : V} {v u : Value} (hu : P.underlying t = some (.slice el)) (hu2 : P.underlying t2 = some .string) (hi : P.info? el = some i) (hz : i.zero = some z) (hzs : z.cells.size = i.size) (hsz : i.size = 1)
    (hC : HRep C) (hv : VRep C.R x v) (hw : VRep C.R y u) (hk : appK el 1 i.bytes x (strEls y) C.H K) : Does P (Builtin.append_ #[t, t2] ty #[v, u]) C K := by
  rw [← hsz] at hk
  have hw2 := hw
  refine appK_does hu hi hz hzs (by omega) ⟨_, hu2, fun k h => by cases h⟩ hC hv (fun ys hys => ?_) hk
  unfold strEls at hys
  split at hys
  · rename_i s
    cases hys
    rw [VRep_str] at hw2
    subst hw2
    rw [hsz]
    by_cases hy : s = []
    · subst hy
      refine .inl ⟨rfl, fun a l c hl => ?_⟩
      cases a <;> simp [Builtin.append_, run_underlying' hu, run_underlying' hu2, sizeOf, typeInfo, hi, Builtin.lenOf, ByteArray.size, hl, Builtin.firstCells, storeCells]
    · refine .inr ⟨s.map fun b => Value.int .u8 (b.toNat : Int), by simpa using hy, ?_, ?_⟩
      · simpa using Src.string (P := P) (w := C.w) s
      · exact u8_rep s
  · cases hys
end
end Go.Av
