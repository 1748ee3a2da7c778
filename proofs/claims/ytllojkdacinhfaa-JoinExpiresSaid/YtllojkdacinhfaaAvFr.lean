/- A part of a way to reckon what a Go program does without its memory (AvFr). -/
import Derived.Test.YtllojkdacinhfaaAvRen
namespace Go.Av
open Go Go.RowKit
set_option autoImplicit false
set_option linter.all false
section
variable {P : Program}
/-- What the callee calls its numbers, the caller calls so. -/
def rho (ps : List Nat) (g : Nat) : Nat := ps.getD g 0
def setAll : List Entry → List Nat → List Entry → List Entry
  | H, g :: gs, e :: es => setAll (H.set g e) gs es
  | H, _, _ => H
theorem setAll_length : ∀ (H : List Entry) (gs : List Nat) (es : List Entry), (setAll H gs es).length = H.length
  | H, [], es => by simp [setAll]
  | H, _ :: _, [] => by simp [setAll]
  | H, g :: gs, e :: es => by simp [setAll, setAll_length (H.set g e) gs es]
theorem setAll_out : ∀ (H : List Entry) (gs : List Nat) (es : List Entry) (g : Nat), g ∉ gs → (setAll H gs es)[g]? = H[g]?
  | H, [], es, g, _ => by simp [setAll]
  | H, _ :: _, [], g, _ => by simp [setAll]
  | H, a :: gs, e :: es, g, h => by
    simp only [List.mem_cons, not_or] at h
    rw [setAll, setAll_out _ gs es g h.2, List.getElem?_set_ne (Ne.symm h.1)]
theorem setAll_in : ∀ (H : List Entry) (gs : List Nat) (es : List Entry) (i g : Nat), gs.Nodup → gs[i]? = some g → g < H.length → gs.length ≤ es.length → (setAll H gs es)[g]? = es[i]?
  | H, [], es, i, g, _, h, _, _ => by simp at h
  | H, _ :: _, [], i, g, _, h, _, hl => by simp at hl
  | H, a :: gs, e :: es, 0, g, hn, h, hg, hl => by
    simp at h; subst h
    rw [setAll, setAll_out _ gs es _ (List.nodup_cons.1 hn).1, List.getElem?_set_self hg]
    rfl
  | H, a :: gs, e :: es, i + 1, g, hn, h, hg, hl => by
    rw [setAll, setAll_in _ gs es i g (List.nodup_cons.1 hn).2 (by simpa using h) (by simpa using hg) (by simpa using hl)]
    simp
theorem nodup_get {gs : List Nat} (hn : gs.Nodup) {i j g : Nat} (h1 : gs[i]? = some g) (h2 : gs[j]? = some g) : i = j := by
  have hi := (List.getElem?_eq_some_iff.1 h1).1
  exact (List.getElem?_inj hi hn).1 (h1.trans h2.symm)
section sub
variable {C : Ctx} {gs : List Nat} {Hs : List Entry}
def Ctx.sub (C : Ctx) (gs : List Nat) (Hs : List Entry) : Ctx :=
  ⟨C.w, fun i => C.β (gs.getD i 0), Hs, fun b => C.av b ∧ ¬ ∃ i e c, Hs[i]? = some e ∧ e.owned = true ∧ C.β (gs.getD i 0) = some (b, c)⟩
/-- The callee's numbers are told. -/
structure Fits (C : Ctx) (gs : List Nat) (Hs : List Entry) : Prop where
  nd : gs.Nodup
  len : Hs.length = gs.length
  ent : ∀ (i : Nat) (e : Entry), Hs[i]? = some e → ∃ g, gs[i]? = some g ∧ C.H[g]? = some (renE (rho gs) e) ∧ idsLtE gs.length e = true
variable (hf : Fits C gs Hs) (hC : HRep C)
include hf
theorem Fits.get {i : Nat} {e : Entry} (h : Hs[i]? = some e) : gs[i]? = some (gs.getD i 0) ∧ C.H[gs.getD i 0]? = some (renE (rho gs) e) ∧ idsLtE gs.length e = true := by
  obtain ⟨g, h1, h2, h3⟩ := hf.ent i e h
  have : gs.getD i 0 = g := by simp [h1]
  rw [this]; exact ⟨h1, h2, h3⟩
theorem sub_own {b : Nat} (h : (C.sub gs Hs).own b) : C.own b := by
  obtain ⟨i, e, c, h1, h2, h3⟩ := h
  obtain ⟨k1, k2, k3⟩ := hf.get h1
  exact ⟨_, _, c, k2, by rw [renE_owned]; exact h2, h3⟩
omit hf in
theorem sub_own_iff {b : Nat} : (C.sub gs Hs).own b ↔ ∃ i e c, Hs[i]? = some e ∧ e.owned = true ∧ C.β (gs.getD i 0) = some (b, c) := Iff.rfl
theorem sub_av {b : Nat} : (C.sub gs Hs).av b ↔ C.av b := by
  constructor
  · rintro (h | h)
    · exact .inl (sub_own hf h)
    · exact h.1
  · intro h
    by_cases ho : (C.sub gs Hs).own b
    · exact .inl ho
    · exact .inr ⟨h, ho⟩
theorem sub_deep : RTr C.R.deep (C.sub gs Hs).R.deep :=
  ⟨Nat.le_refl _, fun b _ hn => ⟨rfl, fun h => hn ((sub_av hf).1 h)⟩, fun g s h => by cases h⟩
theorem sub_unren : Unren (C.sub gs Hs).R C.R (rho gs) gs.length := by
  refine ⟨sub_deep hf, fun g hg => ?_⟩
  have hH : Hs[g]? = some (Hs[g]'(by rw [hf.len]; exact hg)) := List.getElem?_eq_getElem _
  obtain ⟨k1, k2, k3⟩ := hf.get hH
  have hr : rho gs g = gs.getD g 0 := rfl
  rw [hr]
  refine ⟨?_, rfl⟩
  simp only [Ctx.R, Ctx.sh, Ctx.sub, hH, k2, Option.map_some, renE_shp]
include hC
theorem sub_rep : HRep (C.sub gs Hs) := by
  refine ⟨fun i e hi => ?_, ?_, fun b h hF => hF.2 h, fun b hb => ?_⟩
  · obtain ⟨k1, k2, k3⟩ := hf.get hi
    have h0 := hC.ent _ _ k2
    have hu := sub_unren hf
    have hd := sub_deep hf
    cases e with
    | box cs =>
      obtain ⟨b, c, cur, E, h1, h2, h3⟩ := h0
      exact ⟨b, c, cur, E, h1, h2, CRep_unren hu _ _ k3 h3⟩
    | ibox cs =>
      obtain ⟨b, c, cells, h1, h2, h3, h4, h5⟩ := h0
      exact ⟨b, c, cells, h1, fun k => h2 ((sub_av hf).1 k), h3, h4, CRep_tr hd _ _ h5⟩
    | row E n xs =>
      rcases h0 with h0 | ⟨b, cap, cur, cells, h1, h2, h3, h4, h5, h6, h7⟩
      · exact .inl h0
      · exact .inr ⟨b, cap, cur, cells, h1, h2, h3, h4, h5, h6, ERep_tr hd _ _ _ h7⟩
    | irow n xs =>
      rcases h0 with h0 | ⟨b, cap, cells, h1, h2, h3, h4, h5, h6⟩
      · exact .inl h0
      · exact .inr ⟨b, cap, cells, h1, fun k => h2 ((sub_av hf).1 k), h3, h4, h5, ERep_tr hd _ _ _ h6⟩
    | map kvs =>
      obtain ⟨b, c, es, clock, h1, h2, h3⟩ := h0
      exact ⟨b, c, es, clock, h1, h2, MRep_unren hu _ _ k3 h3⟩
    | siter s pos => exact h0
    | resv => trivial
    | gone => trivial
  · intro i j e e' b c c' h1 h2 o1 o2 b1 b2
    obtain ⟨k1, k2, _⟩ := hf.get h1
    obtain ⟨m1, m2, _⟩ := hf.get h2
    have := hC.inj _ _ _ _ b c c' k2 m2 (by rw [renE_owned]; exact o1) (by rw [renE_owned]; exact o2) b1 b2
    rw [this] at k1
    exact nodup_get hf.nd k1 m1
  · rcases hb.1 with h | h
    · exact own_lt hC h
    · exact hC.ltF b h
end sub
section join
variable {C C1 : Ctx} {gs ps : List Nat} {Hs : List Entry}
/-- The caller, when the callee has come back: what is new stands where it was kept free. -/
def Ctx.join (C : Ctx) (ps : List Nat) (C1 : Ctx) : Ctx :=
  ⟨C1.w, fun g => match ps.idxOf? g with | some i => C1.β i | none => C.β g, setAll C.H ps (C1.H.map (renE (rho ps))), C.F⟩
/-- Where what is new is to stand. -/
structure Place (C : Ctx) (gs ps : List Nat) (C1 : Ctx) : Prop where
  nd : ps.Nodup
  len : ps.length = C1.H.length
  old : ∀ (i g : Nat), gs[i]? = some g → ps[i]? = some g
  new : ∀ (i g : Nat), ps[i]? = some g → gs.length ≤ i → C.H[g]? = some .resv
variable (hf : Fits C gs Hs) (hC : HRep C) (ht : Tr (C.sub gs Hs) C1) (h1 : HRep C1) (hp : Place C gs ps C1)
include hf in
theorem gs_lt {i g : Nat} (h : gs[i]? = some g) : g < C.H.length := by
  have hi : i < gs.length := (List.getElem?_eq_some_iff.1 h).1
  have hH : Hs[i]? = some (Hs[i]'(by rw [hf.len]; exact hi)) := List.getElem?_eq_getElem _
  obtain ⟨g', k1, k2, _⟩ := hf.ent i _ hH
  rw [h] at k1; cases k1
  exact (List.getElem?_eq_some_iff.1 k2).1
include hf hp
theorem ps_lt {i g : Nat} (h : ps[i]? = some g) : g < C.H.length := by
  rcases Nat.lt_or_ge i gs.length with hi | hi
  · have h2 : gs[i]? = some gs[i] := List.getElem?_eq_getElem hi
    have := hp.old i _ h2
    rw [h] at this; cases this
    exact gs_lt hf h2
  · exact (List.getElem?_eq_some_iff.1 (hp.new i g h hi)).1
omit hf in
theorem ps_get {j : Nat} (hj : j < C1.H.length) : ps[j]? = some (rho ps j) := by
  have : j < ps.length := by rw [hp.len]; exact hj
  simp [rho, this]
theorem join_get {j : Nat} {e : Entry} (h : C1.H[j]? = some e) : (C.join ps C1).H[rho ps j]? = some (renE (rho ps) e) := by
  have hj := (List.getElem?_eq_some_iff.1 h).1
  have hg := ps_get hp hj
  simp only [Ctx.join]
  rw [setAll_in C.H ps _ j _ hp.nd hg (ps_lt hf hp hg) (by simp [hp.len]), List.getElem?_map, h]
  rfl
omit hf in
theorem join_beta {j : Nat} (h : j < C1.H.length) : (C.join ps C1).β (rho ps j) = C1.β j := by
  simp only [Ctx.join]
  have hg := ps_get hp h
  have : ps.idxOf? (rho ps j) = some j := by
    rw [List.idxOf?_eq_some_iff]
    refine ⟨by rw [hp.len]; exact h, by simpa using (List.getElem?_eq_some_iff.1 hg).2, fun k hk hk2 => ?_⟩
    have hkl : k < ps.length := by rw [hp.len]; omega
    have hk3 : ps[k]? = some (rho ps j) := by
      rw [List.getElem?_eq_getElem hkl]; simpa using hk2
    have := nodup_get hp.nd hk3 hg
    omega
  rw [this]
omit hf hp in
theorem join_old {g : Nat} (hn : g ∉ ps) : (C.join ps C1).H[g]? = C.H[g]? ∧ (C.join ps C1).β g = C.β g := by
  constructor
  · simp only [Ctx.join]
    rw [setAll_out _ _ _ _ hn]
  · simp only [Ctx.join]
    have : ps.idxOf? g = none := by simpa [List.idxOf?_eq_none_iff] using hn
    rw [this]
omit hf in
theorem gs_ps {g : Nat} (h : g ∉ ps) : g ∉ gs := by
  intro hg
  obtain ⟨j, hj⟩ := List.mem_iff_getElem?.1 hg
  exact h (List.mem_of_getElem? (hp.old j g hj))
theorem join_cases {g : Nat} {e : Entry} (h : (C.join ps C1).H[g]? = some e) : (g ∉ ps ∧ C.H[g]? = some e) ∨ ∃ j e0, C1.H[j]? = some e0 ∧ e = renE (rho ps) e0 ∧ g = rho ps j := by
  by_cases hm : g ∈ ps
  · obtain ⟨j, hj⟩ := List.mem_iff_getElem?.1 hm
    have hjl : j < ps.length := (List.getElem?_eq_some_iff.1 hj).1
    have hj1 : j < C1.H.length := by rw [← hp.len]; exact hjl
    have hr : rho ps j = g := by simp [rho, hj]
    have hH : C1.H[j]? = some C1.H[j] := List.getElem?_eq_getElem hj1
    have := join_get hf hp hH
    rw [hr, h] at this
    cases this
    exact .inr ⟨j, _, hH, rfl, hr.symm⟩
  · rw [(join_old (C1 := C1) hm).1] at h
    exact .inl ⟨hm, h⟩
theorem join_own {b : Nat} (h : (C.join ps C1).own b) : (∃ g e c, g ∉ ps ∧ C.H[g]? = some e ∧ e.owned = true ∧ C.β g = some (b, c)) ∨ C1.own b := by
  obtain ⟨g, e, c, k1, k2, k3⟩ := h
  rcases join_cases hf hp k1 with ⟨m2, m3⟩ | ⟨j, e0, m1, rfl, rfl⟩
  · rw [(join_old (C1 := C1) m2).2] at k3
    exact .inl ⟨g, e, c, m2, m3, k2, k3⟩
  · have hj := (List.getElem?_eq_some_iff.1 m1).1
    rw [join_beta hp hj] at k3
    rw [renE_owned] at k2
    exact .inr ⟨j, e0, c, m1, k2, k3⟩
omit hp in
include hC in
/-- What another of the caller's owns, the callee does not. -/
theorem other_own {g b c : Nat} {e : Entry} (hg : g ∉ gs) (he : C.H[g]? = some e) (ho : e.owned = true) (hb : C.β g = some (b, c)) : ¬ (C.sub gs Hs).own b := by
  rintro ⟨i, e', c', k1, k2, k3⟩
  obtain ⟨m1, m2, _⟩ := hf.get k1
  have := hC.inj g _ _ _ b c c' he m2 ho (by rw [renE_owned]; exact k2) hb k3
  exact hg (by rw [this]; exact List.mem_of_getElem? m1)
include hC ht
theorem join_av {b : Nat} (h : (C.join ps C1).av b) : C1.av b := by
  rcases h with h | h
  · rcases join_own hf hp h with ⟨g, e, c, k2, k3, k4, k5⟩ | h
    · have hn := other_own hf hC (gs_ps hp k2) k3 k4 k5
      exact .inr (by rw [ht.F]; exact ⟨.inl ⟨g, e, c, k3, k4, k5⟩, hn⟩)
    · exact .inl h
  · exact .inr (by
      rw [ht.F]
      exact ⟨.inr h, fun k => hC.nF b (sub_own hf k) h⟩)
theorem join_ren : Ren C1.R (C.join ps C1).R (rho ps) := by
  refine ⟨⟨Nat.le_refl _, fun b _ hn => ⟨rfl, fun k => hn (join_av hf hC ht hp k)⟩, fun g s hs => by cases hs⟩, fun g s hs _ => ?_⟩
  have hg : g < C1.H.length := by
    rcases Nat.lt_or_ge g C1.H.length with h | h
    · exact h
    · simp [Ctx.R, Ctx.sh, List.getElem?_eq_none h] at hs
  have hH : C1.H[g]? = some C1.H[g] := List.getElem?_eq_getElem hg
  simp only [Ctx.R, Ctx.sh, hH, Option.map_some, Option.some.injEq] at hs
  subst hs
  refine ⟨?_, join_beta hp hg⟩
  simp only [Ctx.R, Ctx.sh, join_get hf hp hH, Option.map_some, renE_shp]
theorem join_tr : Tr C (C.join ps C1) := by
  refine ⟨ht.os, ht.tape, ht.output, ht.size, rfl, fun b hb hn => ?_, fun g s hs => ?_⟩
  · have hn0 : ¬ (C.sub gs Hs).own b := fun k => hn (sub_own hf k)
    obtain ⟨k1, k2⟩ := ht.keep b hb hn0
    refine ⟨k1, fun k => ?_⟩
    rcases join_own hf hp k with ⟨g, e, c, m2, m3, m4, m5⟩ | k
    · exact hn ⟨g, e, c, m3, m4, m5⟩
    · exact k2 k
  · by_cases hm : g ∈ ps
    · obtain ⟨j, hj⟩ := List.mem_iff_getElem?.1 hm
      have hjl : j < ps.length := (List.getElem?_eq_some_iff.1 hj).1
      have hr : rho ps j = g := by simp [rho, hj]
      have hj1 : j < C1.H.length := by rw [← hp.len]; exact hjl
      rcases Nat.lt_or_ge j gs.length with hjg | hjg
      · have hgj : gs[j]? = some g := by
          have h2 : gs[j]? = some gs[j] := List.getElem?_eq_getElem hjg
          have := hp.old j _ h2
          rw [hj] at this; cases this
          exact h2
        have hrg : rho gs j = g := by simp [rho, hgj]
        obtain ⟨u1, u2⟩ := (sub_unren hf).id j hjg
        rw [hrg] at u1 u2
        have hs0 : (C.sub gs Hs).sh j = some s := u1.trans hs
        obtain ⟨s', k1, k2⟩ := ht.ids j s hs0
        have hH : C1.H[j]? = some C1.H[j] := List.getElem?_eq_getElem hj1
        have r1 : (C.join ps C1).sh g = some s' := by
          rw [← hr]
          simp only [Ctx.sh, join_get hf hp hH, Option.map_some, renE_shp]
          simpa only [Ctx.sh, hH, Option.map_some] using k1
        refine ⟨s', r1, ?_⟩
        have e1 : C.β g = (C.sub gs Hs).β j := u2.symm
        have e2 : (C.join ps C1).β g = C1.β j := by rw [← hr]; exact join_beta hp hj1
        rw [e1, e2]; exact k2
      · have h0 := hp.new j g hj hjg
        simp only [Ctx.sh, h0, Option.map_some, Option.some.injEq, Entry.shp] at hs
        subst hs
        have hH : C1.H[j]? = some C1.H[j] := List.getElem?_eq_getElem hj1
        refine ⟨C1.H[j].shp, ?_, trivial⟩
        rw [← hr]
        simp only [Ctx.sh, join_get hf hp hH, Option.map_some, renE_shp]
    · obtain ⟨k1, k2⟩ := join_old (C := C) (C1 := C1) hm
      exact ⟨s, by simp only [Ctx.sh, k1]; exact hs, by rw [k2]; exact STr.refl _ _⟩
include h1
theorem join_rep : HRep (C.join ps C1) := by
  have hr := join_ren hf hC ht hp
  refine ⟨fun g e he => ?_, ?_, fun b hb hF => ?_, fun b hb => Nat.lt_of_lt_of_le (hC.ltF b hb) ht.size⟩
  · rcases join_cases hf hp he with ⟨m2, m3⟩ | ⟨j, e0, m1, rfl, rfl⟩
    · refine (hC.ent g e m3).keep (join_tr hf hC ht hp) (join_old (C1 := C1) m2).2 fun ho b c hb => ?_
      have hlt := own_lt hC ⟨g, e, c, m3, ho, hb⟩
      exact (ht.keep b hlt (other_own hf hC (gs_ps hp m2) m3 ho hb)).1
    · have hj := (List.getElem?_eq_some_iff.1 m1).1
      have hb := join_beta (C := C) hp hj
      have h0 := h1.ent j e0 m1
      cases e0 with
      | box cs =>
        obtain ⟨b, c, cur, E, k1, k2, k3⟩ := h0
        exact ⟨b, c, cur, E, hb.trans k1, k2, CRep_ren hr _ _ k3⟩
      | ibox cs =>
        obtain ⟨b, c, cells, k1, k2, k3, k4, k5⟩ := h0
        exact ⟨b, c, cells, hb.trans k1, fun k => k2 (join_av hf hC ht hp k), k3, k4, CRep_tr hr.deep _ _ k5⟩
      | row E n xs =>
        rcases h0 with ⟨k1, k2⟩ | ⟨b, cap, cur, cells, k1, k2, k3, k4, k5, k6, k7⟩
        · exact .inl ⟨hb.trans k1, k2⟩
        · exact .inr ⟨b, cap, cur, cells, hb.trans k1, k2, k3, k4, k5, k6, ERep_tr hr.deep _ _ _ k7⟩
      | irow n xs =>
        rcases h0 with ⟨k1, k2⟩ | ⟨b, cap, cells, k1, k2, k3, k4, k5, k6⟩
        · exact .inl ⟨hb.trans k1, k2⟩
        · exact .inr ⟨b, cap, cells, hb.trans k1, fun k => k2 (join_av hf hC ht hp k), k3, k4, k5, ERep_tr hr.deep _ _ _ k6⟩
      | map kvs =>
        obtain ⟨b, c, es, clock, k1, k2, k3⟩ := h0
        exact ⟨b, c, es, clock, hb.trans k1, k2, MRep_ren hr _ _ k3⟩
      | siter s pos =>
        obtain ⟨b, c, k1, k2⟩ := h0
        exact ⟨b, c, hb.trans k1, k2⟩
      | resv => trivial
      | gone => trivial
  · have mix : ∀ {g j b c c' : Nat} {e e0 : Entry}, g ∉ ps → C.H[g]? = some e → e.owned = true → C.β g = some (b, c) → C1.H[j]? = some e0 → e0.owned = true → C1.β j = some (b, c') → False := by
      intro g j b c c' e e0 m2 m3 o1 b1 k1 o2 b2
      have hlt := own_lt hC ⟨g, e, c, m3, o1, b1⟩
      exact (ht.keep b hlt (other_own hf hC (gs_ps hp m2) m3 o1 b1)).2 ⟨j, e0, c', k1, o2, b2⟩
    intro g g' e e' b c c' g1 g2 o1 o2 b1 b2
    rcases join_cases hf hp g1 with ⟨m2, m3⟩ | ⟨j, e0, m1, rfl, rfl⟩
    · rw [(join_old (C1 := C1) m2).2] at b1
      rcases join_cases hf hp g2 with ⟨n2, n3⟩ | ⟨j', e0', n1, rfl, rfl⟩
      · rw [(join_old (C1 := C1) n2).2] at b2
        exact hC.inj g g' e e' b c c' m3 n3 o1 o2 b1 b2
      · have hj := (List.getElem?_eq_some_iff.1 n1).1
        rw [join_beta hp hj] at b2
        rw [renE_owned] at o2
        exact (mix m2 m3 o1 b1 n1 o2 b2).elim
    · have hj := (List.getElem?_eq_some_iff.1 m1).1
      rw [join_beta hp hj] at b1
      rw [renE_owned] at o1
      rcases join_cases hf hp g2 with ⟨n2, n3⟩ | ⟨j', e0', n1, rfl, rfl⟩
      · rw [(join_old (C1 := C1) n2).2] at b2
        exact (mix n2 n3 o2 b2 m1 o1 b1).elim
      · have hj' := (List.getElem?_eq_some_iff.1 n1).1
        rw [join_beta hp hj'] at b2
        rw [renE_owned] at o2
        rw [h1.inj j j' _ _ b c c' m1 n1 o1 o2 b1 b2]
  · rcases join_own hf hp hb with ⟨g, e, c, k2, k3, k4, k5⟩ | h
    · exact hC.nF b ⟨g, e, c, k3, k4, k5⟩ hF
    · exact h1.nF b h (by
        rw [ht.F]
        exact ⟨.inr hF, fun k => hC.nF b (sub_own hf k) hF⟩)
end join
/-! ### Places that are kept free -/
def Ctx.keep (C : Ctx) (r : Nat) : Ctx := ⟨C.w, C.β, C.H ++ List.replicate r .resv, C.F⟩
section keep
variable {C : Ctx} {r : Nat}
theorem keep_cases {g : Nat} {e : Entry} (h : (C.keep r).H[g]? = some e) : C.H[g]? = some e ∨ (C.H.length ≤ g ∧ e = .resv) := by
  simp only [Ctx.keep] at h
  rcases Nat.lt_or_ge g C.H.length with hg | hg
  · rw [List.getElem?_append_left hg] at h; exact .inl h
  · rw [List.getElem?_append_right hg, List.getElem?_replicate] at h
    split at h
    · cases h; exact .inr ⟨hg, rfl⟩
    · cases h
theorem keep_old {g : Nat} (h : g < C.H.length) : (C.keep r).H[g]? = C.H[g]? := by
  simp only [Ctx.keep]; exact List.getElem?_append_left h
theorem keep_own {b : Nat} : (C.keep r).own b ↔ C.own b := by
  constructor
  · rintro ⟨g, e, c, h1, h2, h3⟩
    rcases keep_cases h1 with h1 | ⟨_, rfl⟩
    · exact ⟨g, e, c, h1, h2, h3⟩
    · cases h2
  · rintro ⟨g, e, c, h1, h2, h3⟩
    exact ⟨g, e, c, by rw [keep_old (List.getElem?_eq_some_iff.1 h1).1]; exact h1, h2, h3⟩
theorem keep_tr : Tr C (C.keep r) :=
  ⟨rfl, rfl, rfl, Nat.le_refl _, rfl, fun b _ hn => ⟨rfl, fun k => hn (keep_own.1 k)⟩, fun g s hs => by
    have hg : g < C.H.length := by
      rcases Nat.lt_or_ge g C.H.length with h | h
      · exact h
      · simp [Ctx.sh, List.getElem?_eq_none h] at hs
    exact ⟨s, by simp only [Ctx.sh, keep_old hg]; exact hs, STr.refl _ _⟩⟩
theorem keep_rep (h : HRep C) : HRep (C.keep r) := by
  refine ⟨fun g e he => ?_, ?_, fun b hb => h.nF b (keep_own.1 hb), h.ltF⟩
  · rcases keep_cases he with he | ⟨_, rfl⟩
    · exact (h.ent g e he).keep keep_tr rfl (fun _ _ _ _ => rfl)
    · trivial
  · intro g g' e e' b c c' h1 h2 o1 o2 b1 b2
    rcases keep_cases h1 with h1 | ⟨_, rfl⟩
    · rcases keep_cases h2 with h2 | ⟨_, rfl⟩
      · exact h.inj g g' e e' b c c' h1 h2 o1 o2 b1 b2
      · cases o2
    · cases o1
theorem keep_sub {gs : List Nat} {Hs : List Entry} : (C.keep r).sub gs Hs = C.sub gs Hs := by
  have : (C.keep r).av = C.av := by
    funext b
    exact propext ⟨fun h => h.imp keep_own.1 id, fun h => h.imp keep_own.2 id⟩
  simp only [Ctx.sub, this]
  rfl
end keep
/-- What is there when a callee has come back. -/
def joinH (H : List Entry) (gs : List Nat) (H1 : List Entry) : List Entry :=
  setAll H gs ((H1.take gs.length).map (renE (rho (gs ++ List.range' H.length (H1.length - gs.length))))) ++ (H1.drop gs.length).map (renE (rho (gs ++ List.range' H.length (H1.length - gs.length))))
theorem setAll_app : ∀ (H : List Entry) (gs qs : List Nat) (es fs : List Entry), gs.length = es.length → setAll H (gs ++ qs) (es ++ fs) = setAll (setAll H gs es) qs fs
  | H, [], qs, [], fs, _ => by simp [setAll]
  | H, [], qs, _ :: _, fs, h => by simp at h
  | H, _ :: _, qs, [], fs, h => by simp at h
  | H, g :: gs, qs, e :: es, fs, h => by
    simp only [List.cons_append, setAll]
    exact setAll_app _ gs qs es fs (by simpa using h)
theorem setAll_left : ∀ (H T : List Entry) (gs : List Nat) (es : List Entry), (∀ g ∈ gs, g < H.length) → setAll (H ++ T) gs es = setAll H gs es ++ T
  | H, T, [], es, _ => by simp [setAll]
  | H, T, _ :: _, [], _ => by simp [setAll]
  | H, T, g :: gs, e :: es, h => by
    simp only [setAll]
    rw [List.set_append_left _ _ (h g (by simp)), setAll_left _ T gs es fun x hx => by rw [List.length_set]; exact h x (by simp [hx])]
theorem setAll_fresh : ∀ (fs : List Entry) (H : List Entry), setAll (H ++ List.replicate fs.length .resv) (List.range' H.length fs.length) fs = H ++ fs
  | [], H => by simp [setAll]
  | f :: fs, H => by
    simp only [List.length_cons, List.replicate_succ, List.range'_succ, setAll]
    have e1 : (H ++ Entry.resv :: List.replicate fs.length Entry.resv).set H.length f = (H ++ [f]) ++ List.replicate fs.length .resv := by
      rw [List.set_append_right _ _ (Nat.le_refl _)]; simp
    rw [e1]
    have := setAll_fresh fs (H ++ [f])
    simp only [List.length_append, List.length_cons, List.length_nil, Nat.zero_add] at this
    rw [this]; simp
theorem joinH_eq {H : List Entry} {gs : List Nat} {H1 : List Entry} (hg : ∀ g ∈ gs, g < H.length) (hl : gs.length ≤ H1.length) :
    setAll (H ++ List.replicate (H1.length - gs.length) .resv) (gs ++ List.range' H.length (H1.length - gs.length)) (H1.map (renE (rho (gs ++ List.range' H.length (H1.length - gs.length))))) = joinH H gs H1 := by
  generalize hρ : rho (gs ++ List.range' H.length (H1.length - gs.length)) = ρ
  have e1 : H1.map (renE ρ) = (H1.take gs.length).map (renE ρ) ++ (H1.drop gs.length).map (renE ρ) := by
    rw [← List.map_append, List.take_append_drop]
  rw [e1, setAll_app _ _ _ _ _ (by simp [hl]), setAll_left _ _ _ _ hg]
  unfold joinH
  rw [hρ]
  generalize hA : setAll H gs _ = A
  have hAl : A.length = H.length := by rw [← hA, setAll_length]
  have := setAll_fresh ((H1.drop gs.length).map (renE ρ)) A
  simp only [List.length_map, List.length_drop] at this
  rw [hAl] at this
  exact this
/-- A call among more than it touches. -/
theorem acall_frame {f : FuncId} {args : List V} {Hs H : List Entry} {gs : List Nat} {K K' : KV} (h : ACall P f args Hs K) (hnd : gs.Nodup) (hlen : Hs.length = gs.length) (hids : idsLts gs.length args = true)
    (hent : ∀ (i : Nat) (e : Entry), Hs[i]? = some e → ∃ g, gs[i]? = some g ∧ H[g]? = some (renE (rho gs) e) ∧ idsLtE gs.length e = true)
    (hk : ∀ x H1, gs.length ≤ H1.length → K x H1 → K' (ren (rho (gs ++ List.range' H.length (H1.length - gs.length))) x) (joinH H gs H1)) : ACall P f (rens (rho gs) args) H K' := by
  intro C vals hH hC hv
  subst hH
  have hf0 : Fits C gs Hs := ⟨hnd, hlen, hent⟩
  refine Calls.mono (h (C.sub gs Hs) vals rfl (sub_rep hf0 hC) (CRep_unren (sub_unren hf0) _ _ hids hv)) ?_
  rintro e w' ⟨C1, x, v, rfl, rfl, ht, h1, hx, hK⟩
  have hlt : ∀ g ∈ gs, g < C.H.length := fun g hg => by
    obtain ⟨j, hj⟩ := List.mem_iff_getElem?.1 hg
    exact gs_lt hf0 hj
  have hle : gs.length ≤ C1.H.length := by
    rcases Nat.lt_or_ge C1.H.length gs.length with h | h
    · exfalso
      have hH : Hs[C1.H.length]? = some (Hs[C1.H.length]'(by rw [hlen]; exact h)) := List.getElem?_eq_getElem _
      obtain ⟨s', k1, _⟩ := ht.ids C1.H.length _ (show (C.sub gs Hs).sh C1.H.length = some _ by simp only [Ctx.sh, Ctx.sub, hH, Option.map_some]; rfl)
      simp [Ctx.sh] at k1
    · exact h
  have hf : Fits (C.keep (C1.H.length - gs.length)) gs Hs := ⟨hnd, hlen, fun i e he => by
    obtain ⟨g, k1, k2, k3⟩ := hent i e he
    exact ⟨g, k1, by rw [keep_old (List.getElem?_eq_some_iff.1 k2).1]; exact k2, k3⟩⟩
  have hC2 := keep_rep (r := C1.H.length - gs.length) hC
  have ht2 : Tr ((C.keep (C1.H.length - gs.length)).sub gs Hs) C1 := by rw [keep_sub]; exact ht
  have hp : Place (C.keep (C1.H.length - gs.length)) gs (gs ++ List.range' C.H.length (C1.H.length - gs.length)) C1 := by
    refine ⟨?_, by simp; omega, fun i g hg => by rw [List.getElem?_append_left (List.getElem?_eq_some_iff.1 hg).1]; exact hg, fun i g hg hi => ?_⟩
    · rw [List.nodup_append]
      refine ⟨hnd, List.nodup_range', fun a ha b hb => ?_⟩
      have := hlt a ha
      have hb := List.mem_range'_1.1 hb
      omega
    · rw [List.getElem?_append_right hi] at hg
      have hb := (List.getElem?_eq_some_iff.1 hg).1
      rw [List.length_range'] at hb
      rw [List.getElem?_range' (by omega)] at hg
      cases hg
      simp only [Ctx.keep]
      rw [List.getElem?_append_right (by omega), List.getElem?_replicate, if_pos (by omega)]
  refine ⟨(C.keep (C1.H.length - gs.length)).join (gs ++ List.range' C.H.length (C1.H.length - gs.length)) C1, _, v, rfl, rfl, keep_tr.trans (join_tr hf hC2 ht2 hp), join_rep hf hC2 ht2 h1 hp, VRep_ren (join_ren hf hC2 ht2 hp) _ _ hx, ?_⟩
  have := hk x C1.H hle hK
  rw [← joinH_eq hlt hle] at this
  exact this
end
end Go.Av
