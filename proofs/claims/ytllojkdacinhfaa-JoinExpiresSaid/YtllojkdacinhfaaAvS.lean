/- A part of a way to reckon what a Go program does without its memory (AvS). -/
import Derived.Test.YtllojkdacinhfaaAvQ
namespace Go.Av
open Go Go.RowKit
set_option autoImplicit false
set_option linter.all false
section
variable {P : Program} {C : Ctx} {K : KV}
/-! ### What is no more one's own -/
theorem frz_turns {g : Nat} {e e' : Entry} (he : C.H[g]? = some e) (ho : e'.owned = false) (hs : STr e.shp e'.shp (C.β g) (C.β g)) : Turns C C.w g (C.β g) e e' :=
  ⟨he, rfl, rfl, rfl, Nat.le_refl _, fun _ _ _ => rfl, hs, fun h => by rw [ho] at h; cases h⟩
theorem frz_av {g b c : Nat} {e e' : Entry} (hC : HRep C) (he : C.H[g]? = some e) (hoe : e.owned = true) (ho : e'.owned = false) (hb : C.β g = some (b, c)) : ¬ (C.turn C.w g (C.β g) e').av b := by
  rintro (h | h)
  · rcases turn_own he h with ⟨j, e1, c1, hj, h1, h2, h3⟩ | ⟨h1, _⟩
    · exact hj (hC.inj j g e1 e b c1 c h1 he h2 hoe h3 hb)
    · rw [ho] at h1; cases h1
  · exact hC.nF b ⟨g, e, c, he, hoe, hb⟩ h
theorem frz_row {g E n : Nat} {xs : List V} (hC : HRep C) (he : C.H[g]? = some (.row E n xs)) :
    Tr C (C.turn C.w g (C.β g) (.irow n xs)) ∧ HRep (C.turn C.w g (C.β g) (.irow n xs)) := by
  have ht := frz_turns (e' := .irow n xs) he rfl (by simp [Entry.shp, STr])
  refine ⟨turn_tr hC ht, turn_rep hC ht ?_⟩
  rcases hC.ent g _ he with ⟨k1, k2⟩ | ⟨b, cap, cur, cells, k1, k2, k3, k4, k5, k6, k7⟩
  · exact .inl ⟨by rw [turn_beta_new]; exact k1, k2⟩
  · refine .inr ⟨b, cap, cells, by rw [turn_beta_new]; exact k1, frz_av hC he rfl rfl k1, (Array.getElem?_eq_some_iff.1 k2).1, k4, ?_, ERep_tr (turn_tr hC ht).R.deep _ _ _ k7⟩
    intro k c hk
    rw [← k6, List.getElem?_take] at hk
    split at hk
    · exact cellsAt_row k2 k c hk
    · cases hk

/-! ### Slices of slices -/
inductive OptRep (R : Rd) : Option V → Option Value → Prop
  | none : OptRep R none none
  | some {x : V} {v : Value} (h : VRep R x v) : OptRep R (some x) (some v)
theorem opt_rep {R : Rd} {a : Act} {e : List V} {x : Option Operand} {o : Option Opd} (hx : cOpt x = some o) (hE : CRep R e a.tmps.toList) : OptRep R (evo e o) (x.map a.eval) := by
  cases x with
  | none => simp only [cOpt, Option.some.injEq] at hx; subst hx; exact .none
  | some x =>
    simp only [cOpt, Option.map_eq_some_iff] at hx
    obtain ⟨y, hy, rfl⟩ := hx
    exact .some (opd_rep hy hE)
theorem lo_run {R : Rd} {lo : Option V} {lv : Option Value} {L : Int} (h : OptRep R lo lv) (hl : loI lo = some L) : (lv = none ∧ L = 0) ∨ ∃ k, lv = some (.int k L) := by
  cases h with
  | none => simp only [loI, Option.some.injEq] at hl; exact .inl ⟨rfl, hl.symm⟩
  | some h =>
    unfold loI at hl
    split at hl
    · rename_i h'; cases h'
    · rename_i k j h'
      cases h'
      cases hl
      rw [VRep_int] at h
      subst h
      exact .inr ⟨k, rfl⟩
    · cases hl
theorem hi_run {R : Rd} {hi : Option V} {hv : Option Value} {len : Nat} {L : Int} (h : OptRep R hi hv) (hl : hiI len hi = some L) : (hv = none ∧ L = len) ∨ ∃ k, hv = some (.int k L) := by
  cases h with
  | none => simp only [hiI, Option.some.injEq] at hl; exact .inl ⟨rfl, hl.symm⟩
  | some h =>
    unfold hiI at hl
    split at hl
    · rename_i h'; cases h'
    · rename_i k j h'
      cases h'
      cases hl
      rw [VRep_int] at h
      subst h
      exact .inr ⟨k, rfl⟩
    · cases hl
theorem bounds_run {isS : Bool} {len cap : Nat} {lv hv mv : Option Value} {L Hh : Int} {w : World} (hl : (lv = none ∧ L = 0) ∨ ∃ k, lv = some (.int k L)) (hh : (hv = none ∧ Hh = len) ∨ ∃ k, hv = some (.int k Hh)) (h0 : 0 ≤ L) (h1 : L ≤ Hh) (h2 : Hh ≤ cap) :
    (Instr.sliceBounds isS len cap lv hv none).run P w = .ok (L.toNat, Hh.toNat, cap) w := by
  have e1 : (Hh.toNat : Int) = Hh := Int.toNat_of_nonneg (by omega)
  rcases hl with ⟨rfl, rfl⟩ | ⟨k, rfl⟩ <;> rcases hh with ⟨rfl, rfl⟩ | ⟨k2, rfl⟩ <;>
    simp_all [Instr.sliceBounds, Instr.sliceBound, asIntOf]
  intro h; omega
theorem bounds_run3 {isS : Bool} {len cap : Nat} {lv hv : Option Value} {L Hh M : Int} {km kh : IntKind} {w : World} (hl : (lv = none ∧ L = 0) ∨ ∃ k, lv = some (.int k L)) (hh : hv = some (.int kh Hh)) (h0 : 0 ≤ L) (h1 : L ≤ Hh) (h2 : Hh ≤ M) (h3 : M ≤ cap) :
    (Instr.sliceBounds isS len cap lv hv (some (.int km M))).run P w = .ok (L.toNat, Hh.toNat, M.toNat) w := by
  have e1 : (Hh.toNat : Int) = Hh := Int.toNat_of_nonneg (by omega)
  have e2 : (M.toNat : Int) = M := Int.toNat_of_nonneg (by omega)
  subst hh
  rcases hl with ⟨rfl, rfl⟩ | ⟨k, rfl⟩ <;>
    simp [Instr.sliceBounds, Instr.sliceBound, asIntOf, h0, h1, h2, h3, e1, e2, (by omega : 0 ≤ Hh), (by omega : 0 ≤ M)]
theorem sliceAt_run {t el : TypeId} {n len cap l h m : Nat} {a : Option Addr} {lv hv mv : Option Value} {w : World} (hu : P.underlying t = some (.slice el)) (hn : sizeT P el = some n) (hb : (Instr.sliceBounds true len cap lv hv mv).run P w = .ok (l, h, m) w) :
    (Instr.sliceAt t (.slice a len cap) lv hv mv).run P w = .ok (.slice (if m = l then a else a.map (·.add (l * n))) (h - l) (m - l)) w := by
  simp [Instr.sliceAt, Instr.slice, run_underlying' hu, hb, run_sizeOf hn]
/-- What is cut out of cells that nobody writes. -/
theorem cut_rep {b o l h cap : Nat} {xs : List V} {cells : List Value} {n : Nat} (h1 : ¬ C.av b) (h2 : b < C.w.heap.size) (hc : cellsAt C.w b o cells) (hr : ERep C.R.deep n xs cells) (hlh : l ≤ h) (hh : h ≤ xs.length) (hm : h ≤ cap) :
    VRep C.R (.sl n ((xs.take h).drop l)) (.slice (if cap = l then (some ⟨b, o, none⟩) else (some ⟨b, o, none⟩ : Option Addr).map (·.add (l * n))) (h - l) (cap - l)) := by
  have hlen : ((xs.take h).drop l).length = h - l := by simp; omega
  simp only [VRep]
  by_cases hx : h - l = 0
  · left
    refine ⟨List.eq_nil_of_length_eq_zero (by omega), _, _, by rw [hx]⟩
  · right
    rw [if_neg (by omega)]
    refine ⟨b, o + l * n, cap - l, (cells.take (h * n)).drop (l * n), by rw [hlen]; simp [Addr.add_lit], by omega, h1, h2, ?_, ERep_drop l (ERep_take h hr)⟩
    intro k c hk
    rw [List.getElem?_drop, List.getElem?_take] at hk
    split at hk
    · rw [Nat.add_assoc]; exact hc _ _ hk
    · cases hk
theorem cut_none {n l h cap : Nat} {a : Option Addr} {xs : List V} (hx : xs = []) (hh : h ≤ xs.length) : VRep C.R (.sl n ((xs.take h).drop l)) (.slice (if cap = l then a else a.map (·.add (l * n))) (h - l) (cap - l)) := by
  subst hx
  have : h = 0 := by simpa using hh
  subst this
  simp only [VRep]
  left
  exact ⟨by simp, _, _, by rw [Nat.zero_sub]⟩
/-- A frozen, or a foreign, list's value. -/
theorem slc_list {t el : TypeId} {n : Nat} {xs : List V} {len cap : Nat} {a : Option Addr} {lo hi : Option V} {lv uv : Option Value} (hu : P.underlying t = some (.slice el)) (hn : sizeT P el = some n) (hC : HRep C)
    (hv : (xs = [] ∧ len = 0) ∨ ∃ b o cells, a = some ⟨b, o, none⟩ ∧ len = xs.length ∧ xs.length ≤ cap ∧ ¬ C.av b ∧ b < C.w.heap.size ∧ cellsAt C.w b o cells ∧ ERep C.R.deep n xs cells)
    (hlo : OptRep C.R lo lv) (hhi : OptRep C.R hi uv) (hlen : len = xs.length) (hk : cutK (.sl n) xs (loI lo) (hiI xs.length hi) C.H K) : Does P (Instr.sliceAt t (.slice a len cap) lv uv none) C K := by
  unfold cutK at hk
  split at hk
  · rename_i L Hh hL hH
    obtain ⟨⟨h0, h1, h2⟩, hk⟩ := hk
    have hcap : Hh ≤ cap := by
      rcases hv with ⟨rfl, _⟩ | ⟨b, o, cells, _, _, h3, _⟩
      · simp at h2; omega
      · omega
    have hb := bounds_run (P := P) (isS := true) (len := len) (cap := cap) (mv := none) (w := C.w) (lo_run hlo hL) (by rw [hlen]; exact hi_run hhi hH) h0 h1 hcap
    refine Does.pure hC (sliceAt_run hu hn hb) ?_ hk
    rcases hv with ⟨hx, _⟩ | ⟨b, o, cells, rfl, _, h3, h4, h5, h6, h7⟩
    · exact cut_none hx (by omega)
    · exact cut_rep h4 h5 h6 h7 (by omega) (by omega) (by omega)
  · exact hk.elim
/-- A row's number is given up; its beginning goes by a new one. -/
def Ctx.move (C : Ctx) (g : Nat) (e : Entry) : Ctx := ⟨C.w, fun j => if j = C.H.length then C.β g else C.β j, C.H.set g .gone ++ [e], C.F⟩
section move
variable {g : Nat} {e e' : Entry}
theorem move_cases (he : C.H[g]? = some e) {j : Nat} {e1 : Entry} (h : (C.move g e').H[j]? = some e1) : (j < C.H.length ∧ j ≠ g ∧ C.H[j]? = some e1) ∨ (j = g ∧ e1 = .gone) ∨ (j = C.H.length ∧ e1 = e') := by
  have hg : g < C.H.length := (List.getElem?_eq_some_iff.1 he).1
  rcases Nat.lt_trichotomy j C.H.length with h1 | h1 | h1
  · simp only [Ctx.move] at h
    rw [List.getElem?_append_left (by simpa using h1)] at h
    by_cases hj : j = g
    · subst hj
      rw [List.getElem?_set_self h1] at h
      exact .inr (.inl ⟨rfl, (Option.some.inj h).symm⟩)
    · rw [List.getElem?_set_ne (Ne.symm hj)] at h
      exact .inl ⟨h1, hj, h⟩
  · subst h1
    simp only [Ctx.move] at h
    rw [List.getElem?_append_right (by simp)] at h
    simp at h
    exact .inr (.inr ⟨rfl, h.symm⟩)
  · simp only [Ctx.move] at h
    rw [List.getElem?_append_right (by simp; omega)] at h
    have : j - (C.H.set g .gone).length = (j - C.H.length - 1) + 1 := by simp; omega
    rw [this] at h
    simp at h
theorem move_own (he : C.H[g]? = some e) (ho : e.owned = true) {b : Nat} (h : (C.move g e').own b) : C.own b := by
  obtain ⟨j, e1, c, h1, h2, h3⟩ := h
  rcases move_cases he h1 with ⟨k1, k2, k3⟩ | ⟨_, rfl⟩ | ⟨rfl, rfl⟩
  · simp only [Ctx.move] at h3
    rw [if_neg (by omega)] at h3
    exact ⟨j, e1, c, k3, h2, h3⟩
  · cases h2
  · simp only [Ctx.move, if_true] at h3
    exact ⟨g, e, c, he, ho, h3⟩
theorem move_tr (he : C.H[g]? = some e) (ho : e.owned = true) (hr : e.shp ≠ .resv) : Tr C (C.move g e') := by
  have hg : g < C.H.length := (List.getElem?_eq_some_iff.1 he).1
  refine ⟨rfl, rfl, rfl, Nat.le_refl _, rfl, fun b hb hn => ⟨rfl, fun k => hn (move_own he ho k)⟩, fun j s hs => ?_⟩
  have hj : j < C.H.length := by
    rcases Nat.lt_or_ge j C.H.length with h | h
    · exact h
    · simp [Ctx.sh, List.getElem?_eq_none h] at hs
  by_cases hjg : j = g
  · subst hjg
    refine ⟨.gone, ?_, ?_⟩
    · simp only [Ctx.sh, Ctx.move]
      rw [List.getElem?_append_left (by simpa using hj), List.getElem?_set_self hj]
      rfl
    · cases s <;> simp [STr]
  · refine ⟨s, ?_, ?_⟩
    · simp only [Ctx.sh, Ctx.move] at hs ⊢
      rw [List.getElem?_append_left (by simpa using hj), List.getElem?_set_ne (Ne.symm hjg)]
      exact hs
    · simp only [Ctx.move]
      rw [if_neg (by omega)]
      exact STr.refl _ _
theorem move_rep (hC : HRep C) (he : C.H[g]? = some e) (ho : e.owned = true) (hr : e.shp ≠ .resv) (hn : EntRep (C.move g e') C.H.length e') : HRep (C.move g e') := by
  have hg : g < C.H.length := (List.getElem?_eq_some_iff.1 he).1
  have ht := move_tr (e' := e') he ho hr
  refine ⟨fun j e1 hj => ?_, ?_, fun b hb => hC.nF b (move_own he ho hb), hC.ltF⟩
  · rcases move_cases he hj with ⟨k1, k2, k3⟩ | ⟨_, rfl⟩ | ⟨rfl, rfl⟩
    · exact (hC.ent j e1 k3).keep ht (by simp only [Ctx.move]; rw [if_neg (by omega)]) (fun _ _ _ _ => rfl)
    · trivial
    · exact hn
  · intro j j' e1 e2 b c1 c2 h1 h2 o1 o2 b1 b2
    rcases move_cases he h1 with ⟨k1, k2, k3⟩ | ⟨_, rfl⟩ | ⟨rfl, rfl⟩
    · simp only [Ctx.move] at b1
      rw [if_neg (by omega)] at b1
      rcases move_cases he h2 with ⟨m1, m2, m3⟩ | ⟨_, rfl⟩ | ⟨rfl, rfl⟩
      · simp only [Ctx.move] at b2
        rw [if_neg (by omega)] at b2
        exact hC.inj j j' e1 e2 b c1 c2 k3 m3 o1 o2 b1 b2
      · cases o2
      · simp only [Ctx.move, if_true] at b2
        exact absurd (hC.inj j g e1 e b c1 c2 k3 he o1 ho b1 b2) k2
    · cases o1
    · simp only [Ctx.move, if_true] at b1
      rcases move_cases he h2 with ⟨m1, m2, m3⟩ | ⟨_, rfl⟩ | ⟨rfl, rfl⟩
      · simp only [Ctx.move] at b2
        rw [if_neg (by omega)] at b2
        exact absurd (hC.inj j' g e2 e b c2 c1 m3 he o2 ho b2 b1) m2
      · cases o2
      · rfl
end move
theorem his_run {R : Rd} {hi : Option V} {hv : Option Value} {L : Int} (h : OptRep R hi hv) (hl : hiS hi = some L) : ∃ k, hv = some (.int k L) := by
  cases h with
  | none => cases hl
  | some h =>
    unfold hiS at hl
    split at hl
    · rename_i k j h'
      cases h'
      cases hl
      rw [VRep_int] at h
      subst h
      exact ⟨k, rfl⟩
    · cases hl
theorem OptRep_tr {R R' : Rd} (h : RTr R R') {x : Option V} {v : Option Value} (hx : OptRep R x v) : OptRep R' x v := by
  cases hx with
  | none => exact .none
  | some hx => exact .some (VRep_tr h _ _ hx)
theorem Does.after {C' : Ctx} {s : Sem Value} (ht : Tr C C') (hw : C'.w = C.w) (h : Does P s C' K) : Does P s C K := by
  obtain ⟨C2, x, v, h1, h2, h3, h4, h5⟩ := h
  exact ⟨C2, x, v, by rw [← hw]; exact h1, ht.trans h2, h3, h4, h5⟩
theorem slc_does {t el : TypeId} {n : Nat} {x : V} {lo hi mx : Option V} {v : Value} {lv uv mv : Option Value} (hu : P.underlying t = some (.slice el)) (hn : sizeT P el = some n) (hC : HRep C) (hv : VRep C.R x v)
    (hlo : OptRep C.R lo lv) (hhi : OptRep C.R hi uv) (hmx : OptRep C.R mx mv) (hk : slcK n x lo hi mx C.H K) : Does P (Instr.sliceAt t v lv uv mv) C K := by
  unfold slcK at hk
  split at hk
  · rename_i m xs
    obtain ⟨rfl, hk⟩ := hk
    cases hmx
    simp only [VRep] at hv
    rcases hv with ⟨rfl, a, cap, rfl⟩ | ⟨b, o, cap, cells, rfl, h1, h2, h3, h4, h5⟩
    · exact slc_list hu hn hC (.inl ⟨rfl, rfl⟩) hlo hhi rfl hk
    · exact slc_list hu hn hC (.inr ⟨b, o, cells, rfl, rfl, h1, h2, h3, h4, h5⟩) hlo hhi rfl hk
  · rename_i m xs
    obtain ⟨rfl, hk⟩ := hk
    cases hmx
    simp only [VRep] at hv
    rcases hv with ⟨rfl, a, rfl⟩ | ⟨b, o, cells, rfl, h2, h3, h4, h5⟩
    · exact slc_list hu hn hC (.inl ⟨rfl, rfl⟩) hlo hhi rfl hk
    · exact slc_list hu hn hC (.inr ⟨b, o, cells, rfl, rfl, Nat.le_refl _, h2, h3, h4, h5⟩) hlo hhi rfl hk
  · rename_i m xs mxv
    obtain ⟨rfl, hk⟩ := hk
    unfold cutX at hk
    split at hk
    · rename_i L Hh M hL hH hM
      obtain ⟨⟨h0, h1, rfl, h2⟩, hk⟩ := hk
      obtain ⟨km, rfl⟩ := his_run hmx hM
      obtain ⟨kh, rfl⟩ := his_run hhi hH
      simp only [VRep] at hv
      have fin : ∀ (a : Option Addr) (len cap : Nat), v = .slice a len cap → (Hh : Int) ≤ cap → VRep C.R (.slx m ((xs.take Hh.toNat).drop L.toNat)) (.slice (if Hh.toNat = L.toNat then a else a.map (·.add (L.toNat * m))) (Hh.toNat - L.toNat) (Hh.toNat - L.toNat)) →
          Does P (Instr.sliceAt t v lv (some (.int kh Hh)) (some (.int km Hh))) C K := by
        intro a len cap hve hcap hr
        subst hve
        have hb := bounds_run3 (P := P) (isS := true) (len := len) (cap := cap) (km := km) (kh := kh) (w := C.w) (lo_run hlo hL) rfl h0 h1 (Int.le_refl _) hcap
        exact Does.pure hC (sliceAt_run hu hn hb) hr hk
      rcases hv with ⟨rfl, a, cap, rfl⟩ | ⟨b, o, cap, cells, rfl, g1, g2, g3, g4, g5⟩
      · have hz : Hh = 0 := by simp at h2; omega
        have hz2 : L = 0 := by omega
        subst hz hz2
        refine fin a 0 cap rfl (by omega) ?_
        simp only [VRep]
        exact .inl ⟨by simp, _, rfl⟩
      · refine fin _ _ cap rfl (by omega) ?_
        have := cut_rep (cap := Hh.toNat) g2 g3 g4 g5 (l := L.toNat) (h := Hh.toNat) (by omega) (by omega) (Nat.le_refl _)
        have hlen : ((xs.take Hh.toNat).drop L.toNat).length = Hh.toNat - L.toNat := by simp; omega
        simp only [VRep] at this ⊢
        rcases this with ⟨e1, a, cap', e2⟩ | ⟨b', o', cap', cells', e1, e2, e3⟩
        · left
          have h0' : Hh.toNat - L.toNat = 0 := by have := congrArg List.length e1; rw [hlen] at this; exact this
          refine ⟨e1, ?_⟩
          rw [h0']
          exact Exists.intro _ rfl
        · right
          simp only [Value.slice.injEq] at e1
          exact ⟨b', o', cells', by rw [e1.1, hlen], e3⟩
    · exact hk.elim
  · simp only [VRep] at hv
    subst hv
    cases hmx
    obtain ⟨⟨h1, h2⟩, hk⟩ := hk
    have hb := bounds_run (P := P) (isS := true) (len := 0) (cap := 0) (mv := none) (w := C.w) (lo_run hlo h1) (hi_run hhi h2) (Int.le_refl _) (Int.le_refl _) (Int.le_refl _)
    exact Does.pure hC (sliceAt_run hu hn hb) (by simp [VRep]) hk
  · rename_i g len
    cases hmx
    unfold cutO at hk
    split at hk
    · rename_i E m xs he
      obtain ⟨⟨rfl, hl⟩, hk⟩ := hk
      rcases hk with hk | hk
      · obtain ⟨ht, hC'⟩ := frz_row hC he
        have hv' := VRep_tr ht.R _ _ hv
        have hlo' := OptRep_tr ht.R hlo
        have hhi' := OptRep_tr ht.R hhi
        have he' : (C.turn C.w g (C.β g) (.irow m xs)).H[g]? = some (.irow m xs) := turn_get_new he
        refine Does.after ht rfl ?_
        rcases own_at (C := C.turn C.w g (C.β g) (.irow m xs)) hv' he' rfl hl with ⟨hb, a, rfl⟩ | ⟨b, c, hb, rfl⟩
        · rcases hC'.ent g _ he' with ⟨_, rfl⟩ | ⟨b, _, _, k1, _⟩
          · exact slc_list hu hn hC' (.inl ⟨rfl, rfl⟩) hlo' hhi' rfl (by rw [hl] at hk; exact hk)
          · rw [hb] at k1; cases k1
        · rcases hC'.ent g _ he' with ⟨k1, _⟩ | ⟨b', cap, cells, k1, k2, k3, k4, k5, k6⟩
          · rw [hb] at k1; cases k1
          · rw [hb] at k1
            obtain ⟨rfl, rfl⟩ : b = b' ∧ c = cap := by simpa using k1
            exact slc_list hu hn hC' (.inr ⟨b, 0, cells, rfl, hl, k4, k2, k3, k5, k6⟩) hlo' hhi' hl (by rw [hl] at hk; exact hk)
      · split at hk
        · rename_i Hh hL hH
          obtain ⟨⟨h0, h1⟩, hk⟩ := hk
          have htr : Tr C (C.move g (.row E m (xs.take Hh.toNat))) := move_tr he rfl (by simp [Entry.shp])
          rcases hC.ent g _ he with ⟨k1, k2⟩ | ⟨b, cap, cur, cells, k1, k2, k3, k4, k5, k6, k7⟩
          · subst k2
            have hz : Hh = 0 := by simp at h1; omega
            subst hz
            rcases own_at hv he rfl hl with ⟨hb, a, rfl⟩ | ⟨b, c, hb, _⟩
            · have hb2 := bounds_run (P := P) (isS := true) (len := 0) (cap := 0) (mv := none) (w := C.w) (lo_run hlo hL) (hi_run hhi (by rw [← hH]; simp [hl])) (Int.le_refl _) (Int.le_refl _) (Int.le_refl _)
              have hrep := move_rep (e' := .row E m (([] : List V).take (0 : Int).toNat)) hC he rfl (by simp [Entry.shp]) (.inl ⟨by simp only [Ctx.move, if_true]; exact k1, rfl⟩)
              refine ⟨C.move g (.row E m (([] : List V).take (0 : Int).toNat)), .own C.H.length (0 : Int).toNat, _, sliceAt_run hu hn hb2, htr, hrep, ?_, hk⟩
              have hg : (C.move g (.row E m (([] : List V).take (0 : Int).toNat))).H[C.H.length]? = some (.row E m []) := by simp [Ctx.move]
              simp only [VRep, Ctx.R, sh_of hg, Entry.shp]
              exact ⟨rfl, Nat.le_refl _, fun _ => .inl ⟨by simp only [Ctx.move, if_true]; exact k1, _, rfl⟩⟩
            · rw [k1] at hb; cases hb
          · rcases own_at hv he rfl hl with ⟨hb, _⟩ | ⟨b', c, hb, rfl⟩
            · rw [k1] at hb; cases hb
            rw [k1] at hb
            obtain ⟨rfl, rfl⟩ : b = b' ∧ cap = c := by simpa using hb
            have hb2 := bounds_run (P := P) (isS := true) (len := len) (cap := cap) (mv := none) (w := C.w) (lo_run hlo hL) (hi_run hhi hH) (Int.le_refl _) h0 (by omega)
            have hlen : (xs.take Hh.toNat).length = Hh.toNat := by simp; omega
            have hβ : (C.move g (.row E m (xs.take Hh.toNat))).β C.H.length = some (b, cap) := by simp only [Ctx.move, if_true]; exact k1
            have hrep := move_rep (e' := .row E m (xs.take Hh.toNat)) hC he rfl (by simp [Entry.shp]) (.inr ⟨b, cap, cur, _, hβ, k2, k3, by omega, k5, rfl, by
              have e1 : cur.toList.take ((xs.take Hh.toNat).length * m) = cells.take (Hh.toNat * m) := by
                rw [hlen, ← k6, List.take_take, Nat.min_eq_left (Nat.mul_le_mul_right m (by omega))]
              rw [e1]
              exact ERep_tr htr.R.deep _ _ _ (ERep_take _ k7)⟩)
            have hg : (C.move g (.row E m (xs.take Hh.toNat))).H[C.H.length]? = some (.row E m (xs.take Hh.toNat)) := by simp [Ctx.move]
            refine ⟨C.move g (.row E m (xs.take Hh.toNat)), .own C.H.length Hh.toNat, _, sliceAt_run hu hn hb2, htr, hrep, ?_, hk⟩
            have := own_rep_new hg hβ hlen.symm
            simpa [Addr.add] using this
        · exact hk.elim
    · rename_i m xs he
      obtain ⟨⟨rfl, hl⟩, hk⟩ := hk
      rcases own_at hv he rfl hl with ⟨hb, a, rfl⟩ | ⟨b, c, hb, rfl⟩
      · rcases hC.ent g _ he with ⟨_, rfl⟩ | ⟨b, _, _, k1, _⟩
        · exact slc_list hu hn hC (.inl ⟨rfl, rfl⟩) hlo hhi rfl (by rw [hl] at hk; exact hk)
        · rw [hb] at k1; cases k1
      · rcases hC.ent g _ he with ⟨k1, _⟩ | ⟨b', cap, cells, k1, k2, k3, k4, k5, k6⟩
        · rw [hb] at k1; cases k1
        · rw [hb] at k1
          obtain ⟨rfl, rfl⟩ : b = b' ∧ c = cap := by simpa using k1
          exact slc_list hu hn hC (.inr ⟨b, 0, cells, rfl, hl, k4, k2, k3, k5, k6⟩) hlo hhi hl (by rw [hl] at hk; exact hk)
    · exact hk.elim
  · exact hk.elim
end
end Go.Av
