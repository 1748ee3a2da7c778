/- A part of a way to reckon what a Go program does without its memory (AvU). -/
import Derived.Test.YtllojkdacinhfaaAvT
namespace Go.Av
open Go Go.RowKit
set_option autoImplicit false
set_option linter.all false
section
variable {P : Program} {C : Ctx} {K : KV}
theorem copy_does {t t2 ty el : TypeId} {n : Nat} {x y : V} {v u : Value} (hu : P.underlying t = some (.slice el)) (hn : sizeT P el = some n) (hC : HRep C) (hv : VRep C.R x v) (hw : VRep C.R y u) (hk : copyK n x (listOf n C.H y) C.H K) :
    Does P (Builtin.copy_ #[t, t2] ty #[v, u]) C K := by
  unfold copyK at hk
  split at hk
  · rename_i g len
    unfold copyH at hk
    cases hys : listOf n C.H y with
    | none => rw [hys] at hk; split at hk <;> first | exact hk.elim | simp_all
    | some ys =>
    rw [hys] at hk
    split at hk
    · rename_i E m xs ys' he hyy
      cases hyy
      obtain ⟨⟨rfl, hl⟩, hk⟩ := hk
      have hsrc := list_src hC hw hys
      have hlen : (Builtin.lenOf u).run P C.w = .ok ys.length C.w := by
        rcases hsrc with ⟨rfl, a, c, rfl⟩ | ⟨b, o, c, cells, rfl, _, _⟩ <;> simp [Builtin.lenOf]
      have hf : ∃ news, (Builtin.firstCells m (min ys.length xs.length) u).run P C.w = .ok news.toArray C.w ∧ ERep C.R.deep m (ys.take (min ys.length xs.length)) news := by
        rcases hsrc with ⟨rfl, a, c, rfl⟩ | ⟨b, o, c, cells, rfl, hc, hr⟩
        · refine ⟨[], ?_, by simp [ERep]⟩
          cases a <;> simp [Builtin.firstCells, loadCells, loadCellsFrom]
        · have hrt := ERep_take (min ys.length xs.length) hr
          refine ⟨_, run_firstCells_some (P := P) C.w m _ _ _ c (cells.take (min ys.length xs.length * m)) ?_ (cellsAt_add ?_), hrt⟩
          · have := ERep_length hrt
            rw [this, List.length_take]
            congr 1
            omega
          · intro k u hku
            rw [List.getElem?_take] at hku
            split at hku
            · exact hc k u hku
            · cases hku
      obtain ⟨news, hf1, hf2⟩ := hf
      have hnl := ERep_length hf2
      rw [List.length_take, Nat.min_eq_left (Nat.min_le_left _ _)] at hnl
      have hrow : ys.take xs.length ++ xs.drop ys.length = ys.take (min ys.length xs.length) ++ xs.drop (min ys.length xs.length) := by
        rcases Nat.le_total ys.length xs.length with h | h
        · rw [Nat.min_eq_left h, List.take_of_length_le h, List.take_of_length_le (Nat.le_refl _)]
        · rw [Nat.min_eq_right h, List.drop_of_length_le h, List.drop_of_length_le (Nat.le_refl _)]
      rcases hC.ent g _ he with ⟨k1, rfl⟩ | ⟨b, cap, cur, cells, k1, k2, k3, k4, k5, k6, k7⟩
      · simp only [List.length_nil, Nat.min_zero, List.take_zero, Nat.zero_mul] at hrow hf1 hf2 hnl
        have hset : C.H.set g (.row E m (ys.take ([] : List V).length ++ ([] : List V).drop ys.length)) = C.H := by simpa using set_same he
        rw [hset] at hk
        rcases own_at hv he rfl hl with ⟨hb, a, rfl⟩ | ⟨b, c, hb, _⟩
        · have hn0 : news = [] := List.eq_nil_of_length_eq_zero hnl
          subst hn0
          refine Does.pure hC ?_ (VRep_int.2 rfl) hk
          cases a <;> simp [Builtin.copy_, run_underlying' hu, hlen, run_sizeOf hn, hf1, storeCells, goInt]
        · rw [k1] at hb; cases hb
      · rcases own_at hv he rfl hl with ⟨hb, _⟩ | ⟨b', c, hb, rfl⟩
        · rw [k1] at hb; cases hb
        rw [k1] at hb
        obtain ⟨rfl, rfl⟩ : b = b' ∧ cap = c := by simpa using hb
        have hcl := ERep_length k7
        have hlx : xs.length * m ≤ cap * m := Nat.mul_le_mul_right m k4
        have hmin : min ys.length xs.length * m ≤ xs.length * m := Nat.mul_le_mul_right m (Nat.min_le_right _ _)
        have hst := run_storeCells_at P b 0 E news 0 cur C.w k2 (by rw [hnl, k3]; omega) (ERep_cells hf2)
        simp only [Nat.zero_add, List.take_zero, List.nil_append] at hst
        have hrun : (Builtin.copy_ #[t, t2] ty #[.slice (some ⟨b, 0, none⟩) len cap, u]).run P C.w = .ok (.int .i64 ((min ys.length xs.length : Nat) : Int)) (C.w.setRow b (news ++ cur.toList.drop news.length).toArray) := by
          have : Nat.min ys.length len = min ys.length xs.length := by rw [hl]
          simp [Builtin.copy_, run_underlying' hu, hlen, this, run_sizeOf hn, hf1, hst, goInt]
        have ht : Turns C (C.w.setRow b (news ++ cur.toList.drop news.length).toArray) g (some (b, cap)) (.row E m xs) (.row E m (ys.take xs.length ++ xs.drop ys.length)) :=
          row_turns hC he rfl k1 k2 (by
            rw [k1]
            simp only [Entry.shp, STr]
            exact .inl ⟨_, rfl, by rw [hrow]; simp; omega, fun _ => trivial⟩)
        have hlen2 : (ys.take xs.length ++ xs.drop ys.length).length = xs.length := by rw [hrow]; simp; omega
        have hrep := turn_rep hC ht (.inr ⟨b, cap, _, news ++ cells.drop (min ys.length xs.length * m), turn_beta_new, setRow_heap C.w b cur _ E _ k2, by simp [hnl, k3]; omega, by rw [hlen2]; exact k4, k5, by
            rw [hlen2]
            simp only [List.toList_toArray]
            rw [← k6, List.take_append, hnl, List.take_of_length_le (by rw [hnl]; exact hmin), List.drop_take], by
            have key := ERep_tr (turn_tr hC ht).R.deep _ _ _ (ERep_append hf2 (ERep_drop (min ys.length xs.length) k7))
            rw [← hrow] at key
            exact key⟩)
        exact ⟨_, .int .i64 _, _, hrun, turn_tr hC ht, hrep, VRep_int.2 rfl, hk⟩
    · exact hk.elim
  · exact hk.elim
/-! Texts that are gone through, rune by rune -/
theorem rng_does {t : TypeId} {x : V} {v : Value} (hu : P.underlying t = some .string) (hC : HRep C) (hv : VRep C.R x v) (hk : rngK x C.H K) : Does P (Instr.range t v) C K := by
  unfold rngK at hk
  split at hk
  · rename_i s
    rw [VRep_str] at hv
    subst hv
    refine ⟨C.push (.stringIter ⟨s.toArray⟩ 0) 0 (.siter s 0), .it C.H.length, .pointer (some ⟨C.w.heap.size, 0, none⟩), ?_, push_tr, push_rep hC ⟨_, _, push_beta_new, heap_alloc_new C.w _⟩, ?_, hk⟩
    · simp [Instr.range, run_underlying' hu, Ctx.push]
    · simp only [VRep, Ctx.R, sh_of push_get_new, Entry.shp]
      exact ⟨rfl, _, _, push_beta_new, rfl⟩
  · exact hk.elim
theorem run_getObj {b : Nat} {o : Obj} {w : World} (h : w.heap[b]? = some o) (hn : ∀ c t f, o ≠ .cells c t f) : (getObj b).run P w = .ok o w := by
  cases o <;> first | exact absurd rfl (hn _ _ _) | simp [getObj, Sem.run, h]
theorem run_setObj {b : Nat} {o o' : Obj} {w : World} (h : w.heap[b]? = some o) (hn : ∀ c t f, o ≠ .cells c t f) : (setObj b o').run P w = .ok () { w with heap := w.heap.setIfInBounds b o' } := by
  cases o <;> first | exact absurd rfl (hn _ _ _) | simp [setObj, Sem.run, h]
theorem obj_turns {j b c : Nat} {e e' : Entry} {o : Obj} (he : C.H[j]? = some e) (ho : e.owned = true) (hb : C.β j = some (b, c)) (hlt : b < C.w.heap.size) (hs : STr e.shp e'.shp (C.β j) (some (b, c))) :
    Turns C { C.w with heap := C.w.heap.setIfInBounds b o } j (some (b, c)) e e' := by
  refine ⟨he, rfl, rfl, rfl, by simp, fun k hk hn => ?_, hs, fun _ b' c' hx => ?_⟩
  · have : k ≠ b := fun e1 => hn ho c (by rw [e1]; exact hb)
    simp [Array.getElem?_setIfInBounds, Ne.symm this]
  · cases hx
    exact .inl ⟨ho, c, hb⟩
theorem nxt_does {str : Bool} {ty : TypeId} {x : V} {v : Value} (hC : HRep C) (hv : VRep C.R x v) (hk : nxtK str x C.H K) : Does P (Instr.next v str ty) C K := by
  unfold nxtK at hk
  split at hk
  · rename_i j
    unfold nxtH at hk
    split at hk
    · rename_i s pos he
      obtain ⟨b, c, hb, rfl⟩ := it_at hv he rfl
      obtain ⟨b', c', k1, k2⟩ := hC.ent j _ he
      rw [hb] at k1
      obtain ⟨rfl, rfl⟩ : b = b' ∧ c = c' := by simpa using k1
      have hlt := (Array.getElem?_eq_some_iff.1 k2).1
      have hsz : (⟨s.toArray⟩ : ByteArray).size = s.length := rfl
      have hg := run_getObj (P := P) k2 (fun _ _ _ h => by cases h)
      by_cases hp : pos < s.length
      · have ht : Turns C { C.w with heap := C.w.heap.setIfInBounds b (.stringIter ⟨s.toArray⟩ (pos + (Utf8.decode ⟨s.toArray⟩ pos).2)) } j (some (b, c)) (.siter s pos) (.siter s (pos + (Utf8.decode ⟨s.toArray⟩ pos).2)) :=
          obj_turns he rfl hb hlt (by rw [hb]; simp [Entry.shp, STr])
        have hrep := turn_rep hC ht ⟨b, c, turn_beta_new, by simp [Ctx.turn, hlt]⟩
        simp only [hp, decide_true, cond_true] at hk
        refine ⟨_, _, .tuple #[.bool true, goInt pos, .int .i32 (Utf8.decode ⟨s.toArray⟩ pos).1], ?_, turn_tr hC ht, hrep, ?_, hk⟩
        · have hs := run_setObj (P := P) (o' := .stringIter ⟨s.toArray⟩ (pos + (Utf8.decode ⟨s.toArray⟩ pos).2)) k2 (fun _ _ _ h => by cases h)
          simp only [Instr.next, Sem.run_bind, hg, Result.andThen_ok, hsz, hp, if_true]
          simp [hs, Ctx.turn]
        · simp only [VRep]
          exact ⟨[.bool true, goInt pos, .int .i32 (Utf8.decode ⟨s.toArray⟩ pos).1], rfl, CRep_cons (VRep_bool.2 rfl) (CRep_cons (VRep_int.2 rfl) (CRep_cons (VRep_int.2 rfl) CRep_nil))⟩
      · simp only [hp, decide_false, cond_false] at hk
        refine Does.pure hC (v := .tuple #[.bool false]) ?_ ?_ hk
        · simp only [Instr.next, Sem.run_bind, hg, Result.andThen_ok, hsz, hp, if_false]
          simp
        · simp only [VRep]
          exact ⟨[.bool false], rfl, CRep_cons (VRep_bool.2 rfl) CRep_nil⟩
    · exact hk.elim
  · exact hk.elim
theorem mkm_does {t a b : TypeId} (hu : P.underlying t = some (.map a b)) (hC : HRep C) (hk : K (.map C.H.length) (C.H ++ [.map []])) : Does P (Instr.makeMap t none) C K := by
  refine ⟨C.push (.map #[] 0) 0 (.map []), .map C.H.length, .map (some C.w.heap.size), ?_, push_tr, push_rep hC ⟨_, _, #[], 0, push_beta_new, heap_alloc_new C.w _, rfl⟩, ?_, hk⟩
  · simp [Instr.makeMap, Ctx.push]
  · simp only [VRep, Ctx.R, sh_of push_get_new, Entry.shp]
    exact ⟨rfl, _, _, push_beta_new, rfl⟩
end
end Go.Av
