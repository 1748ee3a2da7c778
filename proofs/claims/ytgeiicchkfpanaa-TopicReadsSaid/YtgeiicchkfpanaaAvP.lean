/- A part of a way to reckon what a Go program does without its memory (AvP). -/
import Derived.Test.YtgeiicchkfpanaaAvH
namespace Go.Av
open Go Go.RowKit
set_option autoImplicit false
set_option linter.all false
section
variable {P : Program} {C : Ctx} {K : KV}
/-- Where a list's elements are. -/
theorem list_src {n : Nat} {y : V} {u : Value} {ys : List V} (hC : HRep C) (hu : VRep C.R y u) (h : listOf n C.H y = some ys) :
    (ys = [] ∧ ∃ a c, u = .slice a 0 c) ∨ ∃ b o c cells, u = .slice (some ⟨b, o, none⟩) ys.length c ∧ cellsAt C.w b o cells ∧ ERep C.R.deep n ys cells := by
  unfold listOf at h
  split at h
  · split at h
    · rename_i hm
      cases h
      subst hm
      simp only [VRep] at hu
      rcases hu with ⟨rfl, a, c, rfl⟩ | ⟨b, o, c, cells, rfl, _, _, _, h4, h5⟩
      · exact .inl ⟨rfl, a, c, rfl⟩
      · exact .inr ⟨b, o, c, cells, rfl, h4, h5⟩
    · cases h
  · split at h
    · rename_i hm
      cases h
      subst hm
      simp only [VRep] at hu
      rcases hu with ⟨rfl, a, rfl⟩ | ⟨b, o, cells, rfl, _, _, h4, h5⟩
      · exact .inl ⟨rfl, a, 0, rfl⟩
      · exact .inr ⟨b, o, _, cells, rfl, h4, h5⟩
    · cases h
  · cases h
    simp only [VRep] at hu
    subst hu
    exact .inl ⟨rfl, none, 0, rfl⟩
  · rename_i g len
    split at h
    · rename_i E m xs he
      split at h
      · rename_i hm
        cases h
        obtain ⟨rfl, hl⟩ := hm
        rcases hC.ent g _ he with ⟨k1, k2⟩ | ⟨b, cap, cur, cells, k1, k2, k3, k4, k5, k6, k7⟩
        · subst k2
          rcases own_at (xs := []) hu he rfl (by simpa using hl.symm) with ⟨_, a, rfl⟩ | ⟨b, c, hb, _⟩
          · exact .inl ⟨rfl, a, 0, rfl⟩
          · rw [k1] at hb; cases hb
        · rcases own_at (xs := ys) hu he rfl hl.symm with ⟨hb, _⟩ | ⟨b', c, hb, rfl⟩
          · rw [k1] at hb; cases hb
          · rw [k1] at hb
            obtain ⟨rfl, rfl⟩ : b = b' ∧ cap = c := by simpa using hb
            refine .inr ⟨b, 0, cap, cells, by rw [hl], ?_, k7⟩
            have := cellsAt_row k2
            intro k c hk
            rw [← k6, List.getElem?_take] at hk
            split at hk
            · exact this k c hk
            · cases hk
      · cases h
    · rename_i m xs he
      split at h
      · rename_i hm
        cases h
        obtain ⟨rfl, hl⟩ := hm
        rcases hC.ent g _ he with ⟨k1, k2⟩ | ⟨b, cap, cells, k1, _, _, k4, k5, k6⟩
        · subst k2
          rcases own_at (xs := []) hu he rfl (by simpa using hl.symm) with ⟨_, a, rfl⟩ | ⟨b, c, hb, _⟩
          · exact .inl ⟨rfl, a, 0, rfl⟩
          · rw [k1] at hb; cases hb
        · rcases own_at (xs := ys) hu he rfl hl.symm with ⟨hb, _⟩ | ⟨b', c, hb, rfl⟩
          · rw [k1] at hb; cases hb
          · rw [k1] at hb
            obtain ⟨rfl, rfl⟩ : b = b' ∧ cap = c := by simpa using hb
            exact .inr ⟨b, 0, cap, cells, by rw [hl], k5, k6⟩
      · cases h
    · cases h
  · rename_i g len i j
    split at h
    · rename_i E m xs he
      split at h
      · rename_i hm
        cases h
        obtain ⟨rfl, hl⟩ := hm
        obtain ⟨⟨h1, h2⟩, b, c, o, hb, hc, rfl, ho⟩ := cut_at hu he rfl hl.symm
        have hlen : ((xs.take j).drop i).length = j - i := by simp; omega
        by_cases hij : i < j
        · rcases hC.ent g _ he with ⟨k1, k2⟩ | ⟨b', cap, cur, cells, k1, k2, k3, k4, k5, k6, k7⟩
          · rw [k1] at hb; cases hb
          · rw [k1] at hb
            obtain ⟨rfl, rfl⟩ : b' = b ∧ cap = c := by simpa using hb
            refine .inr ⟨b', o, cap - i, (cells.take (j * m)).drop (i * m), by rw [hlen], ?_, ERep_drop i (ERep_take j k7)⟩
            rw [ho hij]
            have := cellsAt_row k2
            intro k c hk
            rw [← k6, List.take_take, List.getElem?_drop, List.getElem?_take] at hk
            split at hk
            · have := this _ c hk
              rwa [Nat.zero_add] at this
            · cases hk
        · exact .inl ⟨List.eq_nil_of_length_eq_zero (by rw [hlen]; omega), _, _, by rw [show j - i = 0 by omega]⟩
      · cases h
    · cases h
  · cases h

theorem cellsAt_add {w : World} {b o : Nat} {cells : List Value} (h : cellsAt w b o cells) : ∀ (j : Nat) (v : Value), cells[j]? = some v → w.cell? ((⟨b, o, none⟩ : Addr).add j) = some v := by
  intro j v hv
  rw [Addr.add_lit]
  exact h j v hv
/-- Nothing is appended. -/
theorem append_none {t ty el : TypeId} {i : TypeInfo} (hu : P.underlying t = some (.slice el)) (hi : P.info? el = some i) (a b : Option Addr) (len cap c : Nat) (hl : len ≤ cap) :
    (Builtin.append_ #[t, t] ty #[.slice a len cap, .slice b 0 c]).run P C.w = .ok (.slice a len cap) C.w := by
  have hf : (Builtin.firstCells i.size 0 (.slice b 0 c)).run P C.w = .ok #[] C.w := by
    cases b <;> simp [Builtin.firstCells, loadCells, loadCellsFrom]
  cases a <;> simp [Builtin.append_, run_underlying' hu, sizeOf, typeInfo, hi, Builtin.lenOf, hl, hf, storeCells]
theorem slice_one (a : Option Addr) (l c : Nat) : (Value.slice a l c).oneCell' = true := rfl
/-- Behind an append in a new block. -/
theorem app_new {C' : Ctx} {E n cap : Nat} {zs : List V} {cells : List Value} {z : Value} (hC : HRep C') (hz : z.cells.size = n) (hr : ERep C'.R.deep n zs cells) (hcap : zs.length ≤ cap) (hm : cap ≤ maxLen) :
    HRep (C'.push (.cells (cells.toArray ++ Builtin.zeroCells z.cells (cap - zs.length)) E) cap (.row E n zs)) := by
  refine push_rep hC ?_
  have hl := ERep_length hr
  refine .inr ⟨C'.w.heap.size, cap, _, cells, push_beta_new, av_alloc_new C'.w _, ?_, hcap, hm, ?_, ERep_tr push_tr.R.deep _ _ _ hr⟩
  · simp only [Array.size_append, List.size_toArray, size_zeroCells, hz, hl, ← Nat.add_mul]
    congr 1
    omega
  · simp only [Array.toList_append]
    rw [List.take_append_of_le_length (by simp [hl]), List.take_of_length_le (by simp [hl])]
/-- What is appended: so many, so many cells. -/
structure Src (P : Program) (w : World) (size : Nat) (x : Value) (m : Nat) (news : List Value) : Prop where
  len : ∀ w', (Builtin.lenOf x).run P w' = .ok m w'
  cells : ∀ w', w'.heap = w.heap → (Builtin.firstCells size m x).run P w' = .ok news.toArray w'
theorem Src.slice {w : World} {b o c n m : Nat} {cells : List Value} (hc : cellsAt w b o cells) (hl : cells.length = m * n) : Src P w n (.slice (some ⟨b, o, none⟩) m c) m cells := by
  refine ⟨fun w' => by simp [Builtin.lenOf], fun w' hw => run_firstCells_some (P := P) w' n m _ m c cells hl (cellsAt_add ?_)⟩
  intro k v hk
  have := hc k v hk
  simpa [World.cell?, hw] using this
theorem Src.string {w : World} (s : List UInt8) : Src P w 1 (.string ⟨s.toArray⟩) s.length (s.map fun b => Value.int .u8 (b.toNat : Int)) := by
  refine ⟨fun w' => by simp [Builtin.lenOf, ByteArray.size], fun w' _ => ?_⟩
  have : (⟨s.toArray⟩ : ByteArray).extract 0 s.length = ⟨s.toArray⟩ := by
    rw [ByteArray.extract_mk]; simp [List.take_of_length_le]
  simp [Builtin.firstCells, this]
section
variable {t t2 ty el : TypeId} {i : TypeInfo} {x : Value} {m : Nat} {news : List Value}
theorem append_room' (hu : P.underlying t = some (.slice el)) (hi : P.info? el = some i) (h2 : ∃ d, P.underlying t2 = some d ∧ ∀ k, d ≠ .int k) (hs : Src P C.w i.size x m news)
    {g len cap E : Nat} {cur : Array Value} (hg : C.w.heap[g]? = some (.cells cur E (0, 0))) (h1 : ∀ u ∈ news, u.oneCell' = true) (hroom : len + m ≤ cap) (hfit : len * i.size + news.length ≤ cur.size) :
    (Builtin.append_ #[t, t2] ty #[.slice (some ⟨g, 0, none⟩) len cap, x]).run P C.w =
      .ok (.slice (some ⟨g, 0, none⟩) (len + m) cap) (C.w.setRow g (cur.toList.take (len * i.size) ++ news ++ cur.toList.drop (len * i.size + news.length)).toArray) := by
  obtain ⟨d, hd, hnd⟩ := h2
  have hst := run_storeCells_at P g (len * i.size) E news 0 cur C.w hg (by simpa using hfit) h1
  simp only [Nat.add_zero] at hst
  have hz : (match d with | .int _ => true | _ => false) = false := by cases d <;> first | rfl | exact absurd rfl (hnd _)
  simp [Builtin.append_, run_underlying' hu, run_underlying' hd, sizeOf, typeInfo, hi, hs.len, hroom, hs.cells C.w rfl, Addr.add_lit, hst]
theorem append_grow' {z : Value} (hu : P.underlying t = some (.slice el)) (hi : P.info? el = some i) (hz : i.zero = some z) (h2 : ∃ d, P.underlying t2 = some d ∧ ∀ k, d ≠ .int k) (hs : Src P C.w i.size x m news)
    {a : Option Addr} {len cap : Nat} {olds : List Value} (ho : ∀ w', w'.heap = C.w.heap → (Builtin.firstCells i.size len (.slice a len cap)).run P w' = .ok olds.toArray w') (hg : cap < len + m) (h63 : ((len + m : Nat) : Int) ≤ 9223372036854775807)
    (hfit : Builtin.nextslicecap (len + m) cap * i.bytes ≤ 281474976710656) :
    (Builtin.append_ #[t, t2] ty #[.slice a len cap, x]).run P C.w =
      .ok (.slice (some ⟨C.w.heap.size, 0, none⟩) (len + m) (grownCap C.w (len + m) cap el)) (C.w.drew.alloc (.cells ((olds ++ news).toArray ++ Builtin.zeroCells z.cells (grownCap C.w (len + m) cap el - (len + m))) el)) := by
  obtain ⟨d, hd, hnd⟩ := h2
  have hz2 : (match d with | .int _ => true | _ => false) = false := by cases d <;> first | rfl | exact absurd rfl (hnd _)
  have hn : ¬ (len + m ≤ cap) := by omega
  have h63' : ¬ (9223372036854775807 < ((len : Int) + (m : Int))) := by omega
  have h48' : ¬ (281474976710656 < Builtin.nextslicecap (len + m) cap * i.bytes) := by omega
  simp [Builtin.append_, run_underlying' hu, run_underlying' hd, sizeOf, typeInfo, zeroValue, hi, hz, hs.len, hn, h63', h48', Question.forced, hs.cells C.w.drew rfl, ho C.w.drew rfl, newRow, grownCap]
  congr 2
  apply Array.ext'
  simp
end
theorem set_same {α : Type} : ∀ {l : List α} {g : Nat} {e : α}, l[g]? = some e → l.set g e = l
  | [], g, e, h => by simp at h
  | a :: l, 0, e, h => by simp at h; simp [h]
  | a :: l, g + 1, e, h => by simp only [List.getElem?_cons_succ] at h; simp [set_same h]
/-- An append to a row of one's own. -/
theorem appH_does {t t2 ty el : TypeId} {i : TypeInfo} {z : Value} {g len : Nat} {r : Option (List V)} {v x : Value} (hu : P.underlying t = some (.slice el)) (hi : P.info? el = some i) (hz : i.zero = some z) (hzs : z.cells.size = i.size) (hsz : 0 < i.size)
    (h2 : ∃ d, P.underlying t2 = some d ∧ ∀ k, d ≠ .int k) (hC : HRep C) (hv : VRep C.R (.own g len) v)
    (hx : ∀ ys, r = some ys → (ys = [] ∧ ∀ a l c, l ≤ c → (Builtin.append_ #[t, t2] ty #[.slice a l c, x]).run P C.w = .ok (.slice a l c) C.w) ∨ (∃ news, ys ≠ [] ∧ Src P C.w i.size x ys.length news ∧ ERep C.R.deep i.size ys news))
    (hk : appH el i.size i.bytes g len r C.H[g]? C.H K) : Does P (Builtin.append_ #[t, t2] ty #[v, x]) C K := by
  cases r with
  | none => unfold appH at hk; split at hk <;> first | exact hk.elim | simp_all
  | some ys =>
  unfold appH at hk
  split at hk
  · rename_i E n xs ys' he hr
    cases hr
    obtain ⟨⟨rfl, rfl, hl, hb, h63⟩, hk⟩ := hk
    rcases hx ys rfl with ⟨rfl, hnone⟩ | ⟨news, hyne, hsrc, hrep⟩
    · simp only [List.append_nil] at hk
      have hset : C.H.set g (.row E i.size xs) = C.H := set_same he
      rw [hset] at hk
      rcases own_at hv he rfl hl with ⟨hb, a, rfl⟩ | ⟨b, c, hb, rfl⟩
      · rcases hC.ent g _ he with ⟨_, rfl⟩ | ⟨b, _, _, _, k1, _⟩
        · have hl0 : len = 0 := hl
          subst hl0
          exact Does.pure hC (hnone a 0 0 (Nat.le_refl _)) hv hk
        · rw [hb] at k1; cases k1
      · rcases hC.ent g _ he with ⟨k1, _⟩ | ⟨b', cap, cur, cells, k1, k2, k3, k4, k5, k6, k7⟩
        · rw [hb] at k1; cases k1
        · rw [hb] at k1
          obtain ⟨rfl, rfl⟩ : b = b' ∧ c = cap := by simpa using k1
          rw [← hl] at hk
          exact Does.pure hC (hnone _ len c (by omega)) hv hk
    · have hnl := ERep_length hrep
      have hn1 := ERep_cells hrep
      have hmax : grownCap C.w (len + ys.length) 0 E ≤ maxLen := grownCap_le_maxLen _ _ _ _ (by simp only [maxLen]; omega)
      have grow : ∀ (a : Option Addr) (cap : Nat) (cells : List Value), (∀ w', w'.heap = C.w.heap → (Builtin.firstCells i.size len (.slice a len cap)).run P w' = .ok cells.toArray w') → ERep C.R.deep i.size xs cells → cap < len + ys.length → v = .slice a len cap →
          Does P (Builtin.append_ #[t, t2] ty #[v, x]) C K := by
        intro a cap cells hfc hr hcap hve
        subst hve
        have hcl := ERep_length hr
        have hnew := ERep_append hr hrep
        have hrun := append_grow' (ty := ty) hu hi hz h2 hsrc (a := a) (len := len) (cap := cap) hfc hcap (by omega) (growslice_fits hcap (by rw [hl]; omega))
        have hge := grownCap_ge C.w (len + ys.length) cap E
        have hmx : grownCap C.w (len + ys.length) cap E ≤ maxLen := grownCap_le_maxLen _ _ _ _ (by simp only [maxLen]; omega)
        have ht : Turns C (C.w.drew.alloc (.cells ((cells ++ news).toArray ++ Builtin.zeroCells z.cells (grownCap C.w (len + ys.length) cap E - (len + ys.length))) E)) g (some (C.w.heap.size, grownCap C.w (len + ys.length) cap E)) (.row E i.size xs) (.row E i.size (xs ++ ys)) := by
          refine ⟨he, rfl, rfl, rfl, by simp, fun b hb _ => Below.heap_alloc C.w.drew _ b hb, ?_, fun _ b c hx => ?_⟩
          · simp only [Entry.shp, STr]
            refine .inl ⟨_, rfl, by simp, fun e => ?_⟩
            have : ys.length = 0 := by simp only [List.length_append] at e; omega
            have h0 : ys = [] := List.eq_nil_of_length_eq_zero this
            exact absurd h0 hyne
          · cases hx
            exact .inr (Nat.le_refl _)
        have hrep2 := turn_rep hC ht (by
          refine (.inr ⟨C.w.heap.size, _, _, cells ++ news, turn_beta_new, av_alloc_new C.w.drew _, ?_, by simp only [List.length_append]; omega, hmx, ?_, ERep_tr (turn_tr hC ht).R.deep _ _ _ hnew⟩)
          · simp only [Array.size_append, List.size_toArray, size_zeroCells, hzs, List.length_append, hcl, hnl, ← Nat.add_mul]
            congr 1
            omega
          · simp only [Array.toList_append, List.length_append]
            rw [List.take_append_of_le_length (by simp [hcl, hnl, Nat.add_mul]), List.take_of_length_le (by simp [hcl, hnl, Nat.add_mul])])
        refine ⟨_, .own g (xs ++ ys).length, _, hrun, turn_tr hC ht, hrep2, ?_, hk⟩
        rw [show len + ys.length = (xs ++ ys).length by rw [List.length_append, hl]]
        exact own_rep_new (turn_get_new he) turn_beta_new rfl
      rcases hC.ent g _ he with ⟨k1, rfl⟩ | ⟨b, cap, cur, cells, k1, k2, k3, k4, k5, k6, k7⟩
      · rcases own_at hv he rfl hl with ⟨_, a, rfl⟩ | ⟨b, c, hb, _⟩
        · have hl0 : len = 0 := hl
          subst hl0
          refine grow a 0 [] (fun w' _ => ?_) (by simp [ERep]) (by have := List.length_pos_iff.2 hyne; omega) rfl
          cases a <;> simp [Builtin.firstCells, loadCells, loadCellsFrom]
        · rw [k1] at hb; cases hb
      · rcases own_at hv he rfl hl with ⟨hb, _⟩ | ⟨b', c, hb, rfl⟩
        · rw [k1] at hb; cases hb
        rw [k1] at hb
        obtain ⟨rfl, rfl⟩ : b = b' ∧ cap = c := by simpa using hb
        have hcl := ERep_length k7
        have hnew := ERep_append k7 hrep
        by_cases hroom : len + ys.length ≤ cap
        · have hfit : len * i.size + news.length ≤ cur.size := by rw [hnl, k3, ← Nat.add_mul]; exact Nat.mul_le_mul_right _ hroom
          have hrun := append_room' (ty := ty) hu hi h2 hsrc k2 hn1 hroom hfit
          have ht : Turns C (C.w.setRow b (cur.toList.take (len * i.size) ++ news ++ cur.toList.drop (len * i.size + news.length)).toArray) g (some (b, cap)) (.row E i.size xs) (.row E i.size (xs ++ ys)) :=
            row_turns hC he rfl k1 k2 (by rw [k1]; simp [Entry.shp, STr])
          have hrep2 : HRep (C.turn (C.w.setRow b (cur.toList.take (len * i.size) ++ news ++ cur.toList.drop (len * i.size + news.length)).toArray) g (some (b, cap)) (.row E i.size (xs ++ ys))) := by
            refine turn_rep hC ht (.inr ⟨b, cap, _, _, turn_beta_new, setRow_heap C.w b cur _ E _ k2, ?_, by simp only [List.length_append]; omega, k5, rfl, ?_⟩)
            · simp only [List.size_toArray, List.length_append, List.length_take, List.length_drop, Array.length_toList]
              rw [← k3]; omega
            · simp only [List.toList_toArray, List.length_append]
              have e1 : (cur.toList.take (len * i.size) ++ news ++ cur.toList.drop (len * i.size + news.length)).take ((xs.length + ys.length) * i.size) = cells ++ news := by
                rw [Nat.add_mul, ← hnl, ← hcl, hl, k6]
                exact List.take_left' (by simp)
              rw [e1]
              exact ERep_tr (turn_tr hC ht).R.deep _ _ _ hnew
          refine ⟨_, .own g (xs ++ ys).length, _, hrun, turn_tr hC ht, hrep2, ?_, hk⟩
          rw [show len + ys.length = (xs ++ ys).length by rw [List.length_append, hl]]
          exact own_rep_new (turn_get_new he) turn_beta_new rfl
        · refine grow _ cap cells (fun w' hw => ?_) k7 (by omega) rfl
          refine run_firstCells_some (P := P) w' i.size len _ len cap cells (by rw [hcl, hl]) (cellsAt_add ?_)
          have := cellsAt_row k2
          intro k u hku
          rw [← k6, List.getElem?_take] at hku
          split at hku
          · have h3 := this k u hku
            exact (World.cell?_of_block (w := C.w) (by rw [hw])).trans h3
          · cases hku
  · exact hk.elim
end
end Go.Av
namespace Go.Av
open Go Go.RowKit
set_option autoImplicit false
set_option linter.all false
section
variable {P : Program} {C : Ctx} {K : KV}
/-- A number more, of which there is no block yet. -/
def Ctx.more (C : Ctx) (e : Entry) : Ctx := ⟨C.w, fun g => if g = C.H.length then none else C.β g, C.H ++ [e], C.F⟩
section more
variable {e : Entry}
theorem more_get_new : (C.more e).H[C.H.length]? = some e := by simp [Ctx.more]
theorem more_beta_new : (C.more e).β C.H.length = none := by simp [Ctx.more]
theorem more_beta_old {g : Nat} (h : g < C.H.length) : (C.more e).β g = C.β g := by simp only [Ctx.more]; rw [if_neg (by omega)]
theorem more_cases {g : Nat} {e' : Entry} (h : (C.more e).H[g]? = some e') : (g < C.H.length ∧ C.H[g]? = some e') ∨ (g = C.H.length ∧ e' = e) := push_cases (C := C) (o := .map #[] 0) (c := 0) h
theorem more_own {b : Nat} (h : (C.more e).own b) : C.own b := by
  obtain ⟨g, e', c', h1, h2, h3⟩ := h
  rcases more_cases h1 with ⟨k1, k2⟩ | ⟨rfl, rfl⟩
  · rw [more_beta_old k1] at h3
    exact ⟨g, e', c', k2, h2, h3⟩
  · rw [more_beta_new] at h3
    cases h3
theorem more_tr : Tr C (C.more e) :=
  ⟨rfl, rfl, rfl, Nat.le_refl _, rfl, fun b hb hn => ⟨rfl, fun k => hn (more_own k)⟩, fun g s hs => by
    have hg : g < C.H.length := by
      rcases Nat.lt_or_ge g C.H.length with h | h
      · exact h
      · simp [Ctx.sh, List.getElem?_eq_none h] at hs
    refine ⟨s, ?_, ?_⟩
    · have : (C.more e).H[g]? = C.H[g]? := List.getElem?_append_left hg
      simp only [Ctx.sh, this]; exact hs
    · rw [more_beta_old hg]; exact STr.refl _ _⟩
theorem more_rep (h : HRep C) (he : EntRep (C.more e) C.H.length e) : HRep (C.more e) := by
  refine ⟨fun g e' hg => ?_, ?_, fun b hb => h.nF b (more_own hb), h.ltF⟩
  · rcases more_cases hg with ⟨k1, k2⟩ | ⟨rfl, rfl⟩
    · exact (h.ent g e' k2).keep more_tr (more_beta_old k1) (fun _ _ _ _ => rfl)
    · exact he
  · intro g g' e1 e2 b c1 c2 h1 h2 o1 o2 b1 b2
    rcases more_cases h1 with ⟨k1, k2⟩ | ⟨rfl, rfl⟩
    · rw [more_beta_old k1] at b1
      rcases more_cases h2 with ⟨m1, m2⟩ | ⟨rfl, rfl⟩
      · rw [more_beta_old m1] at b2
        exact h.inj g g' e1 e2 b c1 c2 k2 m2 o1 o2 b1 b2
      · rw [more_beta_new] at b2; cases b2
    · rw [more_beta_new] at b1; cases b1
end more
/-- An append that makes a row anew. -/
theorem appN_does {t t2 ty el : TypeId} {i : TypeInfo} {z : Value} {xs : List V} {r : Option (List V)} {v x : Value} (hu : P.underlying t = some (.slice el)) (hi : P.info? el = some i) (hz : i.zero = some z) (hzs : z.cells.size = i.size) (hsz : 0 < i.size)
    (h2 : ∃ d, P.underlying t2 = some d ∧ ∀ k, d ≠ .int k) (hC : HRep C)
    (hv : (xs = [] ∧ ∃ a, v = .slice a 0 0) ∨ ∃ b o cells, v = .slice (some ⟨b, o, none⟩) xs.length xs.length ∧ cellsAt C.w b o cells ∧ ERep C.R.deep i.size xs cells)
    (hx : ∀ ys, r = some ys → (ys = [] ∧ ∀ a l c, l ≤ c → (Builtin.append_ #[t, t2] ty #[.slice a l c, x]).run P C.w = .ok (.slice a l c) C.w) ∨ (∃ news, ys ≠ [] ∧ Src P C.w i.size x ys.length news ∧ ERep C.R.deep i.size ys news))
    (hk : appN el i.size i.bytes xs r C.H K) : Does P (Builtin.append_ #[t, t2] ty #[v, x]) C K := by
  cases r with
  | none => exact hk.elim
  | some ys =>
  obtain ⟨⟨hne, hb, h63⟩, hk⟩ := hk
  rcases hx ys rfl with ⟨rfl, hnone⟩ | ⟨news, hyne, hsrc, hrep⟩
  · have hxs : xs = [] := by
      rcases Classical.em (xs = []) with h | h
      · exact h
      · exact absurd rfl (hne h)
    subst hxs
    have hva : ∃ a, v = .slice a 0 0 := by
      rcases hv with ⟨_, a, rfl⟩ | ⟨b, o, cells, rfl, _, _⟩
      · exact ⟨a, rfl⟩
      · exact ⟨_, rfl⟩
    obtain ⟨a, rfl⟩ := hva
    have hm : HRep (C.more (.row el i.size [])) := more_rep hC (.inl ⟨more_beta_new, rfl⟩)
    refine ⟨C.more (.row el i.size []), .own C.H.length 0, .slice a 0 0, hnone a 0 0 (Nat.le_refl _), more_tr, hm, ?_, hk⟩
    simp only [VRep, Ctx.R, sh_of more_get_new, Entry.shp]
    exact ⟨rfl, Nat.le_refl _, fun _ => .inl ⟨more_beta_new, a, rfl⟩⟩
  · have hnl := ERep_length hrep
    have go : ∀ (a : Option Addr) (cells : List Value), (∀ w', w'.heap = C.w.heap → (Builtin.firstCells i.size xs.length (.slice a xs.length xs.length)).run P w' = .ok cells.toArray w') → ERep C.R.deep i.size xs cells → v = .slice a xs.length xs.length →
        Does P (Builtin.append_ #[t, t2] ty #[v, x]) C K := by
      intro a cells hfc hr hve
      subst hve
      have hcl := ERep_length hr
      have hnew := ERep_append hr hrep
      have hcap : xs.length < xs.length + ys.length := by have := List.length_pos_iff.2 hyne; omega
      have hrun := append_grow' (ty := ty) hu hi hz h2 hsrc (a := a) (len := xs.length) (cap := xs.length) hfc hcap (by omega) (growslice_fits hcap hb)
      have hge := grownCap_ge C.w (xs.length + ys.length) xs.length el
      have hmx : grownCap C.w (xs.length + ys.length) xs.length el ≤ maxLen := grownCap_le_maxLen _ _ _ _ (by simp only [maxLen]; omega)
      have hD : HRep C.drew := drew_rep hC
      have hpr := app_new (C' := C.drew) (E := el) (n := i.size) (zs := xs ++ ys) (cells := cells ++ news) (z := z) (cap := grownCap C.w (xs.length + ys.length) xs.length el) hD hzs (ERep_tr (drew_tr C).R.deep _ _ _ hnew) (by simpa using hge) hmx
      rw [List.length_append] at hpr
      refine ⟨_, .own C.H.length (xs ++ ys).length, _, hrun, (drew_tr C).trans push_tr, hpr, ?_, hk⟩
      rw [List.length_append]
      exact own_rep_new (push_get_new (C := C.drew)) (push_beta_new (C := C.drew)) (by simp)
    rcases hv with ⟨rfl, a, rfl⟩ | ⟨b, o, cells, rfl, hc, hr⟩
    · refine go a [] (fun w' _ => ?_) (by simp [ERep]) rfl
      cases a <;> simp [Builtin.firstCells, loadCells, loadCellsFrom]
    · refine go _ cells (fun w' hw => ?_) hr rfl
      refine run_firstCells_some (P := P) w' i.size xs.length _ xs.length xs.length cells (ERep_length hr) (cellsAt_add ?_)
      intro k u hku
      exact (World.cell?_of_block (w := C.w) (by rw [hw])).trans (hc k u hku)
theorem appK_does {t t2 ty el : TypeId} {i : TypeInfo} {z : Value} {x0 : V} {r : Option (List V)} {v x : Value} (hu : P.underlying t = some (.slice el)) (hi : P.info? el = some i) (hz : i.zero = some z) (hzs : z.cells.size = i.size) (hsz : 0 < i.size)
    (h2 : ∃ d, P.underlying t2 = some d ∧ ∀ k, d ≠ .int k) (hC : HRep C) (hv : VRep C.R x0 v)
    (hx : ∀ ys, r = some ys → (ys = [] ∧ ∀ a l c, l ≤ c → (Builtin.append_ #[t, t2] ty #[.slice a l c, x]).run P C.w = .ok (.slice a l c) C.w) ∨ (∃ news, ys ≠ [] ∧ Src P C.w i.size x ys.length news ∧ ERep C.R.deep i.size ys news))
    (hk : appK el i.size i.bytes x0 r C.H K) : Does P (Builtin.append_ #[t, t2] ty #[v, x]) C K := by
  unfold appK at hk
  split at hk
  · exact appH_does hu hi hz hzs hsz h2 hC hv hx hk
  · simp only [VRep] at hv
    subst hv
    exact appN_does hu hi hz hzs hsz h2 hC (.inl ⟨rfl, none, rfl⟩) hx hk
  · obtain ⟨rfl, hk⟩ := hk
    simp only [VRep] at hv
    refine appN_does hu hi hz hzs hsz h2 hC ?_ hx hk
    rcases hv with hv | ⟨b, o, cells, rfl, _, _, h4, h5⟩
    · exact .inl hv
    · exact .inr ⟨b, o, cells, rfl, h4, h5⟩
  · exact hk.elim
theorem app_does {t ty el : TypeId} {i : TypeInfo} {z : Value} {x y : V} {v u : Value} (hu : P.underlying t = some (.slice el)) (hi : P.info? el = some i) (hz : i.zero = some z) (hzs : z.cells.size = i.size) (hsz : 0 < i.size)
    (hC : HRep C) (hv : VRep C.R x v) (hw : VRep C.R y u) (hk : appK el i.size i.bytes x (listOf i.size C.H y) C.H K) : Does P (Builtin.append_ #[t, t] ty #[v, u]) C K := by
  refine appK_does hu hi hz hzs hsz ⟨_, hu, fun k h => by cases h⟩ hC hv (fun ys hys => ?_) hk
  rcases list_src hC hw hys with ⟨rfl, a, c, rfl⟩ | ⟨b, o, c, cells, rfl, hc, hr⟩
  · exact .inl ⟨rfl, fun a' l c' hl => append_none hu hi a' a l c' c hl⟩
  · by_cases hy : ys = []
    · subst hy
      exact .inl ⟨rfl, fun a' l c' hl => append_none hu hi a' _ l c' c hl⟩
    · exact .inr ⟨cells, hy, Src.slice hc (ERep_length hr), hr⟩
theorem u8_rep {R : Rd} : ∀ s : List UInt8, ERep R 1 (s.map u8V) (s.map fun b => Value.int .u8 (b.toNat : Int))
  | [] => by simp [ERep]
  | b :: s => by
    simp only [List.map_cons, ERep]
    exact ⟨.int .u8 b.toNat, _, rfl, rfl, ⟨by simp [u8V], by simp [Value.cells, Value.oneCell']⟩, by simp [u8V, VRep], u8_rep s⟩
theorem apps_does {t t2 ty el : TypeId} {i : TypeInfo} {z : Value} {x y : V} {v u : Value} (hu : P.underlying t = some (.slice el)) (hu2 : P.underlying t2 = some .string) (hi : P.info? el = some i) (hz : i.zero = some z) (hzs : z.cells.size = i.size) (hsz : i.size = 1)
    (hC : HRep C) (hv : VRep C.R x v) (hw : VRep C.R y u) (hk : appK el 1 i.bytes x (strEls y) C.H K) : Does P (Builtin.append_ #[t, t2] ty #[v, u]) C K := by
  rw [← hsz] at hk
  have hw2 := hw
  refine appK_does hu hi hz hzs (by omega) ⟨_, hu2, fun k h => by cases h⟩ hC hv (fun ys hys => ?_) hk
  unfold strEls at hys
  split at hys
  · rename_i s
    cases hys
    rw [VRep_str] at hw2
    subst hw2
    rw [hsz]
    by_cases hy : s = []
    · subst hy
      refine .inl ⟨rfl, fun a l c hl => ?_⟩
      cases a <;> simp [Builtin.append_, run_underlying' hu, run_underlying' hu2, sizeOf, typeInfo, hi, Builtin.lenOf, ByteArray.size, hl, Builtin.firstCells, storeCells]
    · refine .inr ⟨s.map fun b => Value.int .u8 (b.toNat : Int), by simpa using hy, ?_, ?_⟩
      · simpa using Src.string (P := P) (w := C.w) s
      · exact u8_rep s
  · cases hys
end
end Go.Av
namespace Go.Av
open Go Go.RowKit
set_option autoImplicit false
set_option linter.all false
section
variable {P : Program} {C : Ctx} {K : KV}
/-! ### What is no more one's own -/
theorem frz_turns {g : Nat} {e e' : Entry} (he : C.H[g]? = some e) (ho : e'.owned = false) (hs : STr e.shp e'.shp (C.β g) (C.β g)) : Turns C C.w g (C.β g) e e' :=
  ⟨he, rfl, rfl, rfl, Nat.le_refl _, fun _ _ _ => rfl, hs, fun h => by rw [ho] at h; cases h⟩
theorem frz_av {g b c : Nat} {e e' : Entry} (hC : HRep C) (he : C.H[g]? = some e) (hoe : e.owned = true) (ho : e'.owned = false) (hb : C.β g = some (b, c)) : ¬ (C.turn C.w g (C.β g) e').av b := by
  rintro (h | h)
  · rcases turn_own he h with ⟨j, e1, c1, hj, h1, h2, h3⟩ | ⟨h1, _⟩
    · exact hj (hC.inj j g e1 e b c1 c h1 he h2 hoe h3 hb)
    · rw [ho] at h1; cases h1
  · exact hC.nF b ⟨g, e, c, he, hoe, hb⟩ h
theorem frz_row {g E n : Nat} {xs : List V} (hC : HRep C) (he : C.H[g]? = some (.row E n xs)) :
    Tr C (C.turn C.w g (C.β g) (.irow n xs)) ∧ HRep (C.turn C.w g (C.β g) (.irow n xs)) := by
  have ht := frz_turns (e' := .irow n xs) he rfl (by simp [Entry.shp, STr])
  refine ⟨turn_tr hC ht, turn_rep hC ht ?_⟩
  rcases hC.ent g _ he with ⟨k1, k2⟩ | ⟨b, cap, cur, cells, k1, k2, k3, k4, k5, k6, k7⟩
  · exact .inl ⟨by rw [turn_beta_new]; exact k1, k2⟩
  · refine .inr ⟨b, cap, cells, by rw [turn_beta_new]; exact k1, frz_av hC he rfl rfl k1, (Array.getElem?_eq_some_iff.1 k2).1, k4, ?_, ERep_tr (turn_tr hC ht).R.deep _ _ _ k7⟩
    intro k c hk
    rw [← k6, List.getElem?_take] at hk
    split at hk
    · exact cellsAt_row k2 k c hk
    · cases hk

/-! ### Slices of slices -/
inductive OptRep (R : Rd) : Option V → Option Value → Prop
  | none : OptRep R none none
  | some {x : V} {v : Value} (h : VRep R x v) : OptRep R (some x) (some v)
theorem opt_rep {R : Rd} {a : Act} {e : List V} {x : Option Operand} {o : Option Opd} (hx : cOpt x = some o) (hE : CRep R e a.tmps.toList) : OptRep R (evo e o) (x.map a.eval) := by
  cases x with
  | none => simp only [cOpt, Option.some.injEq] at hx; subst hx; exact .none
  | some x =>
    simp only [cOpt, Option.map_eq_some_iff] at hx
    obtain ⟨y, hy, rfl⟩ := hx
    exact .some (opd_rep hy hE)
theorem lo_run {R : Rd} {lo : Option V} {lv : Option Value} {L : Int} (h : OptRep R lo lv) (hl : loI lo = some L) : (lv = none ∧ L = 0) ∨ ∃ k, lv = some (.int k L) := by
  cases h with
  | none => simp only [loI, Option.some.injEq] at hl; exact .inl ⟨rfl, hl.symm⟩
  | some h =>
    unfold loI at hl
    split at hl
    · rename_i h'; cases h'
    · rename_i k j h'
      cases h'
      cases hl
      rw [VRep_int] at h
      subst h
      exact .inr ⟨k, rfl⟩
    · cases hl
theorem hi_run {R : Rd} {hi : Option V} {hv : Option Value} {len : Nat} {L : Int} (h : OptRep R hi hv) (hl : hiI len hi = some L) : (hv = none ∧ L = len) ∨ ∃ k, hv = some (.int k L) := by
  cases h with
  | none => simp only [hiI, Option.some.injEq] at hl; exact .inl ⟨rfl, hl.symm⟩
  | some h =>
    unfold hiI at hl
    split at hl
    · rename_i h'; cases h'
    · rename_i k j h'
      cases h'
      cases hl
      rw [VRep_int] at h
      subst h
      exact .inr ⟨k, rfl⟩
    · cases hl
theorem bounds_run {isS : Bool} {len cap : Nat} {lv hv mv : Option Value} {L Hh : Int} {w : World} (hl : (lv = none ∧ L = 0) ∨ ∃ k, lv = some (.int k L)) (hh : (hv = none ∧ Hh = len) ∨ ∃ k, hv = some (.int k Hh)) (h0 : 0 ≤ L) (h1 : L ≤ Hh) (h2 : Hh ≤ cap) :
    (Instr.sliceBounds isS len cap lv hv none).run P w = .ok (L.toNat, Hh.toNat, cap) w := by
  have e1 : (Hh.toNat : Int) = Hh := Int.toNat_of_nonneg (by omega)
  rcases hl with ⟨rfl, rfl⟩ | ⟨k, rfl⟩ <;> rcases hh with ⟨rfl, rfl⟩ | ⟨k2, rfl⟩ <;>
    simp_all [Instr.sliceBounds, Instr.sliceBound, asIntOf]
  intro h; omega
theorem bounds_run3 {isS : Bool} {len cap : Nat} {lv hv : Option Value} {L Hh M : Int} {km kh : IntKind} {w : World} (hl : (lv = none ∧ L = 0) ∨ ∃ k, lv = some (.int k L)) (hh : hv = some (.int kh Hh)) (h0 : 0 ≤ L) (h1 : L ≤ Hh) (h2 : Hh ≤ M) (h3 : M ≤ cap) :
    (Instr.sliceBounds isS len cap lv hv (some (.int km M))).run P w = .ok (L.toNat, Hh.toNat, M.toNat) w := by
  have e1 : (Hh.toNat : Int) = Hh := Int.toNat_of_nonneg (by omega)
  have e2 : (M.toNat : Int) = M := Int.toNat_of_nonneg (by omega)
  subst hh
  rcases hl with ⟨rfl, rfl⟩ | ⟨k, rfl⟩ <;>
    simp [Instr.sliceBounds, Instr.sliceBound, asIntOf, h0, h1, h2, h3, e1, e2, (by omega : 0 ≤ Hh), (by omega : 0 ≤ M)]
theorem sliceAt_run {t el : TypeId} {n len cap l h m : Nat} {a : Option Addr} {lv hv mv : Option Value} {w : World} (hu : P.underlying t = some (.slice el)) (hn : sizeT P el = some n) (hb : (Instr.sliceBounds true len cap lv hv mv).run P w = .ok (l, h, m) w) :
    (Instr.sliceAt t (.slice a len cap) lv hv mv).run P w = .ok (.slice (if m = l then a else a.map (·.add (l * n))) (h - l) (m - l)) w := by
  simp [Instr.sliceAt, Instr.slice, run_underlying' hu, hb, run_sizeOf hn]
/-- What is cut out of cells that nobody writes. -/
theorem cut_rep {b o l h cap : Nat} {xs : List V} {cells : List Value} {n : Nat} (h1 : ¬ C.av b) (h2 : b < C.w.heap.size) (hc : cellsAt C.w b o cells) (hr : ERep C.R.deep n xs cells) (hlh : l ≤ h) (hh : h ≤ xs.length) (hm : h ≤ cap) :
    VRep C.R (.sl n ((xs.take h).drop l)) (.slice (if cap = l then (some ⟨b, o, none⟩) else (some ⟨b, o, none⟩ : Option Addr).map (·.add (l * n))) (h - l) (cap - l)) := by
  have hlen : ((xs.take h).drop l).length = h - l := by simp; omega
  simp only [VRep]
  by_cases hx : h - l = 0
  · left
    refine ⟨List.eq_nil_of_length_eq_zero (by omega), _, _, by rw [hx]⟩
  · right
    rw [if_neg (by omega)]
    refine ⟨b, o + l * n, cap - l, (cells.take (h * n)).drop (l * n), by rw [hlen]; simp [Addr.add_lit], by omega, h1, h2, ?_, ERep_drop l (ERep_take h hr)⟩
    intro k c hk
    rw [List.getElem?_drop, List.getElem?_take] at hk
    split at hk
    · rw [Nat.add_assoc]; exact hc _ _ hk
    · cases hk
theorem cut_none {n l h cap : Nat} {a : Option Addr} {xs : List V} (hx : xs = []) (hh : h ≤ xs.length) : VRep C.R (.sl n ((xs.take h).drop l)) (.slice (if cap = l then a else a.map (·.add (l * n))) (h - l) (cap - l)) := by
  subst hx
  have : h = 0 := by simpa using hh
  subst this
  simp only [VRep]
  left
  exact ⟨by simp, _, _, by rw [Nat.zero_sub]⟩
/-- A frozen, or a foreign, list's value. -/
theorem slc_list {t el : TypeId} {n : Nat} {xs : List V} {len cap : Nat} {a : Option Addr} {lo hi : Option V} {lv uv : Option Value} (hu : P.underlying t = some (.slice el)) (hn : sizeT P el = some n) (hC : HRep C)
    (hv : (xs = [] ∧ len = 0) ∨ ∃ b o cells, a = some ⟨b, o, none⟩ ∧ len = xs.length ∧ xs.length ≤ cap ∧ ¬ C.av b ∧ b < C.w.heap.size ∧ cellsAt C.w b o cells ∧ ERep C.R.deep n xs cells)
    (hlo : OptRep C.R lo lv) (hhi : OptRep C.R hi uv) (hlen : len = xs.length) (hk : cutK (.sl n) xs (loI lo) (hiI xs.length hi) C.H K) : Does P (Instr.sliceAt t (.slice a len cap) lv uv none) C K := by
  unfold cutK at hk
  split at hk
  · rename_i L Hh hL hH
    obtain ⟨⟨h0, h1, h2⟩, hk⟩ := hk
    have hcap : Hh ≤ cap := by
      rcases hv with ⟨rfl, _⟩ | ⟨b, o, cells, _, _, h3, _⟩
      · simp at h2; omega
      · omega
    have hb := bounds_run (P := P) (isS := true) (len := len) (cap := cap) (mv := none) (w := C.w) (lo_run hlo hL) (by rw [hlen]; exact hi_run hhi hH) h0 h1 hcap
    refine Does.pure hC (sliceAt_run hu hn hb) ?_ hk
    rcases hv with ⟨hx, _⟩ | ⟨b, o, cells, rfl, _, h3, h4, h5, h6, h7⟩
    · exact cut_none hx (by omega)
    · exact cut_rep h4 h5 h6 h7 (by omega) (by omega) (by omega)
  · exact hk.elim
/-- A row's number is given up; its beginning goes by a new one. -/
def Ctx.move (C : Ctx) (g : Nat) (e : Entry) : Ctx := ⟨C.w, fun j => if j = C.H.length then C.β g else C.β j, C.H.set g .gone ++ [e], C.F⟩
section move
variable {g : Nat} {e e' : Entry}
theorem move_cases (he : C.H[g]? = some e) {j : Nat} {e1 : Entry} (h : (C.move g e').H[j]? = some e1) : (j < C.H.length ∧ j ≠ g ∧ C.H[j]? = some e1) ∨ (j = g ∧ e1 = .gone) ∨ (j = C.H.length ∧ e1 = e') := by
  have hg : g < C.H.length := (List.getElem?_eq_some_iff.1 he).1
  rcases Nat.lt_trichotomy j C.H.length with h1 | h1 | h1
  · simp only [Ctx.move] at h
    rw [List.getElem?_append_left (by simpa using h1)] at h
    by_cases hj : j = g
    · subst hj
      rw [List.getElem?_set_self h1] at h
      exact .inr (.inl ⟨rfl, (Option.some.inj h).symm⟩)
    · rw [List.getElem?_set_ne (Ne.symm hj)] at h
      exact .inl ⟨h1, hj, h⟩
  · subst h1
    simp only [Ctx.move] at h
    rw [List.getElem?_append_right (by simp)] at h
    simp at h
    exact .inr (.inr ⟨rfl, h.symm⟩)
  · simp only [Ctx.move] at h
    rw [List.getElem?_append_right (by simp; omega)] at h
    have : j - (C.H.set g .gone).length = (j - C.H.length - 1) + 1 := by simp; omega
    rw [this] at h
    simp at h
theorem move_own (he : C.H[g]? = some e) (ho : e.owned = true) {b : Nat} (h : (C.move g e').own b) : C.own b := by
  obtain ⟨j, e1, c, h1, h2, h3⟩ := h
  rcases move_cases he h1 with ⟨k1, k2, k3⟩ | ⟨_, rfl⟩ | ⟨rfl, rfl⟩
  · simp only [Ctx.move] at h3
    rw [if_neg (by omega)] at h3
    exact ⟨j, e1, c, k3, h2, h3⟩
  · cases h2
  · simp only [Ctx.move, if_true] at h3
    exact ⟨g, e, c, he, ho, h3⟩
theorem move_tr (he : C.H[g]? = some e) (ho : e.owned = true) (hr : e.shp ≠ .resv) : Tr C (C.move g e') := by
  have hg : g < C.H.length := (List.getElem?_eq_some_iff.1 he).1
  refine ⟨rfl, rfl, rfl, Nat.le_refl _, rfl, fun b hb hn => ⟨rfl, fun k => hn (move_own he ho k)⟩, fun j s hs => ?_⟩
  have hj : j < C.H.length := by
    rcases Nat.lt_or_ge j C.H.length with h | h
    · exact h
    · simp [Ctx.sh, List.getElem?_eq_none h] at hs
  by_cases hjg : j = g
  · subst hjg
    refine ⟨.gone, ?_, ?_⟩
    · simp only [Ctx.sh, Ctx.move]
      rw [List.getElem?_append_left (by simpa using hj), List.getElem?_set_self hj]
      rfl
    · cases s <;> simp [STr]
  · refine ⟨s, ?_, ?_⟩
    · simp only [Ctx.sh, Ctx.move] at hs ⊢
      rw [List.getElem?_append_left (by simpa using hj), List.getElem?_set_ne (Ne.symm hjg)]
      exact hs
    · simp only [Ctx.move]
      rw [if_neg (by omega)]
      exact STr.refl _ _
theorem move_rep (hC : HRep C) (he : C.H[g]? = some e) (ho : e.owned = true) (hr : e.shp ≠ .resv) (hn : EntRep (C.move g e') C.H.length e') : HRep (C.move g e') := by
  have hg : g < C.H.length := (List.getElem?_eq_some_iff.1 he).1
  have ht := move_tr (e' := e') he ho hr
  refine ⟨fun j e1 hj => ?_, ?_, fun b hb => hC.nF b (move_own he ho hb), hC.ltF⟩
  · rcases move_cases he hj with ⟨k1, k2, k3⟩ | ⟨_, rfl⟩ | ⟨rfl, rfl⟩
    · exact (hC.ent j e1 k3).keep ht (by simp only [Ctx.move]; rw [if_neg (by omega)]) (fun _ _ _ _ => rfl)
    · trivial
    · exact hn
  · intro j j' e1 e2 b c1 c2 h1 h2 o1 o2 b1 b2
    rcases move_cases he h1 with ⟨k1, k2, k3⟩ | ⟨_, rfl⟩ | ⟨rfl, rfl⟩
    · simp only [Ctx.move] at b1
      rw [if_neg (by omega)] at b1
      rcases move_cases he h2 with ⟨m1, m2, m3⟩ | ⟨_, rfl⟩ | ⟨rfl, rfl⟩
      · simp only [Ctx.move] at b2
        rw [if_neg (by omega)] at b2
        exact hC.inj j j' e1 e2 b c1 c2 k3 m3 o1 o2 b1 b2
      · cases o2
      · simp only [Ctx.move, if_true] at b2
        exact absurd (hC.inj j g e1 e b c1 c2 k3 he o1 ho b1 b2) k2
    · cases o1
    · simp only [Ctx.move, if_true] at b1
      rcases move_cases he h2 with ⟨m1, m2, m3⟩ | ⟨_, rfl⟩ | ⟨rfl, rfl⟩
      · simp only [Ctx.move] at b2
        rw [if_neg (by omega)] at b2
        exact absurd (hC.inj j' g e2 e b c2 c1 m3 he o2 ho b2 b1) m2
      · cases o2
      · rfl
end move
theorem his_run {R : Rd} {hi : Option V} {hv : Option Value} {L : Int} (h : OptRep R hi hv) (hl : hiS hi = some L) : ∃ k, hv = some (.int k L) := by
  cases h with
  | none => cases hl
  | some h =>
    unfold hiS at hl
    split at hl
    · rename_i k j h'
      cases h'
      cases hl
      rw [VRep_int] at h
      subst h
      exact ⟨k, rfl⟩
    · cases hl
theorem OptRep_tr {R R' : Rd} (h : RTr R R') {x : Option V} {v : Option Value} (hx : OptRep R x v) : OptRep R' x v := by
  cases hx with
  | none => exact .none
  | some hx => exact .some (VRep_tr h _ _ hx)
theorem Does.after {C' : Ctx} {s : Sem Value} (ht : Tr C C') (hw : C'.w = C.w) (h : Does P s C' K) : Does P s C K := by
  obtain ⟨C2, x, v, h1, h2, h3, h4, h5⟩ := h
  exact ⟨C2, x, v, by rw [← hw]; exact h1, ht.trans h2, h3, h4, h5⟩
theorem slc_does {t el : TypeId} {n : Nat} {x : V} {lo hi mx : Option V} {v : Value} {lv uv mv : Option Value} (hu : P.underlying t = some (.slice el)) (hn : sizeT P el = some n) (hC : HRep C) (hv : VRep C.R x v)
    (hlo : OptRep C.R lo lv) (hhi : OptRep C.R hi uv) (hmx : OptRep C.R mx mv) (hk : slcK n x lo hi mx C.H K) : Does P (Instr.sliceAt t v lv uv mv) C K := by
  unfold slcK at hk
  split at hk
  · rename_i m xs
    obtain ⟨rfl, hk⟩ := hk
    cases hmx
    simp only [VRep] at hv
    rcases hv with ⟨rfl, a, cap, rfl⟩ | ⟨b, o, cap, cells, rfl, h1, h2, h3, h4, h5⟩
    · exact slc_list hu hn hC (.inl ⟨rfl, rfl⟩) hlo hhi rfl hk
    · exact slc_list hu hn hC (.inr ⟨b, o, cells, rfl, rfl, h1, h2, h3, h4, h5⟩) hlo hhi rfl hk
  · rename_i m xs
    obtain ⟨rfl, hk⟩ := hk
    cases hmx
    simp only [VRep] at hv
    rcases hv with ⟨rfl, a, rfl⟩ | ⟨b, o, cells, rfl, h2, h3, h4, h5⟩
    · exact slc_list hu hn hC (.inl ⟨rfl, rfl⟩) hlo hhi rfl hk
    · exact slc_list hu hn hC (.inr ⟨b, o, cells, rfl, rfl, Nat.le_refl _, h2, h3, h4, h5⟩) hlo hhi rfl hk
  · rename_i m xs mxv
    obtain ⟨rfl, hk⟩ := hk
    unfold cutX at hk
    split at hk
    · rename_i L Hh M hL hH hM
      obtain ⟨⟨h0, h1, rfl, h2⟩, hk⟩ := hk
      obtain ⟨km, rfl⟩ := his_run hmx hM
      obtain ⟨kh, rfl⟩ := his_run hhi hH
      simp only [VRep] at hv
      have fin : ∀ (a : Option Addr) (len cap : Nat), v = .slice a len cap → (Hh : Int) ≤ cap → VRep C.R (.slx m ((xs.take Hh.toNat).drop L.toNat)) (.slice (if Hh.toNat = L.toNat then a else a.map (·.add (L.toNat * m))) (Hh.toNat - L.toNat) (Hh.toNat - L.toNat)) →
          Does P (Instr.sliceAt t v lv (some (.int kh Hh)) (some (.int km Hh))) C K := by
        intro a len cap hve hcap hr
        subst hve
        have hb := bounds_run3 (P := P) (isS := true) (len := len) (cap := cap) (km := km) (kh := kh) (w := C.w) (lo_run hlo hL) rfl h0 h1 (Int.le_refl _) hcap
        exact Does.pure hC (sliceAt_run hu hn hb) hr hk
      rcases hv with ⟨rfl, a, cap, rfl⟩ | ⟨b, o, cap, cells, rfl, g1, g2, g3, g4, g5⟩
      · have hz : Hh = 0 := by simp at h2; omega
        have hz2 : L = 0 := by omega
        subst hz hz2
        refine fin a 0 cap rfl (by omega) ?_
        simp only [VRep]
        exact .inl ⟨by simp, _, rfl⟩
      · refine fin _ _ cap rfl (by omega) ?_
        have := cut_rep (cap := Hh.toNat) g2 g3 g4 g5 (l := L.toNat) (h := Hh.toNat) (by omega) (by omega) (Nat.le_refl _)
        have hlen : ((xs.take Hh.toNat).drop L.toNat).length = Hh.toNat - L.toNat := by simp; omega
        simp only [VRep] at this ⊢
        rcases this with ⟨e1, a, cap', e2⟩ | ⟨b', o', cap', cells', e1, e2, e3⟩
        · left
          have h0' : Hh.toNat - L.toNat = 0 := by have := congrArg List.length e1; rw [hlen] at this; exact this
          refine ⟨e1, ?_⟩
          rw [h0']
          exact Exists.intro _ rfl
        · right
          simp only [Value.slice.injEq] at e1
          exact ⟨b', o', cells', by rw [e1.1, hlen], e3⟩
    · exact hk.elim
  · rename_i m xs mxv
    obtain ⟨rfl, hk⟩ := hk
    have hv : VRep C.R (.sl m xs) v := by
      simp only [VRep] at hv ⊢
      rcases hv with ⟨rfl, a, rfl⟩ | ⟨b, o, cells, rfl, h2, h3, h4, h5⟩
      · exact .inl ⟨rfl, a, _, rfl⟩
      · exact .inr ⟨b, o, _, cells, rfl, Nat.le_refl _, h2, h3, h4, h5⟩
    unfold cutX at hk
    split at hk
    · rename_i L Hh M hL hH hM
      obtain ⟨⟨h0, h1, rfl, h2⟩, hk⟩ := hk
      obtain ⟨km, rfl⟩ := his_run hmx hM
      obtain ⟨kh, rfl⟩ := his_run hhi hH
      simp only [VRep] at hv
      have fin : ∀ (a : Option Addr) (len cap : Nat), v = .slice a len cap → (Hh : Int) ≤ cap → VRep C.R (.slx m ((xs.take Hh.toNat).drop L.toNat)) (.slice (if Hh.toNat = L.toNat then a else a.map (·.add (L.toNat * m))) (Hh.toNat - L.toNat) (Hh.toNat - L.toNat)) →
          Does P (Instr.sliceAt t v lv (some (.int kh Hh)) (some (.int km Hh))) C K := by
        intro a len cap hve hcap hr
        subst hve
        have hb := bounds_run3 (P := P) (isS := true) (len := len) (cap := cap) (km := km) (kh := kh) (w := C.w) (lo_run hlo hL) rfl h0 h1 (Int.le_refl _) hcap
        exact Does.pure hC (sliceAt_run hu hn hb) hr hk
      rcases hv with ⟨rfl, a, cap, rfl⟩ | ⟨b, o, cap, cells, rfl, g1, g2, g3, g4, g5⟩
      · have hz : Hh = 0 := by simp at h2; omega
        have hz2 : L = 0 := by omega
        subst hz hz2
        refine fin a 0 cap rfl (by omega) ?_
        simp only [VRep]
        exact .inl ⟨by simp, _, rfl⟩
      · refine fin _ _ cap rfl (by omega) ?_
        have := cut_rep (cap := Hh.toNat) g2 g3 g4 g5 (l := L.toNat) (h := Hh.toNat) (by omega) (by omega) (Nat.le_refl _)
        have hlen : ((xs.take Hh.toNat).drop L.toNat).length = Hh.toNat - L.toNat := by simp; omega
        simp only [VRep] at this ⊢
        rcases this with ⟨e1, a, cap', e2⟩ | ⟨b', o', cap', cells', e1, e2, e3⟩
        · left
          have h0' : Hh.toNat - L.toNat = 0 := by have := congrArg List.length e1; rw [hlen] at this; exact this
          refine ⟨e1, ?_⟩
          rw [h0']
          exact Exists.intro _ rfl
        · right
          simp only [Value.slice.injEq] at e1
          exact ⟨b', o', cells', by rw [e1.1, hlen], e3⟩
    · exact hk.elim
  · simp only [VRep] at hv
    subst hv
    cases hmx
    obtain ⟨⟨h1, h2⟩, hk⟩ := hk
    have hb := bounds_run (P := P) (isS := true) (len := 0) (cap := 0) (mv := none) (w := C.w) (lo_run hlo h1) (hi_run hhi h2) (Int.le_refl _) (Int.le_refl _) (Int.le_refl _)
    exact Does.pure hC (sliceAt_run hu hn hb) (by simp [VRep]) hk
  · rename_i g len
    cases hmx
    unfold cutO at hk
    split at hk
    · rename_i E m xs he
      rcases hk with hk | hk
      rotate_left
      · obtain ⟨⟨rfl, hl⟩, hk⟩ := hk
        unfold cutC at hk
        split at hk
        · rename_i L Hh hL hH
          obtain ⟨⟨h0, h1, h2, h3⟩, hk⟩ := hk
          rcases own_at hv he rfl hl with ⟨hb, _⟩ | ⟨b, c, hb, rfl⟩
          · exact (row_none hC he rfl hb (by omega)).elim
          have hcc : len ≤ c := by
            rcases hC.ent g _ he with ⟨k1, _⟩ | ⟨b', cap, cur, cells, k1, k2, k3, k4, _⟩
            · rw [k1] at hb; cases hb
            · rw [k1] at hb
              obtain ⟨rfl, rfl⟩ : b' = b ∧ cap = c := by simpa using hb
              omega
          have hb2 := bounds_run (P := P) (isS := true) (len := len) (cap := c) (mv := none) (w := C.w) (lo_run hlo hL) (hi_run hhi hH) h0 h1 (by omega)
          refine Does.pure hC (sliceAt_run hu hn hb2) ?_ hk
          simp only [VRep, Ctx.R, sh_of he, Entry.shp]
          refine ⟨by split <;> rfl, by omega, fun _ => ⟨by omega, b, c, if c = L.toNat then 0 else L.toNat * m, hb, hcc, ?_, fun hlt => by rw [if_neg (by omega)]⟩⟩
          split
          · simp
          · simp [Addr.add]
            try omega
        · exact hk.elim
      obtain ⟨⟨rfl, hl⟩, hk⟩ := hk
      rcases hk with hk | hk
      · obtain ⟨ht, hC'⟩ := frz_row hC he
        have hv' := VRep_tr ht.R _ _ hv
        have hlo' := OptRep_tr ht.R hlo
        have hhi' := OptRep_tr ht.R hhi
        have he' : (C.turn C.w g (C.β g) (.irow m xs)).H[g]? = some (.irow m xs) := turn_get_new he
        refine Does.after ht rfl ?_
        rcases own_at (C := C.turn C.w g (C.β g) (.irow m xs)) hv' he' rfl hl with ⟨hb, a, rfl⟩ | ⟨b, c, hb, rfl⟩
        · rcases hC'.ent g _ he' with ⟨_, rfl⟩ | ⟨b, _, _, k1, _⟩
          · exact slc_list hu hn hC' (.inl ⟨rfl, rfl⟩) hlo' hhi' rfl (by rw [hl] at hk; exact hk)
          · rw [hb] at k1; cases k1
        · rcases hC'.ent g _ he' with ⟨k1, _⟩ | ⟨b', cap, cells, k1, k2, k3, k4, k5, k6⟩
          · rw [hb] at k1; cases k1
          · rw [hb] at k1
            obtain ⟨rfl, rfl⟩ : b = b' ∧ c = cap := by simpa using k1
            exact slc_list hu hn hC' (.inr ⟨b, 0, cells, rfl, hl, k4, k2, k3, k5, k6⟩) hlo' hhi' hl (by rw [hl] at hk; exact hk)
      · split at hk
        · rename_i Hh hL hH
          obtain ⟨⟨h0, h1⟩, hk⟩ := hk
          have htr : Tr C (C.move g (.row E m (xs.take Hh.toNat))) := move_tr he rfl (by simp [Entry.shp])
          rcases hC.ent g _ he with ⟨k1, k2⟩ | ⟨b, cap, cur, cells, k1, k2, k3, k4, k5, k6, k7⟩
          · subst k2
            have hz : Hh = 0 := by simp at h1; omega
            subst hz
            rcases own_at hv he rfl hl with ⟨hb, a, rfl⟩ | ⟨b, c, hb, _⟩
            · have hb2 := bounds_run (P := P) (isS := true) (len := 0) (cap := 0) (mv := none) (w := C.w) (lo_run hlo hL) (hi_run hhi (by rw [← hH]; simp [hl])) (Int.le_refl _) (Int.le_refl _) (Int.le_refl _)
              have hrep := move_rep (e' := .row E m (([] : List V).take (0 : Int).toNat)) hC he rfl (by simp [Entry.shp]) (.inl ⟨by simp only [Ctx.move, if_true]; exact k1, rfl⟩)
              refine ⟨C.move g (.row E m (([] : List V).take (0 : Int).toNat)), .own C.H.length (0 : Int).toNat, _, sliceAt_run hu hn hb2, htr, hrep, ?_, hk⟩
              have hg : (C.move g (.row E m (([] : List V).take (0 : Int).toNat))).H[C.H.length]? = some (.row E m []) := by simp [Ctx.move]
              simp only [VRep, Ctx.R, sh_of hg, Entry.shp]
              exact ⟨rfl, Nat.le_refl _, fun _ => .inl ⟨by simp only [Ctx.move, if_true]; exact k1, _, rfl⟩⟩
            · rw [k1] at hb; cases hb
          · rcases own_at hv he rfl hl with ⟨hb, _⟩ | ⟨b', c, hb, rfl⟩
            · rw [k1] at hb; cases hb
            rw [k1] at hb
            obtain ⟨rfl, rfl⟩ : b = b' ∧ cap = c := by simpa using hb
            have hb2 := bounds_run (P := P) (isS := true) (len := len) (cap := cap) (mv := none) (w := C.w) (lo_run hlo hL) (hi_run hhi hH) (Int.le_refl _) h0 (by omega)
            have hlen : (xs.take Hh.toNat).length = Hh.toNat := by simp; omega
            have hβ : (C.move g (.row E m (xs.take Hh.toNat))).β C.H.length = some (b, cap) := by simp only [Ctx.move, if_true]; exact k1
            have hrep := move_rep (e' := .row E m (xs.take Hh.toNat)) hC he rfl (by simp [Entry.shp]) (.inr ⟨b, cap, cur, _, hβ, k2, k3, by omega, k5, rfl, by
              have e1 : cur.toList.take ((xs.take Hh.toNat).length * m) = cells.take (Hh.toNat * m) := by
                rw [hlen, ← k6, List.take_take, Nat.min_eq_left (Nat.mul_le_mul_right m (by omega))]
              rw [e1]
              exact ERep_tr htr.R.deep _ _ _ (ERep_take _ k7)⟩)
            have hg : (C.move g (.row E m (xs.take Hh.toNat))).H[C.H.length]? = some (.row E m (xs.take Hh.toNat)) := by simp [Ctx.move]
            refine ⟨C.move g (.row E m (xs.take Hh.toNat)), .own C.H.length Hh.toNat, _, sliceAt_run hu hn hb2, htr, hrep, ?_, hk⟩
            have := own_rep_new hg hβ hlen.symm
            simpa [Addr.add] using this
        · exact hk.elim
    · rename_i m xs he
      obtain ⟨⟨rfl, hl⟩, hk⟩ := hk
      rcases own_at hv he rfl hl with ⟨hb, a, rfl⟩ | ⟨b, c, hb, rfl⟩
      · rcases hC.ent g _ he with ⟨_, rfl⟩ | ⟨b, _, _, k1, _⟩
        · exact slc_list hu hn hC (.inl ⟨rfl, rfl⟩) hlo hhi rfl (by rw [hl] at hk; exact hk)
        · rw [hb] at k1; cases k1
      · rcases hC.ent g _ he with ⟨k1, _⟩ | ⟨b', cap, cells, k1, k2, k3, k4, k5, k6⟩
        · rw [hb] at k1; cases k1
        · rw [hb] at k1
          obtain ⟨rfl, rfl⟩ : b = b' ∧ c = cap := by simpa using k1
          exact slc_list hu hn hC (.inr ⟨b, 0, cells, rfl, hl, k4, k2, k3, k5, k6⟩) hlo hhi hl (by rw [hl] at hk; exact hk)
    · exact hk.elim
  · exact hk.elim
end
end Go.Av
namespace Go.Av
open Go Go.RowKit
set_option autoImplicit false
set_option linter.all false
section
variable {P : Program} {C : Ctx} {K : KV}
/-- Nothing is done but that less is one's own. -/
structure Quiet (C C' : Ctx) (H' : List Entry) : Prop where
  h : C'.H = H'
  w : C'.w = C.w
  tr : Tr C C'
  rep : HRep C'
theorem Quiet.refl (hC : HRep C) : Quiet C C C.H := ⟨rfl, rfl, Tr.refl C, hC⟩
def FzOk (f : List Entry → V → V × List Entry) : Prop := ∀ (C : Ctx) (x : V) (v : Value), HRep C → VRep C.R x v → ∃ C', Quiet C C' (f C.H x).2 ∧ VRep C'.R (f C.H x).1 v
def FzsOk (f : List Entry → List V → List V × List Entry) : Prop := ∀ (C : Ctx) (xs : List V) (vs : List Value), HRep C → CRep C.R xs vs → ∃ C', Quiet C C' (f C.H xs).2 ∧ CRep C'.R (f C.H xs).1 vs
theorem Quiet.trans {C1 C2 : Ctx} {H1 H2 : List Entry} (h : Quiet C C1 H1) (k : Quiet C1 C2 H2) : Quiet C C2 H2 := ⟨k.h, k.w.trans h.w, h.tr.trans k.tr, k.rep⟩
theorem fzsW_ok {f : List Entry → V → V × List Entry} (hf : FzOk f) : FzsOk (fzsW f) := by
  intro C xs
  induction xs generalizing C with
  | nil => intro vs hC hr; exact ⟨C, Quiet.refl hC, by simpa only [fzsW] using hr⟩
  | cons x l ih =>
    intro vs hC hr
    simp only [CRep] at hr
    obtain ⟨d, r, rfl, h1, h2⟩ := hr
    obtain ⟨C1, q1, r1⟩ := hf C x d hC h1
    obtain ⟨C2, q2, r2⟩ := ih C1 r q1.rep (CRep_tr q1.tr.R _ _ h2)
    rw [q1.h] at q2 r2
    exact ⟨C2, q1.trans q2, CRep_cons (VRep_tr q2.tr.R _ _ r1) r2⟩
theorem irow_read {g n len : Nat} {xs : List V} {v : Value} (hC : HRep C) (he : C.H[g]? = some (.irow n xs)) (hl : xs.length = len) (hv : VRep C.R (.own g len) v) : VRep C.R (.sl n xs) v := by
  have hsh : C.R.sh g = some (.row n xs.length) := by simp [Ctx.R, Ctx.sh, he, Entry.shp]
  simp only [VRep, hsh] at hv ⊢
  obtain ⟨_, _, hv⟩ := hv
  rcases hC.ent g _ he with ⟨k1, k2⟩ | ⟨b, cap, cells, k1, k2, k3, k4, k5, k6⟩
  · rcases hv hl.symm with ⟨_, a, rfl⟩ | ⟨b, c, hb, _⟩
    · subst k2; subst hl; exact .inl ⟨rfl, a, 0, rfl⟩
    · have : C.β g = some (b, c) := hb
      rw [k1] at this; cases this
  · rcases hv hl.symm with ⟨hb, _⟩ | ⟨b', c', hb, rfl⟩
    · have : C.β g = none := hb
      rw [k1] at this; cases this
    · have : C.β g = some (b', c') := hb
      rw [k1] at this; cases this
      subst hl
      exact .inr ⟨b, 0, cap, cells, rfl, k4, k2, k3, k5, k6⟩
theorem fzRow_ok {g len : Nat} {v : Value} (hC : HRep C) (hv : VRep C.R (.own g len) v) : ∃ C', Quiet C C' (fzRow g len C.H C.H[g]?).2 ∧ VRep C'.R (fzRow g len C.H C.H[g]?).1 v := by
  unfold fzRow
  split
  · rename_i E n xs he
    split
    · rename_i hl
      obtain ⟨ht, hr⟩ := frz_row hC he
      exact ⟨C.turn C.w g (C.β g) (.irow n xs), ⟨rfl, rfl, ht, hr⟩, irow_read hr (turn_get_new he) hl (VRep_tr ht.R _ _ hv)⟩
    · exact ⟨C, Quiet.refl hC, hv⟩
  · rename_i n xs he
    split
    · rename_i hl
      exact ⟨C, Quiet.refl hC, irow_read hC he hl hv⟩
    · exact ⟨C, Quiet.refl hC, hv⟩
  · exact ⟨C, Quiet.refl hC, hv⟩
theorem ibox_read {g : Nat} {cs : List V} {v : Value} (hC : HRep C) (he : C.H[g]? = some (.ibox cs)) (hv : VRep C.R (.ptr g 0) v) : VRep C.R (.ref cs) v := by
  have hsh : C.R.sh g = some .box := by simp [Ctx.R, Ctx.sh, he, Entry.shp]
  simp only [VRep, hsh] at hv ⊢
  obtain ⟨_, b, c, hb, rfl⟩ := hv
  obtain ⟨b', c', cells, k1, k2, k3, k4, k5⟩ := hC.ent g _ he
  have : C.β g = some (b, c) := hb
  rw [k1] at this; cases this
  exact ⟨b, 0, cells, rfl, k2, k3, k4, k5⟩
theorem frz_box {g : Nat} {cs cs' : List V} (hC : HRep C) (he : C.H[g]? = some (.box cs)) (hr : ∀ b c cur E, C.β g = some (b, c) → C.w.heap[b]? = some (.cells cur E (0, 0)) → CRep C.R cs' cur.toList) (hn : noids cs' = true) :
    Tr C (C.turn C.w g (C.β g) (.ibox cs')) ∧ HRep (C.turn C.w g (C.β g) (.ibox cs')) := by
  have ht := frz_turns (e' := .ibox cs') he rfl (by simp [Entry.shp, STr])
  refine ⟨turn_tr hC ht, turn_rep hC ht ?_⟩
  obtain ⟨b, c, cur, E, k1, k2, k3⟩ := hC.ent g _ he
  refine ⟨b, c, cur.toList, by rw [turn_beta_new]; exact k1, frz_av hC he rfl rfl k1, (Array.getElem?_eq_some_iff.1 k2).1, cellsAt_row k2, ?_⟩
  exact CRep_tr (turn_tr hC ht).R.deep _ _ (noids_deep _ _ hn (hr b c cur E k1 k2))
theorem fzBox_ok {f : List Entry → List V → List V × List Entry} (hf : FzsOk f) {g : Nat} {v : Value} (hC : HRep C) (hv : VRep C.R (.ptr g 0) v) : ∃ C', Quiet C C' (fzBox f g C.H C.H[g]?).2 ∧ VRep C'.R (fzBox f g C.H C.H[g]?).1 v := by
  unfold fzBox
  split
  · rename_i cs he
    obtain ⟨b, c, cur, E, k1, k2, k3⟩ := hC.ent g _ he
    obtain ⟨C1, q1, r1⟩ := hf C cs _ hC k3
    unfold fzPut
    split
    · rename_i cs1 he1 hn
      rw [← q1.h] at he1 ⊢
      have hβ : C1.β g = C.β g := by
        obtain ⟨s', h1, h2⟩ := q1.tr.ids g .box (by simp [Ctx.sh, he, Entry.shp])
        rcases h2 with ⟨_, h2⟩ | h2
        · exact h2
        · rw [h2] at h1
          simp [Ctx.sh, he1, Entry.shp] at h1
      obtain ⟨ht, hr⟩ := frz_box (cs' := (f C.H cs).1) q1.rep he1 (fun b' c' cur' E' g1 g2 => by
        rw [hβ, k1] at g1; cases g1
        rw [q1.w, k2] at g2; cases g2
        exact r1) hn
      exact ⟨C1.turn C1.w g (C1.β g) (.ibox (f C.H cs).1), ⟨rfl, q1.w, q1.tr.trans ht, hr⟩, ibox_read hr (turn_get_new he1) (VRep_tr (q1.tr.trans ht).R _ _ hv)⟩
    · exact ⟨C, Quiet.refl hC, hv⟩
  · rename_i cs he
    exact ⟨C, Quiet.refl hC, ibox_read hC he hv⟩
  · exact ⟨C, Quiet.refl hC, hv⟩
theorem fz_ok : ∀ d : Nat, FzOk (fz d)
  | 0 => fun C x v hC hv => ⟨C, Quiet.refl hC, hv⟩
  | d + 1 => by
    have ih := fzsW_ok (fz_ok d)
    intro C x v hC hv
    unfold fz
    split
    · rename_i h; cases h
    · rename_i h; cases h
      simp only [VRep] at hv ⊢
      obtain ⟨ds, rfl, hc⟩ := hv
      obtain ⟨C1, q1, r1⟩ := ih C _ ds hC hc
      exact ⟨C1, q1, ds, rfl, r1⟩
    · rename_i h; cases h
      simp only [VRep] at hv ⊢
      obtain ⟨ds, rfl, hc⟩ := hv
      obtain ⟨C1, q1, r1⟩ := ih C _ ds hC hc
      exact ⟨C1, q1, ds, rfl, r1⟩
    · rename_i h; cases h
      exact fzRow_ok hC hv
    · rename_i h; cases h
      exact fzBox_ok ih hC hv
    · rename_i h; cases h
      simp only [VRep] at hv ⊢
      obtain ⟨x, y, rfl, h1, h2⟩ := hv
      obtain ⟨C1, q1, r1⟩ := ih C _ x hC h1
      obtain ⟨C2, q2, r2⟩ := ih C1 _ y q1.rep (CRep_tr q1.tr.R _ _ h2)
      rw [q1.h] at q2 r2
      exact ⟨C2, q1.trans q2, x, y, rfl, CRep_tr q2.tr.R _ _ r1, r2⟩
    · exact ⟨C, Quiet.refl hC, hv⟩
theorem bsl_does {t el : TypeId} {n len : Nat} {g : Bool} {parts : Array (Nat × Operand)} {l : List Opd} {a : Act} {e : List V} (hu : P.underlying t = some (.slice el)) (hn : sizeT P el = some n) (hl : inOrder 0 parts.toList = some l) (hlen : l.length = len)
    (h24 : len * n ≤ 2 ^ 24) (hz : (zeroT P el).isSome = true) (hC : HRep C) (hE : CRep C.R e a.tmps.toList) (hk : bslF n g (noids (evs e l)) (evs e l) C.H K) :
    Does P (Instr.buildSlice t len (parts.map fun (i, x) => (i, a.eval x))) C K := by
  obtain ⟨vs, h1, h2, h3⟩ := inOrder_eval hE hl
  unfold bslF at hk
  split at hk
  · rename_i hnd
    exact bsl_core (g := g) hu hn h1 (by omega) h24 hz hC h2 (by rw [hnd, Bool.and_true]; exact hk)
  · obtain ⟨C1, q1, r1⟩ := fzsW_ok (fz_ok 8) C _ vs hC h2
    rw [← q1.h] at hk
    exact Does.after q1.tr q1.w (bsl_core (g := g) hu hn h1 (by omega) h24 hz q1.rep r1 hk)
end
end Go.Av
namespace Go.Av
open Go Go.RowKit
set_option autoImplicit false
set_option linter.all false
section
variable {P : Program} {C : Ctx} {K : KV}
theorem MRep_length {R : Rd} : ∀ {kvs : List (V × V)} {es : List MapEntry}, MRep R kvs es → kvs.length = es.length
  | [], es, h => by simp only [MRep] at h; subst h; rfl
  | (k, x) :: l, es, h => by
    obtain ⟨e, r, rfl, _, _, h3⟩ := h
    simp [MRep_length h3]
/-- What a kind of a thing that has a length is. -/
def lenOk : Nat → Option TypeDesc → Bool
  | 0, some .string | 1, some (.slice _) | 2, some (.map _ _) => true
  | _, _ => false
theorem len_does {kind : Nat} {t ty : TypeId} {x : V} {v : Value} (ht : lenOk kind (P.underlying t) = true) (hC : HRep C) (hv : VRep C.R x v) (hk : lenK kind x C.H K) : Does P (Builtin.len_ #[t] ty #[v]) C K := by
  have hstr : kind = 0 → (underlying t).run P C.w = .ok .string C.w := by
    intro h; subst h; unfold lenOk at ht; split at ht <;> simp_all; exact run_underlying' (by assumption)
  have hsl : kind = 1 → ∃ e, (underlying t).run P C.w = .ok (.slice e) C.w := by
    intro h; subst h; unfold lenOk at ht; split at ht <;> simp_all; exact ⟨_, run_underlying' (by assumption)⟩
  have hmp : kind = 2 → ∃ e f, (underlying t).run P C.w = .ok (.map e f) C.w := by
    intro h; subst h; unfold lenOk at ht; split at ht <;> simp_all; exact ⟨_, _, run_underlying' (by assumption)⟩
  unfold lenK at hk
  split at hk
  · rename_i s
    rw [VRep_str] at hv; subst hv
    have hsz : (⟨s.toArray⟩ : ByteArray).size = s.length := rfl
    exact Does.pure hC (by simp [Builtin.len_, hstr rfl, goInt, hsz]) (VRep_int.2 rfl) hk
  · obtain ⟨e, he⟩ := hsl rfl
    simp only [VRep] at hv
    rcases hv with ⟨rfl, a, c, rfl⟩ | ⟨b, o, c, cells, rfl, _⟩ <;> exact Does.pure hC (by simp [Builtin.len_, he, goInt]) (VRep_int.2 rfl) hk
  · obtain ⟨e, he⟩ := hsl rfl
    simp only [VRep] at hv
    rcases hv with ⟨rfl, a, rfl⟩ | ⟨b, o, cells, rfl, _⟩ <;> exact Does.pure hC (by simp [Builtin.len_, he, goInt]) (VRep_int.2 rfl) hk
  · obtain ⟨e, he⟩ := hsl rfl
    simp only [VRep] at hv
    subst hv
    exact Does.pure hC (by simp [Builtin.len_, he, goInt]) (VRep_int.2 rfl) hk
  · rename_i g n
    obtain ⟨e, he⟩ := hsl rfl
    obtain ⟨en, m, xs, h1, h2, h3, hk, _⟩ := isRow_at hk
    rcases own_at hv h1 h2 h3 with ⟨hb, a, rfl⟩ | ⟨b, c, hb, rfl⟩
    · have h0 : n = 0 := by
        rcases Nat.eq_zero_or_pos n with h | h
        · exact h
        · exact (row_none hC h1 h2 hb (by omega)).elim
      subst h0
      exact Does.pure hC (by simp [Builtin.len_, he, goInt]) (VRep_int.2 rfl) hk
    · exact Does.pure hC (by simp [Builtin.len_, he, goInt]) (VRep_int.2 rfl) hk
  · rename_i g n i j
    obtain ⟨e, he⟩ := hsl rfl
    obtain ⟨en, m, xs, h1, h2, h3, hk, _⟩ := isRow_at hk
    obtain ⟨_, b, c, o, hb, hc, rfl, ho⟩ := cut_at hv h1 h2 h3
    exact Does.pure hC (by simp [Builtin.len_, he, goInt]) (VRep_int.2 rfl) hk
  · obtain ⟨e, f, he⟩ := hmp rfl
    simp only [VRep] at hv
    subst hv
    exact Does.pure hC (by simp [Builtin.len_, he, goInt]) (VRep_int.2 rfl) hk
  · obtain ⟨e, f, he⟩ := hmp rfl
    rename_i j
    unfold lenH at hk
    split at hk
    · rename_i kvs h1
      obtain ⟨b, c, hb, rfl⟩ := map_at hv h1 rfl
      obtain ⟨b', c', es, clock, k1, k2, k3⟩ := hC.ent j _ h1
      rw [hb] at k1
      obtain ⟨rfl, rfl⟩ : b = b' ∧ c = c' := by simpa using k1
      have hl := MRep_length k3
      refine Does.pure hC ?_ (VRep_int.2 rfl) hk
      have hg : (getObj b).run P C.w = .ok (.map es clock) C.w := by simp [getObj, Sem.run, k2]
      simp [Builtin.len_, he, hg, goInt, hl]
    · exact hk.elim
  · exact hk.elim
theorem sls_does {t : TypeId} {x : V} {lo hi : Option V} {v : Value} {lv uv : Option Value} (hu : P.underlying t = some .string) (hC : HRep C) (hv : VRep C.R x v) (hlo : OptRep C.R lo lv) (hhi : OptRep C.R hi uv) (hk : slsK x lo hi C.H K) :
    Does P (Instr.sliceAt t v lv uv none) C K := by
  unfold slsK at hk
  split at hk
  · rename_i s
    split at hk
    · rename_i L Hh hL hH
      obtain ⟨⟨h0, h1, h2⟩, hk⟩ := hk
      rw [VRep_str] at hv
      subst hv
      have hsz : (⟨s.toArray⟩ : ByteArray).size = s.length := by simp [ByteArray.size]
      have hb := bounds_run (P := P) (isS := false) (len := s.length) (cap := s.length) (mv := none) (w := C.w) (lo_run hlo hL) (hi_run hhi hH) h0 h1 h2
      refine Does.pure hC (v := .string ⟨((s.take Hh.toNat).drop L.toNat).toArray⟩) ?_ (VRep_str.2 rfl) hk
      have : (⟨s.toArray⟩ : ByteArray).extract L.toNat Hh.toNat = ⟨((s.take Hh.toNat).drop L.toNat).toArray⟩ := by
        rw [ByteArray.extract_mk, List.drop_take]
      simp [Instr.sliceAt, Instr.slice, run_underlying' hu, hsz, hb, this]
    · exact hk.elim
  · exact hk.elim
theorem u8_cells {R : Rd} : ∀ {xs : List V} {cells : List Value}, ERep R 1 xs cells → allU8 xs = true → ∃ ns : List Int, cells = ns.map (Value.int .u8) ∧ xs.map u8Of = ns.map fun n => UInt8.ofNat n.toNat
  | [], cells, h, _ => by simp only [ERep] at h; subst h; exact ⟨[], rfl, rfl⟩
  | x :: xs, cells, h, ha => by
    simp only [allU8, Bool.and_eq_true] at ha
    simp only [ERep] at h
    obtain ⟨v, r, rfl, h1, hj, h2, h3⟩ := h
    obtain ⟨ns, k1, k2⟩ := u8_cells h3 ha.2
    have hx := ha.1
    unfold isU8 at hx
    split at hx
    · rename_i n
      rw [VRep_int] at h2
      subst h2
      exact ⟨n :: ns, by simp [Value.cells, k1], by simp [u8Of, k2]⟩
    · cases hx
theorem push_all (ns : List Int) : ∀ s : List UInt8, ns.foldl (fun (r : ByteArray) n => r.push (UInt8.ofNat n.toNat)) ⟨s.toArray⟩ = ⟨(s ++ ns.map fun n => UInt8.ofNat n.toNat).toArray⟩ := by
  induction ns with
  | nil => intro s; simp
  | cons n ns ih =>
    intro s
    simp only [List.foldl_cons, List.map_cons]
    have : (ByteArray.push ⟨s.toArray⟩ (UInt8.ofNat n.toNat)) = ⟨(s ++ [UInt8.ofNat n.toNat]).toArray⟩ := by
      simp [ByteArray.push]
    rw [this, ih]
    simp
theorem b2s_does {s t e : TypeId} {x : V} {v : Value} (hs : P.underlying s = some (.slice e)) (he : P.underlying e = some (.int .u8)) (ht : P.underlying t = some .string) (hC : HRep C) (hv : VRep C.R x v) (hk : b2sK (listOf 1 C.H x) C.H K) : Does P (convert s t v) C K := by
  unfold b2sK at hk
  split at hk
  · rename_i xs hx
    rcases list_src hC hv hx with ⟨rfl, a, c, rfl⟩ | ⟨b, o, c, cells, rfl, hc, hr⟩
    · refine Does.pure hC (v := .string ByteArray.empty) ?_ (by rw [List.map_nil, VRep_str]; rfl) hk.2
      rw [run_convert_bytes_string C.w s t e a 0 c hs he ht]
      cases a with
      | none => simp [Conv.bytesToString]
      | some a => exact run_bytesToString (P := P) C.w a 0 c [] (by simp [loadCells, loadCellsFrom])
    · obtain ⟨ns, h1, h2⟩ := u8_cells hr hk.1
      refine Does.pure hC (v := .string ⟨(xs.map u8Of).toArray⟩) ?_ (VRep_str.2 rfl) hk.2
      rw [run_convert_bytes_string C.w s t e _ _ c hs he ht]
      have hl := run_loadCells_list (P := P) C.w ⟨b, o, none⟩ cells (cellsAt_add hc)
      have hlen : cells.length = xs.length := by simpa using ERep_length hr
      rw [hlen] at hl
      have := run_bytesToString (P := P) C.w ⟨b, o, none⟩ xs.length c ns (by rw [hl, h1])
      rw [this, h2]
      have h3 := push_all ns []
      simp only [List.nil_append] at h3
      rw [← h3]
      rfl
  · exact hk.elim
end
end Go.Av
namespace Go.Av
open Go Go.RowKit
set_option autoImplicit false
set_option linter.all false
theorem patch_cells {α : Type} (cur news : List α) (N a q : Nat) (h : a + q ≤ N) (hN : N ≤ cur.length) (hn : news.length = q) :
    (cur.take a ++ news ++ cur.drop (a + news.length)).take N = (cur.take N).take a ++ (news ++ (cur.take N).drop (a + q)) := by
  subst hn
  have h1 : (cur.take a).length = a := by rw [List.length_take]; omega
  rw [List.append_assoc, List.take_append, List.take_append, h1, List.take_take, List.take_take, List.drop_take, Nat.min_eq_right (show a ≤ N by omega), Nat.min_eq_left (show a ≤ N by omega), List.take_of_length_le (l := news) (by omega), Nat.sub_sub]
theorem patch_len {α : Type} (xs ys : List α) (i q : Nat) (h : i + q ≤ xs.length) (hq : q ≤ ys.length) : (xs.take i ++ (ys.take q ++ xs.drop (i + q))).length = xs.length := by
  simp only [List.length_append, List.length_take, List.length_drop]; omega
section
variable {P : Program} {C : Ctx} {K : KV}
theorem copy_does {t t2 ty el : TypeId} {n : Nat} {x y : V} {v u : Value} (hu : P.underlying t = some (.slice el)) (hn : sizeT P el = some n) (hC : HRep C) (hv : VRep C.R x v) (hw : VRep C.R y u) (hk : copyK n x (listOf n C.H y) C.H K) :
    Does P (Builtin.copy_ #[t, t2] ty #[v, u]) C K := by
  unfold copyK at hk
  split at hk
  · rename_i g len
    unfold copyH at hk
    cases hys : listOf n C.H y with
    | none => rw [hys] at hk; split at hk <;> first | exact hk.elim | simp_all
    | some ys =>
    rw [hys] at hk
    split at hk
    · rename_i E m xs ys' he hyy
      cases hyy
      obtain ⟨⟨rfl, hl⟩, hk⟩ := hk
      have hsrc := list_src hC hw hys
      have hlen : (Builtin.lenOf u).run P C.w = .ok ys.length C.w := by
        rcases hsrc with ⟨rfl, a, c, rfl⟩ | ⟨b, o, c, cells, rfl, _, _⟩ <;> simp [Builtin.lenOf]
      have hf : ∃ news, (Builtin.firstCells m (min ys.length xs.length) u).run P C.w = .ok news.toArray C.w ∧ ERep C.R.deep m (ys.take (min ys.length xs.length)) news := by
        rcases hsrc with ⟨rfl, a, c, rfl⟩ | ⟨b, o, c, cells, rfl, hc, hr⟩
        · refine ⟨[], ?_, by simp [ERep]⟩
          cases a <;> simp [Builtin.firstCells, loadCells, loadCellsFrom]
        · have hrt := ERep_take (min ys.length xs.length) hr
          refine ⟨_, run_firstCells_some (P := P) C.w m _ _ _ c (cells.take (min ys.length xs.length * m)) ?_ (cellsAt_add ?_), hrt⟩
          · have := ERep_length hrt
            rw [this, List.length_take]
            congr 1
            omega
          · intro k u hku
            rw [List.getElem?_take] at hku
            split at hku
            · exact hc k u hku
            · cases hku
      obtain ⟨news, hf1, hf2⟩ := hf
      have hnl := ERep_length hf2
      rw [List.length_take, Nat.min_eq_left (Nat.min_le_left _ _)] at hnl
      have hrow : ys.take xs.length ++ xs.drop ys.length = ys.take (min ys.length xs.length) ++ xs.drop (min ys.length xs.length) := by
        rcases Nat.le_total ys.length xs.length with h | h
        · rw [Nat.min_eq_left h, List.take_of_length_le h, List.take_of_length_le (Nat.le_refl _)]
        · rw [Nat.min_eq_right h, List.drop_of_length_le h, List.drop_of_length_le (Nat.le_refl _)]
      rcases hC.ent g _ he with ⟨k1, rfl⟩ | ⟨b, cap, cur, cells, k1, k2, k3, k4, k5, k6, k7⟩
      · simp only [List.length_nil, Nat.min_zero, List.take_zero, Nat.zero_mul] at hrow hf1 hf2 hnl
        have hset : C.H.set g (.row E m (ys.take ([] : List V).length ++ ([] : List V).drop ys.length)) = C.H := by simpa using set_same he
        rw [hset] at hk
        rcases own_at hv he rfl hl with ⟨hb, a, rfl⟩ | ⟨b, c, hb, _⟩
        · have hn0 : news = [] := List.eq_nil_of_length_eq_zero hnl
          subst hn0
          refine Does.pure hC ?_ (VRep_int.2 rfl) hk
          cases a <;> simp [Builtin.copy_, run_underlying' hu, hlen, run_sizeOf hn, hf1, storeCells, goInt]
        · rw [k1] at hb; cases hb
      · rcases own_at hv he rfl hl with ⟨hb, _⟩ | ⟨b', c, hb, rfl⟩
        · rw [k1] at hb; cases hb
        rw [k1] at hb
        obtain ⟨rfl, rfl⟩ : b = b' ∧ cap = c := by simpa using hb
        have hcl := ERep_length k7
        have hlx : xs.length * m ≤ cap * m := Nat.mul_le_mul_right m k4
        have hmin : min ys.length xs.length * m ≤ xs.length * m := Nat.mul_le_mul_right m (Nat.min_le_right _ _)
        have hst := run_storeCells_at P b 0 E news 0 cur C.w k2 (by rw [hnl, k3]; omega) (ERep_cells hf2)
        simp only [Nat.zero_add, List.take_zero, List.nil_append] at hst
        have hrun : (Builtin.copy_ #[t, t2] ty #[.slice (some ⟨b, 0, none⟩) len cap, u]).run P C.w = .ok (.int .i64 ((min ys.length xs.length : Nat) : Int)) (C.w.setRow b (news ++ cur.toList.drop news.length).toArray) := by
          have : Nat.min ys.length len = min ys.length xs.length := by rw [hl]
          simp [Builtin.copy_, run_underlying' hu, hlen, this, run_sizeOf hn, hf1, hst, goInt]
        have ht : Turns C (C.w.setRow b (news ++ cur.toList.drop news.length).toArray) g (some (b, cap)) (.row E m xs) (.row E m (ys.take xs.length ++ xs.drop ys.length)) :=
          row_turns hC he rfl k1 k2 (by
            rw [k1]
            simp only [Entry.shp, STr]
            exact .inl ⟨_, rfl, by rw [hrow]; simp; omega, fun _ => trivial⟩)
        have hlen2 : (ys.take xs.length ++ xs.drop ys.length).length = xs.length := by rw [hrow]; simp; omega
        have hrep := turn_rep hC ht (.inr ⟨b, cap, _, news ++ cells.drop (min ys.length xs.length * m), turn_beta_new, setRow_heap C.w b cur _ E _ k2, by simp [hnl, k3]; omega, by rw [hlen2]; exact k4, k5, by
            rw [hlen2]
            simp only [List.toList_toArray]
            rw [← k6, List.take_append, hnl, List.take_of_length_le (by rw [hnl]; exact hmin), List.drop_take], by
            have key := ERep_tr (turn_tr hC ht).R.deep _ _ _ (ERep_append hf2 (ERep_drop (min ys.length xs.length) k7))
            rw [← hrow] at key
            exact key⟩)
        exact ⟨_, .int .i64 _, _, hrun, turn_tr hC ht, hrep, VRep_int.2 rfl, hk⟩
    · exact hk.elim
  · rename_i g len i j
    unfold copyC at hk
    cases hys : listOf n C.H y with
    | none => rw [hys] at hk; split at hk <;> first | exact hk.elim | simp_all
    | some ys =>
    rw [hys] at hk
    split at hk
    · rename_i E m xs ys' he hyy
      cases hyy
      obtain ⟨⟨rfl, hl⟩, hk⟩ := hk
      have hsrc := list_src hC hw hys
      obtain ⟨⟨h1, h2⟩, b, c, o, hb, hc, rfl, ho⟩ := cut_at hv he rfl hl
      have hlen : (Builtin.lenOf u).run P C.w = .ok ys.length C.w := by
        rcases hsrc with ⟨rfl, a, c, rfl⟩ | ⟨b, o, c, cells, rfl, _, _⟩ <;> simp [Builtin.lenOf]
      have hf : ∃ news, (Builtin.firstCells m (min ys.length (j - i)) u).run P C.w = .ok news.toArray C.w ∧ ERep C.R.deep m (ys.take (min ys.length (j - i))) news := by
        rcases hsrc with ⟨rfl, a, c, rfl⟩ | ⟨b, o, c, cells, rfl, hc, hr⟩
        · refine ⟨[], ?_, by simp [ERep]⟩
          cases a <;> simp [Builtin.firstCells, loadCells, loadCellsFrom]
        · have hrt := ERep_take (min ys.length (j - i)) hr
          refine ⟨_, run_firstCells_some (P := P) C.w m _ _ _ c (cells.take (min ys.length (j - i) * m)) ?_ (cellsAt_add ?_), hrt⟩
          · have := ERep_length hrt
            rw [this, List.length_take]
            congr 1
            omega
          · intro k u hku
            rw [List.getElem?_take] at hku
            split at hku
            · exact hc k u hku
            · cases hku
      obtain ⟨news, hf1, hf2⟩ := hf
      have hnl := ERep_length hf2
      rw [List.length_take, Nat.min_eq_left (Nat.min_le_left _ _)] at hnl
      generalize hq : min ys.length (j - i) = q at *
      have hrow : ys.take (j - i) = ys.take q := by
        rcases Nat.le_total ys.length (j - i) with h | h
        · rw [Nat.min_eq_left h] at hq; rw [← hq, List.take_of_length_le h, List.take_of_length_le (Nat.le_refl _)]
        · rw [Nat.min_eq_right h] at hq; rw [hq]
      rw [hrow] at hk
      rcases hC.ent g _ he with ⟨k1, rfl⟩ | ⟨b', cap, cur, cells, k1, k2, k3, k4, k5, k6, k7⟩
      · rw [k1] at hb; cases hb
      rw [k1] at hb
      obtain ⟨rfl, rfl⟩ : b' = b ∧ cap = c := by simpa using hb
      have hcl := ERep_length k7
      rcases Nat.eq_zero_or_pos q with hq0 | hq0
      · have hn0 : news = [] := List.eq_nil_of_length_eq_zero (by rw [hnl, hq0]; simp)
        subst hn0
        have hset : C.H.set g (.row E m (xs.take i ++ (ys.take q ++ xs.drop (i + q)))) = C.H := by rw [hq0]; simpa using set_same he
        rw [hset] at hk
        refine Does.pure hC ?_ (VRep_int.2 rfl) hk
        have : Nat.min ys.length (j - i) = q := hq
        simp [Builtin.copy_, run_underlying' hu, hlen, this, run_sizeOf hn, hf1, storeCells, goInt]
      have hij : i < j := by omega
      have hiq : i + q ≤ xs.length := by omega
      have hm1 : (i + q) * m ≤ xs.length * m := Nat.mul_le_mul_right m hiq
      have hm2 : xs.length * m ≤ cap * m := Nat.mul_le_mul_right m k4
      have hm3 : (i + q) * m = i * m + q * m := Nat.add_mul _ _ _
      have hst := run_storeCells_at P b' (i * m) E news 0 cur C.w k2 (by rw [hnl, k3]; omega) (ERep_cells hf2)
      simp only [Nat.add_zero] at hst
      have hrun : (Builtin.copy_ #[t, t2] ty #[.slice (some ⟨b', o, none⟩) (j - i) (cap - i), u]).run P C.w = .ok (.int .i64 ((q : Nat) : Int)) (C.w.setRow b' (cur.toList.take (i * m) ++ news ++ cur.toList.drop (i * m + news.length)).toArray) := by
        have : Nat.min ys.length (j - i) = q := hq
        rw [ho hij]
        simp [Builtin.copy_, run_underlying' hu, hlen, this, run_sizeOf hn, hf1, hst, goInt]
      have hqy : q ≤ ys.length := by omega
      have hlen2 := patch_len xs ys i q hiq hqy
      have ht : Turns C (C.w.setRow b' (cur.toList.take (i * m) ++ news ++ cur.toList.drop (i * m + news.length)).toArray) g (some (b', cap)) (.row E m xs) (.row E m (xs.take i ++ (ys.take q ++ xs.drop (i + q)))) :=
        row_turns hC he rfl k1 k2 (by
          rw [k1]
          simp only [Entry.shp, STr]
          exact .inl ⟨_, rfl, by rw [hlen2]; exact Nat.le_refl _, fun _ => trivial⟩)
      have hrep := turn_rep hC ht (.inr ⟨b', cap, _, (cells.take (i * m)) ++ (news ++ cells.drop ((i + q) * m)), turn_beta_new, setRow_heap C.w b' cur _ E _ k2, by simp only [List.size_toArray, List.length_append, List.length_take, List.length_drop, Array.length_toList, hnl, k3]; omega, by rw [hlen2]; exact k4, k5, by
          rw [hlen2]
          simp only [List.toList_toArray]
          rw [← k6, hm3]
          exact patch_cells _ _ _ _ _ (by omega) (by have hz : cur.toList.length = cur.size := Array.length_toList; omega) hnl, by
          have key := ERep_tr (turn_tr hC ht).R.deep _ _ _ (ERep_append (ERep_take i k7) (ERep_append hf2 (ERep_drop (i + q) k7)))
          exact key⟩)
      exact ⟨_, .int .i64 _, _, hrun, turn_tr hC ht, hrep, VRep_int.2 rfl, hk⟩
    · exact hk.elim
  · exact hk.elim
/-! Texts that are gone through, rune by rune -/
theorem rng_does {t : TypeId} {x : V} {v : Value} (hu : P.underlying t = some .string) (hC : HRep C) (hv : VRep C.R x v) (hk : rngK x C.H K) : Does P (Instr.range t v) C K := by
  unfold rngK at hk
  split at hk
  · rename_i s
    rw [VRep_str] at hv
    subst hv
    refine ⟨C.push (.stringIter ⟨s.toArray⟩ 0) 0 (.siter s 0), .it C.H.length, .pointer (some ⟨C.w.heap.size, 0, none⟩), ?_, push_tr, push_rep hC ⟨_, _, push_beta_new, av_alloc_new C.w _⟩, ?_, hk⟩
    · simp [Instr.range, run_underlying' hu, Ctx.push]
    · simp only [VRep, Ctx.R, sh_of push_get_new, Entry.shp]
      exact ⟨rfl, _, _, push_beta_new, rfl⟩
  · exact hk.elim
theorem run_getObj {b : Nat} {o : Obj} {w : World} (h : w.heap[b]? = some o) (hn : ∀ c t f, o ≠ .cells c t f) : (getObj b).run P w = .ok o w := by
  cases o <;> first | exact absurd rfl (hn _ _ _) | simp [getObj, Sem.run, h]
theorem run_setObj {b : Nat} {o o' : Obj} {w : World} (h : w.heap[b]? = some o) (hn : ∀ c t f, o ≠ .cells c t f) : (setObj b o').run P w = .ok () { w with heap := w.heap.setIfInBounds b o' } := by
  cases o <;> first | exact absurd rfl (hn _ _ _) | simp [setObj, Sem.run, h]
theorem obj_turns {j b c : Nat} {e e' : Entry} {o : Obj} (he : C.H[j]? = some e) (ho : e.owned = true) (hb : C.β j = some (b, c)) (hlt : b < C.w.heap.size) (hs : STr e.shp e'.shp (C.β j) (some (b, c))) :
    Turns C { C.w with heap := C.w.heap.setIfInBounds b o } j (some (b, c)) e e' := by
  refine ⟨he, rfl, rfl, rfl, by simp, fun k hk hn => ?_, hs, fun _ b' c' hx => ?_⟩
  · have : k ≠ b := fun e1 => hn ho c (by rw [e1]; exact hb)
    simp [Array.getElem?_setIfInBounds, Ne.symm this]
  · cases hx
    exact .inl ⟨ho, c, hb⟩
theorem nxt_does {str : Bool} {ty : TypeId} {x : V} {v : Value} (hC : HRep C) (hv : VRep C.R x v) (hk : nxtK str x C.H K) : Does P (Instr.next v str ty) C K := by
  unfold nxtK at hk
  split at hk
  · rename_i j
    unfold nxtH at hk
    split at hk
    · rename_i s pos he
      obtain ⟨b, c, hb, rfl⟩ := it_at hv he rfl
      obtain ⟨b', c', k1, k2⟩ := hC.ent j _ he
      rw [hb] at k1
      obtain ⟨rfl, rfl⟩ : b = b' ∧ c = c' := by simpa using k1
      have hlt := (Array.getElem?_eq_some_iff.1 k2).1
      have hsz : (⟨s.toArray⟩ : ByteArray).size = s.length := rfl
      have hg := run_getObj (P := P) k2 (fun _ _ _ h => by cases h)
      by_cases hp : pos < s.length
      · have ht : Turns C { C.w with heap := C.w.heap.setIfInBounds b (.stringIter ⟨s.toArray⟩ (pos + (Utf8.decode ⟨s.toArray⟩ pos).2)) } j (some (b, c)) (.siter s pos) (.siter s (pos + (Utf8.decode ⟨s.toArray⟩ pos).2)) :=
          obj_turns he rfl hb hlt (by rw [hb]; simp [Entry.shp, STr])
        have hrep := turn_rep hC ht ⟨b, c, turn_beta_new, by simp [Ctx.turn, hlt]⟩
        simp only [hp, decide_true, cond_true] at hk
        refine ⟨_, _, .tuple #[.bool true, goInt pos, .int .i32 (Utf8.decode ⟨s.toArray⟩ pos).1], ?_, turn_tr hC ht, hrep, ?_, hk⟩
        · have hs := run_setObj (P := P) (o' := .stringIter ⟨s.toArray⟩ (pos + (Utf8.decode ⟨s.toArray⟩ pos).2)) k2 (fun _ _ _ h => by cases h)
          simp only [Instr.next, Sem.run_bind, hg, Result.andThen_ok, hsz, hp, if_true]
          simp [hs, Ctx.turn]
        · simp only [VRep]
          exact ⟨[.bool true, goInt pos, .int .i32 (Utf8.decode ⟨s.toArray⟩ pos).1], rfl, CRep_cons (VRep_bool.2 rfl) (CRep_cons (VRep_int.2 rfl) (CRep_cons (VRep_int.2 rfl) CRep_nil))⟩
      · simp only [hp, decide_false, cond_false] at hk
        refine Does.pure hC (v := .tuple #[.bool false]) ?_ ?_ hk
        · simp only [Instr.next, Sem.run_bind, hg, Result.andThen_ok, hsz, hp, if_false]
          simp
        · simp only [VRep]
          exact ⟨[.bool false], rfl, CRep_cons (VRep_bool.2 rfl) CRep_nil⟩
    · exact hk.elim
  · exact hk.elim
theorem mkm_does {t a b : TypeId} (hu : P.underlying t = some (.map a b)) (hC : HRep C) (hk : K (.map C.H.length) (C.H ++ [.map []])) : Does P (Instr.makeMap t none) C K := by
  refine ⟨C.push (.map #[] 0) 0 (.map []), .map C.H.length, .map (some C.w.heap.size), ?_, push_tr, push_rep hC ⟨_, _, #[], 0, push_beta_new, av_alloc_new C.w _, rfl⟩, ?_, hk⟩
  · simp [Instr.makeMap, Ctx.push]
  · simp only [VRep, Ctx.R, sh_of push_get_new, Entry.shp]
    exact ⟨rfl, _, _, push_beta_new, rfl⟩
end
end Go.Av
