/- A part of a way to reckon what a Go program does without its memory (AvP). -/
import Derived.Test.YtllojkdacinhfaaAvO
namespace Go.Av
open Go Go.RowKit
set_option autoImplicit false
set_option linter.all false
section
variable {P : Program} {C : Ctx} {K : KV}
/-- Where a list's elements are. -/
theorem list_src {n : Nat} {y : V} {u : Value} {ys : List V} (hC : HRep C) (hu : VRep C.R y u) (h : listOf n C.H y = some ys) :
    (ys = [] ∧ ∃ a c, u = .slice a 0 c) ∨ ∃ b o c cells, u = .slice (some ⟨b, o, none⟩) ys.length c ∧ cellsAt C.w b o cells ∧ ERep C.R.deep n ys cells := by
  unfold listOf at h
  split at h
  · split at h
    · rename_i hm
      cases h
      subst hm
      simp only [VRep] at hu
      rcases hu with ⟨rfl, a, c, rfl⟩ | ⟨b, o, c, cells, rfl, _, _, _, h4, h5⟩
      · exact .inl ⟨rfl, a, c, rfl⟩
      · exact .inr ⟨b, o, c, cells, rfl, h4, h5⟩
    · cases h
  · split at h
    · rename_i hm
      cases h
      subst hm
      simp only [VRep] at hu
      rcases hu with ⟨rfl, a, rfl⟩ | ⟨b, o, cells, rfl, _, _, h4, h5⟩
      · exact .inl ⟨rfl, a, 0, rfl⟩
      · exact .inr ⟨b, o, _, cells, rfl, h4, h5⟩
    · cases h
  · cases h
    simp only [VRep] at hu
    subst hu
    exact .inl ⟨rfl, none, 0, rfl⟩
  · rename_i g len
    split at h
    · rename_i E m xs he
      split at h
      · rename_i hm
        cases h
        obtain ⟨rfl, hl⟩ := hm
        rcases hC.ent g _ he with ⟨k1, k2⟩ | ⟨b, cap, cur, cells, k1, k2, k3, k4, k5, k6, k7⟩
        · subst k2
          rcases own_at (xs := []) hu he rfl (by simpa using hl.symm) with ⟨_, a, rfl⟩ | ⟨b, c, hb, _⟩
          · exact .inl ⟨rfl, a, 0, rfl⟩
          · rw [k1] at hb; cases hb
        · rcases own_at (xs := ys) hu he rfl hl.symm with ⟨hb, _⟩ | ⟨b', c, hb, rfl⟩
          · rw [k1] at hb; cases hb
          · rw [k1] at hb
            obtain ⟨rfl, rfl⟩ : b = b' ∧ cap = c := by simpa using hb
            refine .inr ⟨b, 0, cap, cells, by rw [hl], ?_, k7⟩
            have := cellsAt_row k2
            intro k c hk
            rw [← k6, List.getElem?_take] at hk
            split at hk
            · exact this k c hk
            · cases hk
      · cases h
    · rename_i m xs he
      split at h
      · rename_i hm
        cases h
        obtain ⟨rfl, hl⟩ := hm
        rcases hC.ent g _ he with ⟨k1, k2⟩ | ⟨b, cap, cells, k1, _, _, k4, k5, k6⟩
        · subst k2
          rcases own_at (xs := []) hu he rfl (by simpa using hl.symm) with ⟨_, a, rfl⟩ | ⟨b, c, hb, _⟩
          · exact .inl ⟨rfl, a, 0, rfl⟩
          · rw [k1] at hb; cases hb
        · rcases own_at (xs := ys) hu he rfl hl.symm with ⟨hb, _⟩ | ⟨b', c, hb, rfl⟩
          · rw [k1] at hb; cases hb
          · rw [k1] at hb
            obtain ⟨rfl, rfl⟩ : b = b' ∧ cap = c := by simpa using hb
            exact .inr ⟨b, 0, cap, cells, by rw [hl], k5, k6⟩
      · cases h
    · cases h
  · cases h

theorem cellsAt_add {w : World} {b o : Nat} {cells : List Value} (h : cellsAt w b o cells) : ∀ (j : Nat) (v : Value), cells[j]? = some v → w.cell? ((⟨b, o, none⟩ : Addr).add j) = some v := by
  intro j v hv
  rw [Addr.add_lit]
  exact h j v hv
/-- Nothing is appended. -/
theorem append_none {t ty el : TypeId} {i : TypeInfo} (hu : P.underlying t = some (.slice el)) (hi : P.info? el = some i) (a b : Option Addr) (len cap c : Nat) (hl : len ≤ cap) :
    (Builtin.append_ #[t, t] ty #[.slice a len cap, .slice b 0 c]).run P C.w = .ok (.slice a len cap) C.w := by
  have hf : (Builtin.firstCells i.size 0 (.slice b 0 c)).run P C.w = .ok #[] C.w := by
    cases b <;> simp [Builtin.firstCells, loadCells, loadCellsFrom]
  cases a <;> simp [Builtin.append_, run_underlying' hu, sizeOf, typeInfo, hi, Builtin.lenOf, hl, hf, storeCells]
theorem slice_one (a : Option Addr) (l c : Nat) : (Value.slice a l c).oneCell' = true := rfl
/-- Behind an append in a new block. -/
theorem app_new {C' : Ctx} {E n cap : Nat} {zs : List V} {cells : List Value} {z : Value} (hC : HRep C') (hz : z.cells.size = n) (hr : ERep C'.R.deep n zs cells) (hcap : zs.length ≤ cap) (hm : cap ≤ maxLen) :
    HRep (C'.push (.cells (cells.toArray ++ Builtin.zeroCells z.cells (cap - zs.length)) E) cap (.row E n zs)) := by
  refine push_rep hC ?_
  have hl := ERep_length hr
  refine .inr ⟨C'.w.heap.size, cap, _, cells, push_beta_new, heap_alloc_new C'.w _, ?_, hcap, hm, ?_, ERep_tr push_tr.R.deep _ _ _ hr⟩
  · simp only [Array.size_append, List.size_toArray, size_zeroCells, hz, hl, ← Nat.add_mul]
    congr 1
    omega
  · simp only [Array.toList_append]
    rw [List.take_append_of_le_length (by simp [hl]), List.take_of_length_le (by simp [hl])]
/-- What is appended: so many, so many cells. -/
structure Src (P : Program) (w : World) (size : Nat) (x : Value) (m : Nat) (news : List Value) : Prop where
  len : ∀ w', (Builtin.lenOf x).run P w' = .ok m w'
  cells : ∀ w', w'.heap = w.heap → (Builtin.firstCells size m x).run P w' = .ok news.toArray w'
theorem Src.slice {w : World} {b o c n m : Nat} {cells : List Value} (hc : cellsAt w b o cells) (hl : cells.length = m * n) : Src P w n (.slice (some ⟨b, o, none⟩) m c) m cells := by
  refine ⟨fun w' => by simp [Builtin.lenOf], fun w' hw => run_firstCells_some (P := P) w' n m _ m c cells hl (cellsAt_add ?_)⟩
  intro k v hk
  have := hc k v hk
  simpa [World.cell?, hw] using this
theorem Src.string {w : World} (s : List UInt8) : Src P w 1 (.string ⟨s.toArray⟩) s.length (s.map fun b => Value.int .u8 (b.toNat : Int)) := by
  refine ⟨fun w' => by simp [Builtin.lenOf, ByteArray.size], fun w' _ => ?_⟩
  have : (⟨s.toArray⟩ : ByteArray).extract 0 s.length = ⟨s.toArray⟩ := by
    rw [ByteArray.extract_mk]; simp [List.take_of_length_le]
  simp [Builtin.firstCells, this]
section
variable {t t2 ty el : TypeId} {i : TypeInfo} {x : Value} {m : Nat} {news : List Value}
theorem append_room' (hu : P.underlying t = some (.slice el)) (hi : P.info? el = some i) (h2 : ∃ d, P.underlying t2 = some d ∧ ∀ k, d ≠ .int k) (hs : Src P C.w i.size x m news)
    {g len cap E : Nat} {cur : Array Value} (hg : C.w.heap[g]? = some (.cells cur E (0, 0))) (h1 : ∀ u ∈ news, u.oneCell' = true) (hroom : len + m ≤ cap) (hfit : len * i.size + news.length ≤ cur.size) :
    (Builtin.append_ #[t, t2] ty #[.slice (some ⟨g, 0, none⟩) len cap, x]).run P C.w =
      .ok (.slice (some ⟨g, 0, none⟩) (len + m) cap) (C.w.setRow g (cur.toList.take (len * i.size) ++ news ++ cur.toList.drop (len * i.size + news.length)).toArray) := by
  obtain ⟨d, hd, hnd⟩ := h2
  have hst := run_storeCells_at P g (len * i.size) E news 0 cur C.w hg (by simpa using hfit) h1
  simp only [Nat.add_zero] at hst
  have hz : (match d with | .int _ => true | _ => false) = false := by cases d <;> first | rfl | exact absurd rfl (hnd _)
  simp [Builtin.append_, run_underlying' hu, run_underlying' hd, sizeOf, typeInfo, hi, hs.len, hroom, hs.cells C.w rfl, Addr.add_lit, hst]
theorem append_grow' {z : Value} (hu : P.underlying t = some (.slice el)) (hi : P.info? el = some i) (hz : i.zero = some z) (h2 : ∃ d, P.underlying t2 = some d ∧ ∀ k, d ≠ .int k) (hs : Src P C.w i.size x m news)
    {a : Option Addr} {len cap : Nat} {olds : List Value} (ho : ∀ w', w'.heap = C.w.heap → (Builtin.firstCells i.size len (.slice a len cap)).run P w' = .ok olds.toArray w') (hg : cap < len + m) (h63 : ((len + m : Nat) : Int) ≤ 9223372036854775807)
    (hfit : Builtin.nextslicecap (len + m) cap * i.bytes ≤ 281474976710656) :
    (Builtin.append_ #[t, t2] ty #[.slice a len cap, x]).run P C.w =
      .ok (.slice (some ⟨C.w.heap.size, 0, none⟩) (len + m) (grownCap C.w (len + m) cap el)) (C.w.drew.alloc (.cells ((olds ++ news).toArray ++ Builtin.zeroCells z.cells (grownCap C.w (len + m) cap el - (len + m))) el)) := by
  obtain ⟨d, hd, hnd⟩ := h2
  have hz2 : (match d with | .int _ => true | _ => false) = false := by cases d <;> first | rfl | exact absurd rfl (hnd _)
  have hn : ¬ (len + m ≤ cap) := by omega
  have h63' : ¬ (9223372036854775807 < ((len : Int) + (m : Int))) := by omega
  have h48' : ¬ (281474976710656 < Builtin.nextslicecap (len + m) cap * i.bytes) := by omega
  simp [Builtin.append_, run_underlying' hu, run_underlying' hd, sizeOf, typeInfo, zeroValue, hi, hz, hs.len, hn, h63', h48', Question.forced, hs.cells C.w.drew rfl, ho C.w.drew rfl, newRow, grownCap]
  congr 2
  apply Array.ext'
  simp
end
theorem set_same {α : Type} : ∀ {l : List α} {g : Nat} {e : α}, l[g]? = some e → l.set g e = l
  | [], g, e, h => by simp at h
  | a :: l, 0, e, h => by simp at h; simp [h]
  | a :: l, g + 1, e, h => by simp only [List.getElem?_cons_succ] at h; simp [set_same h]
/-- An append to a row of one's own. -/
theorem appH_does {t t2 ty el : TypeId} {i : TypeInfo} {z : Value} {g len : Nat} {r : Option (List V)} {v x : Value} (hu : P.underlying t = some (.slice el)) (hi : P.info? el = some i) (hz : i.zero = some z) (hzs : z.cells.size = i.size) (hsz : 0 < i.size)
    (h2 : ∃ d, P.underlying t2 = some d ∧ ∀ k, d ≠ .int k) (hC : HRep C) (hv : VRep C.R (.own g len) v)
    (hx : ∀ ys, r = some ys → (ys = [] ∧ ∀ a l c, l ≤ c → (Builtin.append_ #[t, t2] ty #[.slice a l c, x]).run P C.w = .ok (.slice a l c) C.w) ∨ (∃ news, ys ≠ [] ∧ Src P C.w i.size x ys.length news ∧ ERep C.R.deep i.size ys news))
    (hk : appH el i.size i.bytes g len r C.H[g]? C.H K) : Does P (Builtin.append_ #[t, t2] ty #[v, x]) C K := by
  cases r with
  | none => unfold appH at hk; split at hk <;> first | exact hk.elim | simp_all
  | some ys =>
  unfold appH at hk
  split at hk
  · rename_i E n xs ys' he hr
    cases hr
    obtain ⟨⟨rfl, rfl, hl, hb, h63⟩, hk⟩ := hk
    rcases hx ys rfl with ⟨rfl, hnone⟩ | ⟨news, hyne, hsrc, hrep⟩
    · simp only [List.append_nil] at hk
      have hset : C.H.set g (.row E i.size xs) = C.H := set_same he
      rw [hset] at hk
      rcases own_at hv he rfl hl with ⟨hb, a, rfl⟩ | ⟨b, c, hb, rfl⟩
      · rcases hC.ent g _ he with ⟨_, rfl⟩ | ⟨b, _, _, _, k1, _⟩
        · have hl0 : len = 0 := hl
          subst hl0
          exact Does.pure hC (hnone a 0 0 (Nat.le_refl _)) hv hk
        · rw [hb] at k1; cases k1
      · rcases hC.ent g _ he with ⟨k1, _⟩ | ⟨b', cap, cur, cells, k1, k2, k3, k4, k5, k6, k7⟩
        · rw [hb] at k1; cases k1
        · rw [hb] at k1
          obtain ⟨rfl, rfl⟩ : b = b' ∧ c = cap := by simpa using k1
          rw [← hl] at hk
          exact Does.pure hC (hnone _ len c (by omega)) hv hk
    · have hnl := ERep_length hrep
      have hn1 := ERep_cells hrep
      have hmax : grownCap C.w (len + ys.length) 0 E ≤ maxLen := grownCap_le_maxLen _ _ _ _ (by simp only [maxLen]; omega)
      have grow : ∀ (a : Option Addr) (cap : Nat) (cells : List Value), (∀ w', w'.heap = C.w.heap → (Builtin.firstCells i.size len (.slice a len cap)).run P w' = .ok cells.toArray w') → ERep C.R.deep i.size xs cells → cap < len + ys.length → v = .slice a len cap →
          Does P (Builtin.append_ #[t, t2] ty #[v, x]) C K := by
        intro a cap cells hfc hr hcap hve
        subst hve
        have hcl := ERep_length hr
        have hnew := ERep_append hr hrep
        have hrun := append_grow' (ty := ty) hu hi hz h2 hsrc (a := a) (len := len) (cap := cap) hfc hcap (by omega) (growslice_fits hcap (by rw [hl]; omega))
        have hge := grownCap_ge C.w (len + ys.length) cap E
        have hmx : grownCap C.w (len + ys.length) cap E ≤ maxLen := grownCap_le_maxLen _ _ _ _ (by simp only [maxLen]; omega)
        have ht : Turns C (C.w.drew.alloc (.cells ((cells ++ news).toArray ++ Builtin.zeroCells z.cells (grownCap C.w (len + ys.length) cap E - (len + ys.length))) E)) g (some (C.w.heap.size, grownCap C.w (len + ys.length) cap E)) (.row E i.size xs) (.row E i.size (xs ++ ys)) := by
          refine ⟨he, rfl, rfl, rfl, by simp, fun b hb _ => Below.heap_alloc C.w.drew _ b hb, ?_, fun _ b c hx => ?_⟩
          · simp only [Entry.shp, STr]
            refine .inl ⟨_, rfl, by simp, fun e => ?_⟩
            have : ys.length = 0 := by simp only [List.length_append] at e; omega
            have h0 : ys = [] := List.eq_nil_of_length_eq_zero this
            exact absurd h0 hyne
          · cases hx
            exact .inr (Nat.le_refl _)
        have hrep2 := turn_rep hC ht (by
          refine (.inr ⟨C.w.heap.size, _, _, cells ++ news, turn_beta_new, heap_alloc_new C.w.drew _, ?_, by simp only [List.length_append]; omega, hmx, ?_, ERep_tr (turn_tr hC ht).R.deep _ _ _ hnew⟩)
          · simp only [Array.size_append, List.size_toArray, size_zeroCells, hzs, List.length_append, hcl, hnl, ← Nat.add_mul]
            congr 1
            omega
          · simp only [Array.toList_append, List.length_append]
            rw [List.take_append_of_le_length (by simp [hcl, hnl, Nat.add_mul]), List.take_of_length_le (by simp [hcl, hnl, Nat.add_mul])])
        refine ⟨_, .own g (xs ++ ys).length, _, hrun, turn_tr hC ht, hrep2, ?_, hk⟩
        rw [show len + ys.length = (xs ++ ys).length by rw [List.length_append, hl]]
        exact own_rep_new (turn_get_new he) turn_beta_new rfl
      rcases hC.ent g _ he with ⟨k1, rfl⟩ | ⟨b, cap, cur, cells, k1, k2, k3, k4, k5, k6, k7⟩
      · rcases own_at hv he rfl hl with ⟨_, a, rfl⟩ | ⟨b, c, hb, _⟩
        · have hl0 : len = 0 := hl
          subst hl0
          refine grow a 0 [] (fun w' _ => ?_) (by simp [ERep]) (by have := List.length_pos_iff.2 hyne; omega) rfl
          cases a <;> simp [Builtin.firstCells, loadCells, loadCellsFrom]
        · rw [k1] at hb; cases hb
      · rcases own_at hv he rfl hl with ⟨hb, _⟩ | ⟨b', c, hb, rfl⟩
        · rw [k1] at hb; cases hb
        rw [k1] at hb
        obtain ⟨rfl, rfl⟩ : b = b' ∧ cap = c := by simpa using hb
        have hcl := ERep_length k7
        have hnew := ERep_append k7 hrep
        by_cases hroom : len + ys.length ≤ cap
        · have hfit : len * i.size + news.length ≤ cur.size := by rw [hnl, k3, ← Nat.add_mul]; exact Nat.mul_le_mul_right _ hroom
          have hrun := append_room' (ty := ty) hu hi h2 hsrc k2 hn1 hroom hfit
          have ht : Turns C (C.w.setRow b (cur.toList.take (len * i.size) ++ news ++ cur.toList.drop (len * i.size + news.length)).toArray) g (some (b, cap)) (.row E i.size xs) (.row E i.size (xs ++ ys)) :=
            row_turns hC he rfl k1 k2 (by rw [k1]; simp [Entry.shp, STr])
          have hrep2 : HRep (C.turn (C.w.setRow b (cur.toList.take (len * i.size) ++ news ++ cur.toList.drop (len * i.size + news.length)).toArray) g (some (b, cap)) (.row E i.size (xs ++ ys))) := by
            refine turn_rep hC ht (.inr ⟨b, cap, _, _, turn_beta_new, setRow_heap C.w b cur _ E _ k2, ?_, by simp only [List.length_append]; omega, k5, rfl, ?_⟩)
            · simp only [List.size_toArray, List.length_append, List.length_take, List.length_drop, Array.length_toList]
              rw [← k3]; omega
            · simp only [List.toList_toArray, List.length_append]
              have e1 : (cur.toList.take (len * i.size) ++ news ++ cur.toList.drop (len * i.size + news.length)).take ((xs.length + ys.length) * i.size) = cells ++ news := by
                rw [Nat.add_mul, ← hnl, ← hcl, hl, k6]
                exact List.take_left' (by simp)
              rw [e1]
              exact ERep_tr (turn_tr hC ht).R.deep _ _ _ hnew
          refine ⟨_, .own g (xs ++ ys).length, _, hrun, turn_tr hC ht, hrep2, ?_, hk⟩
          rw [show len + ys.length = (xs ++ ys).length by rw [List.length_append, hl]]
          exact own_rep_new (turn_get_new he) turn_beta_new rfl
        · refine grow _ cap cells (fun w' hw => ?_) k7 (by omega) rfl
          refine run_firstCells_some (P := P) w' i.size len _ len cap cells (by rw [hcl, hl]) (cellsAt_add ?_)
          have := cellsAt_row k2
          intro k u hku
          rw [← k6, List.getElem?_take] at hku
          split at hku
          · have h3 := this k u hku
            exact (World.cell?_of_block (w := C.w) (by rw [hw])).trans h3
          · cases hku
  · exact hk.elim
end
end Go.Av
