/- A part of a way to reckon what a Go program does without its memory (AvO). -/
import Derived.Test.YtllojkdacinhfaaAvN
namespace Go.Av
open Go Go.RowKit
set_option autoImplicit false
set_option linter.all false
section
variable {P : Program} {C : Ctx} {K : KV}
theorem own_rep_new {C' : Ctx} {g n len b c E : Nat} {xs : List V} (he : C'.H[g]? = some (.row E n xs)) (hb : C'.β g = some (b, c)) (hl : len = xs.length) : VRep C'.R (.own g len) (.slice (some ⟨b, 0, none⟩) len c) := by
  simp only [VRep, Ctx.R, sh_of he, Entry.shp]
  exact ⟨rfl, by omega, fun _ => .inr ⟨b, c, hb, rfl⟩⟩
theorem mks_does {t el : TypeId} {i : TypeInfo} {z : V} {x y : V} {v u : Value} (hu : P.underlying t = some (.slice el)) (hi : P.info? el = some i) (hz : zeroT P el = some z) (hzl : z.cells.length = i.size) (hsz : 0 < i.size) (ht : tyOk P el i.size = true)
    (hC : HRep C) (hv : VRep C.R x v) (hw : VRep C.R y u) (hk : mksK el i.size (isAggT P el) z.cells i.bytes x y C.H K) : Does P (Instr.makeSlice t v u) C K := by
  unfold mksK at hk
  split at hk
  · rename_i q a q' b hok
    simp only [Bool.and_eq_true] at hok
    rw [VRep_int] at hv hw
    subst hv hw
    obtain ⟨i', zv, hi', hzv, hzr, hzj, hzc⟩ := zero_rep (R := C.R) hz
    rw [hi] at hi'
    cases hi'
    obtain ⟨⟨h0, h1, h2, h3⟩, hk⟩ := hk
    obtain ⟨p, hp1, hp2, hp3, hp4⟩ := zero_part hzr hzj hzc hzl hsz (tyOk_parts ht).2 hok.1 hok.2
    have hrun := run_make (P := P) C.w t el i zv hu hi hzv q q' a b h0 h1 (by rw [Int.mul_comm]; omega) (by omega)
    have hrows := madeCells_rows hsz hp2 hp3 hp4 b.toNat
    rw [hp1] at hrows
    have htk := ERep_take a.toNat hrows
    rw [List.take_replicate, Nat.min_eq_left (by omega)] at htk
    have hpr : HRep (C.push (.cells (madeCells zv.cells (b.toNat * i.size)) el) b.toNat (.row el i.size (List.replicate a.toNat (part i.size (isAggT P el) z.cells)))) := by
      refine push_rep hC ?_
      refine .inr ⟨C.w.heap.size, b.toNat, madeCells zv.cells (b.toNat * i.size), _, push_beta_new, heap_alloc_new C.w _, size_madeCells _ _, by simp; omega, by simp only [maxLen]; omega, rfl, ?_⟩
      rw [List.length_replicate]
      exact ERep_tr push_tr.R.deep _ _ _ htk
    refine ⟨_, .own C.H.length a.toNat, _, hrun, push_tr, hpr, ?_, hk⟩
    exact own_rep_new push_get_new push_beta_new (by simp)
  · exact hk.elim

/-! ### Stores -/
theorem row_turns {j : Nat} {e e' : Entry} {b c E : Nat} {cur cur' : Array Value} (hC : HRep C) (he : C.H[j]? = some e) (ho : e.owned = true) (hb : C.β j = some (b, c)) (hh : C.w.heap[b]? = some (.cells cur E (0, 0))) (hs : STr e.shp e'.shp (C.β j) (some (b, c))) :
    Turns C (C.w.setRow b cur') j (some (b, c)) e e' := by
  refine ⟨he, rfl, rfl, rfl, by simp, fun k hk hn => ?_, hs, fun _ b' c' hx => ?_⟩
  · exact setRow_other C.w b k _ (fun e => hn ho c (by rw [e]; exact hb))
  · cases hx
    exact .inl ⟨ho, c, hb⟩
theorem storeVar_run {t : TypeId} {n : Nat} {b o E : Nat} {cur : Array Value} {v : Value} (hs : sizeT P t = some n) (hv : v.cells.toList.length = n) (h1 : ∀ u ∈ v.cells.toList, u.oneCell' = true) (hh : C.w.heap[b]? = some (.cells cur E (0, 0))) (hfit : o + n ≤ cur.size) :
    (Instr.storeAt t (.pointer (some ⟨b, o, none⟩)) v).run P C.w = .ok () (C.w.setRow b (cur.toList.take o ++ v.cells.toList ++ cur.toList.drop (o + n)).toArray) := by
  have hst := run_storeCells_at P b o E v.cells.toList 0 cur C.w hh (by rw [hv]; simpa using hfit) h1
  have hv2 : v.cells.size = n := by simpa using hv
  simp only [Nat.add_zero, hv] at hst
  simp [Instr.storeAt, Instr.sureAddr, storeVar, run_sizeOf hs, hv2, hst]
theorem ERep_at2 {R : Rd} {n : Nat} : ∀ {xs : List V} {cells : List Value} (i : Nat), ERep R n xs cells → i < xs.length →
    ∃ v, v.cells.toList = (cells.drop (i * n)).take n ∧ v.cells.size = n ∧ nth xs i ≠ .junk ∧ (∀ u ∈ v.cells.toList, u.oneCell' = true) ∧ VRep R (nth xs i) v
  | [], cells, i, h, hi => by simp at hi
  | x :: xs, cells, 0, h, hi => by
    simp only [ERep] at h
    obtain ⟨v, r, rfl, h1, hj, h2, h3⟩ := h
    exact ⟨v, by simp [h1], h1, hj.1, hj.2, h2⟩
  | x :: xs, cells, i + 1, h, hi => by
    simp only [ERep] at h
    obtain ⟨v, r, rfl, h1, hj, h2, h3⟩ := h
    obtain ⟨u, k1, k2, k3⟩ := ERep_at2 i h3 (by simpa using hi)
    refine ⟨u, ?_, k2, k3⟩
    rw [k1, Nat.add_mul, Nat.one_mul, Nat.add_comm (i * n) n, ← List.drop_drop, List.drop_left' (by simpa using h1)]
theorem ERep_set {R : Rd} {n : Nat} {x : V} {v : Value} : ∀ {xs : List V} {cells : List Value} (i : Nat), ERep R n xs cells → i < xs.length → v.cells.toList.length = n → (x ≠ .junk ∧ ∀ u ∈ v.cells.toList, u.oneCell' = true) → VRep R x v →
    ERep R n (xs.set i x) (cells.take (i * n) ++ v.cells.toList ++ cells.drop ((i + 1) * n))
  | [], cells, i, h, hi, _, _, _ => by simp at hi
  | y :: xs, cells, 0, h, hi, hl, hx, hv => by
    simp only [ERep] at h
    obtain ⟨u, r, rfl, h1, hj, h2, h3⟩ := h
    simp only [List.set_cons_zero, ERep]
    exact ⟨v, r, by simp [h1], by simpa using hl, hx, hv, h3⟩
  | y :: xs, cells, i + 1, h, hi, hl, hx, hv => by
    simp only [ERep] at h
    obtain ⟨u, r, rfl, h1, hj, h2, h3⟩ := h
    have ih := ERep_set i h3 (by simpa using hi) hl hx hv
    have hul : u.cells.toList.length = n := by simpa using h1
    simp only [List.set_cons_succ, ERep]
    refine ⟨u, _, ?_, h1, hj, h2, ih⟩
    have e1 : (i + 1) * n = n + i * n := by rw [Nat.add_mul, Nat.one_mul, Nat.add_comm]
    have e2 : (i + 1 + 1) * n = n + (i + 1) * n := by rw [Nat.add_mul (i + 1), Nat.one_mul, Nat.add_comm]
    rw [e1, e2, List.take_append, ← List.drop_drop (l := u.cells.toList ++ r), List.drop_left' hul, hul]
    simp [List.take_of_length_le, hul, e1]
/-- What a value's cells are made of anew. -/
theorem unc_rep {R : Rd} {x : V} {z u : Value} {cs' : List V} {off n : Nat} (hx : VRep R x z) (hj : x ≠ .junk) (hz : ∀ c ∈ z.cells.toList, c.oneCell' = true) (hnj : unc x cs' ≠ .junk) (hc : CRep R cs' (z.cells.toList.take off ++ u.cells.toList ++ z.cells.toList.drop (off + n)))
    (hu : ∀ c ∈ u.cells.toList, c.oneCell' = true) (hul : u.cells.toList.length = n) (hfit : off + n ≤ z.cells.toList.length) :
    ∃ z' : Value, z'.cells.toList = z.cells.toList.take off ++ u.cells.toList ++ z.cells.toList.drop (off + n) ∧ unc x cs' ≠ .junk ∧ (∀ c ∈ z'.cells.toList, c.oneCell' = true) ∧ VRep R (unc x cs') z' := by
  have hall : ∀ c ∈ z.cells.toList.take off ++ u.cells.toList ++ z.cells.toList.drop (off + n), c.oneCell' = true := by
    intro c hc
    simp only [List.mem_append] at hc
    rcases hc with (h | h) | h
    · exact hz c (List.mem_of_mem_take h)
    · exact hu c h
    · exact hz c (List.mem_of_mem_drop h)
  by_cases ha : ∃ cs, x = .agg cs
  · obtain ⟨cs, rfl⟩ := ha
    refine ⟨.agg (z.cells.toList.take off ++ u.cells.toList ++ z.cells.toList.drop (off + n)).toArray, by simp [Value.cells], by simp [unc], by simpa [Value.cells] using hall, ?_⟩
    simp only [unc, VRep]
    exact ⟨_, rfl, hc⟩
  · have hun : unc x cs' = nth cs' 0 := by cases x <;> first | rfl | exact absurd ⟨_, rfl⟩ ha
    have hat : atom x = true := by
      cases x <;> first | rfl | exact absurd ⟨_, rfl⟩ ha | exact absurd rfl hj | skip
      simp only [VRep] at hx
      obtain ⟨ds, rfl, _⟩ := hx
      have := hz (.tuple ds.toArray) (by simp [Value.cells])
      simp [Value.oneCell'] at this
    have hz1 := cells_one (atom_cell hat hx)
    rw [hz1] at hc hfit hall ⊢
    simp only [List.length_singleton, List.size_toArray, List.length_cons, List.length_nil] at hfit
    have hlen : (([z] : List Value).take off ++ u.cells.toList ++ ([z] : List Value).drop (off + n)).length = 1 := by
      simp only [List.length_append, List.length_take, List.length_drop, List.length_singleton, hul]; omega
    obtain ⟨d, hd⟩ := List.length_eq_one_iff.1 hlen
    have hd1 : d.oneCell' = true := hall d (by rw [hd]; simp)
    refine ⟨d, by rw [cells_one hd1]; exact hd.symm, hnj, by rw [cells_one hd1]; simpa using hd1, ?_⟩
    rw [hun]
    rw [hd] at hc
    exact CRep_get 0 d hc rfl
theorem splice_eq (l m : List Value) (a o n k L : Nat) (hm : m.length = n) (h1 : o + n ≤ k) (h2 : a + k ≤ L) (h3 : L ≤ l.length) {b : Nat} (hb : b = a + k) :
    (l.take (a + o) ++ m ++ l.drop (a + o + n)).take L = (l.take L).take a ++ ((((l.take L).drop a).take k).take o ++ m ++ (((l.take L).drop a).take k).drop (o + n)) ++ (l.take L).drop b := by
  subst hb
  have e1 : (l.take L).take a = l.take a := by rw [List.take_take, Nat.min_eq_left (by omega)]
  have e2 : ((l.take L).drop a).take k = (l.drop a).take k := by rw [List.drop_take, List.take_take, Nat.min_eq_left (by omega)]
  have e3 : ((l.drop a).take k).take o = (l.drop a).take o := by rw [List.take_take, Nat.min_eq_left (by omega)]
  have e4 : ((l.drop a).take k).drop (o + n) = (l.drop (a + o + n)).take (k - (o + n)) := by rw [List.drop_take, List.drop_drop, Nat.add_assoc]
  have e5 : (l.take L).drop (a + k) = (l.drop (a + k)).take (L - (a + k)) := by rw [List.drop_take]
  rw [e1, e2, e3, e4, e5]
  have hA : (l.take (a + o) ++ m).length = a + o + n := by simp only [List.length_append, List.length_take, hm]; omega
  have hL : L = (a + o + n) + (L - (a + o + n)) := by omega
  rw [hL, List.take_append, hA, List.take_of_length_le (by rw [hA]; omega), Nat.add_sub_cancel_left]
  have e6 : L - (a + o + n) = (k - (o + n)) + (L - (a + k)) := by omega
  have e7 : (l.drop (a + o + n)).take (L - (a + o + n)) = (l.drop (a + o + n)).take (k - (o + n)) ++ (l.drop (a + k)).take (L - (a + k)) := by
    rw [e6, List.take_add, List.drop_drop, show a + o + n + (k - (o + n)) = a + k by omega]
  rw [e7, List.take_add]
  rw [← hL]
  simp [List.append_assoc]
theorem store_does {t : TypeId} {n : Nat} {x y : V} {v u : Value} (hs : sizeT P t = some n) (hC : HRep C) (hv : VRep C.R x v) (hu : VRep C.R y u) (hk : storeK n x y C.H K) : DoesU P (Instr.storeAt t v u) C K := by
  unfold storeK at hk
  split at hk
  · rename_i j off
    unfold storeH at hk
    split at hk
    · rename_i cs he
      split at hk
      · rename_i cs' hp hok
        obtain ⟨b, c, hb, rfl⟩ := ptr_at hv he rfl
        obtain ⟨b', c', cur, E, k1, k2, k3⟩ := hC.ent j _ he
        rw [hb] at k1; cases k1
        obtain ⟨g1, g2, g3⟩ := putO_rep hp k3 hu
        have hrun := storeVar_run hs g1 (okC_cells hok hu) k2 (by simpa using g2)
        have ht : Turns C (C.w.setRow b (cur.toList.take off ++ u.cells.toList ++ cur.toList.drop (off + n)).toArray) j (some (b, c)) (.box cs) (.box cs') := row_turns hC he rfl hb k2 (by rw [hb]; exact STr.refl _ _)
        refine ⟨C.turn _ j (some (b, c)) (.box cs'), hrun, turn_tr hC ht, turn_rep hC ht ?_, hk⟩
        refine ⟨b, c, _, E, turn_beta_new, setRow_heap C.w b cur _ E _ k2, ?_⟩
        have g4 := CRep_tr (turn_tr hC ht).R _ _ g3
        rw [List.toList_toArray]
        exact g4
      · exact hk.elim
    · exact hk.elim
  · rename_i j len i off
    unfold storeE at hk
    split at hk
    · rename_i E m xs he
      obtain ⟨⟨hl, hi⟩, hk⟩ := hk
      split at hk
      · rename_i cs' hp hok hnd
        obtain ⟨hnj, hk⟩ := hk
        obtain ⟨b, c, hb, rfl⟩ := eptr_at hv he rfl hl
        rcases hC.ent j _ he with ⟨k1, _⟩ | ⟨b', cap, cur, cells, k1, k2, k3, k4, k5, k6, k7⟩
        · rw [hb] at k1; cases k1
        rw [hb] at k1
        obtain ⟨rfl, rfl⟩ : b = b' ∧ c = cap := by simpa using k1
        obtain ⟨z, e1, e2, e3, e5, e4⟩ := ERep_at2 i k7 hi
        have hcr := cells_rep e4 e3
        have hudeep := noid_deep y u hnd hu
        obtain ⟨g1, g2, g3⟩ := putO_rep hp hcr hudeep
        have hzl : z.cells.toList.length = m := by simpa using e2
        have hoc := okC_cells hok hu
        obtain ⟨z', f1, f2, f3, f4⟩ := unc_rep e4 e3 e5 hnj g3 hoc (by omega) (by omega)
        have hlm : (i + 1) * m ≤ c * m := Nat.mul_le_mul_right m (by omega)
        have hlx : xs.length * m ≤ c * m := Nat.mul_le_mul_right m k4
        have hix : (i + 1) * m ≤ xs.length * m := Nat.mul_le_mul_right m (by omega)
        have hex : (i + 1) * m = i * m + m := by rw [Nat.add_mul, Nat.one_mul]
        have hfit : i * m + off + n ≤ cur.size := by rw [k3]; omega
        have hrun := storeVar_run hs g1 hoc k2 hfit
        have ht : Turns C (C.w.setRow b (cur.toList.take (i * m + off) ++ u.cells.toList ++ cur.toList.drop (i * m + off + n)).toArray) j (some (b, c)) (.row E m xs) (.row E m (xs.set i (unc (nth xs i) cs'))) :=
          row_turns hC he rfl hb k2 (by rw [hb]; simp [Entry.shp, STr])
        refine ⟨C.turn _ j (some (b, c)) (.row E m (xs.set i (unc (nth xs i) cs'))), hrun, turn_tr hC ht, turn_rep hC ht ?_, hk⟩
        refine .inr ⟨b, c, _, _, turn_beta_new, setRow_heap C.w b cur _ E _ k2, ?_, by simpa using k4, k5, rfl, ?_⟩
        · simp only [List.size_toArray, List.length_append, List.length_take, List.length_drop, Array.length_toList, g1]
          rw [← k3]; omega
        · have key := ERep_set i k7 hi (by rw [f1]; simp only [List.length_append, List.length_take, List.length_drop, g1]; omega) ⟨f2, f3⟩ f4
          rw [f1] at key
          have hcl : cells.length = xs.length * m := ERep_length k7
          have e6 : (cur.toList.take (i * m + off) ++ u.cells.toList ++ cur.toList.drop (i * m + off + n)).take (xs.length * m) =
              cells.take (i * m) ++ (z.cells.toList.take off ++ u.cells.toList ++ z.cells.toList.drop (off + n)) ++ cells.drop ((i + 1) * m) := by
            rw [e1, ← k6]
            exact splice_eq cur.toList u.cells.toList (i * m) off n m (xs.length * m) g1 (by omega) (by omega) (by simp only [Array.length_toList, k3]; omega) hex
          simp only [List.length_set, List.toList_toArray]
          rw [e6]
          exact ERep_tr (turn_tr hC ht).R.deep _ _ _ key
      · exact hk.elim
    · exact hk.elim
  · exact hk.elim
end
end Go.Av
