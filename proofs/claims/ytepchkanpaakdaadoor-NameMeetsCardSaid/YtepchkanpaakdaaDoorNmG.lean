/- Layer 2: the contract of meets. -/
import Derived.Test.YtepchkanpaakdaaDoorNmE
import Derived.Test.YtepchkanpaakdaaDoorNmF
import Derived.Laws.AppendOwn
import Derived.Deep.DeepCutAuto
import Derived.Deep.RegionHeld3
import Derived.RegionTactic
namespace Go.Proofs.YtepchkanpaakdaaDoor
open Go.RowKit Go.Shelf
abbrev dl (s : ByteArray) : List UInt8 := s.data.toList
/-- A row of texts in a world. -/
structure Held (w : World) (b : Nat) (X : List ByteArray) : Prop where
  lt : b < w.heap.size
  cell : ∀ i (h : i < X.length), w.cell? ⟨b, i, none⟩ = some (.string X[i])
theorem Held.keep {w w' : World} {b : Nat} {X : List ByteArray} (h : Held w b X) {M : Nat} (hg : w.grownBy w' (some M)) (hb : b ≠ M) : Held w' b X :=
  ⟨Nat.lt_of_lt_of_le h.lt hg.size, fun i hi => (World.cell?_of_block (w := w) (a := ⟨b, i, none⟩) (hg.block b h.lt (fun e => hb (Option.some.inj e)))).trans (h.cell i hi)⟩
/-- What a call of meets answers. -/
structure Told (G T : List (List UInt8)) (K K' : List (Nat × Nat)) (i j : Nat) (r : Bool) : Prop where
  sub : ∀ x ∈ K, x ∈ K'
  yes : r = true → meetsL (suf G i) (suf T j) = true
  own : r = false → (i, j) ∈ K'
  bad : r = false → ∀ x ∈ K', x ∉ K → Bad G T K' x
structure MeetsPost (G T : List (List UInt8)) (M : Nat) (w : World) (K : List (Nat × Nat)) (i j : Nat) (e : Ending) (w' : World) : Prop where
  out : ∃ (r : Bool) (K' : List (Nat × Nat)), e = .returned (.bool r) ∧ MapIs w' M K' ∧ w.grownBy w' (some M) ∧ Told G T K K' i j r
/-- What stands of a call of meets, for all that is less. -/
def Meets (G T : List ByteArray) (bg bt M : Nat) (n : Nat) : Prop := ∀ (i j : Nat) (pa pb : Option Addr), i + j < n → i ≤ G.length → j ≤ T.length → (0 < i → pa = some ⟨bg, G.length - i, none⟩) → (0 < j → pb = some ⟨bt, T.length - j, none⟩) →
  ∀ (w : World) (K : List (Nat × Nat)), Held w bg G → Held w bt T → MapIs w M K →
  Calls Tryd.prog 29 #[.slice pa i i, .slice pb j j, .map (some M)] w fun e w' => MeetsPost (G.map dl) (T.map dl) M w K i j e w'
theorem MapIs.lt {w : World} {M : Nat} {K : List (Nat × Nat)} (h : MapIs w M K) : M < w.heap.size := by
  obtain ⟨es, c, h, _⟩ := h.out
  exact (Array.getElem?_eq_some_iff.1 h).1
theorem grown_set (w : World) (o1 o2 : Obj) (M : Nat) (es : Array MapEntry) (clock : Nat) : w.grownBy (setMap ((w.alloc o1).alloc o2) M es clock) (some M) := by
  refine ⟨rfl, rfl, rfl, by rw [setMap_size]; simp; omega, fun k hk hne => ?_⟩
  rw [setMap_block _ _ _ _ _ (fun e => hne (by rw [e])), Below.heap_alloc _ _ _ (by simp; omega), Below.heap_alloc _ _ _ hk]
theorem slice_tail (b n i : Nat) (pa : Option Addr) (h : i + 1 ≤ n) (hp : pa = some ⟨b, n - (i + 1), none⟩) : ∃ pa', (0 < i → pa' = some ⟨b, n - i, none⟩) ∧
    ∀ W, (Instr.slice 25 (.slice pa (i + 1) (i + 1)) (some (.int .i64 1)) none none).run Tryd.prog W = .ok (.slice pa' i i) W := by
  subst hp
  by_cases h0 : i = 0
  · subst h0
    refine ⟨some ⟨b, n - 1, none⟩, fun h => absurd h (by omega), fun W => ?_⟩
    rw [run_slice_l (ht := by simp [Program.elem, Tryd.underlying25]) (h0 := by decide) (h1 := by omega)]
    simp [Program.elem, Tryd.underlying25, go_sem, sliced]
  · refine ⟨some ⟨b, n - i, none⟩, fun _ => rfl, fun W => ?_⟩
    rw [run_slice_l (ht := by simp [Program.elem, Tryd.underlying25]) (h0 := by decide) (h1 := by omega)]
    simp [Program.elem, Tryd.underlying25, go_sem, sliced]
    rw [if_neg h0, show n - (i + 1) + 1 = n - i by omega]
theorem grown_trans {a b c : World} {r : Option Nat} (h : a.grownBy b r) (k : b.grownBy c r) : a.grownBy c r :=
  ⟨k.os.trans h.os, k.tape.trans h.tape, k.output.trans h.output, Nat.le_trans h.size k.size, fun i hi hr => (k.block i (Nat.lt_of_lt_of_le hi h.size) hr).trans (h.block i hi hr)⟩
theorem grown_two (w : World) (o1 o2 : Obj) (M : Nat) : w.grownBy ((w.alloc o1).alloc o2) (some M) :=
  ⟨rfl, rfl, rfl, by simp; omega, fun k hk _ => by rw [Below.heap_alloc _ _ _ (by simp; omega), Below.heap_alloc _ _ _ hk]⟩
/-- A world in which meets may be asked. -/
structure Okay (G T : List ByteArray) (bg bt M : Nat) (K : List (Nat × Nat)) (w W : World) : Prop where
  g : Held W bg G
  t : Held W bt T
  m : MapIs W M K
  grown : w.grownBy W (some M)
theorem Okay.drew {G T : List ByteArray} {bg bt M : Nat} {K : List (Nat × Nat)} {w W : World} (h : Okay G T bg bt M K w W) : Okay G T bg bt M K w W.drew :=
  ⟨⟨h.g.lt, h.g.cell⟩, ⟨h.t.lt, h.t.cell⟩, h.m.keep rfl, ⟨h.grown.os, h.grown.tape, h.grown.output, h.grown.size, h.grown.block⟩⟩
theorem told_step {G T : List (List UInt8)} {K K1 : List (Nat × Nat)} {i j : Nat} {p q : List UInt8} {r : Bool} (hi : i + 1 ≤ G.length) (hj : j + 1 ≤ T.length) (eg : suf G (i + 1) = p :: suf G i) (et : suf T (j + 1) = q :: suf T j) (hm : p ≠ [42, 42])
    (hq : p = [42] ∨ p = q) (Td : Told G T (K ++ [(i + 1, j + 1)]) K1 i j r) : Told G T K K1 (i + 1) (j + 1) r := by
  refine ⟨fun x h => Td.sub x (by simp [h]), fun h => ?_, fun _ => Td.sub _ (by simp), fun h x hx hx' => ?_⟩
  · rw [eg, et, meetsL_oth_cons _ _ _ _ hm, Td.yes h, show (p == [42] || p == q) = true by simpa using hq]; rfl
  · by_cases h0 : x ∈ K ++ [(i + 1, j + 1)]
    · have e : x = (i + 1, j + 1) := by
        rcases List.mem_append.1 h0 with h0 | h0
        · exact absurd h0 hx'
        · simpa using h0
      subst e
      refine ⟨hi, hj, ?_⟩
      simp only [eg, et, if_neg hm]
      exact fun _ => Td.own h
    · exact Td.bad h x hx h0
theorem told_none {G T : List (List UInt8)} {K : List (Nat × Nat)} {i j : Nat} {p q : List UInt8} (hi : i + 1 ≤ G.length) (hj : j + 1 ≤ T.length) (eg : suf G (i + 1) = p :: suf G i) (et : suf T (j + 1) = q :: suf T j) (hm : p ≠ [42, 42])
    (hq : ¬ (p = [42] ∨ p = q)) : Told G T K (K ++ [(i + 1, j + 1)]) (i + 1) (j + 1) false := by
  refine ⟨fun x h => by simp [h], fun h => (by cases h), fun _ => by simp, fun _ x hx hx' => ?_⟩
  have e : x = (i + 1, j + 1) := by
    rcases List.mem_append.1 hx with h0 | h0
    · exact absurd h0 hx'
    · simpa using h0
  subst e
  refine ⟨hi, hj, ?_⟩
  simp only [eg, et, if_neg hm]
  exact fun h => absurd h hq
set_option linter.unusedSimpArgs false in
set_option maxRecDepth 100000 in
set_option maxHeartbeats 1000000 in
theorem meets_step (G T : List ByteArray) (bg bt M : Nat) (hgM : bg ≠ M) (htM : bt ≠ M) (_hG8 : G.length ≤ 8) (_hT8 : T.length ≤ 8) (n : Nat) (ih : Meets G T bg bt M n) : Meets G T bg bt M (n + 1) := by
  intro i j pa pb hn hi hj hpa hpb w K HG HT HM
  have Ih := Lib.hid ih
  have HM2 : MapIs ((w.alloc (.cells #[.int .i64 i, .int .i64 j] 43)).alloc (.cells #[] 44)) M K :=
    HM.keep (by rw [Below.heap_alloc _ _ _ (by simp; exact Nat.lt_succ_of_lt HM.lt), Below.heap_alloc _ _ _ HM.lt])
  have lk := lookup_is (i, j) (w.alloc (.cells #[.int .i64 i, .int .i64 j] 43)) M K (HM.keep (Below.heap_alloc _ _ _ HM.lt))
  unfold keyV at lk
  have HW2 := grown_two w (.cells #[.int .i64 i, .int .i64 j] 43) (.cells #[] 44) M
  clear ih
  by_cases hk : (i, j) ∈ K
  · rw [show K.contains (i, j) = true by simpa using hk] at lk
    have Z := Lib.hid (And.intro hk (And.intro HM2 HW2))
    clear hk HM2 HW2 HM HG HT
    go_enter Tryd.func29, Tryd.ntmps29
    go_wp2
    go_ret
    exact ⟨false, K, rfl, Z.out.2.1, Z.out.2.2, ⟨fun x h => h, fun h => (by cases h), fun _ => Z.out.1, fun _ x h h' => absurd h h'⟩⟩
  · obtain ⟨es, clock, hup, HM3⟩ := update_is (i, j) _ M K HM2 (by simpa using hk)
    unfold keyV at hup
    have HW3 := grown_set w (.cells #[.int .i64 i, .int .i64 j] 43) (.cells #[] 44) M es clock
    generalize setMap ((w.alloc (.cells #[.int .i64 i, .int .i64 j] 43)).alloc (.cells #[] 44)) M es clock = W3 at *
    have HG3 := HG.keep HW3 hgM
    have HT3 := HT.keep HW3 htM
    rw [show K.contains (i, j) = false by simpa using hk] at lk
    clear HM2 HW2 HM
    have new : ∀ x ∈ K ++ [(i, j)], x ∉ K → x = (i, j) := fun x h h' => by
      rcases List.mem_append.1 h with h | h
      · exact absurd h h'
      · simpa using h
    have sub : ∀ x ∈ K, x ∈ K ++ [(i, j)] := fun x h => List.mem_append.2 (.inl h)
    have own : (i, j) ∈ K ++ [(i, j)] := by simp
    cases i with
    | zero =>
      have Z := Lib.hid (And.intro HM3 HW3)
      have N := Lib.hid (And.intro new (And.intro sub own))
      clear HM3 HW3 HG HT HG3 HT3 new sub own hk
      cases j with
      | zero =>
        push_cast at lk hup
        go_enter Tryd.func29, Tryd.ntmps29
        go_wp2
        go_ret
        exact ⟨true, _, rfl, Z.out.1, Z.out.2, ⟨N.out.2.1, fun _ => (by simp [suf_zero, meetsL_nil]), fun h => (by cases h), fun h => (by cases h)⟩⟩
      | succ j =>
        have hj0 : ¬ ((j : Int) + 1 = 0) := by omega
        push_cast at lk hup
        go_enter Tryd.func29, Tryd.ntmps29
        go_wp2
        go_ret
        refine ⟨false, _, rfl, Z.out.1, Z.out.2, ⟨N.out.2.1, fun h => (by cases h), fun _ => N.out.2.2, fun _ x h h' => ?_⟩⟩
        rw [N.out.1 x h h']
        refine ⟨by simp, by simpa using hj, ?_⟩
        simp only [suf_zero]
        rw [suf_succ _ _ (by simpa using hj)]
        simp
    | succ i =>
      obtain ⟨p, hp⟩ : ∃ p, p = G[G.length - (i + 1)]'(by omega) := ⟨_, rfl⟩
      have cg := HG3.cell (G.length - (i + 1)) (by omega)
      rw [← hp] at cg
      have hpa' := hpa (by omega)
      obtain ⟨pa', hq1, hq2⟩ := slice_tail bg G.length i pa hi hpa'
      have hi0 : ¬ ((i : Int) + 1 = 0) := by omega
      have hsuf : suf (G.map dl) (i + 1) = dl p :: suf (G.map dl) i := by rw [suf_succ _ _ (by simpa using hi), hp]; simp
      subst hpa'
      push_cast at lk hup
      by_cases hm : dl p = [42, 42]
      · have hm1 : p.toList = [42, 42] := by rw [ByteArray.toList_eq]; exact hm
        have c1 := Ih.out i j pa' pb (by omega) (by omega) hj hq1 hpb W3 (K ++ [(i + 1, j)]) HG3 HT3 HM3
        have C1 := Lib.hid c1
        have HG3' := Lib.hid (And.intro HG3 HT3)
        have Z := Lib.hid (And.intro HM3 (And.intro HW3 (And.intro HG3 HT3)))
        have N := Lib.hid (And.intro new (And.intro sub (And.intro own (And.intro hp (And.intro hsuf hm)))))
        clear c1 HM3 HW3 HG HT HG3 HT3 new sub own hk hp hsuf hm
        go_enter Tryd.func29, Tryd.ntmps29
        go_wp2_with fail
        refine C1.out.mono ?_
        rintro e w4 ⟨r1, K1, rfl, HM4, HW4, Td⟩
        cases r1 with
        | true =>
          have Y := Lib.hid (And.intro HM4 (And.intro (grown_trans Z.out.2.1 HW4) Td))
          clear HM4 HW4 Td
          go_wp2
          go_ret
          refine ⟨true, K1, rfl, Y.out.1, Y.out.2.1, ⟨fun x h => Y.out.2.2.sub x (N.out.2.1 x h), fun _ => ?_, fun h => (by cases h), fun h => (by cases h)⟩⟩
          have e1 := Y.out.2.2.yes rfl
          rw [N.out.2.2.2.2.1, N.out.2.2.2.2.2]
          cases ht : suf (T.map dl) j with
          | nil => rw [meetsL_many_nil, ← ht]; exact e1
          | cons q t => rw [meetsL_many_cons, ← ht, e1, Bool.true_or]
        | false =>
          have HG4 := HG3'.out.1.keep HW4 hgM
          have HT4 := HG3'.out.2.keep HW4 htM
          have HW4' := grown_trans Z.out.2.1 HW4
          cases j with
          | zero =>
            have Y := Lib.hid (And.intro HM4 (And.intro HW4' Td))
            clear HM4 HW4 HW4' Td HG4 HT4
            go_wp2
            go_ret
            refine ⟨false, K1, rfl, Y.out.1, Y.out.2.1, ⟨fun x h => Y.out.2.2.sub x (N.out.2.1 x h), fun h => (by cases h), fun _ => Y.out.2.2.sub _ N.out.2.2.1, fun _ x h h' => ?_⟩⟩
            by_cases hx : x ∈ K ++ [(i + 1, 0)]
            · rw [N.out.1 x hx h']
              refine ⟨by simpa using hi, by simp, ?_⟩
              simp only [N.out.2.2.2.2.1, N.out.2.2.2.2.2, suf_zero, if_true]
              exact ⟨Y.out.2.2.own rfl, fun h => absurd rfl h⟩
            · exact Y.out.2.2.bad rfl x h hx
          | succ j =>
            have hj1 : (0 : Int) < (j : Int) + 1 := by omega
            have hpb' := hpb (by omega)
            obtain ⟨pb', hr1, hr2⟩ := slice_tail bt T.length j pb hj hpb'
            have c2 := Ih.out (i + 1) j (some ⟨bg, G.length - (i + 1), none⟩) pb' (by omega) hi (by omega) (fun _ => rfl) hr1 w4 K1 HG4 HT4 HM4
            have C2 := Lib.hid c2
            have Y := Lib.hid (And.intro HW4' Td)
            clear HM4 HW4 HW4' Td HG4 HT4 c2
            subst hpb'
            go_wp2_with fail
            refine C2.out.mono ?_
            rintro e w5 ⟨r2, K2, rfl, HM5, HW5, Td2⟩
            have X := Lib.hid (And.intro HM5 (And.intro (grown_trans Y.out.1 HW5) Td2))
            clear HM5 HW5 Td2
            have et := suf_succ (T.map dl) j (by simpa using hj)
            have Et := Lib.hid et
            clear et
            cases r2 with
            | true =>
              go_wp2
              go_ret
              refine ⟨true, K2, rfl, X.out.1, X.out.2.1, ⟨fun x h => X.out.2.2.sub x (Y.out.2.sub x (N.out.2.1 x h)), fun _ => ?_, fun h => (by cases h), fun h => (by cases h)⟩⟩
              have e1 := X.out.2.2.yes rfl
              rw [N.out.2.2.2.2.1, N.out.2.2.2.2.2] at e1 ⊢
              rw [Et.out, meetsL_many_cons, e1, Bool.or_true]
            | false =>
              go_wp2
              go_ret
              refine ⟨false, K2, rfl, X.out.1, X.out.2.1, ⟨fun x h => X.out.2.2.sub x (Y.out.2.sub x (N.out.2.1 x h)), fun h => (by cases h), fun _ => X.out.2.2.sub _ (Y.out.2.sub _ N.out.2.2.1), fun _ x h h' => ?_⟩⟩
              by_cases hx : x ∈ K1
              · by_cases hx0 : x ∈ K ++ [(i + 1, j + 1)]
                · rw [N.out.1 x hx0 h']
                  refine ⟨by simpa using hi, by simpa using hj, ?_⟩
                  simp only [N.out.2.2.2.2.1, N.out.2.2.2.2.2, if_true]
                  exact ⟨X.out.2.2.sub _ (Y.out.2.own rfl), fun _ => X.out.2.2.own rfl⟩
                · exact (Y.out.2.bad rfl x hx hx0).mono X.out.2.2.sub
              · exact X.out.2.2.bad rfl x h hx
      · have hm1 : ¬ p.toList = [42, 42] := by rw [ByteArray.toList_eq]; exact hm
        have hm2 : (p.toList == [42, 42]) = false := by simpa using hm1
        have hm3 : suf (G.map dl) (i + 1) = dl p :: suf (G.map dl) i := hsuf
        cases j with
        | zero =>
          have Z := Lib.hid (And.intro HM3 HW3)
          have N := Lib.hid (And.intro new (And.intro sub (And.intro own (And.intro hp (And.intro hsuf hm)))))
          clear HM3 HW3 HG HT HG3 HT3 new sub own hk hp hsuf hm hm3
          push_cast at lk hup
          go_enter Tryd.func29, Tryd.ntmps29
          go_wp2
          go_ret
          refine ⟨false, _, rfl, Z.out.1, Z.out.2, ⟨N.out.2.1, fun h => (by cases h), fun _ => N.out.2.2.1, fun _ x h h' => ?_⟩⟩
          rw [N.out.1 x h h']
          refine ⟨by simpa using hi, by simp, ?_⟩
          simp only [N.out.2.2.2.2.1, suf_zero, if_neg N.out.2.2.2.2.2]
        | succ j =>
          have hj0 : ¬ ((j : Int) + 1 = 0) := by omega
          obtain ⟨q, hq⟩ : ∃ q, q = T[T.length - (j + 1)]'(by omega) := ⟨_, rfl⟩
          have ct := HT3.cell (T.length - (j + 1)) (by omega)
          rw [← hq] at ct
          have hpb' := hpb (by omega)
          obtain ⟨pb', hr1, hr2⟩ := slice_tail bt T.length j pb hj hpb'
          have et : suf (T.map dl) (j + 1) = dl q :: suf (T.map dl) j := by rw [suf_succ _ _ (by simpa using hj), hq]; simp
          have C2 := Lib.hid (fun W (h : Okay G T bg bt M (K ++ [(i + 1, j + 1)]) w W) => Ih.out i j pa' pb' (by omega) (by omega) (by omega) hq1 hr1 W (K ++ [(i + 1, j + 1)]) h.g h.t h.m)
          subst hpb'
          have O : Okay G T bg bt M (K ++ [(i + 1, j + 1)]) w W3 := ⟨HG3, HT3, HM3, HW3⟩
          have N := Lib.hid (And.intro new (And.intro sub (And.intro own (And.intro et (And.intro hsuf hm)))))
          have Hp := Lib.hid hp
          have Hq := Lib.hid hq
          clear HM3 HW3 HG HT HG3 HT3 new sub own hk hp hq et hsuf hm hm3
          push_cast at lk hup
          by_cases hstar : dl p = [42]
          · have s1 : p.toList = [42] := by rw [ByteArray.toList_eq]; exact hstar
            have s2 : (p.toList == [42]) = true := by rw [s1]; rfl
            have Hs := Lib.hid hstar
            clear hstar
            go_enter Tryd.func29, Tryd.ntmps29
            go_wp2_with fail
            have Od := O.drew
            refine wp_region_held_drew (S := fun w' => w'.cell? ⟨bg, G.length - (i + 1), none⟩ = some (.string p) ∧ w'.cell? ⟨bt, T.length - (j + 1), none⟩ = some (.string q)) (by kernel_rfl) ⟨cg, ct⟩ (fun hHeld => ?_)
            refine wpAnyH_take (i := 0) (v := ?_) rfl (by kernel_rfl) (by kernel_rfl) (by kernel_rfl) (fun _ _ _ h => h) (Or.inl ⟨by kernel_rfl, ?_⟩) hHeld ?_
            rotate_left
            · intro w hSw
              obtain ⟨hSw1, hSw2⟩ := hSw
              go_simp
              try with_reducible rfl
            try simp only [Act.put, List.setIfInBounds_toArray, List.set_cons_zero, List.set_cons_succ]
            refine wpAnyH_take (i := 1) (v := ?_) rfl (by kernel_rfl) (by kernel_rfl) (by kernel_rfl) (fun _ _ _ h => h) (Or.inl ⟨by kernel_rfl, ?_⟩) hHeld ?_
            rotate_left
            · intro w hSw
              obtain ⟨hSw1, hSw2⟩ := hSw
              go_simp
              try with_reducible rfl
            try simp only [Act.put, List.setIfInBounds_toArray, List.set_cons_zero, List.set_cons_succ]
            refine wpAnyH_take (i := 2) (v := ?_) rfl (by kernel_rfl) (by kernel_rfl) (by kernel_rfl) (fun _ _ _ h => h) (Or.inl ⟨by kernel_rfl, ?_⟩) hHeld ?_
            rotate_left
            · intro w hSw
              obtain ⟨hSw1, hSw2⟩ := hSw
              go_simp
              try with_reducible rfl
            try simp only [Act.put, List.setIfInBounds_toArray, List.set_cons_zero, List.set_cons_succ]
            refine wpAnyH_take (i := 3) (v := ?_) rfl (by kernel_rfl) (by kernel_rfl) (by kernel_rfl) (fun _ _ _ h => h) (Or.inl ⟨by kernel_rfl, ?_⟩) hHeld ?_
            rotate_left
            · intro w hSw
              obtain ⟨hSw1, hSw2⟩ := hSw
              go_simp
              try with_reducible rfl
            try simp only [Act.put, List.setIfInBounds_toArray, List.set_cons_zero, List.set_cons_succ]
            refine wpAnyH_take (i := 4) (v := ?_) rfl (by kernel_rfl) (by kernel_rfl) (by kernel_rfl) (fun _ _ _ h => h) (Or.inl ⟨by kernel_rfl, ?_⟩) hHeld ?_
            rotate_left
            · intro w hSw
              obtain ⟨hSw1, hSw2⟩ := hSw
              go_simp
              try with_reducible rfl
            try simp only [Act.put, List.setIfInBounds_toArray, List.set_cons_zero, List.set_cons_succ]
            refine wpAnyH_take (i := 5) (v := undef) rfl (by kernel_rfl) (by kernel_rfl) (by kernel_rfl) (fun _ _ _ h => h) (Or.inr ⟨by kernel_rfl, rfl⟩) hHeld ?_
            try simp only [Act.put, List.setIfInBounds_toArray, List.set_cons_zero, List.set_cons_succ]
            refine wpAnyH_take (i := 6) (v := undef) rfl (by kernel_rfl) (by kernel_rfl) (by kernel_rfl) (fun _ _ _ h => h) (Or.inr ⟨by kernel_rfl, rfl⟩) hHeld ?_
            try simp only [Act.put, List.setIfInBounds_toArray, List.set_cons_zero, List.set_cons_succ]
            refine wpAnyH_take (i := 7) (v := undef) rfl (by kernel_rfl) (by kernel_rfl) (by kernel_rfl) (fun _ _ _ h => h) (Or.inr ⟨by kernel_rfl, rfl⟩) hHeld ?_
            try simp only [Act.put, List.setIfInBounds_toArray, List.set_cons_zero, List.set_cons_succ]
            refine wpAnyH_take (i := 8) (v := undef) rfl (by kernel_rfl) (by kernel_rfl) (by kernel_rfl) (fun _ _ _ h => h) (Or.inr ⟨by kernel_rfl, rfl⟩) hHeld ?_
            try simp only [Act.put, List.setIfInBounds_toArray, List.set_cons_zero, List.set_cons_succ]
            refine wpAnyH_take (i := 9) (v := undef) rfl (by kernel_rfl) (by kernel_rfl) (by kernel_rfl) (fun _ _ _ h => h) (Or.inr ⟨by kernel_rfl, rfl⟩) hHeld ?_
            try simp only [Act.put, List.setIfInBounds_toArray, List.set_cons_zero, List.set_cons_succ]
            refine wpAnyH_take (i := 10) (v := undef) rfl (by kernel_rfl) (by kernel_rfl) (by kernel_rfl) (fun _ _ _ h => h) (Or.inr ⟨by kernel_rfl, rfl⟩) hHeld ?_
            try simp only [Act.put, List.setIfInBounds_toArray, List.set_cons_zero, List.set_cons_succ]
            refine wpAnyH_take (i := 11) (v := undef) rfl (by kernel_rfl) (by kernel_rfl) (by kernel_rfl) (fun _ _ _ h => h) (Or.inr ⟨by kernel_rfl, rfl⟩) hHeld ?_
            try simp only [Act.put, List.setIfInBounds_toArray, List.set_cons_zero, List.set_cons_succ]
            refine wpAnyH_take (i := 12) (v := ?_) rfl (by kernel_rfl) (by kernel_rfl) (by kernel_rfl) (fun _ _ _ h => h) (Or.inl ⟨by kernel_rfl, ?_⟩) hHeld ?_
            rotate_left
            · intro w hSw
              obtain ⟨hSw1, hSw2⟩ := hSw
              go_simp
              try with_reducible rfl
            try simp only [Act.put, List.setIfInBounds_toArray, List.set_cons_zero, List.set_cons_succ]
            refine wpAnyH_take (i := 13) (v := ?_) rfl (by kernel_rfl) (by kernel_rfl) (by kernel_rfl) (fun _ _ _ h => h) (Or.inl ⟨by kernel_rfl, ?_⟩) hHeld ?_
            rotate_left
            · intro w hSw
              obtain ⟨hSw1, hSw2⟩ := hSw
              go_simp
              try with_reducible rfl
            try simp only [Act.put, List.setIfInBounds_toArray, List.set_cons_zero, List.set_cons_succ]
            refine wpAnyH_take (i := 14) (v := ?_) rfl (by kernel_rfl) (by kernel_rfl) (by kernel_rfl) (fun _ _ _ h => h) (Or.inl ⟨by kernel_rfl, ?_⟩) hHeld ?_
            rotate_left
            · intro w hSw
              obtain ⟨hSw1, hSw2⟩ := hSw
              go_simp
              try with_reducible rfl
            try simp only [Act.put, List.setIfInBounds_toArray, List.set_cons_zero, List.set_cons_succ]
            refine wpAnyH_take (i := 15) (v := ?_) rfl (by kernel_rfl) (by kernel_rfl) (by kernel_rfl) (fun _ _ _ h => h) (Or.inl ⟨by kernel_rfl, ?_⟩) hHeld ?_
            rotate_left
            · intro w hSw
              obtain ⟨hSw1, hSw2⟩ := hSw
              go_simp
              try with_reducible rfl
            try simp only [Act.put, List.setIfInBounds_toArray, List.set_cons_zero, List.set_cons_succ]
            refine wpAnyH_take (i := 16) (v := ?_) rfl (by kernel_rfl) (by kernel_rfl) (by kernel_rfl) (fun _ _ _ h => h) (Or.inl ⟨by kernel_rfl, ?_⟩) hHeld ?_
            rotate_left
            · intro w hSw
              obtain ⟨hSw1, hSw2⟩ := hSw
              go_simp
              try with_reducible rfl
            try simp only [Act.put, List.setIfInBounds_toArray, List.set_cons_zero, List.set_cons_succ]
            refine wpAnyH_take (i := 17) (v := ?_) rfl (by kernel_rfl) (by kernel_rfl) (by kernel_rfl) (fun _ _ _ h => h) (Or.inl ⟨by kernel_rfl, ?_⟩) hHeld ?_
            rotate_left
            · intro w hSw
              obtain ⟨hSw1, hSw2⟩ := hSw
              go_simp
              try with_reducible rfl
            try simp only [Act.put, List.setIfInBounds_toArray, List.set_cons_zero, List.set_cons_succ]
            refine wpAnyH_take (i := 18) (v := ?_) rfl (by kernel_rfl) (by kernel_rfl) (by kernel_rfl) (fun _ _ _ h => h) (Or.inl ⟨by kernel_rfl, ?_⟩) hHeld ?_
            rotate_left
            · intro w hSw
              obtain ⟨hSw1, hSw2⟩ := hSw
              go_simp
              try with_reducible rfl
            try simp only [Act.put, List.setIfInBounds_toArray, List.set_cons_zero, List.set_cons_succ]
            refine wpAnyH_ready (rs := [19]) (by kernel_rfl) (by simp) ?_
            refine AllReadyH.cons rfl (fun KK hK => ?_) AllReadyH.nil
            go_simp
            refine (C2.out _ Od).mono ?_
            rintro e w4 ⟨r1, K1, rfl, HM4, HW4, Td⟩
            have Y := Lib.hid (And.intro HM4 (And.intro (grown_trans Od.grown HW4) Td))
            have cg4 : w4.cell? ⟨bg, G.length - (i + 1), none⟩ = some (.string p) := by rw [Hp.out]; exact (Od.g.keep HW4 hgM).cell (G.length - (i + 1)) (by omega)
            have ct4 : w4.cell? ⟨bt, T.length - (j + 1), none⟩ = some (.string q) := by rw [Hq.out]; exact (Od.t.keep HW4 htM).cell (T.length - (j + 1)) (by omega)
            clear HM4 HW4 Td
            show KK _ w4
            refine hK.out _ _ ⟨cg4, ct4⟩ (fun hHeld => ?_)
            clear hK KK
            try simp only [Act.put, List.setIfInBounds_toArray, List.set_cons_zero, List.set_cons_succ]
            refine wpAnyH_take (i := 20) (oi := { dst := some 78, op := Go.Op.pick (Go.Operand.tmp 71) (Go.Operand.tmp 77) (Go.Operand.const (Go.Value.bool false)), type := 4, pos := "name.go:95", after := #[{ on := 13, ground := Go.Ground.data }, { on := 19, ground := Go.Ground.data }], guard := none }) (v := ?_) rfl (by kernel_rfl) (by kernel_rfl) (by kernel_rfl) (fun _ _ _ h => h) (Or.inl ⟨by kernel_rfl, ?_⟩) hHeld ?_
            rotate_left
            · intro w hSw
              obtain ⟨hSw1, hSw2⟩ := hSw
              go_simp
              try with_reducible rfl
            try simp only [Act.put, List.setIfInBounds_toArray, List.set_cons_zero, List.set_cons_succ]
            refine wpAnyH_take (i := 21) (oi := { dst := some 6, op := Go.Op.assign (Go.Operand.tmp 78), type := 4, pos := "name.go:95", after := #[{ on := 20, ground := Go.Ground.data }, { on := 19, ground := Go.Ground.chain }, { on := 0, ground := Go.Ground.phase }, { on := 1, ground := Go.Ground.phase }, { on := 2, ground := Go.Ground.phase }, { on := 3, ground := Go.Ground.phase }, { on := 4, ground := Go.Ground.phase }, { on := 5, ground := Go.Ground.phase }, { on := 6, ground := Go.Ground.phase }, { on := 7, ground := Go.Ground.phase }, { on := 8, ground := Go.Ground.phase }, { on := 9, ground := Go.Ground.phase }, { on := 10, ground := Go.Ground.phase }, { on := 11, ground := Go.Ground.phase }, { on := 12, ground := Go.Ground.phase }, { on := 13, ground := Go.Ground.phase }, { on := 14, ground := Go.Ground.phase }, { on := 15, ground := Go.Ground.phase }, { on := 16, ground := Go.Ground.phase }, { on := 17, ground := Go.Ground.phase }, { on := 18, ground := Go.Ground.phase }, { on := 19, ground := Go.Ground.phase }, { on := 20, ground := Go.Ground.phase }], guard := none }) (v := ?_) rfl (by kernel_rfl) (by kernel_rfl) (by kernel_rfl) (fun _ _ _ h => h) (Or.inl ⟨by kernel_rfl, ?_⟩) hHeld ?_
            rotate_left
            · intro w hSw
              obtain ⟨hSw1, hSw2⟩ := hSw
              go_simp
              try with_reducible rfl
            try simp only [Act.put, List.setIfInBounds_toArray, List.set_cons_zero, List.set_cons_succ]
            refine wpAnyH_done (by kernel_rfl) ?_ _
            go_wp2
            go_ret
            exact ⟨r1, K1, (by simp), Y.out.1, Y.out.2.1, told_step (by simpa using hi) (by simpa using hj) N.out.2.2.2.2.1 N.out.2.2.2.1 N.out.2.2.2.2.2 (.inl Hs.out) Y.out.2.2⟩
          · have s1 : ¬ p.toList = [42] := by rw [ByteArray.toList_eq]; exact hstar
            have s2 : (p.toList == [42]) = false := by simpa using s1
            by_cases hpq : p = q
            · subst hpq
              clear hstar
              go_enter Tryd.func29, Tryd.ntmps29
              go_wp2_with fail
              have Od := O.drew
              refine wp_region_held_drew (S := fun w' => w'.cell? ⟨bg, G.length - (i + 1), none⟩ = some (.string p) ∧ w'.cell? ⟨bt, T.length - (j + 1), none⟩ = some (.string p)) (by kernel_rfl) ⟨cg, ct⟩ (fun hHeld => ?_)
              refine wpAnyH_take (i := 0) (v := ?_) rfl (by kernel_rfl) (by kernel_rfl) (by kernel_rfl) (fun _ _ _ h => h) (Or.inl ⟨by kernel_rfl, ?_⟩) hHeld ?_
              rotate_left
              · intro w hSw
                obtain ⟨hSw1, hSw2⟩ := hSw
                go_simp
                try with_reducible rfl
              try simp only [Act.put, List.setIfInBounds_toArray, List.set_cons_zero, List.set_cons_succ]
              refine wpAnyH_take (i := 1) (v := ?_) rfl (by kernel_rfl) (by kernel_rfl) (by kernel_rfl) (fun _ _ _ h => h) (Or.inl ⟨by kernel_rfl, ?_⟩) hHeld ?_
              rotate_left
              · intro w hSw
                obtain ⟨hSw1, hSw2⟩ := hSw
                go_simp
                try with_reducible rfl
              try simp only [Act.put, List.setIfInBounds_toArray, List.set_cons_zero, List.set_cons_succ]
              refine wpAnyH_take (i := 2) (v := ?_) rfl (by kernel_rfl) (by kernel_rfl) (by kernel_rfl) (fun _ _ _ h => h) (Or.inl ⟨by kernel_rfl, ?_⟩) hHeld ?_
              rotate_left
              · intro w hSw
                obtain ⟨hSw1, hSw2⟩ := hSw
                go_simp
                try with_reducible rfl
              try simp only [Act.put, List.setIfInBounds_toArray, List.set_cons_zero, List.set_cons_succ]
              refine wpAnyH_take (i := 3) (v := ?_) rfl (by kernel_rfl) (by kernel_rfl) (by kernel_rfl) (fun _ _ _ h => h) (Or.inl ⟨by kernel_rfl, ?_⟩) hHeld ?_
              rotate_left
              · intro w hSw
                obtain ⟨hSw1, hSw2⟩ := hSw
                go_simp
                try with_reducible rfl
              try simp only [Act.put, List.setIfInBounds_toArray, List.set_cons_zero, List.set_cons_succ]
              refine wpAnyH_take (i := 4) (v := ?_) rfl (by kernel_rfl) (by kernel_rfl) (by kernel_rfl) (fun _ _ _ h => h) (Or.inl ⟨by kernel_rfl, ?_⟩) hHeld ?_
              rotate_left
              · intro w hSw
                obtain ⟨hSw1, hSw2⟩ := hSw
                go_simp
                try with_reducible rfl
              try simp only [Act.put, List.setIfInBounds_toArray, List.set_cons_zero, List.set_cons_succ]
              refine wpAnyH_take (i := 5) (v := ?_) rfl (by kernel_rfl) (by kernel_rfl) (by kernel_rfl) (fun _ _ _ h => h) (Or.inl ⟨by kernel_rfl, ?_⟩) hHeld ?_
              rotate_left
              · intro w hSw
                obtain ⟨hSw1, hSw2⟩ := hSw
                go_simp
                try with_reducible rfl
              try simp only [Act.put, List.setIfInBounds_toArray, List.set_cons_zero, List.set_cons_succ]
              refine wpAnyH_take (i := 6) (v := ?_) rfl (by kernel_rfl) (by kernel_rfl) (by kernel_rfl) (fun _ _ _ h => h) (Or.inl ⟨by kernel_rfl, ?_⟩) hHeld ?_
              rotate_left
              · intro w hSw
                obtain ⟨hSw1, hSw2⟩ := hSw
                go_simp
                try with_reducible rfl
              try simp only [Act.put, List.setIfInBounds_toArray, List.set_cons_zero, List.set_cons_succ]
              refine wpAnyH_take (i := 7) (v := ?_) rfl (by kernel_rfl) (by kernel_rfl) (by kernel_rfl) (fun _ _ _ h => h) (Or.inl ⟨by kernel_rfl, ?_⟩) hHeld ?_
              rotate_left
              · intro w hSw
                obtain ⟨hSw1, hSw2⟩ := hSw
                go_simp
                try with_reducible rfl
              try simp only [Act.put, List.setIfInBounds_toArray, List.set_cons_zero, List.set_cons_succ]
              refine wpAnyH_take (i := 8) (v := ?_) rfl (by kernel_rfl) (by kernel_rfl) (by kernel_rfl) (fun _ _ _ h => h) (Or.inl ⟨by kernel_rfl, ?_⟩) hHeld ?_
              rotate_left
              · intro w hSw
                obtain ⟨hSw1, hSw2⟩ := hSw
                go_simp
                try with_reducible rfl
              try simp only [Act.put, List.setIfInBounds_toArray, List.set_cons_zero, List.set_cons_succ]
              refine wpAnyH_take (i := 9) (v := ?_) rfl (by kernel_rfl) (by kernel_rfl) (by kernel_rfl) (fun _ _ _ h => h) (Or.inl ⟨by kernel_rfl, ?_⟩) hHeld ?_
              rotate_left
              · intro w hSw
                obtain ⟨hSw1, hSw2⟩ := hSw
                go_simp
                try with_reducible rfl
              try simp only [Act.put, List.setIfInBounds_toArray, List.set_cons_zero, List.set_cons_succ]
              refine wpAnyH_take (i := 10) (v := ?_) rfl (by kernel_rfl) (by kernel_rfl) (by kernel_rfl) (fun _ _ _ h => h) (Or.inl ⟨by kernel_rfl, ?_⟩) hHeld ?_
              rotate_left
              · intro w hSw
                obtain ⟨hSw1, hSw2⟩ := hSw
                go_simp
                try with_reducible rfl
              try simp only [Act.put, List.setIfInBounds_toArray, List.set_cons_zero, List.set_cons_succ]
              refine wpAnyH_take (i := 11) (v := ?_) rfl (by kernel_rfl) (by kernel_rfl) (by kernel_rfl) (fun _ _ _ h => h) (Or.inl ⟨by kernel_rfl, ?_⟩) hHeld ?_
              rotate_left
              · intro w hSw
                obtain ⟨hSw1, hSw2⟩ := hSw
                go_simp
                try with_reducible rfl
              try simp only [Act.put, List.setIfInBounds_toArray, List.set_cons_zero, List.set_cons_succ]
              refine wpAnyH_take (i := 12) (v := ?_) rfl (by kernel_rfl) (by kernel_rfl) (by kernel_rfl) (fun _ _ _ h => h) (Or.inl ⟨by kernel_rfl, ?_⟩) hHeld ?_
              rotate_left
              · intro w hSw
                obtain ⟨hSw1, hSw2⟩ := hSw
                go_simp
                try with_reducible rfl
              try simp only [Act.put, List.setIfInBounds_toArray, List.set_cons_zero, List.set_cons_succ]
              refine wpAnyH_take (i := 13) (v := ?_) rfl (by kernel_rfl) (by kernel_rfl) (by kernel_rfl) (fun _ _ _ h => h) (Or.inl ⟨by kernel_rfl, ?_⟩) hHeld ?_
              rotate_left
              · intro w hSw
                obtain ⟨hSw1, hSw2⟩ := hSw
                go_simp
                try with_reducible rfl
              try simp only [Act.put, List.setIfInBounds_toArray, List.set_cons_zero, List.set_cons_succ]
              refine wpAnyH_take (i := 14) (v := ?_) rfl (by kernel_rfl) (by kernel_rfl) (by kernel_rfl) (fun _ _ _ h => h) (Or.inl ⟨by kernel_rfl, ?_⟩) hHeld ?_
              rotate_left
              · intro w hSw
                obtain ⟨hSw1, hSw2⟩ := hSw
                go_simp
                try with_reducible rfl
              try simp only [Act.put, List.setIfInBounds_toArray, List.set_cons_zero, List.set_cons_succ]
              refine wpAnyH_take (i := 15) (v := ?_) rfl (by kernel_rfl) (by kernel_rfl) (by kernel_rfl) (fun _ _ _ h => h) (Or.inl ⟨by kernel_rfl, ?_⟩) hHeld ?_
              rotate_left
              · intro w hSw
                obtain ⟨hSw1, hSw2⟩ := hSw
                go_simp
                try with_reducible rfl
              try simp only [Act.put, List.setIfInBounds_toArray, List.set_cons_zero, List.set_cons_succ]
              refine wpAnyH_take (i := 16) (v := ?_) rfl (by kernel_rfl) (by kernel_rfl) (by kernel_rfl) (fun _ _ _ h => h) (Or.inl ⟨by kernel_rfl, ?_⟩) hHeld ?_
              rotate_left
              · intro w hSw
                obtain ⟨hSw1, hSw2⟩ := hSw
                go_simp
                try with_reducible rfl
              try simp only [Act.put, List.setIfInBounds_toArray, List.set_cons_zero, List.set_cons_succ]
              refine wpAnyH_take (i := 17) (v := ?_) rfl (by kernel_rfl) (by kernel_rfl) (by kernel_rfl) (fun _ _ _ h => h) (Or.inl ⟨by kernel_rfl, ?_⟩) hHeld ?_
              rotate_left
              · intro w hSw
                obtain ⟨hSw1, hSw2⟩ := hSw
                go_simp
                try with_reducible rfl
              try simp only [Act.put, List.setIfInBounds_toArray, List.set_cons_zero, List.set_cons_succ]
              refine wpAnyH_take (i := 18) (v := ?_) rfl (by kernel_rfl) (by kernel_rfl) (by kernel_rfl) (fun _ _ _ h => h) (Or.inl ⟨by kernel_rfl, ?_⟩) hHeld ?_
              rotate_left
              · intro w hSw
                obtain ⟨hSw1, hSw2⟩ := hSw
                go_simp
                try with_reducible rfl
              try simp only [Act.put, List.setIfInBounds_toArray, List.set_cons_zero, List.set_cons_succ]
              refine wpAnyH_ready (rs := [19]) (by kernel_rfl) (by simp) ?_
              refine AllReadyH.cons rfl (fun KK hK => ?_) AllReadyH.nil
              go_simp
              refine (C2.out _ Od).mono ?_
              rintro e w4 ⟨r1, K1, rfl, HM4, HW4, Td⟩
              have Y := Lib.hid (And.intro HM4 (And.intro (grown_trans Od.grown HW4) Td))
              have cg4 : w4.cell? ⟨bg, G.length - (i + 1), none⟩ = some (.string p) := by rw [Hp.out]; exact (Od.g.keep HW4 hgM).cell (G.length - (i + 1)) (by omega)
              have ct4 : w4.cell? ⟨bt, T.length - (j + 1), none⟩ = some (.string p) := by rw [Hq.out]; exact (Od.t.keep HW4 htM).cell (T.length - (j + 1)) (by omega)
              clear HM4 HW4 Td
              show KK _ w4
              refine hK.out _ _ ⟨cg4, ct4⟩ (fun hHeld => ?_)
              clear hK KK
              try simp only [Act.put, List.setIfInBounds_toArray, List.set_cons_zero, List.set_cons_succ]
              refine wpAnyH_take (i := 20) (oi := { dst := some 78, op := Go.Op.pick (Go.Operand.tmp 71) (Go.Operand.tmp 77) (Go.Operand.const (Go.Value.bool false)), type := 4, pos := "name.go:95", after := #[{ on := 13, ground := Go.Ground.data }, { on := 19, ground := Go.Ground.data }], guard := none }) (v := ?_) rfl (by kernel_rfl) (by kernel_rfl) (by kernel_rfl) (fun _ _ _ h => h) (Or.inl ⟨by kernel_rfl, ?_⟩) hHeld ?_
              rotate_left
              · intro w hSw
                obtain ⟨hSw1, hSw2⟩ := hSw
                go_simp
                try with_reducible rfl
              try simp only [Act.put, List.setIfInBounds_toArray, List.set_cons_zero, List.set_cons_succ]
              refine wpAnyH_take (i := 21) (oi := { dst := some 6, op := Go.Op.assign (Go.Operand.tmp 78), type := 4, pos := "name.go:95", after := #[{ on := 20, ground := Go.Ground.data }, { on := 19, ground := Go.Ground.chain }, { on := 0, ground := Go.Ground.phase }, { on := 1, ground := Go.Ground.phase }, { on := 2, ground := Go.Ground.phase }, { on := 3, ground := Go.Ground.phase }, { on := 4, ground := Go.Ground.phase }, { on := 5, ground := Go.Ground.phase }, { on := 6, ground := Go.Ground.phase }, { on := 7, ground := Go.Ground.phase }, { on := 8, ground := Go.Ground.phase }, { on := 9, ground := Go.Ground.phase }, { on := 10, ground := Go.Ground.phase }, { on := 11, ground := Go.Ground.phase }, { on := 12, ground := Go.Ground.phase }, { on := 13, ground := Go.Ground.phase }, { on := 14, ground := Go.Ground.phase }, { on := 15, ground := Go.Ground.phase }, { on := 16, ground := Go.Ground.phase }, { on := 17, ground := Go.Ground.phase }, { on := 18, ground := Go.Ground.phase }, { on := 19, ground := Go.Ground.phase }, { on := 20, ground := Go.Ground.phase }], guard := none }) (v := ?_) rfl (by kernel_rfl) (by kernel_rfl) (by kernel_rfl) (fun _ _ _ h => h) (Or.inl ⟨by kernel_rfl, ?_⟩) hHeld ?_
              rotate_left
              · intro w hSw
                obtain ⟨hSw1, hSw2⟩ := hSw
                go_simp
                try with_reducible rfl
              try simp only [Act.put, List.setIfInBounds_toArray, List.set_cons_zero, List.set_cons_succ]
              refine wpAnyH_done (by kernel_rfl) ?_ _
              go_wp2
              go_ret
              exact ⟨r1, K1, (by simp), Y.out.1, Y.out.2.1, told_step (by simpa using hi) (by simpa using hj) N.out.2.2.2.2.1 N.out.2.2.2.1 N.out.2.2.2.2.2 (.inr rfl) Y.out.2.2⟩
            · have s3 : ¬ p.toList = q.toList := by
                rw [ByteArray.toList_eq, ByteArray.toList_eq]
                exact fun e => hpq (Go.WideShapes.bytes_inj e)
              have s4 : (p.toList == q.toList) = false := by simpa using s3
              have Hs := Lib.hid (show ¬ (dl p = [42] ∨ dl p = dl q) from fun h => h.elim hstar (fun e => hpq (Go.WideShapes.bytes_inj e)))
              clear hstar hpq
              go_enter Tryd.func29, Tryd.ntmps29
              go_wp2_with fail
              have Od := O.drew
              refine wp_region_held_drew (S := fun w' => w'.cell? ⟨bg, G.length - (i + 1), none⟩ = some (.string p) ∧ w'.cell? ⟨bt, T.length - (j + 1), none⟩ = some (.string q)) (by kernel_rfl) ⟨cg, ct⟩ (fun hHeld => ?_)
              refine wpAnyH_take (i := 0) (v := ?_) rfl (by kernel_rfl) (by kernel_rfl) (by kernel_rfl) (fun _ _ _ h => h) (Or.inl ⟨by kernel_rfl, ?_⟩) hHeld ?_
              rotate_left
              · intro w hSw
                obtain ⟨hSw1, hSw2⟩ := hSw
                go_simp
                try with_reducible rfl
              try simp only [Act.put, List.setIfInBounds_toArray, List.set_cons_zero, List.set_cons_succ]
              refine wpAnyH_take (i := 1) (v := ?_) rfl (by kernel_rfl) (by kernel_rfl) (by kernel_rfl) (fun _ _ _ h => h) (Or.inl ⟨by kernel_rfl, ?_⟩) hHeld ?_
              rotate_left
              · intro w hSw
                obtain ⟨hSw1, hSw2⟩ := hSw
                go_simp
                try with_reducible rfl
              try simp only [Act.put, List.setIfInBounds_toArray, List.set_cons_zero, List.set_cons_succ]
              refine wpAnyH_take (i := 2) (v := ?_) rfl (by kernel_rfl) (by kernel_rfl) (by kernel_rfl) (fun _ _ _ h => h) (Or.inl ⟨by kernel_rfl, ?_⟩) hHeld ?_
              rotate_left
              · intro w hSw
                obtain ⟨hSw1, hSw2⟩ := hSw
                go_simp
                try with_reducible rfl
              try simp only [Act.put, List.setIfInBounds_toArray, List.set_cons_zero, List.set_cons_succ]
              refine wpAnyH_take (i := 3) (v := ?_) rfl (by kernel_rfl) (by kernel_rfl) (by kernel_rfl) (fun _ _ _ h => h) (Or.inl ⟨by kernel_rfl, ?_⟩) hHeld ?_
              rotate_left
              · intro w hSw
                obtain ⟨hSw1, hSw2⟩ := hSw
                go_simp
                try with_reducible rfl
              try simp only [Act.put, List.setIfInBounds_toArray, List.set_cons_zero, List.set_cons_succ]
              refine wpAnyH_take (i := 4) (v := ?_) rfl (by kernel_rfl) (by kernel_rfl) (by kernel_rfl) (fun _ _ _ h => h) (Or.inl ⟨by kernel_rfl, ?_⟩) hHeld ?_
              rotate_left
              · intro w hSw
                obtain ⟨hSw1, hSw2⟩ := hSw
                go_simp
                try with_reducible rfl
              try simp only [Act.put, List.setIfInBounds_toArray, List.set_cons_zero, List.set_cons_succ]
              refine wpAnyH_take (i := 5) (v := ?_) rfl (by kernel_rfl) (by kernel_rfl) (by kernel_rfl) (fun _ _ _ h => h) (Or.inl ⟨by kernel_rfl, ?_⟩) hHeld ?_
              rotate_left
              · intro w hSw
                obtain ⟨hSw1, hSw2⟩ := hSw
                go_simp
                try with_reducible rfl
              try simp only [Act.put, List.setIfInBounds_toArray, List.set_cons_zero, List.set_cons_succ]
              refine wpAnyH_take (i := 6) (v := ?_) rfl (by kernel_rfl) (by kernel_rfl) (by kernel_rfl) (fun _ _ _ h => h) (Or.inl ⟨by kernel_rfl, ?_⟩) hHeld ?_
              rotate_left
              · intro w hSw
                obtain ⟨hSw1, hSw2⟩ := hSw
                go_simp
                try with_reducible rfl
              try simp only [Act.put, List.setIfInBounds_toArray, List.set_cons_zero, List.set_cons_succ]
              refine wpAnyH_take (i := 7) (v := ?_) rfl (by kernel_rfl) (by kernel_rfl) (by kernel_rfl) (fun _ _ _ h => h) (Or.inl ⟨by kernel_rfl, ?_⟩) hHeld ?_
              rotate_left
              · intro w hSw
                obtain ⟨hSw1, hSw2⟩ := hSw
                go_simp
                try with_reducible rfl
              try simp only [Act.put, List.setIfInBounds_toArray, List.set_cons_zero, List.set_cons_succ]
              refine wpAnyH_take (i := 8) (v := ?_) rfl (by kernel_rfl) (by kernel_rfl) (by kernel_rfl) (fun _ _ _ h => h) (Or.inl ⟨by kernel_rfl, ?_⟩) hHeld ?_
              rotate_left
              · intro w hSw
                obtain ⟨hSw1, hSw2⟩ := hSw
                go_simp
                try with_reducible rfl
              try simp only [Act.put, List.setIfInBounds_toArray, List.set_cons_zero, List.set_cons_succ]
              refine wpAnyH_take (i := 9) (v := ?_) rfl (by kernel_rfl) (by kernel_rfl) (by kernel_rfl) (fun _ _ _ h => h) (Or.inl ⟨by kernel_rfl, ?_⟩) hHeld ?_
              rotate_left
              · intro w hSw
                obtain ⟨hSw1, hSw2⟩ := hSw
                go_simp
                try with_reducible rfl
              try simp only [Act.put, List.setIfInBounds_toArray, List.set_cons_zero, List.set_cons_succ]
              refine wpAnyH_take (i := 10) (v := ?_) rfl (by kernel_rfl) (by kernel_rfl) (by kernel_rfl) (fun _ _ _ h => h) (Or.inl ⟨by kernel_rfl, ?_⟩) hHeld ?_
              rotate_left
              · intro w hSw
                obtain ⟨hSw1, hSw2⟩ := hSw
                go_simp
                try with_reducible rfl
              try simp only [Act.put, List.setIfInBounds_toArray, List.set_cons_zero, List.set_cons_succ]
              refine wpAnyH_take (i := 11) (v := ?_) rfl (by kernel_rfl) (by kernel_rfl) (by kernel_rfl) (fun _ _ _ h => h) (Or.inl ⟨by kernel_rfl, ?_⟩) hHeld ?_
              rotate_left
              · intro w hSw
                obtain ⟨hSw1, hSw2⟩ := hSw
                go_simp
                try with_reducible rfl
              try simp only [Act.put, List.setIfInBounds_toArray, List.set_cons_zero, List.set_cons_succ]
              refine wpAnyH_take (i := 12) (v := ?_) rfl (by kernel_rfl) (by kernel_rfl) (by kernel_rfl) (fun _ _ _ h => h) (Or.inl ⟨by kernel_rfl, ?_⟩) hHeld ?_
              rotate_left
              · intro w hSw
                obtain ⟨hSw1, hSw2⟩ := hSw
                go_simp
                try with_reducible rfl
              try simp only [Act.put, List.setIfInBounds_toArray, List.set_cons_zero, List.set_cons_succ]
              refine wpAnyH_take (i := 13) (v := ?_) rfl (by kernel_rfl) (by kernel_rfl) (by kernel_rfl) (fun _ _ _ h => h) (Or.inl ⟨by kernel_rfl, ?_⟩) hHeld ?_
              rotate_left
              · intro w hSw
                obtain ⟨hSw1, hSw2⟩ := hSw
                go_simp
                try with_reducible rfl
              try simp only [Act.put, List.setIfInBounds_toArray, List.set_cons_zero, List.set_cons_succ]
              refine wpAnyH_take (i := 14) (v := undef) rfl (by kernel_rfl) (by kernel_rfl) (by kernel_rfl) (fun _ _ _ h => h) (Or.inr ⟨by kernel_rfl, rfl⟩) hHeld ?_
              try simp only [Act.put, List.setIfInBounds_toArray, List.set_cons_zero, List.set_cons_succ]
              refine wpAnyH_take (i := 15) (v := undef) rfl (by kernel_rfl) (by kernel_rfl) (by kernel_rfl) (fun _ _ _ h => h) (Or.inr ⟨by kernel_rfl, rfl⟩) hHeld ?_
              try simp only [Act.put, List.setIfInBounds_toArray, List.set_cons_zero, List.set_cons_succ]
              refine wpAnyH_take (i := 16) (v := undef) rfl (by kernel_rfl) (by kernel_rfl) (by kernel_rfl) (fun _ _ _ h => h) (Or.inr ⟨by kernel_rfl, rfl⟩) hHeld ?_
              try simp only [Act.put, List.setIfInBounds_toArray, List.set_cons_zero, List.set_cons_succ]
              refine wpAnyH_take (i := 17) (v := undef) rfl (by kernel_rfl) (by kernel_rfl) (by kernel_rfl) (fun _ _ _ h => h) (Or.inr ⟨by kernel_rfl, rfl⟩) hHeld ?_
              try simp only [Act.put, List.setIfInBounds_toArray, List.set_cons_zero, List.set_cons_succ]
              refine wpAnyH_take (i := 18) (v := undef) rfl (by kernel_rfl) (by kernel_rfl) (by kernel_rfl) (fun _ _ _ h => h) (Or.inr ⟨by kernel_rfl, rfl⟩) hHeld ?_
              try simp only [Act.put, List.setIfInBounds_toArray, List.set_cons_zero, List.set_cons_succ]
              refine wpAnyH_take (i := 19) (v := undef) rfl (by kernel_rfl) (by kernel_rfl) (by kernel_rfl) (fun _ _ _ h => h) (Or.inr ⟨by kernel_rfl, rfl⟩) hHeld ?_
              try simp only [Act.put, List.setIfInBounds_toArray, List.set_cons_zero, List.set_cons_succ]
              refine wpAnyH_take (i := 20) (oi := { dst := some 78, op := Go.Op.pick (Go.Operand.tmp 71) (Go.Operand.tmp 77) (Go.Operand.const (Go.Value.bool false)), type := 4, pos := "name.go:95", after := #[{ on := 13, ground := Go.Ground.data }, { on := 19, ground := Go.Ground.data }], guard := none }) (v := ?_) rfl (by kernel_rfl) (by kernel_rfl) (by kernel_rfl) (fun _ _ _ h => h) (Or.inl ⟨by kernel_rfl, ?_⟩) hHeld ?_
              rotate_left
              · intro w hSw
                obtain ⟨hSw1, hSw2⟩ := hSw
                go_simp
                try with_reducible rfl
              try simp only [Act.put, List.setIfInBounds_toArray, List.set_cons_zero, List.set_cons_succ]
              refine wpAnyH_take (i := 21) (oi := { dst := some 6, op := Go.Op.assign (Go.Operand.tmp 78), type := 4, pos := "name.go:95", after := #[{ on := 20, ground := Go.Ground.data }, { on := 19, ground := Go.Ground.chain }, { on := 0, ground := Go.Ground.phase }, { on := 1, ground := Go.Ground.phase }, { on := 2, ground := Go.Ground.phase }, { on := 3, ground := Go.Ground.phase }, { on := 4, ground := Go.Ground.phase }, { on := 5, ground := Go.Ground.phase }, { on := 6, ground := Go.Ground.phase }, { on := 7, ground := Go.Ground.phase }, { on := 8, ground := Go.Ground.phase }, { on := 9, ground := Go.Ground.phase }, { on := 10, ground := Go.Ground.phase }, { on := 11, ground := Go.Ground.phase }, { on := 12, ground := Go.Ground.phase }, { on := 13, ground := Go.Ground.phase }, { on := 14, ground := Go.Ground.phase }, { on := 15, ground := Go.Ground.phase }, { on := 16, ground := Go.Ground.phase }, { on := 17, ground := Go.Ground.phase }, { on := 18, ground := Go.Ground.phase }, { on := 19, ground := Go.Ground.phase }, { on := 20, ground := Go.Ground.phase }], guard := none }) (v := ?_) rfl (by kernel_rfl) (by kernel_rfl) (by kernel_rfl) (fun _ _ _ h => h) (Or.inl ⟨by kernel_rfl, ?_⟩) hHeld ?_
              rotate_left
              · intro w hSw
                obtain ⟨hSw1, hSw2⟩ := hSw
                go_simp
                try with_reducible rfl
              try simp only [Act.put, List.setIfInBounds_toArray, List.set_cons_zero, List.set_cons_succ]
              refine wpAnyH_done (by kernel_rfl) ?_ _
              go_wp2
              go_ret
              exact ⟨false, _, (by simp), Od.m, Od.grown, told_none (by simpa using hi) (by simpa using hj) N.out.2.2.2.2.1 N.out.2.2.2.1 N.out.2.2.2.2.2 Hs.out⟩
theorem meets_any (G T : List ByteArray) (bg bt M : Nat) (hgM : bg ≠ M) (htM : bt ≠ M) (hG8 : G.length ≤ 8) (hT8 : T.length ≤ 8) : ∀ n, Meets G T bg bt M n
  | 0 => fun i j _ _ h => absurd h (by omega)
  | n + 1 => meets_step G T bg bt M hgM htM hG8 hT8 n (meets_any G T bg bt M hgM htM hG8 hT8 n)
/-- Which globs meet: asked with nothing asked before. -/
theorem meets_told (G T : List ByteArray) (bg bt M : Nat) (hgM : bg ≠ M) (htM : bt ≠ M) (hG8 : G.length ≤ 8) (hT8 : T.length ≤ 8) (w : World) (HG : Held w bg G) (HT : Held w bt T) (HM : MapIs w M []) :
    Calls Tryd.prog 29 #[.slice (some ⟨bg, 0, none⟩) G.length G.length, .slice (some ⟨bt, 0, none⟩) T.length T.length, .map (some M)] w fun e w' =>
      e = .returned (.bool (meetsL (G.map dl) (T.map dl))) ∧ w.grownBy w' (some M) := by
  have c := meets_any G T bg bt M hgM htM hG8 hT8 (G.length + T.length + 1) G.length T.length (some ⟨bg, 0, none⟩) (some ⟨bt, 0, none⟩) (by omega) (Nat.le_refl _) (Nat.le_refl _) (fun _ => by rw [Nat.sub_self]) (fun _ => by rw [Nat.sub_self]) w [] HG HT HM
  refine c.mono ?_
  rintro e w' ⟨r, K', rfl, _, hg, Td⟩
  refine ⟨?_, hg⟩
  have eg : suf (G.map dl) G.length = G.map dl := by have := suf_all (G.map dl); rwa [List.length_map] at this
  have et : suf (T.map dl) T.length = T.map dl := by have := suf_all (T.map dl); rwa [List.length_map] at this
  cases r with
  | true => rw [← Td.yes rfl, eg, et]
  | false =>
    have := bad_all (G.map dl) (T.map dl) K' (fun k hk => Td.bad rfl k hk (by simp)) _ _ _ (Nat.le_refl _) (Td.own rfl)
    rw [eg, et] at this
    rw [this]
end Go.Proofs.YtepchkanpaakdaaDoor
