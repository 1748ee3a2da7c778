/- Layer 9: the places of those that meet a pattern: a map of closures, one of which is called. -/
import Derived.Test.YtllojkdacinhfaaJnB
import Derived.Test.YtllojkdacinhfaaLsBytes
namespace Go.Proofs.Ytllojkdacinhfaa.Jn
open Go.RowKit Go.Shelf Go.Sort Go.Maps Go.ChangeShapes Go.Proofs.Ytllojkdacinhfaa Go.Proofs.Ytllojkdacinhfaa.Ke
set_option linter.unusedVariables false
set_option linter.unusedSimpArgs false
/-- How a function value is read: as itself. -/
def heldR (v : Value) : Option (DataW Value × List MemPlace) := some (.held v, [])
theorem wpList_insert_held {P : Program} (w : World) {ops : Array Oper} {rest : List Oper} {o : Oper} {a : Act} {Q : Exit → Act → World → Prop}
    (hg : o.guard = none) (m x v : Operand) (t : TypeId) (hop : o.op = Op.insert t m x v)
    (k e : TypeId) (K : Keyed P k) (ht : P.underlying t = some (.map k e)) (b n : Nat) (D : DataW Value)
    (hm : a.eval m = .map (some b)) (hown : w.ownsMap P k heldR b n D) (hn : n < maxLen) (key val : Value) (kl : Lit) (hx : a.eval x = key) (hv : a.eval v = val) (hkey : keyOf P k key = some kl)
    (hK : ∀ w', w'.ownsMap P k heldR b (n + 1) (D.put kl (.held val)) → w.grownBy w' (some b) → wpList P ops Q rest (a.put o.dst undef) w') :
    wpList P ops Q (o :: rest) a w := by
  refine wpList_plain hg fun K' hK' => ?_
  obtain ⟨w', hrun, r1, r2⟩ := hown.update K ht hn hkey (d := .held val) (ps := []) (val := val) rfl
  unfold Oper.wp
  simp [execOp, hop, hm, hx, hv, hrun, Result.andThen]
  exact hK' _ _ (hK w' r1 r2)
theorem wpList_lookup_held {P : Program} (w : World) {ops : Array Oper} {rest : List Oper} {o : Oper} {a : Act} {Q : Exit → Act → World → Prop}
    (hg : o.guard = none) (m x : Operand) (t : TypeId) (hop : o.op = Op.lookup t m x false)
    (k e : TypeId) (K : Keyed P k) (ht : P.underlying t = some (.map k e)) {z : Value} (hz : (zeroValue e).run P w = .ok z w) (b n : Nat) (D : DataW Value)
    (hm : a.eval m = .map (some b)) (hown : w.ownsMap P k heldR b n D) (key : Value) (kl : Lit) (hx : a.eval x = key) (hkey : keyOf P k key = some kl) (c : Value) (hc : D.atKey kl (.held z) = .held c)
    (hK : wpList P ops Q rest (a.put o.dst c) w) :
    wpList P ops Q (o :: rest) a w := by
  refine wpList_plain hg fun K' hK' => ?_
  obtain ⟨v, ps, hrun, hv⟩ := hown.lookup K ht hz (zd := .held z) (zp := []) rfl hkey
  rw [hc] at hv
  obtain rfl : v = c := by
    unfold heldR at hv
    simp at hv
    exact hv.1
  unfold Oper.wp
  simp [execOp, hop, hm, hx, hrun, Result.andThen]
  exact hK' _ _ hK
theorem strK : Keyed Try.prog 9 := string_keyed Try.underlying9
theorem zeroF (w : World) : (zeroValue 69).run Try.prog w = .ok .nilFunc w := by kernel_rfl
theorem keyAll : keyOf Try.prog 9 (.string ⟨#[97, 108, 108]⟩) = some (.string [97, 108, 108]) := WideMaps.keyOf_string_mk Try.underlying9 (by decide)
theorem keyAny : keyOf Try.prog 9 (.string ⟨#[97, 110, 121]⟩) = some (.string [97, 110, 121]) := WideMaps.keyOf_string_mk Try.underlying9 (by decide)
theorem keyCnt : keyOf Try.prog 9 (.string ⟨#[99, 111, 117, 110, 116]⟩) = some (.string [99, 111, 117, 110, 116]) := WideMaps.keyOf_string_mk Try.underlying9 (by decide)
theorem kind_eq {k : ByteArray} {l : List UInt8} (h : (k.toList == l) = true) : k = ⟨l.toArray⟩ := by
  have h1 : k.data.toList = l := by rw [← ByteArray.toList_eq]; exact eq_of_beq h
  obtain ⟨d⟩ := k
  simp at h1
  rw [← h1]
/-- The places of those that meet a pattern. -/
abbrev kLA : Lit := .string [97, 108, 108]
abbrev kLN : Lit := .string [97, 110, 121]
abbrev kLC : Lit := .string [99, 111, 117, 110, 116]
theorem at3A (f1 f2 f3 z : Value) : ((((.map [] : DataW Value).put kLA (.held f1)).put kLN (.held f2)).put kLC (.held f3)).atKey kLA (.held z) = .held f1 := by rfl
theorem at3N (f1 f2 f3 z : Value) : ((((.map [] : DataW Value).put kLA (.held f1)).put kLN (.held f2)).put kLC (.held f3)).atKey kLN (.held z) = .held f2 := by rfl
theorem at3C (f1 f2 f3 z : Value) : ((((.map [] : DataW Value).put kLA (.held f1)).put kLN (.held f2)).put kLC (.held f3)).atKey kLC (.held z) = .held f3 := by rfl
def meetL (k : ByteArray) (p n : Int) (X : List El) : List Int :=
  if k.toList == [97, 108, 108] then eachS X p.toNat else if k.toList == [97, 110, 121] then firstL 1 X else firstL n.toNat X
structure Pk (w : World) (bj bl : Nat) (p n : Int) (pa : Option Addr) (len cap : Nat) : Prop where
  p : w.cell? ⟨bj, 1, none⟩ = some (.int .i64 p)
  n : w.cell? ⟨bj, 2, none⟩ = some (.int .i64 n)
  l : w.cell? ⟨bl, 0, none⟩ = some (.slice pa len cap)
theorem meet1_any (X : List El) (pa : Option Addr) (cap bj bl : Nat) (p n : Int) (w : World) (hp : 1 ≤ p) (hp6 : p ≤ 6) (hX : X.length ≤ 7000) (hR : Rd w pa X) (h : Pk w bj bl p n pa X.length cap) :
    Calls Try.prog 37 #[.pointer (some ⟨bj, 0, none⟩), .pointer (some ⟨bl, 0, none⟩)] w (Pl.ListPost (eachS X p.toNat) w) := by
  have c1 := h.p
  have c2 := h.l
  have hpe : ((p.toNat : Nat) : Int) = p := by omega
  have C := each_any X pa cap p.toNat w (by omega) (by omega) hX hR
  rw [hpe] at C
  have HC := Lib.hid C
  clear C hR h
  go_enter Try.func37, Try.ntmps37
  go_wp2_with fail
  refine HC.out.mono ?_
  rintro e w1 ⟨v, rfl, ho, hb⟩
  go_wp2
  go_ret
  exact ⟨_, rfl, ho, hb⟩
theorem meet2_any (X : List El) (pa : Option Addr) (cap bl : Nat) (w : World) (hX : X.length ≤ 7000) (hR : Rd w pa X) (c2 : w.cell? ⟨bl, 0, none⟩ = some (.slice pa X.length cap)) :
    Calls Try.prog 39 #[.pointer (some ⟨bl, 0, none⟩)] w (Pl.ListPost (firstL 1 X) w) := by
  have HC := Lib.hid (first_any X pa cap 1 w hX hR)
  clear hR
  go_enter Try.func39, Try.ntmps39
  go_wp2_with fail
  refine HC.out.mono ?_
  rintro e w1 ⟨v, rfl, ho, hb⟩
  go_wp2
  go_ret
  exact ⟨_, rfl, ho, hb⟩
theorem meet3_any (X : List El) (pa : Option Addr) (cap bj bl : Nat) (p n : Int) (w : World) (hn : 1 ≤ n) (hX : X.length ≤ 7000) (hR : Rd w pa X) (h : Pk w bj bl p n pa X.length cap) :
    Calls Try.prog 41 #[.pointer (some ⟨bj, 0, none⟩), .pointer (some ⟨bl, 0, none⟩)] w (Pl.ListPost (firstL n.toNat X) w) := by
  have c1 := h.n
  have c2 := h.l
  have hpe : ((n.toNat : Nat) : Int) = n := by omega
  have C := first_any X pa cap n.toNat w hX hR
  rw [hpe] at C
  have HC := Lib.hid C
  clear C hR h
  go_enter Try.func41, Try.ntmps41
  go_wp2_with fail
  refine HC.out.mono ?_
  rintro e w1 ⟨v, rfl, ho, hb⟩
  go_wp2
  go_ret
  exact ⟨_, rfl, ho, hb⟩
set_option maxHeartbeats 4000000 in
theorem meeting_any (X : List El) (pa : Option Addr) (cap : Nat) (k : ByteArray) (p n v : Int) (w : World) (hm : mayB (k, p, n, v) = true) (hX : X.length ≤ 7000) (hR : Rd w pa X) :
    Calls Try.prog 26 #[jV (k, p, n, v), .slice pa X.length cap] w (Pl.ListPost (meetL k p n X) w) := by
  have hmm := @run_makeMap Try.prog
  unfold mayB needB at hm
  simp only [Bool.and_eq_true, decide_eq_true_eq] at hm
  obtain ⟨hk, hp, hp6, hv0, hv1⟩ := hm
  have hbl : Below w.heap.size w (((jBox w k p n v).alloc (.cells #[.slice pa X.length cap] 24)).alloc (.map #[] 0)) := ((jBelow w k p n v).alloc (by simp) _).alloc (by simp; omega) _
  have hPk : ∀ w', Below (w.heap.size + 2) (((jBox w k p n v).alloc (.cells #[.slice pa X.length cap] 24)).alloc (.map #[] 0)) w' → Pk w' w.heap.size (w.heap.size + 1) p n pa X.length cap := fun w' h =>
    ⟨(h.cell (p := ⟨w.heap.size, 1, none⟩) (by simp)).trans (by simp [go_sem]), (h.cell (p := ⟨w.heap.size, 2, none⟩) (by simp)).trans (by simp [go_sem]), (h.cell (p := ⟨w.heap.size + 1, 0, none⟩) (by simp)).trans (by simp [go_sem])⟩
  have hom := World.ownsMap_made ((jBox w k p n v).alloc (.cells #[.slice pa X.length cap] 24)) Try.prog 9 heldR
  have hsz : ((jBox w k p n v).alloc (.cells #[.slice pa X.length cap] 24)).heap.size = w.heap.size + 2 := by simp
  have hsz3 : (((jBox w k p n v).alloc (.cells #[.slice pa X.length cap] 24)).alloc (.map #[] 0)).heap.size = w.heap.size + 3 := by simp
  rw [hsz] at hom
  have h0 := Below.refl (w.heap.size + 2) (((jBox w k p n v).alloc (.cells #[.slice pa X.length cap] 24)).alloc (.map #[] 0))
  have hK0 : ∀ w', Below (w.heap.size + 2) (((jBox w k p n v).alloc (.cells #[.slice pa X.length cap] 24)).alloc (.map #[] 0)) w' → w'.cell? ⟨w.heap.size, 0, none⟩ = some (.string k) := fun w' h =>
    (h.cell (p := ⟨w.heap.size, 0, none⟩) (by simp)).trans (by simp [go_sem])
  have K0 := Lib.hid hK0
  clear hK0
  have HP := Lib.hid hPk
  have HB := Lib.hid hbl
  have HO := Lib.hid hom
  have H0 := Lib.hid h0
  have HR := Lib.hid hR
  have KK := Lib.hid hk
  have hXi : X.length ≤ 7000 := hX
  clear hPk hbl hom h0 hR hk
  have hk2 := KK.out
  cases h1 : (k.toList == [97, 108, 108])
  · cases h2 : (k.toList == [97, 110, 121])
    · cases h3 : (k.toList == [99, 111, 117, 110, 116])
      · rw [h1, h2, h3] at hk2; simp at hk2
      · rw [h3] at hk2
        simp only [if_true, Bool.and_eq_true, decide_eq_true_eq] at hk2
        obtain ⟨hn1, hn30⟩ := hk2
        have hM : meetL k p n X = firstL n.toNat X := by unfold meetL; rw [h1, h2]; rfl
        rw [hM]
        obtain rfl := kind_eq h3
        clear KK h1 h2 h3 hM
        go_enter Try.func26, Try.ntmps26
        go_wp2_with (first | (refine wpList_insert_held _ rfl (.tmp 6) (.const (.string ⟨#[97, 108, 108]⟩)) (.tmp 7) 70 rfl 9 69 strK Try.underlying70 (w.heap.size + 2) 0 (.map []) rfl HO.out (by decide) _ _ _ rfl rfl keyAll ?_; intro wA ownA hgA; have bA := H0.out.grown hgA (by rw [hsz3]; omega) (fun j hj => by cases hj; exact Nat.le_refl _); have sA := bA.size) | (refine wpList_insert_held _ rfl (.tmp 6) (.const (.string ⟨#[97, 110, 121]⟩)) (.tmp 8) 70 rfl 9 69 strK Try.underlying70 (w.heap.size + 2) 1 _ rfl ownA (by decide) _ _ _ rfl rfl keyAny ?_; intro wB ownB hgB; have bB := bA.grown hgB (by omega) (fun j hj => by cases hj; exact Nat.le_refl _); have sB := bB.size) | (refine wpList_insert_held _ rfl (.tmp 6) (.const (.string ⟨#[99, 111, 117, 110, 116]⟩)) (.tmp 9) 70 rfl 9 69 strK Try.underlying70 (w.heap.size + 2) 2 _ rfl ownB (by decide) _ _ _ rfl rfl keyCnt ?_; intro wC ownC hgC; have bC := bB.grown hgC (by omega) (fun j hj => by cases hj; exact Nat.le_refl _); have kc := K0.out _ bC) | (at_lookup; refine wpList_lookup_held _ rfl _ _ 70 rfl 9 69 strK Try.underlying70 (zeroF _) (w.heap.size + 2) 3 _ rfl ownC _ _ rfl keyCnt _ (at3C _ _ _ _) ?_))
        have pk := HP.out _ bC
        have BC := Lib.hid (HB.out.trans (bC.mono (by omega)))
        have rC := HR.out.lift BC.out
        refine (meet3_any X pa cap w.heap.size (w.heap.size + 1) p n _ hn1 hXi rC pk).mono ?_
        rintro e w1 ⟨u, rfl, ho, hb⟩
        have O1 := Lib.hid (ho.mono BC.out.size)
        have K1 := Lib.hid (BC.out.trans (hb.mono BC.out.size))
        clear ho hb
        go_wp2
        go_ret
        exact ⟨_, rfl, O1.out, K1.out⟩
    · have hM : meetL k p n X = firstL 1 X := by unfold meetL; rw [h1, h2]; rfl
      rw [hM]
      obtain rfl := kind_eq h2
      clear KK h1 h2 hM hk2
      go_enter Try.func26, Try.ntmps26
      go_wp2_with (first | (refine wpList_insert_held _ rfl (.tmp 6) (.const (.string ⟨#[97, 108, 108]⟩)) (.tmp 7) 70 rfl 9 69 strK Try.underlying70 (w.heap.size + 2) 0 (.map []) rfl HO.out (by decide) _ _ _ rfl rfl keyAll ?_; intro wA ownA hgA; have bA := H0.out.grown hgA (by rw [hsz3]; omega) (fun j hj => by cases hj; exact Nat.le_refl _); have sA := bA.size) | (refine wpList_insert_held _ rfl (.tmp 6) (.const (.string ⟨#[97, 110, 121]⟩)) (.tmp 8) 70 rfl 9 69 strK Try.underlying70 (w.heap.size + 2) 1 _ rfl ownA (by decide) _ _ _ rfl rfl keyAny ?_; intro wB ownB hgB; have bB := bA.grown hgB (by omega) (fun j hj => by cases hj; exact Nat.le_refl _); have sB := bB.size) | (refine wpList_insert_held _ rfl (.tmp 6) (.const (.string ⟨#[99, 111, 117, 110, 116]⟩)) (.tmp 9) 70 rfl 9 69 strK Try.underlying70 (w.heap.size + 2) 2 _ rfl ownB (by decide) _ _ _ rfl rfl keyCnt ?_; intro wC ownC hgC; have bC := bB.grown hgC (by omega) (fun j hj => by cases hj; exact Nat.le_refl _); have kc := K0.out _ bC) | (at_lookup; refine wpList_lookup_held _ rfl _ _ 70 rfl 9 69 strK Try.underlying70 (zeroF _) (w.heap.size + 2) 3 _ rfl ownC _ _ rfl keyAny _ (at3N _ _ _ _) ?_))
      have pk := HP.out _ bC
      have BC := Lib.hid (HB.out.trans (bC.mono (by omega)))
      have rC := HR.out.lift BC.out
      refine (meet2_any X pa cap (w.heap.size + 1) _ hXi rC pk.l).mono ?_
      rintro e w1 ⟨u, rfl, ho, hb⟩
      have O1 := Lib.hid (ho.mono BC.out.size)
      have K1 := Lib.hid (BC.out.trans (hb.mono BC.out.size))
      clear ho hb
      go_wp2
      go_ret
      exact ⟨_, rfl, O1.out, K1.out⟩
  · have hM : meetL k p n X = eachS X p.toNat := by unfold meetL; rw [h1]; rfl
    rw [hM]
    obtain rfl := kind_eq h1
    clear KK h1 hM hk2
    go_enter Try.func26, Try.ntmps26
    go_wp2_with (first | (refine wpList_insert_held _ rfl (.tmp 6) (.const (.string ⟨#[97, 108, 108]⟩)) (.tmp 7) 70 rfl 9 69 strK Try.underlying70 (w.heap.size + 2) 0 (.map []) rfl HO.out (by decide) _ _ _ rfl rfl keyAll ?_; intro wA ownA hgA; have bA := H0.out.grown hgA (by rw [hsz3]; omega) (fun j hj => by cases hj; exact Nat.le_refl _); have sA := bA.size) | (refine wpList_insert_held _ rfl (.tmp 6) (.const (.string ⟨#[97, 110, 121]⟩)) (.tmp 8) 70 rfl 9 69 strK Try.underlying70 (w.heap.size + 2) 1 _ rfl ownA (by decide) _ _ _ rfl rfl keyAny ?_; intro wB ownB hgB; have bB := bA.grown hgB (by omega) (fun j hj => by cases hj; exact Nat.le_refl _); have sB := bB.size) | (refine wpList_insert_held _ rfl (.tmp 6) (.const (.string ⟨#[99, 111, 117, 110, 116]⟩)) (.tmp 9) 70 rfl 9 69 strK Try.underlying70 (w.heap.size + 2) 2 _ rfl ownB (by decide) _ _ _ rfl rfl keyCnt ?_; intro wC ownC hgC; have bC := bB.grown hgC (by omega) (fun j hj => by cases hj; exact Nat.le_refl _); have kc := K0.out _ bC) | (at_lookup; refine wpList_lookup_held _ rfl _ _ 70 rfl 9 69 strK Try.underlying70 (zeroF _) (w.heap.size + 2) 3 _ rfl ownC _ _ rfl keyAll _ (at3A _ _ _ _) ?_))
    have pk := HP.out _ bC
    have BC := Lib.hid (HB.out.trans (bC.mono (by omega)))
    have rC := HR.out.lift BC.out
    refine (meet1_any X pa cap w.heap.size (w.heap.size + 1) p n _ hp hp6 hXi rC pk).mono ?_
    rintro e w1 ⟨u, rfl, ho, hb⟩
    have O1 := Lib.hid (ho.mono BC.out.size)
    have K1 := Lib.hid (BC.out.trans (hb.mono BC.out.size))
    clear ho hb
    go_wp2
    go_ret
    exact ⟨_, rfl, O1.out, K1.out⟩
end Go.Proofs.Ytllojkdacinhfaa.Jn
