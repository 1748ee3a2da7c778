/- A part of a way to reckon what a Go program does without its memory (Gw). -/
import Derived.Test.YtgeiicchkfpanaaAvLib
import Derived.Shelf.Spec.SlicesGrow
namespace Go.Av
open Go Go.RowKit
set_option autoImplicit false
set_option linter.all false
/-! ### slices.Grow of a nil list -/
/-- What the kit says of slices.Grow(nil, n) at a type E of sz cells. -/
def GrowSays (P : Program) (f : FuncId) (E sz m : Nat) : Prop := ∀ n : Nat, n ≤ m → ∀ w : World, Calls P f #[.slice none 0 0, .int .i64 (n : Int)] w fun e w' =>
  (e = .returned (.slice none 0 0) ∧ w' = w) ∨ ∃ cap cur, e = .returned (.slice (some ⟨w.heap.size, 0, none⟩) 0 cap) ∧ w' = w.drew.alloc (.cells cur E) ∧ cur.size = cap * sz ∧ cap ≤ maxLen
theorem s_grow {P : Program} {f : FuncId} {E sz m n : Nat} {H : List Entry} {K : KV} (hb : hasBody P f = true) (hG : GrowSays P f E sz m) (hn : n ≤ m) (hK : K (.own H.length 0) (H ++ [.row E sz []])) : BCall P f [.nilsl, .int .i64 (n : Int)] H K := by
  refine ⟨hb, fun C vals hH hC hv => ?_⟩
  simp only [CRep, VRep] at hv
  obtain ⟨_, _, rfl, rfl, _, _, rfl, rfl, rfl⟩ := hv
  refine Calls.mono (hG n hn C.w) ?_
  rintro e w' (⟨rfl, rfl⟩ | ⟨cap, cur, rfl, rfl, hs, hm⟩)
  · have hm : HRep (C.more (.row E sz [])) := more_rep hC (.inl ⟨more_beta_new, rfl⟩)
    refine ⟨C.more (.row E sz []), .own C.H.length 0, .slice none 0 0, rfl, rfl, more_tr, hm, ?_, ?_⟩
    · simp only [VRep, Ctx.R, sh_of more_get_new, Entry.shp]
      exact ⟨rfl, Nat.le_refl _, fun _ => .inl ⟨more_beta_new, none, rfl⟩⟩
    · subst hH; exact hK
  · refine ⟨C.drew.push (.cells cur E) cap (.row E sz []), .own C.H.length 0, _, rfl, rfl, (drew_tr C).trans push_tr, ?_, ?_, ?_⟩
    · refine push_rep (drew_rep hC) (.inr ⟨C.w.heap.size, cap, cur, [], push_beta_new (C := C.drew), av_alloc_new C.w.drew _, hs, Nat.zero_le _, hm, by simp, by simp [ERep]⟩)
    · exact own_rep_new (push_get_new (C := C.drew)) (push_beta_new (C := C.drew)) (by simp)
    · subst hH; exact hK
def primGrow (E sz m : Nat) (args : List V) (H : List Entry) : R2 :=
  match args with
  | [.nilsl, .int .i64 n] => gu (decide (0 ≤ n) && decide (n ≤ m)) (some (.own H.length 0, H ++ [.row E sz []]))
  | _ => none
theorem primGrow_ok {P : Program} {f : FuncId} {E sz m : Nat} (hb : hasBody P f = true) (hG : GrowSays P f E sz m) : PrimOk P f (primGrow E sz m) := by
  intro args H v H' h K hK
  unfold primGrow at h
  split at h
  · rename_i n
    obtain ⟨h1, h2⟩ := gu_some h
    cases h2
    simp only [Bool.and_eq_true, decide_eq_true_eq] at h1
    have := s_grow hb hG (n := n.toNat) (H := H) (K := K) (by omega) hK
    rwa [Int.toNat_of_nonneg h1.1] at this
  · cases h
def growB (P : Program) (E sz m : Nat) : Bool := match P.info? E with
  | some i => match i.zero with
    | some z => Nat.beq z.cells.size sz && (Nat.beq i.size sz && (Nat.ble 1 sz && (Nat.ble (m * i.bytes) 140737488355328 && Nat.ble m 1000000)))
    | none => false
  | none => false
open Go.Shelf Go.Proofs in
theorem growSays_of' {P : Program} {ρ : Go.Shelf.Ren} {i0 : TypeInfo} {z : Value} {sz m : Nat} (L : Lays8.n4 P ρ) (hi0 : P.info? (ρ.t 25) = some i0) (hz0 : i0.zero = some z) (hzs : z.cells.size = sz) (hs : i0.size = sz) (h0 : 0 < sz)
    (hb : m * i0.bytes ≤ 140737488355328) (hm : m ≤ 1000000) : GrowSays P (ρ.f 4) (ρ.t 25) sz m := by
  intro n hn w
  have hnb : n * i0.bytes ≤ 140737488355328 := Nat.le_trans (Nat.mul_le_mul_right _ hn) hb
  by_cases hz : n = 0
  · subst hz
    refine (Any8.slices_Grow_room L none 0 0 0 w (Nat.le_refl _) (Nat.zero_le _) (Nat.zero_le _) (Nat.le_refl _)).mono ?_
    rintro e w' ⟨rfl, rfl⟩
    exact .inl ⟨rfl, rfl⟩
  · refine (Any8.slices_Grow_grow L i0 z hi0 hz0 (by omega) none 0 0 n [] w (Nat.le_refl _) (by omega) (by rw [Nat.zero_add]; exact hnb) (by omega) (by simp) (fun _ => rfl) (fun a h => by cases h)).mono ?_
    rintro e w' ⟨rfl, rfl⟩
    have hge := grownCap_ge w (0 + n) 0 (ρ.t 25)
    refine .inr ⟨_, _, rfl, rfl, ?_, grownCap_le_maxLen _ _ _ _ (by simp only [maxLen]; omega)⟩
    simp only [Array.size_append, size_zeroCells, hzs, List.size_toArray, List.length_nil, Nat.zero_add, ← Nat.add_mul]
    congr 1
    rw [Nat.zero_add] at hge
    omega
open Go.Shelf Go.Proofs in
theorem growSays_of {P : Program} {ρ : Go.Shelf.Ren} {E sz m : Nat} (L : Lays8.n4 P ρ) (hE : ρ.t 25 = E) (hg : growB P E sz m = true) : GrowSays P (ρ.f 4) E sz m := by
  subst hE
  unfold growB at hg
  split at hg
  · rename_i i0 hi0
    split at hg
    · rename_i z hz0
      simp only [Bool.and_eq_true, Nat.beq_eq, Nat.ble_eq] at hg
      obtain ⟨hzs, hs, h0, hb, hm⟩ := hg
      exact growSays_of' L hi0 hz0 hzs hs h0 hb hm
    · cases hg
  · cases hg
end Go.Av
namespace Go.Av
open Go
set_option autoImplicit false
set_option linter.all false
@[go_sem] theorem x_el_sl' {m n : Nat} {xs : List V} : okEl n false (.sl m xs) = (n == 1) := by simp only [okEl, atom, Bool.true_and]
@[go_sem] theorem x_el_slx' {m n : Nat} {xs : List V} : okEl n false (.slx m xs) = (n == 1) := by simp only [okEl, atom, Bool.true_and]
/-! ### The first place -/
def idx {α : Type} (p : α → Bool) (X : List α) : Int := (X.findIdx? p).elim (-1) (fun i => (i : Int))
theorem idx_some {α : Type} [Inhabited α] {p : α → Bool} {X : List α} {i : Nat} (hi : i < X.length) (hp : p (X.getD i default) = true) (hn : ∀ j < i, p (X.getD j default) = false) : idx p X = i := by
  have : X.findIdx? p = some i := by
    rw [List.findIdx?_eq_some_iff_getElem]
    refine ⟨hi, by simpa [hi] using hp, fun j hj => ?_⟩
    have hjl : j < X.length := by omega
    have := hn j hj
    simp [hjl] at this
    simp [this]
  simp [idx, this]
theorem idx_none {α : Type} [Inhabited α] {p : α → Bool} {X : List α} (hn : ∀ j < X.length, p (X.getD j default) = false) : idx p X = -1 := by
  have : X.findIdx? p = none := by
    rw [List.findIdx?_eq_none_iff]
    intro x hx
    obtain ⟨j, hj, rfl⟩ := List.mem_iff_getElem.1 hx
    have := hn j hj
    simpa [hj] using this
  simp [idx, this]
theorem idx_any {α : Type} (p : α → Bool) (X : List α) : decide (0 ≤ idx p X) = X.any p := by
  unfold idx
  cases h : X.findIdx? p with
  | none =>
    rw [List.findIdx?_eq_none_iff] at h
    symm
    simpa using h
  | some i =>
    rw [List.findIdx?_eq_some_iff_getElem] at h
    obtain ⟨hi, hp, _⟩ := h
    simp only [Option.elim_some]
    symm
    simp only [Int.natCast_nonneg, decide_true, List.any_eq_true]
    exact ⟨_, List.getElem_mem hi, hp⟩
theorem idx_bounds {α : Type} (p : α → Bool) (X : List α) : -1 ≤ idx p X ∧ idx p X < X.length := by
  unfold idx
  cases h : X.findIdx? p with
  | none => simp only [Option.elim_none]; omega
  | some i =>
    rw [List.findIdx?_eq_some_iff_getElem] at h
    obtain ⟨hi, _⟩ := h
    simp only [Option.elim_some]; omega
theorem getD_mem {α : Type} [Inhabited α] {X : List α} {i : Nat} (h : i < X.length) : X.getD i default ∈ X := by simp [h]
theorem find_none {α : Type} {p : α → Bool} {X : List α} (h : idx p X < 0) : X.find? p = none := by
  unfold idx at h
  cases hf : X.findIdx? p with
  | none =>
    rw [List.findIdx?_eq_none_iff] at hf
    rw [List.find?_eq_none]
    intro x hx
    simp [hf x hx]
  | some i => rw [hf] at h; simp only [Option.elim_some] at h; omega
theorem find_some {α : Type} [Inhabited α] {p : α → Bool} {X : List α} (h : 0 ≤ idx p X) : X.find? p = some (X.getD (idx p X).toNat default) := by
  unfold idx at h ⊢
  cases hf : X.findIdx? p with
  | none => rw [hf] at h; simp at h
  | some i =>
    rw [List.findIdx?_eq_some_iff_getElem] at hf
    obtain ⟨hi, hp, hn⟩ := hf
    simp only [Option.elim_some, Int.toNat_natCast]
    rw [List.find?_eq_some_iff_getElem]
    refine ⟨by simpa [hi] using hp, i, hi, by simp [hi], fun j hj => by simpa using hn j hj⟩
end Go.Av
namespace Go.Av
open Go
set_option autoImplicit false
set_option linter.all false
attribute [go_sem] Nat.reduceAdd Nat.reduceSub Nat.reduceMul Nat.reduceEqDiff Nat.reduceLeDiff Nat.reduceLT Nat.reduceBEq Int.reduceAdd Int.reduceSub Int.reduceMul Int.reduceNeg Int.reduceLT Int.reduceLE Int.reduceEq Int.reduceToNat true_and
attribute [push_cast] List.length_append List.length_take List.length_set List.length_drop List.length_replicate List.length_cons List.length_nil
/-! ### What the lists' functions say -/
def plc {α : Type} (p : α → Bool) (X : List α) : Nat := if 0 ≤ idx p X then (idx p X).toNat else X.length
theorem plc_le {α : Type} (p : α → Bool) (X : List α) : plc p X ≤ X.length := by
  have := idx_bounds p X
  unfold plc
  split <;> omega
def c3n (a b : Nat) : Nat → Nat
  | 0 => 0
  | 1 => a
  | 2 => a + 1
  | _ + 3 => a + 1 + b
def c3l {α : Type} (A : List α) (x : α) (B : List α) : Nat → List α
  | 0 => []
  | 1 => A
  | 2 => A ++ [x]
  | _ + 3 => A ++ [x] ++ B
def c3i (a b : Nat) : Nat → Int
  | 0 => 0
  | 1 => a
  | 2 => a + 1
  | _ + 3 => a + 1 + b
def c2n (a b : Nat) : Nat → Nat
  | 0 => 0
  | 1 => a
  | _ + 2 => a + b
def c2l {α : Type} (A B : List α) : Nat → List α
  | 0 => []
  | 1 => A
  | _ + 2 => A ++ B
def c2i (a b : Nat) : Nat → Int
  | 0 => 0
  | 1 => a
  | _ + 2 => a + b
noncomputable def sameL {α : Type} (A B : List α) : Bool := @decide (A = B) (Classical.propDecidable _)
theorem sameL_eq {α : Type} {A B : List α} (h : A = B) : sameL A B = true := by simp [sameL, h]
theorem sameL_ne {α : Type} {A B : List α} (h : A ≠ B) : sameL A B = false := by simp [sameL, h]
theorem getD_take {α : Type} [Inhabited α] {X : List α} {i : Nat} (h : i < X.length) : X.take (i + 1) = X.take i ++ [X.getD i default] := by
  rw [List.take_add_one]
  simp [h]
end Go.Av
