/- A part of a way to reckon what a Go program does without its memory (AvSort). -/
import Derived.Test.YtllojkdacinhfaaAvRun
import Derived.Sort.OwnSortedInts
namespace Go.Av
open Go Go.RowKit Go.Sort
set_option autoImplicit false
set_option linter.all false
/-! ### A row of numbers of one's own, sorted by the library -/
def iV (z : Int) : V := .int .i64 z
@[go_sem] theorem iV_def (z : Int) : iV z = .int .i64 z := (rfl)
def msort (l : List Int) : List Int := l.mergeSort fun x y => decide (x ≤ y)
theorem ERep_ints {R : Rd} : ∀ (zs : List Int) (cells : List Value), ERep R 1 (zs.map iV) cells ↔ cells = zs.map (Value.int .i64)
  | [], cells => by simp [ERep]
  | z :: zs, cells => by
    simp only [List.map_cons, ERep]
    constructor
    · rintro ⟨v, r, rfl, _, _, h, hr⟩
      rw [(ERep_ints zs r).1 hr]
      simp only [iV, VRep] at h
      subst h; rfl
    · rintro rfl
      refine ⟨.int .i64 z, zs.map (Value.int .i64), rfl, rfl, ⟨by simp [iV], fun u hu => ?_⟩, by simp [iV, VRep], (ERep_ints zs _).2 rfl⟩
      simp [Value.cells] at hu
      subst hu; rfl
section
variable {P : Program} {f : FuncId}
def SortSays (P : Program) (f : FuncId) : Prop := ∀ (blk off cap : Nat) (zs : List Int) (w : World), Holds (Value.int .i64) w blk off zs.toArray → blk < w.heap.size → zs.length < 4611686018427387904 →
  Calls P f #[.slice (some ⟨blk, off, none⟩) zs.length cap] w fun e w' => e = .returned (.tuple #[]) ∧ ∃ n os, w' = grow (putRow (Value.int .i64) (Sort.ahead w n) blk off (zs.mergeSort fun x y => decide (x ≤ y)).toArray) os
theorem s_sort (hb : hasBody P f = true) (hS : SortSays P f) {g E : Nat} {zs : List Int} {H : List Entry} {K : KV} (hg : H[g]? = some (.row E 1 (zs.map iV))) (hz : zs ≠ []) (hlen : zs.length < 4611686018427387904)
    (hK : K (.tup []) (H.set g (.row E 1 ((msort zs).map iV)))) : BCall P f [.own g zs.length] H K := by
  refine ⟨hb, ?_⟩
  intro C vals hH hC hv
  subst hH
  simp only [CRep] at hv
  obtain ⟨v, r, rfl, hv, rfl⟩ := hv
  have hml : (msort zs).length = zs.length := List.length_mergeSort zs
  have hs : C.R.sh g = some (.row 1 zs.length) := by simp only [Ctx.R, Ctx.sh, hg, Option.map_some, Entry.shp, List.length_map]
  simp only [VRep, hs] at hv
  have h0 := hC.ent g _ hg
  rcases h0 with ⟨_, h0⟩ | ⟨b, cap, cur, cells, h1, h2, h3, h4, h5, h6, h7⟩
  · simp at h0; exact absurd h0 hz
  rcases hv.2.2 trivial with ⟨hn, _⟩ | ⟨b', c', hb', rfl⟩
  · rw [show C.R.β g = C.β g from rfl, h1] at hn; cases hn
  rw [show C.R.β g = C.β g from rfl, h1] at hb'
  cases hb'
  rw [ERep_ints] at h7
  rw [h7, List.length_map, Nat.mul_one] at h6
  rw [List.length_map] at h4
  have hlt : b < C.w.heap.size := (Array.getElem?_eq_some_iff.1 h2).1
  refine Calls.mono (hS b 0 cap zs C.w (holds_of_blockI h2 h6) hlt hlen) ?_
  rintro e w' ⟨rfl, n, os, rfl⟩
  have hgr := grownBy_sortedI (w := C.w) (g := b) (n := n) (os := os) (msort zs).toArray
  have hheap := heap_sortedI (w := C.w) (n := n) (os := os) (msort zs).toArray h2
  have htake := take_putCellsI cur (msort zs) (by rw [hml]; omega)
  change C.w.grownBy (grow (putRow (Value.int .i64) (Sort.ahead C.w n) b 0 (msort zs).toArray) os) (some b) at hgr
  show ∃ (C' : Ctx) (x : V) (v : Value), Ending.returned (.tuple #[]) = .returned v ∧ C'.w = grow (putRow (Value.int .i64) (Sort.ahead C.w n) b 0 (msort zs).toArray) os ∧ Tr C C' ∧ HRep C' ∧ VRep C'.R x v ∧ K x C'.H
  generalize grow (putRow (Value.int .i64) (Sort.ahead C.w n) b 0 (msort zs).toArray) os = w1 at *
  obtain ⟨g1, g2, g3, g4, g5⟩ := hgr
  have ht : Turns C w1 g (C.β g) (.row E 1 (zs.map iV)) (.row E 1 ((msort zs).map iV)) := by
    refine ⟨hg, g1, g2, g3, g4, fun k hk hne => g5 k hk (fun hh => ?_), ?_, fun _ k c hx => .inl ⟨rfl, c, hx⟩⟩
    · cases hh; exact hne rfl cap h1
    · simp only [Entry.shp, List.length_map, hml]; exact STr.refl _ _
  refine ⟨C.turn w1 g (C.β g) (.row E 1 ((msort zs).map iV)), .tup [], _, rfl, rfl, turn_tr hC ht, turn_rep hC ht ?_, ?_, hK⟩
  · refine .inr ⟨b, cap, _, (msort zs).map (Value.int .i64), by rw [turn_beta_new]; exact h1, hheap, ?_, by rw [List.length_map, hml]; exact h4, h5, ?_, (ERep_ints _ _).2 rfl⟩
    · simp [putCells, h3]
    · rw [List.length_map, Nat.mul_one]; exact htake
  · simp only [VRep]
    exact ⟨[], rfl, by simp [CRep]⟩
/-! The same, reckoned. -/
def ins (x : Int) : List Int → List Int
  | [] => [x]
  | y :: l => if x ≤ y then x :: y :: l else y :: ins x l
def isort : List Int → List Int
  | [] => []
  | x :: l => ins x (isort l)
theorem ins_perm (x : Int) : ∀ l : List Int, (ins x l).Perm (x :: l)
  | [] => .refl _
  | y :: l => by
    simp only [ins]
    split
    · exact .refl _
    · exact ((ins_perm x l).cons y).trans (.swap x y l)
theorem isort_perm : ∀ l : List Int, (isort l).Perm l
  | [] => .refl _
  | x :: l => (ins_perm x (isort l)).trans ((isort_perm l).cons x)
theorem ins_sorted (x : Int) : ∀ l : List Int, l.Pairwise (· ≤ ·) → (ins x l).Pairwise (· ≤ ·)
  | [], _ => by simp [ins]
  | y :: l, h => by
    simp only [ins]
    rw [List.pairwise_cons] at h
    split
    · rename_i hxy
      rw [List.pairwise_cons, List.pairwise_cons]
      refine ⟨fun z hz => ?_, h⟩
      rcases List.mem_cons.1 hz with rfl | hz
      · exact hxy
      · have := h.1 z hz; omega
    · rename_i hxy
      rw [List.pairwise_cons]
      refine ⟨fun z hz => ?_, ins_sorted x l h.2⟩
      have := (ins_perm x l).mem_iff.1 hz
      rcases List.mem_cons.1 this with rfl | hz
      · omega
      · exact h.1 z hz
theorem isort_sorted : ∀ l : List Int, (isort l).Pairwise (· ≤ ·)
  | [] => .nil
  | x :: l => ins_sorted x _ (isort_sorted l)
theorem msort_isort (l : List Int) : msort l = isort l := by
  have hs : (msort l).Pairwise (· ≤ ·) := by
    have := List.pairwise_mergeSort (le := fun x y : Int => decide (x ≤ y)) (by intro a b c h1 h2; simp at *; omega) (by intro a b; simp; omega) l
    exact this.imp (by intro a b h; simpa using h)
  exact List.Perm.eq_of_pairwise (fun a b _ _ h1 h2 => by omega) hs (isort_sorted l) ((List.mergeSort_perm l _).trans (isort_perm l).symm)
def intOf : V → Option Int
  | .int .i64 z => some z
  | _ => none
def intsOf : List V → Option (List Int)
  | [] => some []
  | x :: l => match intOf x, intsOf l with | some z, some r => some (z :: r) | _, _ => none
theorem intsOf_eq : ∀ {l : List V} {zs : List Int}, intsOf l = some zs → l = zs.map iV
  | [], zs, h => by simp only [intsOf, Option.some.injEq] at h; subst h; rfl
  | x :: l, zs, h => by
    simp only [intsOf] at h
    split at h
    · rename_i z r h1 h2
      cases h
      rw [intsOf_eq h2]
      unfold intOf at h1
      split at h1
      · cases h1; rfl
      · cases h1
    · cases h
def primSort (args : List V) (H : List Entry) : R2 :=
  match args with
  | [.own g len] => match H[g]? with
    | some (.row E 1 xs) => match intsOf xs with
      | some (z :: zs) => gu (Nat.beq len (z :: zs).length && decide ((z :: zs).length < 4611686018427387904)) (some (.tup [], H.set g (.row E 1 ((isort (z :: zs)).map iV))))
      | _ => none
    | _ => none
  | _ => none
theorem primSort_ok (hb : hasBody P f = true) (hS : SortSays P f) : PrimOk P f primSort := by
  intro args H v H' h K hK
  unfold primSort at h
  split at h
  · split at h
    · rename_i he
      split at h
      · rename_i z zs hi
        obtain ⟨h1, h2⟩ := gu_some h
        cases h2
        simp only [Bool.and_eq_true, Nat.beq_eq, decide_eq_true_eq] at h1
        rw [intsOf_eq hi] at he
        rw [h1.1]
        refine s_sort hb hS he (by simp) h1.2 ?_
        rw [msort_isort]; exact hK
      · cases h
    · cases h
  · cases h
end
end Go.Av
