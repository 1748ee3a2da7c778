/- Layer 11: a map of Ids; the contract of Check. -/
import Derived.Test.YtgipohicgbppaaaWhE
namespace Go.Proofs.Ytgipohicgbppaaa
open Go.RowKit Go.Shelf
/-- What lies in a map of Ids. -/
structure MapU (w : World) (M : Nat) (K : List Int) : Prop where
  out : ∃ (es : Array MapEntry) (clock : Nat), w.heap[M]? = some (.map es clock) ∧ es.toList.map (·.key) = K.map (Value.int .u64)
theorem find_now (k : Int) : ∀ (es : List MapEntry) (K : List Int) (i : Nat), es.map (·.key) = K.map (Value.int .u64) →
    (K.contains k = false ∧ Instr.findNow (.int .u64) (.int .u64 k) es i = some none) ∨ (K.contains k = true ∧ ∃ j v, Instr.findNow (.int .u64) (.int .u64 k) es i = some (some (i + j, v)) ∧ (es[j]?.map (·.key)) = some (.int .u64 k))
  | [], K, i, h => by
    cases K with
    | nil => exact .inl ⟨rfl, rfl⟩
    | cons _ _ => cases h
  | e :: es, K, i, h => by
    cases K with
    | nil => cases h
    | cons q K =>
      rw [List.map_cons, List.map_cons] at h
      obtain ⟨h1, h2⟩ := List.cons.inj h
      have e1 : Instr.findNow (.int .u64) (.int .u64 k) (e :: es) i = if k = q then some (some (i, e.val)) else Instr.findNow (.int .u64) (.int .u64 k) es (i + 1) := by
        rw [Instr.findNow, h1]
        by_cases hk : k = q
        · subst hk; simp [Instr.sameNow]
        · have hb : (k == q) = false := by simpa using hk
          simp [Instr.sameNow, hb, hk]
      rw [e1, List.contains_cons]
      by_cases hk : k = q
      · subst hk
        exact .inr ⟨by simp, 0, e.val, by simp, by simp [h1]⟩
      · have hb : (k == q) = false := by simpa using hk
        rw [if_neg hk, hb, Bool.false_or]
        rcases find_now k es K (i + 1) h2 with ⟨a, b⟩ | ⟨a, j, v, b, c⟩
        · exact .inl ⟨a, b⟩
        · exact .inr ⟨a, j + 1, v, by rw [b]; congr 3; omega, by simpa using c⟩
/-- One Id more, if it is not there. -/
def addK (K : List Int) (k : Int) : List Int := if K.contains k then K else K ++ [k]
def setMap (w : World) (M : Nat) (es : Array MapEntry) (clock : Nat) : World := { w with heap := w.heap.setIfInBounds M (.map es clock) }
theorem key_stays (k : Int) (w : World) : (Instr.keyThatStays (.int .u64 k) (.int .u64 k)).run Try.prog w = .ok (.int .u64 k) w := by
  have h : ∀ n, Instr.sameBits n (.int .u64 k) (.int .u64 k) = true := fun n => by cases n <;> simp [Instr.sameBits]
  simp [Instr.keyThatStays, h]
theorem check_u (em : Bool) (k : Int) (w : World) : (Instr.checkKey em 10000 23 (.int .u64 k)).run Try.prog w = .ok () w := by
  have : ∀ n, (Instr.checkKey em (n + 1) 23 (.int .u64 k)).run Try.prog w = .ok () w := fun n => by
    simp [Instr.checkKey, run_underlying Try.underlying23]
  exact this 9999
theorem update_u (k : Int) (w : World) (M : Nat) (K : List Int) (hM : MapU w M K) :
    ∃ es clock, (Instr.mapUpdate 63 (.map (some M)) (.int .u64 k) (.agg #[])).run Try.prog w = .ok () (setMap w M es clock) ∧ MapU (setMap w M es clock) M (addK K k) := by
  obtain ⟨es, clock, h1, h2⟩ := hM.out
  have hlt : M < w.heap.size := (Array.getElem?_eq_some_iff.1 h1).1
  rcases find_now k es.toList K 0 h2 with ⟨a, b⟩ | ⟨a, j, v, b, c⟩
  · refine ⟨es.push { key := .int .u64 k, val := .agg #[], born := clock }, clock + 1, ?_, ⟨es.push { key := .int .u64 k, val := .agg #[], born := clock }, clock + 1, ?_, ?_⟩⟩
    · unfold Instr.mapUpdate Instr.findKey
      simp only [Sem.run_bind, run_underlying Try.underlying63, run_underlying Try.underlying23, Result.andThen_ok, getObj, h1, Sem.run, check_u, b]
      simp [setObj, setMap, Sem.run, h1]
    · simp [setMap, hlt]
    · unfold addK; rw [a]; simp [h2]
  · rw [Nat.zero_add] at b
    obtain ⟨e, he, hk⟩ : ∃ e, es.toList[j]? = some e ∧ e.key = .int .u64 k := by
      cases hj : es.toList[j]? with
      | none => rw [hj] at c; cases c
      | some e => rw [hj] at c; exact ⟨e, rfl, by simpa using c⟩
    have he2 : es[j]? = some e := by simpa using he
    refine ⟨es.modify j fun e => { e with key := .int .u64 k, val := .agg #[] }, clock, ?_, ⟨es.modify j fun e => { e with key := .int .u64 k, val := .agg #[] }, clock, ?_, ?_⟩⟩
    · unfold Instr.mapUpdate Instr.findKey
      simp only [Sem.run_bind, run_underlying Try.underlying63, run_underlying Try.underlying23, Result.andThen_ok, getObj, h1, Sem.run, check_u, b]
      simp [setObj, setMap, Sem.run, h1, he2, hk, key_stays]
    · simp [setMap, hlt]
    · unfold addK; rw [a]
      simp only [if_true]
      rw [← h2]
      apply List.ext_getElem?
      intro i
      simp only [List.getElem?_map, Array.toList_modify, List.getElem?_modify]
      by_cases hij : j = i
      · subst hij; rw [he]; simp [hk]
      · simp [hij]
theorem setMap_below (w : World) (M : Nat) (es : Array MapEntry) (clock : Nat) : Below M w (setMap w M es clock) :=
  ⟨rfl, rfl, rfl, by simp [setMap], fun k hk => by simp [setMap, show M ≠ k by omega]⟩
theorem setMap_block (w : World) (M : Nat) (es : Array MapEntry) (clock : Nat) (k : Nat) (h : k ≠ M) : (setMap w M es clock).heap[k]? = w.heap[k]? := by
  simp [setMap, show M ≠ k by omega]
theorem setMap_size (w : World) (M : Nat) (es : Array MapEntry) (clock : Nat) : (setMap w M es clock).heap.size = w.heap.size := by simp [setMap]
theorem MapU.keep {w w' : World} {M : Nat} {K : List Int} (h : MapU w M K) (e : w'.heap[M]? = w.heap[M]?) : MapU w' M K := by
  obtain ⟨es, clock, h1, h2⟩ := h.out
  exact ⟨es, clock, e.trans h1, h2⟩
theorem MapU.lt {w : World} {M : Nat} {K : List Int} (h : MapU w M K) : M < w.heap.size := by
  obtain ⟨es, c, h, _⟩ := h.out
  exact (Array.getElem?_eq_some_iff.1 h).1
end Go.Proofs.Ytgipohicgbppaaa
