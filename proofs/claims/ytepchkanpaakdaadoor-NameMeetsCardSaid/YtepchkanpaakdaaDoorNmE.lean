/- Layer 2: the map of what was asked. -/
import Derived.Test.YtepchkanpaakdaaDoorNmC
import Derived.Laws.StructEq
namespace Go.Proofs.YtepchkanpaakdaaDoor
open Go.RowKit Go.Shelf
def keyV (p : Nat × Nat) : Value := .agg #[.int .i64 p.1, .int .i64 p.2]
theorem key_eq (p q : Nat × Nat) (w : World) : (Op.equal 43 (keyV p) (keyV q)).run Tryd.prog w = .ok (p == q) w := by
  unfold keyV Op.equal Op.maxDepth
  have hf : Tryd.prog.stoodInHeld 43 = false := by kernel_rfl
  rw [run_equalIn_agg _ _ _ _ _ (by simp [Program.fieldsOf, Tryd.underlying43]) hf]
  simp [Program.fieldsOf, Tryd.underlying43, Op.eqFields, go_sem, Tryd.underlying3, Tryd.isAgg3]
  obtain ⟨a, b⟩ := p
  obtain ⟨c, d⟩ := q
  by_cases h1 : a = c
  · subst h1
    by_cases h2 : b = d
    · subst h2; simp
    · have : ¬ (b : Int) = d := by omega
      simp [h2, this]
  · have : ¬ (a : Int) = c := by omega
    simp [h1, this]
theorem check_any (em : Bool) (n : Nat) (p : Nat × Nat) (w : World) : (Instr.checkKey em (n + 1 + 1) 43 (keyV p)).run Tryd.prog w = .ok () w := by
  unfold keyV
  have h3 : ∀ (v : Value) (w : World), (Instr.checkKey em (n + 1) 3 v).run Tryd.prog w = .ok () w := fun v w => by
    simp [Instr.checkKey, run_underlying Tryd.underlying3]
  rw [Instr.checkKey]
  simp [run_underlying Tryd.underlying43, go_sem, Tryd.isAgg3, h3]
theorem key_check (em : Bool) (p : Nat × Nat) (w : World) : (Instr.checkKey em 10000 43 (keyV p)).run Tryd.prog w = .ok () w := check_any em 9998 p w
/-- What lies in a map of what was asked. -/
structure MapIs (w : World) (M : Nat) (K : List (Nat × Nat)) : Prop where
  out : ∃ (es : Array MapEntry) (clock : Nat), w.heap[M]? = some (.map es clock) ∧ es.toList.map (·.key) = K.map keyV ∧ ∀ e ∈ es.toList, e.val = .agg #[]
theorem find_ask (p : Nat × Nat) (w : World) : ∀ (es : List MapEntry) (K : List (Nat × Nat)) (i : Nat), es.map (·.key) = K.map keyV → (∀ e ∈ es, e.val = .agg #[]) →
    (K.contains p = false ∧ (Instr.findAsking 43 (keyV p) es i).run Tryd.prog w = .ok none w) ∨ (K.contains p = true ∧ ∃ j, (Instr.findAsking 43 (keyV p) es i).run Tryd.prog w = .ok (some (j, .agg #[])) w)
  | [], K, i, h, _ => by
    cases K with
    | nil => exact .inl ⟨rfl, by simp [Instr.findAsking]⟩
    | cons _ _ => cases h
  | e :: es, K, i, h, hv => by
    cases K with
    | nil => cases h
    | cons q K =>
      rw [List.map_cons, List.map_cons] at h
      obtain ⟨h1, h2⟩ := List.cons.inj h
      have e1 : (Instr.findAsking 43 (keyV p) (e :: es) i).run Tryd.prog w = if p == q then .ok (some (i, e.val)) w else (Instr.findAsking 43 (keyV p) es (i + 1)).run Tryd.prog w := by
        rw [Instr.findAsking, h1]
        simp only [Sem.run_bind, key_eq, Result.andThen_ok]
        cases hpq : p == q <;> simp
      rw [e1, List.contains_cons]
      cases hpq : p == q
      · simp only [Bool.false_or]
        exact find_ask p w es K (i + 1) h2 (fun e he => hv e (by simp [he]))
      · rw [hv e (by simp)]
        exact .inr ⟨rfl, i, by simp⟩
theorem find_key (p : Nat × Nat) (w : World) (es : List MapEntry) (K : List (Nat × Nat)) (h : es.map (·.key) = K.map keyV) (hv : ∀ e ∈ es, e.val = .agg #[]) :
    (K.contains p = false ∧ (Instr.findKey 43 (keyV p) es).run Tryd.prog w = .ok none w) ∨ (K.contains p = true ∧ ∃ j, (Instr.findKey 43 (keyV p) es).run Tryd.prog w = .ok (some (j, .agg #[])) w) := by
  unfold Instr.findKey
  simp only [Sem.run_bind, run_underlying Tryd.underlying43, Result.andThen_ok]
  cases es with
  | nil =>
    cases K with
    | nil => exact .inl ⟨rfl, by simp [Instr.findNow]⟩
    | cons _ _ => cases h
  | cons e es =>
    have := find_ask p w (e :: es) K 0 h hv
    simp only [Instr.findNow, Instr.sameNow]
    exact this
theorem lookup_is (p : Nat × Nat) (w : World) (M : Nat) (K : List (Nat × Nat)) (hM : MapIs w M K) :
    (Instr.lookup 36 (.map (some M)) (keyV p) true).run Tryd.prog w = .ok (.tuple #[.agg #[], .bool (K.contains p)]) w := by
  obtain ⟨es, clock, h1, h2, h3⟩ := hM.out
  unfold Instr.lookup
  simp only [Sem.run_bind, run_underlying Tryd.underlying36, Result.andThen_ok, getObj, h1, Sem.run, key_check]
  rw [show (Sem.run Tryd.prog (pure es) w) = .ok es w from rfl]
  simp only [Result.andThen_ok]
  rcases find_key p w es.toList K h2 h3 with ⟨e, f⟩ | ⟨e, j, f⟩
  · rw [f, e]
    simp [Tryd.zeroValue44]
  · rw [f, e]
    simp
def setMap (w : World) (M : Nat) (es : Array MapEntry) (clock : Nat) : World := { w with heap := w.heap.setIfInBounds M (.map es clock) }
theorem update_is (p : Nat × Nat) (w : World) (M : Nat) (K : List (Nat × Nat)) (hM : MapIs w M K) (hp : K.contains p = false) :
    ∃ es clock, (Instr.mapUpdate 36 (.map (some M)) (keyV p) (.agg #[])).run Tryd.prog w = .ok () (setMap w M es clock) ∧ MapIs (setMap w M es clock) M (K ++ [p]) := by
  obtain ⟨es, clock, h1, h2, h3⟩ := hM.out
  refine ⟨es.push { key := keyV p, val := .agg #[], born := clock }, clock + 1, ?_, ⟨es.push { key := keyV p, val := .agg #[], born := clock }, clock + 1, ?_, ?_, ?_⟩⟩
  · unfold Instr.mapUpdate
    simp only [Sem.run_bind, run_underlying Tryd.underlying36, Result.andThen_ok, getObj, h1, Sem.run, key_check]
    rcases find_key p w es.toList K h2 h3 with ⟨e, f⟩ | ⟨e, j, f⟩
    · rw [f]
      simp [setObj, setMap, Sem.run, h1]
    · rw [hp] at e; cases e
  · have hlt : M < w.heap.size := (Array.getElem?_eq_some_iff.1 h1).1
    simp [setMap, hlt]
  · simp [h2]
  · intro e he
    rw [Array.toList_push, List.mem_append] at he
    rcases he with he | he
    · exact h3 e he
    · rw [List.mem_singleton] at he; subst he; rfl
theorem setMap_below (w : World) (M : Nat) (es : Array MapEntry) (clock : Nat) : Below M w (setMap w M es clock) :=
  ⟨rfl, rfl, rfl, by simp [setMap], fun k hk => by simp [setMap, show M ≠ k by omega]⟩
theorem setMap_block (w : World) (M : Nat) (es : Array MapEntry) (clock : Nat) (k : Nat) (h : k ≠ M) : (setMap w M es clock).heap[k]? = w.heap[k]? := by
  simp [setMap, show M ≠ k by omega]
theorem setMap_size (w : World) (M : Nat) (es : Array MapEntry) (clock : Nat) : (setMap w M es clock).heap.size = w.heap.size := by simp [setMap]
theorem MapIs.keep {w w' : World} {M : Nat} {K : List (Nat × Nat)} (h : MapIs w M K) (e : w'.heap[M]? = w.heap[M]?) : MapIs w' M K := by
  obtain ⟨es, clock, h1, h2, h3⟩ := h.out
  exact ⟨es, clock, e.trans h1, h2, h3⟩
end Go.Proofs.YtepchkanpaakdaaDoor
