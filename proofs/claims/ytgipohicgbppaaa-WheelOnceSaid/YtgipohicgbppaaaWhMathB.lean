/- Layer 11: timers without one, and with one, as facts on lists. -/
import Derived.Test.YtgipohicgbppaaaWhMath
namespace Go.Proofs.Ytgipohicgbppaaa
theorem posL_cons (x : Tm) (r : List Tm) (id : Int) : posL (x :: r) id = if x.2 = id then 0 else posL r id + 1 := by
  unfold posL
  conv => lhs; unfold plL
  by_cases h : x.2 = id
  · rw [if_pos (by simpa using h), if_pos h]
  · rw [if_neg (by simpa using h), if_neg h]
theorem hasB_cons (x : Tm) (r : List Tm) (id : Int) : hasB (x :: r) id = (decide (x.2 = id) || hasB r id) := by
  unfold hasB
  rw [posL_cons]
  by_cases h : x.2 = id
  · rw [if_pos h]; simp [h]
  · rw [if_neg h]; simp [h]
theorem hasB_mem : ∀ (X : List Tm) (id : Int), hasB X id = true ↔ ∃ x ∈ X, x.2 = id
  | [], id => by simp [hasB, posL, plL]
  | x :: r, id => by
    rw [hasB_cons, Bool.or_eq_true, hasB_mem r id, decide_eq_true_eq]
    simp
theorem stopL_cons (x : Tm) (r : List Tm) (id : Int) : stopL (x :: r) id = if x.2 = id then r else x :: stopL r id := by
  unfold stopL
  rw [hasB_cons, posL_cons]
  by_cases h : x.2 = id
  · rw [if_pos h, if_pos h]; simp [h]
  · rw [if_neg h, if_neg h]
    simp only [h, decide_false, Bool.false_or]
    split <;> simp
theorem stopL_filter : ∀ (X : List Tm) (id : Int), (X.map (·.2)).Nodup → stopL X id = X.filter (fun x => decide (x.2 ≠ id))
  | [], id, _ => by simp [stopL]
  | x :: r, id, h => by
    rw [List.map_cons, List.nodup_cons] at h
    rw [stopL_cons]
    by_cases he : x.2 = id
    · rw [if_pos he, List.filter_cons_of_neg (by simpa using he)]
      symm
      rw [List.filter_eq_self]
      intro y hy
      have : y.2 ≠ id := fun e => h.1 (List.mem_map.2 ⟨y, hy, e.trans he.symm⟩)
      simpa using this
    · rw [if_neg he, List.filter_cons_of_pos (by simpa using he), stopL_filter r id h.2]
theorem stopL_mem {X : List Tm} {id : Int} (h : (X.map (·.2)).Nodup) (x : Tm) : x ∈ stopL X id ↔ x ∈ X ∧ x.2 ≠ id := by
  rw [stopL_filter X id h, List.mem_filter]
  simp
theorem stopL_may {X : List Tm} (h : MayT X) (id : Int) : MayT (stopL X id) := by
  rw [stopL_filter X id h.ids]
  exact h.sub List.filter_sublist
theorem putL_cons (x : Tm) (r : List Tm) (t : Tm) : putL (x :: r) t = if 0 < ordT x t then t :: x :: r else x :: putL r t := by
  unfold putL goesL
  by_cases h : 0 < ordT x t
  · rw [if_pos h, show plL (fun x => decide (0 < ordT x t)) (x :: r) = 0 by unfold plL; rw [if_pos (by simpa using h)]]
    simp
  · rw [if_neg h, show plL (fun x => decide (0 < ordT x t)) (x :: r) = plL (fun x => decide (0 < ordT x t)) r + 1 by conv => lhs; unfold plL; rw [if_neg (by simpa using h)]]
    simp
theorem putL_mem (R : List Tm) (t x : Tm) : x ∈ putL R t ↔ x = t ∨ x ∈ R := by
  unfold putL
  rw [(List.perm_middle (a := t) (l₁ := R.take (goesL R t)) (l₂ := R.drop (goesL R t))).mem_iff, List.take_append_drop]
  simp
theorem putL_ups : ∀ (R : List Tm) (t : Tm), Ups R → (∀ x ∈ R, x.2 ≠ t.2) → Ups (putL R t)
  | [], t, _, _ => by simp [putL]
  | x :: r, t, h, hn => by
    have h' := List.pairwise_cons.1 h
    rw [putL_cons]
    split
    · rename_i hg
      rw [ordT_gt] at hg
      refine List.pairwise_cons.2 ⟨fun y hy => ?_, h⟩
      rcases List.mem_cons.1 hy with rfl | hy
      · exact hg
      · exact ltT_trans hg (h'.1 y hy)
    · rename_i hg
      rw [ordT_gt] at hg
      refine List.pairwise_cons.2 ⟨fun y hy => ?_, putL_ups r t h'.2 fun y hy => hn y (by simp [hy])⟩
      rcases (putL_mem r t y).1 hy with rfl | hy
      · rcases ltT_total (hn x (by simp)) with h1 | h1
        · exact h1
        · exact absurd h1 hg
      · exact h'.1 y hy
theorem putL_may {R : List Tm} {t : Tm} (h : MayT R) (hl : R.length < 120) (ht : 0 ≤ t.1 ∧ t.1 ≤ 1099511627775) (hn : ∀ x ∈ R, x.2 ≠ t.2) : MayT (putL R t) := by
  refine ⟨by rw [putL_len]; omega, putL_ups R t h.ups hn, fun x hx => ?_, ?_⟩
  · rcases (putL_mem R t x).1 hx with rfl | hx
    · exact ht
    · exact h.time x hx
  · have hp : (putL R t).Perm (t :: R) := by
      have := List.perm_middle (a := t) (l₁ := R.take (goesL R t)) (l₂ := R.drop (goesL R t))
      rw [List.take_append_drop] at this
      exact this
    rw [(hp.map _).nodup_iff, List.map_cons, List.nodup_cons]
    refine ⟨fun hm => ?_, h.ids⟩
    obtain ⟨x, hx, e⟩ := List.mem_map.1 hm
    exact hn x hx e
/-- Timers with one set. -/
def setL (X : List Tm) (id a : Int) : List Tm := putL (stopL X id) (a, id)
theorem timeB_iff (a : Int) : timeB a = true ↔ 0 ≤ a ∧ a ≤ 1099511627775 := by unfold timeB; simp
theorem setP_ok {X : List Tm} {id a : Int} (h : MayT X) (ht : 0 ≤ a ∧ a ≤ 1099511627775) (hl : (stopL X id).length < 120) : setP X id a = (setL X id a, 0) := by
  unfold setP
  rw [(mayT_iff X).2 h, (timeB_iff a).2 ht]
  simp only [Bool.and_self, if_true]
  rw [if_neg (by omega)]
  rfl
theorem setP_bad {X : List Tm} {id a : Int} (h : ¬ (0 ≤ a ∧ a ≤ 1099511627775)) : setP X id a = ([], 1) := by
  unfold setP
  have : timeB a = false := by
    cases e : timeB a
    · rfl
    · exact absurd ((timeB_iff a).1 e) h
  rw [this]
  simp
theorem setL_mem {X : List Tm} (h : MayT X) (id a : Int) (x : Tm) : x ∈ setL X id a ↔ x = (a, id) ∨ (x ∈ X ∧ x.2 ≠ id) := by
  unfold setL
  rw [putL_mem, stopL_mem h.ids]
theorem setL_may {X : List Tm} {id a : Int} (h : MayT X) (ht : 0 ≤ a ∧ a ≤ 1099511627775) (hl : (stopL X id).length < 120) : MayT (setL X id a) :=
  putL_may (stopL_may h id) hl ht fun x hx => ((stopL_mem h.ids x).1 hx).2
theorem setL_len (X : List Tm) (id a : Int) : (setL X id a).length ≤ X.length + 1 := by
  unfold setL; rw [putL_len]; have := stopL_len X id; omega
theorem setP_len (X : List Tm) (id a : Int) : (setP X id a).1.length ≤ 120 := by
  unfold setP
  split
  · rename_i h
    rw [Bool.and_eq_true] at h
    have h1 := mayT_len h.1
    have h2 := stopL_len X id
    split
    · simp
    · rename_i h3
      simp only
      rw [putL_len]; omega
  · simp
theorem atP_has {X : List Tm} (h : mayT X = true) (id : Int) : (atP X id).2 = hasB X id := by
  unfold atP atR
  rw [h]
  simp only [if_true]
  unfold hasB
  by_cases hl : posL X id < X.length
  · rw [List.getElem?_eq_getElem hl]; simp [hl]
  · rw [List.getElem?_eq_none (by omega)]; simp [hl]
theorem turns_fact {Y : List Tm} {a b ia ib : Int} (hm : mayT Y = true) (hl : Y.length ≤ 110) (hi : ia ≠ ib) :
    ((setP Y ia a).2 = 1 ∧ ¬ (0 ≤ a ∧ a ≤ 1099511627775)) ∨ ((setP Y ia a).2 = 0 ∧ (setP (setP Y ia a).1 ib b).2 = 1 ∧ ¬ (0 ≤ b ∧ b ≤ 1099511627775)) ∨
    ((setP Y ia a).2 = 0 ∧ (setP (setP Y ia a).1 ib b).2 = 0 ∧ (setP Y ib b).2 = 0 ∧ (setP (setP Y ib b).1 ia a).2 = 0 ∧ (setP (setP Y ia a).1 ib b).1 = (setP (setP Y ib b).1 ia a).1 ∧
      mayT (setP Y ia a).1 = true ∧ hasB (setP Y ia a).1 ia = true ∧ (hasB Y ia = false → stopL (setP Y ia a).1 ia = Y)) := by
  have h := (mayT_iff Y).1 hm
  have l1 := stopL_len Y ia
  have l2 := stopL_len Y ib
  by_cases ta : 0 ≤ a ∧ a ≤ 1099511627775
  · have e1 : setP Y ia a = (setL Y ia a, 0) := setP_ok h ta (by omega)
    have h1 : MayT (setL Y ia a) := setL_may h ta (by omega)
    have k1 := setL_len Y ia a
    by_cases tb : 0 ≤ b ∧ b ≤ 1099511627775
    · right; right
      have e3 : setP Y ib b = (setL Y ib b, 0) := setP_ok h tb (by omega)
      have h3 : MayT (setL Y ib b) := setL_may h tb (by omega)
      have k3 := setL_len Y ib b
      have q1 := stopL_len (setL Y ia a) ib
      have q3 := stopL_len (setL Y ib b) ia
      rw [e1, e3]
      simp only
      rw [setP_ok h1 tb (by omega), setP_ok h3 ta (by omega)]
      refine ⟨trivial, rfl, trivial, rfl, ?_, (mayT_iff _).2 h1, ?_, fun hno => ?_⟩
      · refine ups_ext (setL_may h1 tb (by omega)).ups (setL_may h3 ta (by omega)).ups fun x => ?_
        rw [setL_mem h1, setL_mem h3, setL_mem h, setL_mem h]
        constructor
        · rintro (rfl | ⟨rfl | ⟨h1, h2⟩, h3⟩)
          · exact .inr ⟨.inl rfl, fun e => hi e.symm⟩
          · exact .inl rfl
          · exact .inr ⟨.inr ⟨h1, h3⟩, h2⟩
        · rintro (rfl | ⟨rfl | ⟨h1, h2⟩, h3⟩)
          · exact .inr ⟨.inl rfl, hi⟩
          · exact .inl rfl
          · exact .inr ⟨.inr ⟨h1, h3⟩, h2⟩
      · rw [hasB_mem]
        exact ⟨(a, ia), (setL_mem h ia a _).2 (.inl rfl), rfl⟩
      · refine ups_ext (stopL_may h1 ia).ups h.ups fun x => ?_
        rw [stopL_mem h1.ids, setL_mem h]
        have hx : x ∈ Y → x.2 ≠ ia := fun hx e => by
          have := (hasB_mem Y ia).2 ⟨x, hx, e⟩
          rw [hno] at this; cases this
        constructor
        · rintro ⟨rfl | ⟨h1, _⟩, h2⟩
          · exact absurd rfl h2
          · exact h1
        · exact fun h1 => ⟨.inr ⟨h1, hx h1⟩, hx h1⟩
    · right; left
      rw [e1]
      exact ⟨rfl, by rw [setP_bad tb], tb⟩
  · left
    rw [setP_bad ta]
    exact ⟨rfl, ta⟩
end Go.Proofs.Ytgipohicgbppaaa
