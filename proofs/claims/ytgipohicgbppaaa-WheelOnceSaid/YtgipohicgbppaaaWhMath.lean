/- Layer 11: what may be, as facts on lists. -/
import Derived.Test.YtgipohicgbppaaaWhP
namespace Go.Proofs.Ytgipohicgbppaaa
def ltT (x y : Tm) : Prop := x.1 < y.1 ∨ (x.1 = y.1 ∧ x.2 < y.2)
theorem ordT_lt (x y : Tm) : ordT x y < 0 ↔ ltT x y := by
  unfold ordT ltT cmpZ
  repeat' split
  all_goals omega
theorem ordT_gt (x y : Tm) : 0 < ordT x y ↔ ltT y x := by
  unfold ordT ltT cmpZ
  repeat' split
  all_goals omega
theorem ltT_trans {x y z : Tm} (h1 : ltT x y) (h2 : ltT y z) : ltT x z := by unfold ltT at *; omega
theorem ltT_irrefl (x : Tm) : ¬ ltT x x := by unfold ltT; omega
theorem ltT_total {x y : Tm} (h : x.2 ≠ y.2) : ltT x y ∨ ltT y x := by unfold ltT; omega
abbrev Ups (X : List Tm) : Prop := X.Pairwise ltT
theorem rises_iff : ∀ X : List Tm, risesL X = true ↔ Ups X
  | [] => by simp [risesL]
  | [x] => by simp [risesL]
  | x :: y :: r => by
    have ih := rises_iff (y :: r)
    unfold risesL
    rw [Bool.and_eq_true, ih, decide_eq_true_eq, ordT_lt]
    constructor
    · rintro ⟨h1, h2⟩
      refine List.pairwise_cons.2 ⟨fun z hz => ?_, h2⟩
      rcases List.mem_cons.1 hz with rfl | hz
      · exact h1
      · exact ltT_trans h1 ((List.pairwise_cons.1 h2).1 z hz)
    · intro h
      have h' := List.pairwise_cons.1 h
      exact ⟨h'.1 y (by simp), h'.2⟩
theorem addK_mem (K : List Int) (k z : Int) : z ∈ addK K k ↔ z ∈ K ∨ z = k := by
  unfold addK
  split
  · rename_i h
    constructor
    · exact Or.inl
    · rintro (h1 | rfl)
      · exact h1
      · simpa using h
  · simp
theorem ids_go : ∀ (X : List Tm) (K : List Int), (X.foldl (fun K x => addK K x.2) K).length = K.length + X.length ↔ (X.map (·.2)).Nodup ∧ ∀ x ∈ X, x.2 ∉ K
  | [], K => by simp
  | x :: r, K => by
    have ih := ids_go r (addK K x.2)
    have hle := idsL_len r (addK K x.2)
    have ha := addK_len K x.2
    simp only [List.foldl_cons, List.length_cons, List.map_cons, List.nodup_cons]
    by_cases hm : x.2 ∈ K
    · have hk : addK K x.2 = K := by unfold addK; rw [if_pos (by simpa using hm)]
      rw [hk] at hle ⊢
      constructor
      · intro h; omega
      · rintro ⟨_, h⟩; exact absurd hm (h x (by simp))
    · have hk : (addK K x.2).length = K.length + 1 := by unfold addK; rw [if_neg (by simpa using hm)]; simp
      rw [show K.length + (r.length + 1) = (addK K x.2).length + r.length by omega, ih]
      constructor
      · rintro ⟨h1, h2⟩
        refine ⟨⟨fun hx => ?_, h1⟩, fun y hy => ?_⟩
        · obtain ⟨y, hy, e⟩ := List.mem_map.1 hx
          exact h2 y hy ((addK_mem _ _ _).2 (.inr e))
        · rcases List.mem_cons.1 hy with rfl | hy
          · exact hm
          · intro hyk; exact h2 y hy ((addK_mem _ _ _).2 (.inl hyk))
      · rintro ⟨⟨h1, h2⟩, h3⟩
        refine ⟨h2, fun y hy hyk => ?_⟩
        rcases (addK_mem _ _ _).1 hyk with h | h
        · exact h3 y (by simp [hy]) h
        · exact h1 (List.mem_map.2 ⟨y, hy, h⟩)
/-- What may be. -/
structure MayT (X : List Tm) : Prop where
  len : X.length ≤ 120
  ups : Ups X
  time : ∀ x ∈ X, 0 ≤ x.1 ∧ x.1 ≤ 1099511627775
  ids : (X.map (·.2)).Nodup
theorem mayT_iff (X : List Tm) : mayT X = true ↔ MayT X := by
  unfold mayT
  have hids : (idsL X).length = X.length ↔ (X.map (·.2)).Nodup := by
    have := ids_go X []
    unfold idsL
    simpa using this
  have ht : (X.all (fun x => timeB x.1)) = true ↔ ∀ x ∈ X, 0 ≤ x.1 ∧ x.1 ≤ 1099511627775 := by
    rw [List.all_eq_true]
    constructor
    · intro h x hx; have := h x hx; unfold timeB at this; simpa using this
    · intro h x hx; have := h x hx; unfold timeB; simpa using this
  rw [Bool.and_eq_true, Bool.and_eq_true, Bool.and_eq_true, decide_eq_true_eq, decide_eq_true_eq, rises_iff, ht, hids]
  exact ⟨fun ⟨⟨⟨a, b⟩, c⟩, d⟩ => ⟨a, b, c, d⟩, fun h => ⟨⟨⟨h.len, h.ups⟩, h.time⟩, h.ids⟩⟩
theorem MayT.sub {X Y : List Tm} (h : MayT X) (hs : Y.Sublist X) : MayT Y :=
  ⟨Nat.le_trans hs.length_le h.len, h.ups.sublist hs, fun x hx => h.time x (hs.subset hx), h.ids.sublist (hs.map _)⟩
theorem ups_ext : ∀ {X Y : List Tm}, Ups X → Ups Y → (∀ x, x ∈ X ↔ x ∈ Y) → X = Y
  | [], [], _, _, _ => rfl
  | [], y :: s, _, _, h => absurd ((h y).2 (by simp)) (by simp)
  | x :: r, [], _, _, h => absurd ((h x).1 (by simp)) (by simp)
  | x :: r, y :: s, hx, hy, h => by
    have px := List.pairwise_cons.1 hx
    have py := List.pairwise_cons.1 hy
    have e : x = y := by
      rcases List.mem_cons.1 ((h x).1 (by simp)) with e | hxs
      · exact e
      · rcases List.mem_cons.1 ((h y).2 (by simp)) with e | hyr
        · exact e.symm
        · exact absurd (ltT_trans (px.1 y hyr) (py.1 x hxs)) (ltT_irrefl x)
    subst e
    congr 1
    refine ups_ext px.2 py.2 fun z => ?_
    have hz := h z
    constructor
    · intro hzr
      rcases List.mem_cons.1 (hz.1 (by simp [hzr])) with e | h1
      · subst e; exact absurd (px.1 z hzr) (ltT_irrefl z)
      · exact h1
    · intro hzs
      rcases List.mem_cons.1 (hz.2 (by simp [hzs])) with e | h1
      · subst e; exact absurd (py.1 z hzs) (ltT_irrefl z)
      · exact h1
end Go.Proofs.Ytgipohicgbppaaa
