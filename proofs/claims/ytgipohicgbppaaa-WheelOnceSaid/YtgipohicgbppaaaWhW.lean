/- Layer 11: what WheelOnce keeps, as facts on lists and a map. No walk stands in this text. -/
import Derived.Test.YtgipohicgbppaaaWhMathB
import Derived.Test.YtgipohicgbppaaaWhR
import Derived.Test.YtgipohicgbppaaaWhLawD
import Derived.Maps.Own
import Derived.Maps.OwnOps
import Derived.Maps.OwnSet
import Derived.Maps.RangeWalk
namespace Go.Proofs.Ytgipohicgbppaaa
open Go.RowKit Go.Shelf Go.Maps Go.ChangeShapes
set_option linter.unusedVariables false
set_option linter.unusedSimpArgs false
abbrev kU (id : Int) : Lit := .int .u64 id
theorem kU_key (id : Int) : WideAt.IsKeyLit (kU id) := trivial
theorem kU_ne {a b : Int} (h : a ≠ b) : kU a ≠ kU b := fun e => h (by injection e)
structure InvW (L : List Tm) (D : DataW Unit) : Prop where
  may : MayT L
  tidy : Tidy D
  at_ : ∀ x ∈ L, ∀ zd, D.atKey (kU x.2) zd = .lit (.int .i64 x.1)
  has : ∀ id : Int, Maps.has D (kU id) = hasB L id
  of : ∀ x ∈ L, 0 ≤ x.2 ∧ x.2 < 8
  size : Maps.size D = L.length
theorem InvW.start : InvW [] (.map []) :=
  ⟨⟨by simp, List.Pairwise.nil, by simp, by simp⟩, tidy_empty, (fun x hx => by cases hx), (fun id => rfl), (fun x hx => by cases hx), rfl⟩
theorem stop_len : ∀ (L : List Tm) (id : Int), (stopL L id).length + (if hasB L id then 1 else 0) = L.length
  | [], id => rfl
  | x :: r, id => by
    have ih := stop_len r id
    rw [stopL_cons, hasB_cons]
    by_cases h : x.2 = id
    · simp [h]
    · simp only [h, if_false, decide_false, Bool.false_or, List.length_cons]; omega
theorem hasB_same {X Y : List Tm} {id : Int} (h : (∃ x ∈ X, x.2 = id) ↔ (∃ y ∈ Y, y.2 = id)) : hasB X id = hasB Y id := by
  rw [Bool.eq_iff_iff, hasB_mem, hasB_mem]; exact h
theorem InvW.stop {L : List Tm} {D : DataW Unit} (h : InvW L D) (id : Int) : InvW (stopL L id) (D.del (kU id)) := by
  have hm := stopL_mem (id := id) h.may.ids
  refine ⟨stopL_may h.may id, h.tidy.del _, fun x hx zd => ?_, fun j => ?_, fun x hx => h.of x ((hm x).1 hx).1, ?_⟩
  · obtain ⟨h1, h2⟩ := (hm x).1 hx
    rw [atKey_del_other (kU_ne h2), h.at_ x h1]
  · by_cases e : j = id
    · subst e
      rw [has_del_same]
      cases hb : hasB (stopL L j) j
      · rfl
      · obtain ⟨x, hx, e⟩ := (hasB_mem _ _).1 hb
        exact absurd e ((hm x).1 hx).2
    · rw [has_del_other (kU_ne e), h.has]
      refine hasB_same ⟨fun ⟨x, h1, h2⟩ => ⟨x, (hm x).2 ⟨h1, by rw [h2]; exact e⟩, h2⟩, fun ⟨x, h1, h2⟩ => ⟨x, ((hm x).1 h1).1, h2⟩⟩
  · have h1 := size_del (k := kU id) h.tidy
    have h2 := stop_len L id
    rw [h.has id, h.size] at h1
    cases hb : hasB L id
    · rw [hb] at h1 h2; simp at h1 h2; omega
    · rw [hb] at h1 h2; simp at h1 h2; omega
theorem nodup_sub {α : Type} [DecidableEq α] : ∀ (l m : List α), l.Nodup → (∀ x ∈ l, x ∈ m) → l.length ≤ m.length
  | [], _, _, _ => by simp
  | x :: r, m, h, hs => by
    rw [List.nodup_cons] at h
    have hx : x ∈ m := hs x (by simp)
    have ih := nodup_sub r (m.erase x) h.2 (fun y hy => by
      rw [List.mem_erase_of_ne (fun (e : y = x) => h.1 (by rw [← e]; exact hy))]
      exact hs y (by simp [hy]))
    rw [List.length_erase_of_mem hx] at ih
    have := List.length_pos_of_mem hx
    simp; omega
theorem InvW.len {L : List Tm} {D : DataW Unit} (h : InvW L D) : L.length ≤ 8 := by
  have := nodup_sub (L.map (·.2)) [0, 1, 2, 3, 4, 5, 6, 7] h.may.ids (fun p hp => by
    obtain ⟨x, hx, rfl⟩ := List.mem_map.1 hp
    have := h.of x hx
    have : x.2 = 0 ∨ x.2 = 1 ∨ x.2 = 2 ∨ x.2 = 3 ∨ x.2 = 4 ∨ x.2 = 5 ∨ x.2 = 6 ∨ x.2 = 7 := by omega
    simp [this])
  simpa using this
theorem InvW.set {L : List Tm} {D : DataW Unit} (h : InvW L D) {id a : Int} (h0 : 0 ≤ id) (h1 : id < 8) (ha : 0 ≤ a ∧ a ≤ 1099511627775) :
    setP L id a = (setL L id a, 0) ∧ InvW (setL L id a) (D.put (kU id) (.lit (.int .i64 a))) := by
  have hl : (stopL L id).length < 120 := by have := h.len; have := stopL_len L id; omega
  have hm := fun x => setL_mem h.may id a x
  refine ⟨setP_ok h.may ha hl, setL_may h.may ha hl, h.tidy.put (kU_key id) _, fun x hx zd => ?_, fun j => ?_, fun x hx => ?_, ?_⟩
  · rcases (hm x).1 hx with rfl | ⟨h2, h3⟩
    · rw [atKey_put_same h.tidy.isMap (kU_key id)]
    · rw [atKey_put_other (kU_ne h3), h.at_ x h2]
  · by_cases e : j = id
    · subst e
      rw [has_put_same h.tidy.isMap (kU_key _)]
      exact ((hasB_mem _ _).2 ⟨_, (hm _).2 (.inl rfl), rfl⟩).symm
    · rw [has_put_other (kU_ne e), h.has]
      refine hasB_same ⟨fun ⟨x, h2, h3⟩ => ⟨x, (hm x).2 (.inr ⟨h2, by rw [h3]; exact e⟩), h3⟩, fun ⟨x, h2, h3⟩ => ?_⟩
      rcases (hm x).1 h2 with rfl | ⟨h4, _⟩
      · exact absurd h3.symm e
      · exact ⟨x, h4, h3⟩
  · rcases (hm x).1 hx with rfl | ⟨h2, _⟩
    · exact ⟨h0, h1⟩
    · exact h.of x h2
  · have h2 := stop_len L id
    rw [size_put h.tidy, h.has id, h.size]
    unfold setL
    rw [putL_len]
    cases hb : hasB L id
    · rw [hb] at h2; simp at h2 ⊢; omega
    · rw [hb] at h2; simp at h2 ⊢; omega
theorem InvW.head {x : Tm} {r : List Tm} {D : DataW Unit} (h : InvW (x :: r) D) : InvW r (D.del (kU x.2)) := by
  have := h.stop x.2
  rwa [stopL_cons, if_pos rfl] at this
/-- What rings by a time: the first ones; the rest rings later. -/
theorem later_at {X : List Tm} {now : Int} (h : MayT X) : (∀ i (hi : i < X.length), i < laterL X now → X[i].1 ≤ now) ∧ (∀ x ∈ X.drop (laterL X now), now < x.1) := by
  obtain ⟨h1, h2⟩ := later_filter now X h.ups
  refine ⟨fun i hi hl => ?_, fun x hx => ?_⟩
  · have hm : X[i] ∈ X.take (laterL X now) := by
      rw [List.mem_take_iff_getElem]
      exact ⟨i, by omega, rfl⟩
    rw [h2] at hm
    exact of_decide_eq_true (List.mem_filter.1 hm).2
  · rw [h1] at hx
    exact of_decide_eq_true (List.mem_filter.1 hx).2
end Go.Proofs.Ytgipohicgbppaaa
