/- Layer 11: the contract of the document's May. -/
import Derived.Test.YtgipohicgbppaaaWhS
namespace Go.Proofs.Ytgipohicgbppaaa
open Go.RowKit Go.Shelf
/-- What may be, but for how many. -/
structure MayPre (X : List Tm) : Prop where
  ups : Ups X
  time : ∀ x ∈ X, 0 ≤ x.1 ∧ x.1 ≤ 1099511627775
  ids : (X.map (·.2)).Nodup
theorem MayPre.nil : MayPre [] := ⟨List.Pairwise.nil, by simp, by simp⟩
theorem mayT_pre (X : List Tm) : MayT X ↔ X.length ≤ 120 ∧ MayPre X := ⟨fun h => ⟨h.len, h.ups, h.time, h.ids⟩, fun h => ⟨h.1, h.2.ups, h.2.time, h.2.ids⟩⟩
theorem MayPre.take {X : List Tm} (h : MayPre X) (k : Nat) : MayPre (X.take k) := ⟨h.ups.sublist (List.take_sublist _ _), fun x hx => h.time x ((List.take_sublist _ _).subset hx), h.ids.sublist ((List.take_sublist _ _).map _)⟩
theorem not_pre {X : List Tm} {k : Nat} (h : ¬ MayPre (X.take k)) : mayT X = false := by
  cases e : mayT X
  · rfl
  · exact absurd (((mayT_pre X).1 ((mayT_iff X).1 e)).2.take k) h
theorem ups_snoc {A : List Tm} {p x : Tm} (h : Ups (A ++ [p])) (hl : ltT p x) : Ups (A ++ [p] ++ [x]) := by
  unfold Ups at *
  rw [List.pairwise_append] at h ⊢
  refine ⟨List.pairwise_append.2 h, List.pairwise_singleton _ _, fun y hy z hz => ?_⟩
  rw [List.mem_singleton.1 hz]
  rcases List.mem_append.1 hy with hy | hy
  · exact ltT_trans (h.2.2 y hy p (by simp)) hl
  · rw [List.mem_singleton.1 hy]; exact hl
theorem pre_step {X : List Tm} {i : Nat} (hi : i < X.length) (h : MayPre (X.take i)) (ht : 0 ≤ X[i].1 ∧ X[i].1 ≤ 1099511627775) (ho : ∀ (_ : 0 < i), ltT (X[i - 1]'(by omega)) X[i])
    (hn : ∀ k (hk : k < i), (X[k]'(by omega)).2 ≠ X[i].2) : MayPre (X.take (i + 1)) := by
  rw [List.take_succ_eq_append_getElem hi]
  refine ⟨?_, fun y hy => ?_, ?_⟩
  · rcases Nat.eq_zero_or_pos i with h0 | h0
    · subst h0; simp
    · have hsp : X.take i = X.take (i - 1) ++ [X[i - 1]'(by omega)] := by
        conv => lhs; rw [show i = i - 1 + 1 by omega]
        rw [List.take_succ_eq_append_getElem (by omega)]
      have hu := h.ups
      rw [hsp] at hu ⊢
      exact ups_snoc hu (ho h0)
  · rcases List.mem_append.1 hy with hy | hy
    · exact h.time y hy
    · rw [List.mem_singleton.1 hy]; exact ht
  · rw [List.map_append, List.nodup_append]
    refine ⟨h.ids, by simp, fun a ha b hb e => ?_⟩
    obtain ⟨y, hy, rfl⟩ := List.mem_map.1 ha
    simp at hb
    obtain ⟨k, hk, rfl⟩ := List.mem_iff_getElem.1 hy
    rw [List.length_take] at hk
    rw [List.getElem_take] at e
    exact hn k (by omega) (e.trans hb)
theorem pre_last {X : List Tm} {i : Nat} (hi : i < X.length) (h : MayPre (X.take (i + 1))) : (0 ≤ X[i].1 ∧ X[i].1 ≤ 1099511627775) ∧ (∀ (_ : 0 < i), ltT (X[i - 1]'(by omega)) X[i]) ∧ ∀ k (hk : k < i), (X[k]'(by omega)).2 ≠ X[i].2 := by
  have hl : (X.take (i + 1)).length = i + 1 := by rw [List.length_take]; omega
  have hm : X[i] ∈ X.take (i + 1) := List.mem_iff_getElem.2 ⟨i, by omega, by rw [List.getElem_take]⟩
  refine ⟨h.time _ hm, fun h0 => ?_, fun k hk e => ?_⟩
  · have := List.pairwise_iff_getElem.1 h.ups (i - 1) i (by omega) (by omega) (by omega)
    rwa [List.getElem_take, List.getElem_take] at this
  · have := List.pairwise_iff_getElem.1 h.ids k i (by simp; omega) (by simp; omega) hk
    simp at this
    exact this e
end Go.Proofs.Ytgipohicgbppaaa
