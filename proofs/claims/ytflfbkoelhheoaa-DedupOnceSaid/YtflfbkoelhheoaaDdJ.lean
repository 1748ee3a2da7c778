/- Layer 13: what is behind a number that was taken, as facts on lists. No walk stands in this text. -/
import Derived.Test.YtflfbkoelhheoaaDdI
namespace Go.Proofs.Ytflfbkoelhheoaa.Dd
open Go.RowKit Go.Shelf Go.Proofs.Ytflfbkoelhheoaa Go.Proofs.Ytflfbkoelhheoaa.La
set_option linter.unusedVariables false
abbrev Ups (X : List El) : Prop := X.Pairwise (fun a b => ordE a b < 0)
theorem ups_ne {a b : El} (h : ordE a b < 0) : a.1 ≠ b.1 := fun e => by
  have : ordS a.1 b.1 = 0 := (ordS_zero _ _).2 e
  unfold ordE at h; omega
theorem ups_same : ∀ {X : List El}, Ups X → ∀ {a b : El}, a ∈ X → b ∈ X → a.1 = b.1 → a = b
  | [], _, a, _, ha, _, _ => by cases ha
  | x :: r, h, a, b, ha, hb, e => by
    have h' := List.pairwise_cons.1 h
    rcases List.mem_cons.1 ha with rfl | ha2
    · rcases List.mem_cons.1 hb with rfl | hb
      · rfl
      · exact absurd e (ups_ne (h'.1 b hb))
    · rcases List.mem_cons.1 hb with rfl | hb
      · exact absurd e.symm (ups_ne (h'.1 a ha2))
      · exact ups_same h'.2 ha2 hb e
theorem findD_mem {X : List El} (h : Ups X) {z : El} (hz : z ∈ X) : findD X z.1 = (z, true) := by
  have hlt : posD X z.1 < X.length := by
    rcases idxD_pos X z.1 with ⟨_, h2⟩ | ⟨_, h2⟩
    · have := (lsPl_none (fun x : El => decide (x.1 = z.1)) X).1 h2
      rw [List.any_eq_false] at this
      exact absurd (this z hz) (by simp)
    · exact h2
  rw [findD_some X z.1 hlt]
  have h1 : (X[posD X z.1]).1 = z.1 := of_decide_eq_true (lsPl_at (fun x : El => decide (x.1 = z.1)) X hlt)
  rw [ups_same h (List.getElem_mem hlt) hz h1]
theorem findD_out {X : List El} {p : ByteArray} (h : ∀ z ∈ X, z.1 ≠ p) : findD X p = (zE, false) := by
  apply findD_none
  show lsPl _ _ = _
  rw [lsPl_none, List.any_eq_false]
  intro z hz
  simpa using h z hz
theorem mem_rput (X : List El) (x z : El) : z ∈ rputD X x ↔ (z ∈ X ∧ z.1 ≠ x.1) ∨ z = x := by
  unfold rputD
  simp only [List.mem_append, List.mem_cons, List.mem_filter, gtr_cmp]
  simp only [less_cmp, decide_eq_true_eq]
  constructor
  · rintro (⟨h1, h2⟩ | rfl | ⟨h1, h2⟩)
    · exact .inl ⟨h1, fun e => by rw [(ordS_zero _ _).2 e] at h2; omega⟩
    · exact .inr rfl
    · exact .inl ⟨h1, fun e => by rw [(ordS_zero _ _).2 e.symm] at h2; omega⟩
  · rintro (⟨h1, h2⟩ | rfl)
    · have h3 : ordS z.1 x.1 ≠ 0 := fun e => h2 ((ordS_zero _ _).1 e)
      have h4 := ordS_anti z.1 x.1
      by_cases h5 : ordS z.1 x.1 < 0
      · exact .inl ⟨h1, h5⟩
      · exact .inr (.inr ⟨h1, by omega⟩)
    · exact .inr (.inl rfl)
theorem ups_rput {X : List El} (h : Ups X) (x : El) : Ups (rputD X x) := by
  unfold rputD
  refine List.pairwise_append.2 ⟨h.sublist List.filter_sublist, List.pairwise_cons.2 ⟨fun z hz => ?_, h.sublist List.filter_sublist⟩, fun a ha b hb => ?_⟩
  · have := (List.mem_filter.1 hz).2
    rw [gtr_cmp] at this
    exact of_decide_eq_true this
  · have h1 := (List.mem_filter.1 ha).2
    rw [less_cmp] at h1
    have h2 : ordE a x < 0 := of_decide_eq_true h1
    rcases List.mem_cons.1 hb with rfl | hb
    · exact h2
    · have h3 := (List.mem_filter.1 hb).2
      rw [gtr_cmp] at h3
      exact ordE_trans _ _ _ h2 (of_decide_eq_true h3)
theorem mayD_iff (X : List El) : mayD X = true ↔ X.length ≤ 50 ∧ (∀ x ∈ X, okB x = true) ∧ Ups X := by
  unfold mayD
  simp only [Bool.and_eq_true, decide_eq_true_eq, List.all_eq_true, lsRises_pw ordE ordE_trans X]
theorem ask_zero {X : List El} {p : ByteArray} {s : Int} (h : (askD X p s).2 ≠ 1) : mayD X = true ∧ fieldB p = true ∧ s ≠ 0 := by
  unfold askD at h
  split at h
  · rename_i hc
    simp only [Bool.and_eq_true, Bool.not_eq_true', decide_eq_false_iff_not] at hc
    exact ⟨hc.1, hc.2.1, hc.2.2⟩
  · exact absurd rfl h
structure TakeOk (X : List El) (x : El) (L : List El) : Prop where
  eq : L = rputD X x
  may : mayD X = true
  field : fieldB x.1 = true
  seq : x.2.1 ≠ 0
  off : 0 ≤ x.2.2
  now : mayD L = true
theorem take_ok {X : List El} {x : El} (hx : Ok x) (h : (takeD X x).2 = 0) : TakeOk X x (takeD X x).1 := by
  have hu : (askD X x.1 x.2.1).2 = 0 := by
    apply Classical.byContradiction; intro hn
    unfold takeD at h; rw [if_neg hn] at h; exact hn h
  obtain ⟨h1, h2, h3⟩ := ask_zero (by rw [hu]; decide)
  have hm := (mayD_iff X).1 h1
  unfold takeD at h ⊢
  rw [if_pos hu] at h ⊢
  have ho : ¬ x.2.2 < 0 := fun hn => by rw [if_pos hn] at h; cases h
  rw [if_neg ho] at h ⊢
  have hok : okB x = true := by
    unfold okB
    have := hx.s0
    simp [h2]; omega
  have hlen : (putD X x).length ≤ 50 := by
    unfold putD
    by_cases hp : posD X x.1 < X.length
    · rw [if_pos hp]; simpa using hm.1
    · rw [if_neg hp] at h ⊢
      have h50 : ¬ X.length = 50 := fun e => by rw [if_pos e] at h; cases h
      have := hm.1
      simp; omega
  have hL : TakeOk X x (putD X x) := by
    rw [put_eq X x hm.2.2] at hlen ⊢
    refine ⟨rfl, h1, h2, h3, by omega, (mayD_iff _).2 ⟨hlen, fun z hz => ?_, ups_rput hm.2.2 x⟩⟩
    rcases (mem_rput X x z).1 hz with ⟨hz, _⟩ | rfl
    · exact hm.2.1 z hz
    · exact hok
  by_cases hp : posD X x.1 < X.length
  · rw [if_pos hp]; exact hL
  · rw [if_neg hp] at h ⊢
    have h50 : ¬ X.length = 50 := fun e => by rw [if_pos e] at h; cases h
    rw [if_neg h50]; exact hL
theorem take_not {X : List El} {x : El} (h : (takeD X x).2 ≠ 0) : (takeD X x).1 = [] := by
  unfold takeD at *
  split
  · rename_i h0
    rw [if_pos h0] at h
    split
    · rfl
    · rename_i h1
      rw [if_neg h1] at h
      split
      · rename_i h2; rw [if_pos h2] at h; exact absurd rfl h
      · rename_i h2
        rw [if_neg h2] at h
        split
        · rfl
        · rename_i h3; rw [if_neg h3] at h; exact absurd rfl h
  · rfl
theorem TakeOk.find {X L : List El} {x : El} (h : TakeOk X x L) : findD L x.1 = (x, true) := by
  rw [h.eq]
  exact findD_mem (ups_rput ((mayD_iff X).1 h.may).2.2 x) ((mem_rput _ _ _).2 (.inr rfl))
theorem TakeOk.other {X L : List El} {x z : El} (h : TakeOk X x L) (hz : z ∈ X) (hne : z.1 ≠ x.1) : findD L z.1 = (z, true) := by
  rw [h.eq]
  exact findD_mem (ups_rput ((mayD_iff X).1 h.may).2.2 x) ((mem_rput _ _ _).2 (.inl ⟨hz, hne⟩))
theorem TakeOk.ask {X L : List El} {x : El} (h : TakeOk X x L) : askD L x.1 x.2.1 = (x.2.2, 5) := by
  unfold askD
  rw [h.now, h.field, h.find]
  have : decide (x.2.1 = 0) = false := by simpa using h.seq
  rw [this]
  unfold askE
  simp
theorem TakeOk.again {X L : List El} {x : El} (h : TakeOk X x L) : takeD L x = ([], 5) := by
  unfold takeD
  rw [h.ask]
  rfl
theorem oks_take {X : List El} {x : El} (hX : Oks X) (hx : Ok x) : Oks (takeD X x).1 := by
  intro z hz
  by_cases h : (takeD X x).2 = 0
  · have hk := take_ok hx h
    rw [hk.eq] at hz
    rcases (mem_rput _ _ _).1 hz with ⟨h1, _⟩ | rfl
    · exact hX z h1
    · exact hx
  · rw [take_not h] at hz; cases hz
theorem ups_ext : ∀ {X Y : List El}, Ups X → Ups Y → (∀ x, x ∈ X ↔ x ∈ Y) → X = Y
  | [], [], _, _, _ => rfl
  | [], y :: s, _, _, h => absurd ((h y).2 (by simp)) (by simp)
  | x :: r, [], _, _, h => absurd ((h x).1 (by simp)) (by simp)
  | x :: r, y :: s, hx, hy, h => by
    have px := List.pairwise_cons.1 hx
    have py := List.pairwise_cons.1 hy
    have irr : ∀ z : El, ¬ ordE z z < 0 := fun z hz => ups_ne hz rfl
    have e : x = y := by
      rcases List.mem_cons.1 ((h x).1 (by simp)) with e | hxs
      · exact e
      · rcases List.mem_cons.1 ((h y).2 (by simp)) with e | hyr
        · exact e.symm
        · exact absurd (ordE_trans _ _ _ (px.1 y hyr) (py.1 x hxs)) (irr x)
    subst e
    congr 1
    refine ups_ext px.2 py.2 fun z => ?_
    have hz := h z
    constructor
    · intro hzr
      rcases List.mem_cons.1 (hz.1 (by simp [hzr])) with e | h1
      · subst e; exact absurd (px.1 z hzr) (irr z)
      · exact h1
    · intro hzs
      rcases List.mem_cons.1 (hz.2 (by simp [hzs])) with e | h1
      · subst e; exact absurd (py.1 z hzs) (irr z)
      · exact h1
theorem take_turns {X L M L' M' : List El} {x y : El} (hne : x.1 ≠ y.1) (h1 : TakeOk X x L) (h2 : TakeOk L y M) (h3 : TakeOk X y L') (h4 : TakeOk L' x M') : M = M' := by
  refine ups_ext ((mayD_iff _).1 h2.now).2.2 ((mayD_iff _).1 h4.now).2.2 fun z => ?_
  rw [h2.eq, h4.eq, mem_rput, mem_rput, h1.eq, h3.eq, mem_rput, mem_rput]
  constructor
  · rintro (⟨⟨h5, h6⟩ | rfl, h7⟩ | rfl)
    · exact .inl ⟨.inl ⟨h5, h7⟩, h6⟩
    · exact .inr rfl
    · exact .inl ⟨.inr rfl, fun e => hne e.symm⟩
  · rintro (⟨⟨h5, h6⟩ | rfl, h7⟩ | rfl)
    · exact .inl ⟨.inl ⟨h5, h7⟩, h6⟩
    · exact .inr rfl
    · exact .inl ⟨.inr rfl, hne⟩
end Go.Proofs.Ytflfbkoelhheoaa.Dd
