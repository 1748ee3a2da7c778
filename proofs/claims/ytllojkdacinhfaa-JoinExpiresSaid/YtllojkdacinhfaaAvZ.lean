/- A part of a way to reckon what a Go program does without its memory (AvZ). -/
import Derived.Test.YtllojkdacinhfaaAvY
namespace Go.Av
open Go Go.RowKit
set_option autoImplicit false
set_option linter.all false
section
variable {P : Program}
/-! ### What is done in any order -/
theorem evs_map (e : List V) : ∀ l : List Opd, evs e l = l.map (ev e)
  | [] => rfl
  | x :: l => by simp [evs, evs_map e l]
theorem evp_congr {e e' : List V} : ∀ {l : List (Nat × Nat × Opd)}, (∀ x ∈ l.map (·.2.2), ev e x = ev e' x) → evp e l = evp e' l
  | [], _ => rfl
  | (a, n, x) :: l, h => by
    simp only [evp]
    rw [h x (by simp), evp_congr (l := l) fun y hy => h y (by simp at hy ⊢; exact .inr hy)]
theorem evs_congr {e e' : List V} : ∀ {l : List Opd}, (∀ x ∈ l, ev e x = ev e' x) → evs e l = evs e' l
  | [], _ => rfl
  | x :: l, h => by
    simp only [evs]
    rw [h x (by simp), evs_congr (l := l) fun y hy => h y (by simp [hy])]
theorem evo_congr {e e' : List V} : ∀ {x : Option Opd}, (∀ y ∈ optL x, ev e y = ev e' y) → evo e x = evo e' x
  | none, _ => rfl
  | some x, h => by simp only [evo]; rw [h x (by simp [optL])]
theorem step_reads {o : AOp} {e e' : List V} {H : List Entry} {k : KV} (hc : o.cls ≠ 0) (h : ∀ x ∈ o.opds, ev e x = ev e' x) : step P o e H k = step P o e' H k := by
  cases o <;> simp only [AOp.opds] at h <;> simp only [step] <;> simp only [AOp.cls, ne_eq, not_true_eq_false] at hc
  case build cs ps => rw [evp_congr h]
  case bslm n g l => rw [evs_congr h]
  case mnx m l => rw [evs_congr h]
  case mkfn f a b => rw [evs_congr fun x hx => h x (by simp [hx]), evs_congr (l := b) fun x hx => h x (by simp [hx])]
  case dcall f l => rw [h f (by simp), evs_congr fun x hx => h x (by simp [hx])]
  case slcm n x a b c => rw [h x (by simp), evo_congr (x := a) fun y hy => h y (by simp [hy]), evo_congr (x := b) fun y hy => h y (by simp [hy]), evo_congr (x := c) fun y hy => h y (by simp [hy])]
  case sls x a b => rw [h x (by simp), evo_congr (x := a) fun y hy => h y (by simp [hy]), evo_congr (x := b) fun y hy => h y (by simp [hy])]
  all_goals (try simp only [List.mem_cons, List.not_mem_nil, or_false, forall_eq, forall_eq_or_imp] at h)
  all_goals (first | rfl | (simp only [h]; done) | (obtain ⟨h1, h2⟩ := h; rw [h1, h2]; done) | (obtain ⟨h1, h2, h3⟩ := h; rw [h1, h2, h3]; done))

/-- What is common to two is the same. -/
def Agree (H H' : List Entry) : Prop := ∀ (g : Nat) (x y : Entry), H[g]? = some x → H'[g]? = some y → y = x
theorem Agree.get {H H' : List Entry} (h : Agree H H') {g : Nat} {x : Entry} (hx : H[g]? = some x) (hg : g < H'.length) : H'[g]? = some x := by
  have h1 : H'[g]? = some H'[g] := List.getElem?_eq_getElem hg
  rw [h1, h g x _ hx h1]
/-- What is had, and again with the same there. -/
def Again (S : List Entry → KV → Prop) (x : List V) (H : List Entry) (k : KV) : Prop :=
  ∃ v, k v H ∧ ∀ (H' : List Entry) (k' : KV), Agree H H' → (∀ y ∈ x, ∀ g, gid y = some g → g < H'.length) → k' v H' → S H' k'
section again
variable {H : List Entry} {k : KV}
theorem Again.val {S : List Entry → KV → Prop} {x : List V} (v : V) (hk : k v H) (h : ∀ (H' : List Entry) (k' : KV), k' v H' → S H' k') : Again S x H k := ⟨v, hk, fun H' k' _ _ hk' => h H' k' hk'⟩
theorem nckB_again {b : Bool} {x : V} (h : nckB b x H k) : b = true ∧ k x H := by
  cases b
  · exact h.elim
  · exact ⟨rfl, h⟩
theorem some_of_isBox {e : Option Entry} (h : isBox e = true) : ∃ x, e = some x := by
  cases e
  · cases h
  · exact ⟨_, rfl⟩
theorem isRow_some {len : Nat} {e : Option Entry} {A : Prop} (h : isRow len e A) : (∃ x, e = some x) ∧ A ∧ ∀ B : Prop, B → isRow len e B := by
  unfold isRow at h ⊢
  split at h
  · exact ⟨⟨_, rfl⟩, h.2, fun B hB => ⟨h.1, hB⟩⟩
  · exact ⟨⟨_, rfl⟩, h.2, fun B hB => ⟨h.1, hB⟩⟩
  · exact h.elim
theorem nck_again {x : V} (h : nckK x H k) : Again (nckK x) [x] H k := by
  unfold nckK at h
  split at h
  · exact .val _ h fun _ _ h => h
  · rename_i g o
    obtain ⟨h1, h2⟩ := nckB_again h
    obtain ⟨y, hy⟩ := some_of_isBox h1
    refine ⟨_, h2, fun H' k' ha hr hk => ?_⟩
    have e1 := ha.get hy (hr _ List.mem_cons_self g rfl)
    simp only [nckK]
    rw [e1]
    rw [← hy, h1]; exact hk
  · exact .val _ h fun _ _ h => h
  · exact h.elim
theorem fad_again {off : Nat} {x : V} (h : fadK off x H k) : Again (fadK off x) [x] H k := by
  unfold fadK at h
  split at h
  · exact .val _ h fun _ _ h => h
  · rename_i g o
    obtain ⟨h1, h2⟩ := nckB_again h
    obtain ⟨y, hy⟩ := some_of_isBox h1
    refine ⟨_, h2, fun H' k' ha hr hk => ?_⟩
    have e1 := ha.get hy (hr _ List.mem_cons_self g rfl)
    simp only [fadK]
    rw [e1]
    rw [← hy, h1]; exact hk
  · rename_i g l i o
    obtain ⟨⟨y, hy⟩, h2, h3⟩ := isRow_some h
    refine ⟨_, h2, fun H' k' ha hr hk => ?_⟩
    have e1 := ha.get hy (hr _ List.mem_cons_self g rfl)
    simp only [fadK]
    rw [e1]
    rw [← hy]; exact h3 _ hk
  · exact h.elim
theorem iad_again {n : Nat} {x i : V} (h : iadK n x i H k) : Again (iadK n x i) [x, i] H k := by
  unfold iadK at h
  split at h
  · exact .val _ h.2 fun _ _ hk => ⟨h.1, hk⟩
  · exact .val _ h.2 fun _ _ hk => ⟨h.1, hk⟩
  · rename_i g len q j
    obtain ⟨h0, h⟩ := h
    obtain ⟨⟨y, hy⟩, ⟨h1, h2⟩, h3⟩ := isRow_some h
    refine ⟨_, h2, fun H' k' ha hr hk => ?_⟩
    have e1 := ha.get hy (hr _ List.mem_cons_self g rfl)
    simp only [iadK]
    rw [e1]
    rw [← hy]; exact ⟨h0, h3 _ ⟨h1, hk⟩⟩
  · exact h.elim
theorem iaa_again {len n : Nat} {x i : V} (h : iaaK len n x i H k) : Again (iaaK len n x i) [x, i] H k := by
  unfold iaaK at h
  split at h
  · exact .val _ h.2 fun _ _ hk => ⟨h.1, hk⟩
  · rename_i g o q j
    obtain ⟨h0, h⟩ := h
    obtain ⟨h1, h2⟩ := nckB_again h
    obtain ⟨y, hy⟩ := some_of_isBox h1
    refine ⟨_, h2, fun H' k' ha hr hk => ?_⟩
    have e1 := ha.get hy (hr _ List.mem_cons_self g rfl)
    simp only [iaaK]
    rw [e1]
    rw [← hy, h1]; exact ⟨h0, hk⟩
  · exact h.elim
theorem load_again {n : Nat} {ag : Bool} {x : V} (h : loadK n ag x H k) : Again (loadK n ag x) [x] H k := by
  unfold loadK at h
  split at h
  · exact .val _ h.2 fun _ _ hk => ⟨h.1, hk⟩
  · rename_i j off
    unfold loadH at h
    split at h
    · rename_i cs hy
      refine ⟨_, h.2, fun H' k' ha hr hk => ?_⟩
      have e1 := ha.get hy (hr _ List.mem_cons_self j rfl)
      simp only [loadK, loadH]
      rw [e1]
      exact ⟨h.1, hk⟩
    · rename_i cs hy
      refine ⟨_, h.2, fun H' k' ha hr hk => ?_⟩
      have e1 := ha.get hy (hr _ List.mem_cons_self j rfl)
      simp only [loadK, loadH]
      rw [e1]
      exact ⟨h.1, hk⟩
    · exact h.elim
  · rename_i j len i off
    unfold loadE at h
    split at h
    · rename_i E m xs hy
      refine ⟨_, h.2, fun H' k' ha hr hk => ?_⟩
      have e1 := ha.get hy (hr _ List.mem_cons_self j rfl)
      simp only [loadK, loadE]
      rw [e1]
      exact ⟨h.1, hk⟩
    · rename_i m xs hy
      refine ⟨_, h.2, fun H' k' ha hr hk => ?_⟩
      have e1 := ha.get hy (hr _ List.mem_cons_self j rfl)
      simp only [loadK, loadE]
      rw [e1]
      exact ⟨h.1, hk⟩
    · exact h.elim
  · exact h.elim
theorem listOf_again {n : Nat} {x : V} {xs : List V} (h : listOf n H x = some xs) : ∀ H', Agree H H' → (∀ g, gid x = some g → g < H'.length) → listOf n H' x = some xs := by
  intro H' ha hr
  unfold listOf at h ⊢
  cases x <;> simp only at h ⊢ <;> try exact h
  rename_i g len
  cases hy : H[g]? with
  | none => rw [hy] at h; cases h
  | some y => rw [hy] at h; rw [ha.get hy (hr g rfl)]; exact h
theorem b2s_again {n : Nat} {x : V} (h : b2sK (listOf n H x) H k) : Again (fun H k => b2sK (listOf n H x) H k) [x] H k := by
  unfold b2sK at h
  split at h
  · rename_i xs hy
    refine ⟨_, h.2, fun H' k' ha hr hk => ?_⟩
    simp only [b2sK, listOf_again hy H' ha (hr x (by simp))]
    exact ⟨h.1, hk⟩
  · exact h.elim
theorem len_again {kind : Nat} {x : V} (h : lenK kind x H k) : Again (lenK kind x) [x] H k := by
  unfold lenK at h
  split at h
  · exact .val _ h fun _ _ h => h
  · exact .val _ h fun _ _ h => h
  · exact .val _ h fun _ _ h => h
  · exact .val _ h fun _ _ h => h
  · rename_i g n
    obtain ⟨⟨y, hy⟩, h2, h3⟩ := isRow_some h
    refine ⟨_, h2, fun H' k' ha hr hk => ?_⟩
    have e1 := ha.get hy (hr _ List.mem_cons_self g rfl)
    simp only [lenK]
    rw [e1]
    rw [← hy]; exact h3 _ hk
  · exact .val _ h fun _ _ h => h
  · rename_i j
    unfold lenH at h
    split at h
    · rename_i kvs hy
      refine ⟨_, h, fun H' k' ha hr hk => ?_⟩
      have e1 := ha.get hy (hr _ List.mem_cons_self j rfl)
      simp only [lenK, lenH]
      rw [e1]
      exact hk
    · exact h.elim
  · exact h.elim
theorem mget_again {g : Bool} {ks : List Nat} {z : V} {ok : Bool} {m key : V} (h : mgetK g ks z ok m key H k) : Again (mgetK g ks z ok m key) [m, key] H k := by
  unfold mgetK at h
  split at h
  · rename_i j
    unfold mgetE at h
    split at h
    · rename_i kvs hq hy
      unfold mgetP at h
      split at h
      · rename_i i hp
        refine ⟨_, h, fun H' k' ha hr hk => ?_⟩
        have e1 := ha.get hy (hr _ List.mem_cons_self j rfl)
        simp only [mgetK, mgetE, mgetP, hq]
        rw [e1]
        simp only [hp]
        exact hk
      · rename_i hp
        refine ⟨_, h, fun H' k' ha hr hk => ?_⟩
        have e1 := ha.get hy (hr _ List.mem_cons_self j rfl)
        simp only [mgetK, mgetE, mgetP, hq]
        rw [e1]
        simp only [hp]
        exact hk
      · exact h.elim
    · exact h.elim
  · unfold mgetN at h
    split at h
    · rename_i hq
      refine .val _ h fun H' k' hk => ?_
      simp only [mgetK, mgetN, hq]
      exact hk
    · exact h.elim
  · exact h.elim
theorem cut_again {mk : List V → V} {xs : List V} {lo hi : Option Int} (h : cutK mk xs lo hi H k) : ∃ v, k v H ∧ ∀ (H' : List Entry) (k' : KV), k' v H' → cutK mk xs lo hi H' k' := by
  unfold cutK at h
  split at h
  · exact ⟨_, h.2, fun H' k' hk => ⟨h.1, hk⟩⟩
  · exact h.elim
theorem cutX_again {n : Nat} {xs : List V} {lo hi mx : Option Int} (h : cutX n xs lo hi mx H k) : ∃ v, k v H ∧ ∀ (H' : List Entry) (k' : KV), k' v H' → cutX n xs lo hi mx H' k' := by
  unfold cutX at h
  split at h
  · exact ⟨_, h.2, fun H' k' hk => ⟨h.1, hk⟩⟩
  · exact h.elim
theorem slcM_again {n : Nat} {x : V} {lo hi mx : Option V} {l : List V} (hl : x ∈ l) (h : slcM n x lo hi mx H k) : Again (slcM n x lo hi mx) l H k := by
  unfold slcM at h
  split at h
  · rename_i g len
    unfold cutM at h
    split at h
    · rename_i m xs hy
      obtain ⟨h0, h⟩ := h
      obtain ⟨v, h1, h2⟩ := cut_again h
      refine ⟨v, h1, fun H' k' ha hr hk => ?_⟩
      have e1 := ha.get hy (hr _ hl g rfl)
      simp only [slcM, cutM]
      rw [e1]
      exact ⟨h0, h2 _ _ hk⟩
    · exact h.elim
  · exact h.elim
  · rename_i hne1 hne2
    have key : ∀ (H' : List Entry) (k' : KV), slcK n x lo hi mx H' k' → slcM n x lo hi mx H' k' := by
      intro H' k' h'
      unfold slcM
      split
      · exact absurd rfl (hne1 _ _ rfl)
      · exact absurd rfl (hne2 _ _ _ rfl)
      · exact h'
    unfold slcK at h
    split at h
    · obtain ⟨h0, h⟩ := h
      obtain ⟨v, h1, h2⟩ := cut_again h
      exact ⟨v, h1, fun H' k' _ _ hk => key H' k' ⟨h0, h2 _ _ hk⟩⟩
    · obtain ⟨h0, h⟩ := h
      obtain ⟨v, h1, h2⟩ := cut_again h
      exact ⟨v, h1, fun H' k' _ _ hk => key H' k' ⟨h0, h2 _ _ hk⟩⟩
    · obtain ⟨h0, h⟩ := h
      obtain ⟨v, h1, h2⟩ := cutX_again h
      exact ⟨v, h1, fun H' k' _ _ hk => key H' k' ⟨h0, h2 _ _ hk⟩⟩
    · exact ⟨_, h.2, fun H' k' _ _ hk => key H' k' ⟨h.1, hk⟩⟩
    · exact absurd rfl (hne1 _ _ rfl)
    · exact h.elim
end again
end
end Go.Av
