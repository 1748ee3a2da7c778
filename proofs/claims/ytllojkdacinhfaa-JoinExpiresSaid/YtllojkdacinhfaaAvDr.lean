/- A part of a way to reckon what a Go program does without its memory (AvDr). -/
import Derived.Test.YtllojkdacinhfaaAvZ
namespace Go.Av
open Go Go.RowKit
set_option autoImplicit false
set_option linter.all false
section
variable {P : Program}
theorem opds_vals {e : List V} {l : List Opd} {Q : V → Prop} (h : ∀ y ∈ l.map (ev e), Q y) : ∀ x ∈ l, Q (ev e x) := fun x hx => h _ (List.mem_map.2 ⟨x, hx, rfl⟩)
/-- What is had, whatever there is in memory. -/
def Pu (S : List Entry → KV → Prop) (H : List Entry) (k : KV) : Prop := ∃ v, k v H ∧ ∀ (H' : List Entry) (k' : KV), k' v H' → S H' k'
theorem Pu.of {S : List Entry → KV → Prop} {H : List Entry} {k : KV} (v : V) (hk : k v H) (h : ∀ (H' : List Entry) (k' : KV), k' v H' → S H' k') : Pu S H k := ⟨v, hk, h⟩
theorem step_pure {o : AOp} {e : List V} {H : List Entry} {k : KV} (hc : o.cls = 3) (h : step P o e H k) : Pu (step P o e) H k := by
  cases o <;> simp only [AOp.cls, reduceCtorEq, Nat.reduceEqDiff] at hc <;> simp only [step] at h
  case mv x => exact .of _ h fun _ _ h => h
  case pick c a b =>
    unfold pickK at h
    split at h
    · rename_i t ht
      cases t
      · exact .of _ h fun _ _ h => by simp only [step, pickK, ht]; exact h
      · exact .of _ h fun _ _ h => by simp only [step, pickK, ht]; exact h
    · exact h.elim
  case build cs ps =>
    unfold bldK at h
    split at h
    · rename_i cs' hcs
      exact .of _ h fun _ _ h => by simp only [step, bldK, hcs]; exact h
    · exact h.elim
  case bin op x y =>
    unfold binK at h
    split at h
    · rename_i q a r b hx hy
      split at h <;> first
        | exact .of _ h.2 fun _ _ hk => by simp only [step, binK, hx, hy]; exact ⟨h.1, hk⟩
    · rename_i a b hx hy
      split at h <;> first
        | exact .of _ h fun _ _ hk => by simp only [step, binK, hx, hy]; exact hk
        | exact .of _ h.2 fun _ _ hk => by simp only [step, binK, hx, hy]; exact ⟨h.1, hk⟩
        | exact h.elim
    · exact h.elim
  case binb neg x y =>
    unfold binbK at h
    split at h
    · rename_i a b hx hy
      exact .of _ h fun _ _ hk => by simp only [step, binbK, hx, hy]; exact hk
    · exact h.elim
  case cnild kind neg x y =>
    unfold eqaK at h
    split at h
    · rename_i b hb
      exact .of _ h fun _ _ hk => by simp only [step, eqaK, hb]; exact hk
    · exact h.elim
  case eqa neg ks x y =>
    unfold eqaK at h
    split at h
    · rename_i b hb
      exact .of _ h fun _ _ hk => by simp only [step, eqaK, hb]; exact hk
    · exact h.elim
  case un op x =>
    unfold unK at h
    split at h
    · rename_i q a hx
      exact .of _ h fun _ _ hk => by simp only [step, unK, hx]; exact hk
    · rename_i q a hx
      exact .of _ h fun _ _ hk => by simp only [step, unK, hx]; exact hk
    · rename_i b hx
      exact .of _ h fun _ _ hk => by simp only [step, unK, hx]; exact hk
    · exact h.elim
  case fld off n g x =>
    unfold fldK at h
    split at h
    · rename_i cs hx
      exact .of _ h.2 fun _ _ hk => by simp only [step, fldK, hx]; exact ⟨h.1, hk⟩
    · exact h.elim
  case ixs x i =>
    unfold ixsK at h
    split at h
    · rename_i s q j hx hi
      exact .of _ h.2 fun _ _ hk => by simp only [step, ixsK, hx, hi]; exact ⟨h.1, hk⟩
    · exact h.elim
  case ixa len n g x i =>
    unfold ixaK at h
    split at h
    · rename_i s q j hx hi
      exact .of _ h.2 fun _ _ hk => by simp only [step, ixaK, hx, hi]; exact ⟨h.1, hk⟩
    · exact h.elim
  case cvi q x =>
    unfold cviK at h
    split at h
    · rename_i p a hx
      exact .of _ h fun _ _ hk => by simp only [step, cviK, hx]; exact hk
    · exact h.elim
  case cvs x =>
    unfold cvsK at h
    split at h
    · rename_i s hx
      exact .of _ h fun _ _ hk => by simp only [step, cvsK, hx]; exact hk
    · exact h.elim
  case mkfn f a b => exact .of _ h fun _ _ h => h
  case mnx m l =>
    unfold mnxK at h
    split at h
    · rename_i q a hx
      exact .of _ h fun _ _ hk => by simp only [step, mnxK, hx]; exact hk
    · exact h.elim
  case bslm n g l =>
    unfold bslm at h
    split at h
    · rename_i hnd
      unfold bslK at h
      split at h
      · rename_i hok
        exact .of _ h fun _ _ hk => by simp only [step, bslm, hnd, bslK, hok]; exact hk
      · exact h.elim
    · exact h.elim
  case sls x a b =>
    unfold slsK at h
    split at h
    · rename_i s hx
      split at h
      · rename_i p q hp hq
        exact .of _ h.2 fun _ _ hk => by simp only [step, slsK, hx, hp, hq]; exact ⟨h.1, hk⟩
      · exact h.elim
    · exact h.elim
  case ext x i =>
    unfold extK at h
    split at h
    · rename_i vs hx
      exact .of _ h.2 fun _ _ hk => by simp only [step, extK, hx]; exact ⟨h.1, hk⟩
    · exact h.elim

theorem step_again {o : AOp} {e : List V} {H : List Entry} {k : KV} (hc : o.cls = 1) (h : step P o e H k) : Again (step P o e) (o.opds.map (ev e)) H k := by
  cases o <;> simp only [AOp.cls, reduceCtorEq, Nat.reduceEqDiff] at hc <;> simp only [AOp.opds, List.map_cons, List.map_nil] <;> simp only [step] at h
  case nck x => exact nck_again h
  case load n g x => exact load_again h
  case fad off x => exact fad_again h
  case iad n g x i => exact iad_again h
  case iaa len n x i => exact iaa_again h
  case b2s x => exact b2s_again h
  case mget g ks z ok x k => exact mget_again h
  case len kind x => exact len_again h
  case slcm n x a b c => exact slcM_again List.mem_cons_self h
theorem BCall.mono {f : FuncId} {args : List V} {H : List Entry} {K K' : KV} (h : BCall P f args H K) (hk : ∀ v H', K v H' → K' v H') : BCall P f args H K' := by
  refine ⟨h.1, fun C vals h1 h2 h3 => Calls.mono (h.2 C vals h1 h2 h3) ?_⟩
  rintro e w' ⟨C', x, v, a1, a2, a3, a4, a5, a6⟩
  exact ⟨C', x, v, a1, a2, a3, a4, a5, hk _ _ a6⟩
theorem app_any {E n bt : Nat} {x : V} {r : Option (List V)} {H : List Entry} {k : KV} (h : appK E n bt x r H k) : ∃ v H', k v H' ∧ appK E n bt x r H (fun v' H'' => v' = v ∧ H'' = H') := by
  have hN : ∀ {xs : List V}, appN E n bt xs r H k → ∃ v H', k v H' ∧ appN E n bt xs r H (fun v' H'' => v' = v ∧ H'' = H') := by
    intro xs h
    unfold appN at h ⊢
    split at h
    · exact ⟨_, _, h.2, h.1, rfl, rfl⟩
    · exact h.elim
  unfold appK at h ⊢
  split at h
  · unfold appH at h ⊢
    split at h
    · exact ⟨_, _, h.2, h.1, rfl, rfl⟩
    · exact h.elim
  · exact hN h
  · obtain ⟨v, H', h1, h2⟩ := hN h.2
    exact ⟨v, H', h1, h.1, h2⟩
  · exact h.elim
theorem step_any {o : AOp} {e : List V} {H : List Entry} {k : KV} (hc : o.cls = 4) (h : step P o e H k) : ∃ v H', k v H' ∧ step P o e H (fun v' H'' => v' = v ∧ H'' = H') := by
  cases o <;> simp only [AOp.cls, reduceCtorEq, Nat.reduceEqDiff] at hc <;> simp only [step] at h ⊢
  case store n a x =>
    unfold storeK at h ⊢
    split at h
    · unfold storeH at h ⊢
      split at h
      · split at h
        · exact ⟨_, _, h, rfl, rfl⟩
        · exact h.elim
      · exact h.elim
    · unfold storeE at h ⊢
      split at h
      · obtain ⟨h1, h⟩ := h
        split at h
        · exact ⟨_, _, h.2, h1, h.1, rfl, rfl⟩
        · exact h.elim
      · exact h.elim
    · exact h.elim
  case app E n bt g x y => exact app_any h
  case apps E bt x y => exact app_any h
  case copy n x y =>
    unfold copyK at h ⊢
    split at h
    · unfold copyH at h ⊢
      split at h
      · exact ⟨_, _, h.2, h.1, rfl, rfl⟩
      · exact h.elim
    · exact h.elim
  case mput g ks a b c =>
    unfold mputK at h ⊢
    split at h
    · unfold mputE at h ⊢
      split at h
      · unfold mputP at h ⊢
        split at h
        · exact ⟨_, _, h, rfl, rfl⟩
        · exact ⟨_, _, h, rfl, rfl⟩
        · exact h.elim
      · exact h.elim
    · exact h.elim
  case rng x =>
    unfold rngK at h ⊢
    split at h
    · exact ⟨_, _, h, rfl, rfl⟩
    · exact h.elim
  case nxt s x =>
    unfold nxtK at h ⊢
    split at h
    · unfold nxtH at h ⊢
      split at h
      · rename_i str pos _
        cases hd : decide (pos < str.length) <;> rw [hd] at h <;> simp only [cond_true, cond_false] at h ⊢ <;> exact ⟨_, _, h, rfl, rfl⟩
      · exact h.elim
    · exact h.elim
theorem step_push {o : AOp} {e : List V} {H : List Entry} {k : KV} (hc : o.cls = 2) (h : step P o e H k) : ∃ v rows, k v (H ++ rows) ∧ step P o e H (fun v' H' => v' = v ∧ H' = H ++ rows) := by
  cases o <;> simp only [AOp.cls, reduceCtorEq, Nat.reduceEqDiff] at hc <;> simp only [step] at h
  case box x =>
    unfold boxK at h
    split at h
    · rename_i cs hcs
      exact ⟨_, _, h, by simp [step, boxK, hcs]⟩
    · exact h.elim
  case alloc cs => exact ⟨_, _, h, rfl, rfl⟩
  case mks E n g z bt l c =>
    unfold mksK at h
    split at h
    · rename_i q a p b hl hc' hok
      exact ⟨_, _, h.2, by simp only [step, mksK, hl, hc', hok]; exact ⟨h.1, by simp⟩⟩
    · exact h.elim
  case mkm => exact ⟨_, _, h, rfl, rfl⟩
  case dcall f args =>
    unfold dcallK at h
    split at h
    · rename_i g a b hf
      obtain ⟨v, rows, h1, h2⟩ := h
      exact ⟨v, rows, h2, by simp only [step, dcallK, hf]; exact ⟨v, rows, h1, rfl, rfl⟩⟩
    · exact h.elim
theorem step_dr {o : AO} {e : List V} {H : List Entry} {k : KV} (h : step P o.dr.op e H k) : step P o.op e H k := by
  unfold AO.dr at h
  split at h
  · rename_i f a ho
    rw [ho]
    simp only [step, dcallK, callK] at h ⊢
    split at h
    · obtain ⟨v, rows, h1, h2⟩ := h
      refine h1.mono ?_
      rintro v' H' ⟨rfl, rfl⟩
      exact h2
    · exact h
  · rename_i n g l ho
    rw [ho]
    simp only [step, bslm, bslF] at h ⊢
    split at h
    · exact h
    · exact h.elim
  · rename_i n x a b c ho
    rw [ho]
    simp only [step, slcM] at h ⊢
    split at h
    · rename_i g len hx hm
      rw [hx, hm]
      simp only [slcK, cutO]
      unfold cutM at h
      split at h
      · rename_i m xs he
        rw [he]; exact h
      · exact h.elim
    · exact h.elim
    · exact h
  · rename_i kd b x y ho
    rw [ho]
    simp only [step] at h ⊢
    unfold cnilK
    split
    · rename_i e1 e2; rw [e1, e2] at h; exact h.elim
    · rename_i e1 e2; rw [e1, e2] at h; exact h.elim
    · rename_i e1 e2; rw [e1, e2] at h; exact h.elim
    · rename_i e1 e2; rw [e1, e2] at h; exact h.elim
    · exact h
  · exact h
theorem dr_dst (o : AO) : o.dr.dst = o.dst := by unfold AO.dr; split <;> rfl
theorem dr_guard (o : AO) : o.dr.guard = o.guard := by unfold AO.dr; split <;> rfl
end
end Go.Av
