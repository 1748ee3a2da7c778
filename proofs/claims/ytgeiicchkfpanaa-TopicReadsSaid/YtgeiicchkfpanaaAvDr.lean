/- A part of a way to reckon what a Go program does without its memory (AvDr). -/
import Derived.Test.YtgeiicchkfpanaaAvV
import Derived.Laws.Sem
namespace Go.Av
open Go Go.RowKit
set_option autoImplicit false
set_option linter.all false
section
variable {P : Program}
theorem opds_vals {e : List V} {l : List Opd} {Q : V → Prop} (h : ∀ y ∈ l.map (ev e), Q y) : ∀ x ∈ l, Q (ev e x) := fun x hx => h _ (List.mem_map.2 ⟨x, hx, rfl⟩)
/-- What is had, whatever there is in memory. -/
def Pu (S : List Entry → KV → Prop) (H : List Entry) (k : KV) : Prop := ∃ v, k v H ∧ ∀ (H' : List Entry) (k' : KV), k' v H' → S H' k'
theorem Pu.of {S : List Entry → KV → Prop} {H : List Entry} {k : KV} (v : V) (hk : k v H) (h : ∀ (H' : List Entry) (k' : KV), k' v H' → S H' k') : Pu S H k := ⟨v, hk, h⟩
theorem step_pure {o : AOp} {e : List V} {H : List Entry} {k : KV} (hc : o.cls = 3) (h : step P o e H k) : Pu (step P o e) H k := by
  cases o <;> simp only [AOp.cls, reduceCtorEq, Nat.reduceEqDiff] at hc <;> simp only [step] at h
  case mv x => exact .of _ h fun _ _ h => h
  case pick c a b =>
    unfold pickK at h
    split at h
    · rename_i t ht
      cases t
      · exact .of _ h fun _ _ h => by simp only [step, pickK, ht]; exact h
      · exact .of _ h fun _ _ h => by simp only [step, pickK, ht]; exact h
    · exact h.elim
  case build cs ps =>
    unfold bldK at h
    split at h
    · rename_i cs' hcs
      exact .of _ h fun _ _ h => by simp only [step, bldK, hcs]; exact h
    · exact h.elim
  case bin op x y =>
    unfold binK at h
    split at h
    · rename_i q a r b hx hy
      split at h <;> first
        | exact .of _ h.2 fun _ _ hk => by simp only [step, binK, hx, hy]; exact ⟨h.1, hk⟩
    · rename_i a b hx hy
      split at h <;> first
        | exact .of _ h fun _ _ hk => by simp only [step, binK, hx, hy]; exact hk
        | exact .of _ h.2 fun _ _ hk => by simp only [step, binK, hx, hy]; exact ⟨h.1, hk⟩
        | exact h.elim
    · exact h.elim
  case binb neg x y =>
    unfold binbK at h
    split at h
    · rename_i a b hx hy
      exact .of _ h fun _ _ hk => by simp only [step, binbK, hx, hy]; exact hk
    · exact h.elim
  case cnild kind neg x y =>
    unfold eqaK at h
    split at h
    · rename_i b hb
      exact .of _ h fun _ _ hk => by simp only [step, eqaK, hb]; exact hk
    · exact h.elim
  case eqa neg ks x y =>
    unfold eqaK at h
    split at h
    · rename_i b hb
      exact .of _ h fun _ _ hk => by simp only [step, eqaK, hb]; exact hk
    · exact h.elim
  case un op x =>
    unfold unK at h
    split at h
    · rename_i q a hx
      exact .of _ h fun _ _ hk => by simp only [step, unK, hx]; exact hk
    · rename_i q a hx
      exact .of _ h fun _ _ hk => by simp only [step, unK, hx]; exact hk
    · rename_i b hx
      exact .of _ h fun _ _ hk => by simp only [step, unK, hx]; exact hk
    · exact h.elim
  case fld off n g x =>
    unfold fldK at h
    split at h
    · rename_i cs hx
      exact .of _ h.2 fun _ _ hk => by simp only [step, fldK, hx]; exact ⟨h.1, hk⟩
    · exact h.elim
  case ixs x i =>
    unfold ixsK at h
    split at h
    · rename_i s q j hx hi
      exact .of _ h.2 fun _ _ hk => by simp only [step, ixsK, hx, hi]; exact ⟨h.1, hk⟩
    · exact h.elim
  case ixa len n g x i =>
    unfold ixaK at h
    split at h
    · rename_i s q j hx hi
      exact .of _ h.2 fun _ _ hk => by simp only [step, ixaK, hx, hi]; exact ⟨h.1, hk⟩
    · exact h.elim
  case cvi q x =>
    unfold cviK at h
    split at h
    · rename_i p a hx
      exact .of _ h fun _ _ hk => by simp only [step, cviK, hx]; exact hk
    · exact h.elim
  case cvs x =>
    unfold cvsK at h
    split at h
    · rename_i s hx
      exact .of _ h fun _ _ hk => by simp only [step, cvsK, hx]; exact hk
    · exact h.elim
  case mkfn f a b => exact .of _ h fun _ _ h => h
  case pcall f a =>
    unfold pcallK at h
    split at h
    · rename_i g a b hf
      obtain ⟨v, h1, h2⟩ := h
      exact .of v h2 fun _ _ hk => by simp only [step, pcallK, hf]; exact ⟨v, h1, hk⟩
    · exact h.elim
  case mnx m l =>
    unfold mnxK at h
    split at h
    · rename_i q a hx
      exact .of _ h fun _ _ hk => by simp only [step, mnxK, hx]; exact hk
    · exact h.elim
  case bslm n g l =>
    unfold bslm at h
    split at h
    · rename_i hnd
      unfold bslK at h
      split at h
      · rename_i hok
        exact .of _ h fun _ _ hk => by simp only [step, bslm, hnd, bslK, hok]; exact hk
      · exact h.elim
    · exact h.elim
  case sls x a b =>
    unfold slsK at h
    split at h
    · rename_i s hx
      split at h
      · rename_i p q hp hq
        exact .of _ h.2 fun _ _ hk => by simp only [step, slsK, hx, hp, hq]; exact ⟨h.1, hk⟩
      · exact h.elim
    · exact h.elim
  case ext x i =>
    unfold extK at h
    split at h
    · rename_i vs hx
      exact .of _ h.2 fun _ _ hk => by simp only [step, extK, hx]; exact ⟨h.1, hk⟩
    · exact h.elim

theorem step_again {o : AOp} {e : List V} {H : List Entry} {k : KV} (hc : o.cls = 1) (h : step P o e H k) : Again (step P o e) (o.opds.map (ev e)) H k := by
  cases o <;> simp only [AOp.cls, reduceCtorEq, Nat.reduceEqDiff] at hc <;> simp only [AOp.opds, List.map_cons, List.map_nil] <;> simp only [step] at h
  case nck x => exact nck_again h
  case load n g x => exact load_again h
  case fad off x => exact fad_again h
  case iad n g x i => exact iad_again h
  case iaa len n x i => exact iaa_again h
  case b2s x => exact b2s_again h
  case mget g ks z ok x k => exact mget_again h
  case len kind x => exact len_again h
  case slcm n x a b c => exact slcM_again List.mem_cons_self h
theorem BCall.mono {f : FuncId} {args : List V} {H : List Entry} {K K' : KV} (h : BCall P f args H K) (hk : ∀ v H', K v H' → K' v H') : BCall P f args H K' := by
  refine ⟨h.1, fun C vals h1 h2 h3 => Calls.mono (h.2 C vals h1 h2 h3) ?_⟩
  rintro e w' ⟨C', x, v, a1, a2, a3, a4, a5, a6⟩
  exact ⟨C', x, v, a1, a2, a3, a4, a5, hk _ _ a6⟩
theorem off_set {x : V} {g : Nat} {H : List Entry} {en : Entry} (h : gid x = some g) : Off x H (H.set g en) :=
  ⟨by simp, fun j _ hn => List.getElem?_set_ne fun he => hn (by rw [h, he])⟩
theorem off_push {x : V} {H t : List Entry} : Off x H (H ++ t) := ⟨by simp, fun j hj _ => List.getElem?_append_left hj⟩
theorem off_refl {x : V} {H : List Entry} : Off x H H := ⟨Nat.le_refl _, fun _ _ _ => rfl⟩
theorem app_any {E n bt : Nat} {x : V} {r : Option (List V)} {H : List Entry} {k : KV} (h : appK E n bt x r H k) : ∃ v H', k v H' ∧ appK E n bt x r H (fun v' H'' => v' = v ∧ H'' = H') ∧ Off x H H' := by
  have hN : ∀ {xs : List V}, appN E n bt xs r H k → ∃ v H', k v H' ∧ appN E n bt xs r H (fun v' H'' => v' = v ∧ H'' = H') ∧ Off x H H' := by
    intro xs h
    unfold appN at h ⊢
    split at h
    · exact ⟨_, _, h.2, ⟨h.1, rfl, rfl⟩, off_push⟩
    · exact h.elim
  unfold appK at h ⊢
  split at h
  · unfold appH at h ⊢
    split at h
    · exact ⟨_, _, h.2, ⟨h.1, rfl, rfl⟩, off_set rfl⟩
    · exact h.elim
  · exact hN h
  · obtain ⟨v, H', h1, h2, h3⟩ := hN h.2
    exact ⟨v, H', h1, ⟨h.1, h2⟩, h3⟩
  · exact h.elim
theorem step_any {o : AOp} {e : List V} {H : List Entry} {k : KV} (hc : o.cls = 4) (h : step P o e H k) : ∃ v H', k v H' ∧ step P o e H (fun v' H'' => v' = v ∧ H'' = H') ∧ Off (match wOpd o with | some x => ev e x | none => .junk) H H' := by
  cases o <;> simp only [AOp.cls, reduceCtorEq, Nat.reduceEqDiff] at hc <;> simp only [step, wOpd] at h ⊢
  case store n a x =>
    unfold storeK at h ⊢
    split at h
    · rename_i he; rw [he]
      unfold storeH at h ⊢
      split at h
      · split at h
        · exact ⟨_, _, h, ⟨rfl, rfl⟩, off_set rfl⟩
        · exact h.elim
      · exact h.elim
    · rename_i he; rw [he]
      unfold storeE at h ⊢
      split at h
      · obtain ⟨h1, h⟩ := h
        split at h
        · exact ⟨_, _, h.2, ⟨h1, h.1, rfl, rfl⟩, off_set rfl⟩
        · exact h.elim
      · exact h.elim
    · exact h.elim
  case app E n bt g x y => exact app_any h
  case apps E bt x y => exact app_any h
  case copy n x y =>
    unfold copyK at h ⊢
    split at h
    · rename_i he; rw [he]
      unfold copyH at h ⊢
      split at h
      · exact ⟨_, _, h.2, ⟨h.1, rfl, rfl⟩, off_set rfl⟩
      · exact h.elim
    · rename_i he; rw [he]
      unfold copyC at h ⊢
      split at h
      · exact ⟨_, _, h.2, ⟨h.1, rfl, rfl⟩, off_set rfl⟩
      · exact h.elim
    · exact h.elim
  case mput g ks a b c =>
    unfold mputK at h ⊢
    split at h
    · rename_i he; rw [he]
      unfold mputE at h ⊢
      split at h
      · unfold mputP at h ⊢
        split at h
        · exact ⟨_, _, h, ⟨rfl, rfl⟩, off_set rfl⟩
        · exact ⟨_, _, h, ⟨rfl, rfl⟩, off_set rfl⟩
        · exact h.elim
      · exact h.elim
    · exact h.elim
  case mcall f x args =>
    unfold mcallK at h ⊢
    split at h
    · rename_i g a b hf
      obtain ⟨v, H', h1, h2, h3⟩ := h
      exact ⟨v, H', h3, ⟨v, H', h1, h2, rfl, rfl⟩, h2⟩
    · exact h.elim
  case rng x =>
    unfold rngK at h ⊢
    split at h
    · exact ⟨_, _, h, ⟨rfl, rfl⟩, off_push⟩
    · exact h.elim
  case nxt s x =>
    unfold nxtK at h ⊢
    split at h
    · rename_i he; rw [he]
      unfold nxtH at h ⊢
      split at h
      · rename_i str pos _
        cases hd : decide (pos < str.length) <;> rw [hd] at h <;> simp only [cond_true, cond_false] at h ⊢
        · exact ⟨_, _, h, ⟨rfl, rfl⟩, off_refl⟩
        · exact ⟨_, _, h, ⟨rfl, rfl⟩, off_set rfl⟩
      · exact h.elim
    · exact h.elim
theorem step_push {o : AOp} {e : List V} {H : List Entry} {k : KV} (hc : o.cls = 2) (h : step P o e H k) : ∃ v rows, k v (H ++ rows) ∧ step P o e H (fun v' H' => v' = v ∧ H' = H ++ rows) := by
  cases o <;> simp only [AOp.cls, reduceCtorEq, Nat.reduceEqDiff] at hc <;> simp only [step] at h
  case box x =>
    unfold boxK at h
    split at h
    · rename_i cs hcs
      exact ⟨_, _, h, by simp [step, boxK, hcs]⟩
    · exact h.elim
  case alloc cs => exact ⟨_, _, h, rfl, rfl⟩
  case mks E n g z bt l c =>
    unfold mksK at h
    split at h
    · rename_i q a p b hl hc' hok
      exact ⟨_, _, h.2, by simp only [step, mksK, hl, hc', hok]; exact ⟨h.1, by simp⟩⟩
    · exact h.elim
  case mkm => exact ⟨_, _, h, rfl, rfl⟩
  case dcall f args =>
    unfold dcallK at h
    split at h
    · rename_i g a b hf
      obtain ⟨v, rows, h1, h2⟩ := h
      exact ⟨v, rows, h2, by simp only [step, dcallK, hf]; exact ⟨v, rows, h1, rfl, rfl⟩⟩
    · exact h.elim
theorem step_dr {p : Md} {o : AO} {e : List V} {H : List Entry} {k : KV} (h : step P (o.dr p).op e H k) : step P o.op e H k := by
  unfold AO.dr at h
  split at h
  · rename_i f a ho
    have hD : ∀ {a : List Opd}, step P (.dcall f a) e H k → step P (.call f a) e H k := fun {a} h => by
      simp only [step, dcallK, callK] at h ⊢
      split at h
      · obtain ⟨v, rows, h1, h2⟩ := h
        refine h1.mono ?_
        rintro v' H' ⟨rfl, rfl⟩
        exact h2
      · exact h
    have hP : ∀ {a : List Opd}, step P (.pcall f a) e H k → step P (.call f a) e H k := fun {a} h => by
      simp only [step, pcallK, callK] at h ⊢
      split at h
      · obtain ⟨v, h1, h2⟩ := h
        refine (h1 H).mono ?_
        rintro v' H' ⟨rfl, rfl⟩
        exact h2
      · exact h
    have hM : ∀ {x : Opd} {a : List Opd}, step P (.mcall f x a) e H k → step P (.call f (x :: a)) e H k := fun {x a} h => by
      simp only [step, mcallK, callK, evs] at h ⊢
      split at h
      · obtain ⟨v, H', h1, _, h2⟩ := h
        refine h1.mono ?_
        rintro v' H' ⟨rfl, rfl⟩
        exact h2
      · exact h
    have key : ∀ (m q : Bool), step P (drC m q f a) e H k → step P (.call f a) e H k := fun m q h => by
      cases a with
      | nil =>
        cases q
        · exact hD h
        · exact hP h
      | cons x a =>
        cases m
        · cases q
          · exact hD h
          · exact hP h
        · exact hM h
    rw [ho]
    exact key _ _ h
  · rename_i n g l ho
    rw [ho]
    simp only [step, bslm, bslF] at h ⊢
    split at h
    · exact h
    · exact h.elim
  · rename_i n x a b c ho
    rw [ho]
    simp only [step, slcM] at h ⊢
    split at h
    · rename_i g len hx hm
      rw [hx, hm]
      simp only [slcK, cutO]
      unfold cutM at h
      split at h
      · rename_i E m xs he
        exact .inr h
      · rename_i m xs he
        exact h
      · exact h.elim
    · exact h.elim
    · exact h
  · rename_i kd b x y ho
    rw [ho]
    simp only [step] at h ⊢
    unfold cnilK
    split
    · rename_i e1 e2; rw [e1, e2] at h; exact h.elim
    · rename_i e1 e2; rw [e1, e2] at h; exact h.elim
    · rename_i e1 e2; rw [e1, e2] at h; exact h.elim
    · rename_i e1 e2; rw [e1, e2] at h; exact h.elim
    · exact h
  · exact h
theorem dr_dst (p : Md) (o : AO) : (o.dr p).dst = o.dst := by unfold AO.dr; split <;> rfl
theorem dr_guard (p : Md) (o : AO) : (o.dr p).guard = o.guard := by unfold AO.dr; split <;> rfl
end
end Go.Av
namespace Go.Av
open Go Go.RowKit
set_option autoImplicit false
set_option linter.all false
section
variable {P : Program}
/-- What becomes of memory. -/
inductive Eff where
  | rows (r : List Entry)
  | whole (H : List Entry)
def Eff.app : Eff → List Entry → List Entry
  | .rows r, H => H ++ r
  | .whole H', _ => H'
/-- Where one operation changes what there is. -/
def AO.wV (o : AO) (e : List V) : V := match wOpd o.op with | some x => ev e x | none => .junk
/-- What one operation gives, wherever it stands among the others. -/
def OpOk (P : Program) (o : AO) (e : List V) (H : List Entry) (v : V) (f : Eff) : Prop :=
  (o.op.cls = 3 ∧ f = .rows [] ∧ ∀ H', opK P o (fun v' H'' => v' = v ∧ H'' = H') e H') ∨
  (o.op.cls = 1 ∧ f = .rows [] ∧ ∀ H', (∀ y ∈ o.op.opds.map (ev e), ∀ g, gid y = some g → Keep H H' g) → opK P o (fun v' H'' => v' = v ∧ H'' = H') e H') ∨
  (((o.op.cls = 2 ∧ ∃ r, f = .rows r) ∨ (o.op.cls = 4 ∧ Off (o.wV e) H (f.app H))) ∧ opK P o (fun v' H' => v' = v ∧ H' = f.app H) e H)
theorem cls_le {o : AOp} (h : 1 ≤ o.cls) (h5 : o.cls ≠ 5) : o.cls = 1 ∨ o.cls = 2 ∨ o.cls = 3 ∨ o.cls = 4 := by
  cases o <;> first | exact .inl rfl | exact .inr (.inl rfl) | exact .inr (.inr (.inl rfl)) | exact .inr (.inr (.inr rfl)) | exact absurd h (Nat.not_succ_le_zero 0) | exact absurd rfl h5
theorem opK_ok {o : AO} {e : List V} {H : List Entry} {K : KV} (hc : 1 ≤ o.op.cls) (h5 : o.op.cls ≠ 5) (h : opK P o K e H) : ∃ v f, OpOk P o e H v f ∧ K v (f.app H) := by
  have hcl := cls_le hc h5
  have key : step P o.op e H K → (∀ H' K', step P o.op e H' K' → opK P o K' e H') → ∃ v f, OpOk P o e H v f ∧ K v (f.app H) := by
    intro hs h1
    rcases hcl with hcl | hcl | hcl | hcl
    · obtain ⟨v, hk, ha⟩ := step_again hcl hs
      exact ⟨v, .rows [], .inr (.inl ⟨hcl, rfl, fun H' hr => h1 _ _ (ha H' _ ⟨⟩ hr ⟨rfl, rfl⟩)⟩), by simpa [Eff.app] using hk⟩
    · obtain ⟨v, r, hk, hst⟩ := step_push hcl hs
      exact ⟨v, .rows r, .inr (.inr ⟨.inl ⟨hcl, r, rfl⟩, h1 _ _ hst⟩), hk⟩
    · obtain ⟨v, hk, ha⟩ := step_pure hcl hs
      exact ⟨v, .rows [], .inl ⟨hcl, rfl, fun H' => h1 _ _ (ha H' _ ⟨rfl, rfl⟩)⟩, by simpa [Eff.app] using hk⟩
    · obtain ⟨v, H', hk, hst, ho⟩ := step_any hcl hs
      exact ⟨v, .whole H', .inr (.inr ⟨.inr ⟨hcl, ho⟩, h1 _ _ hst⟩), hk⟩
  have skip : K undefV H → (∀ H' K', K' undefV H' → opK P o K' e H') → ∃ v f, OpOk P o e H v f ∧ K v (f.app H) := by
    intro hk hK
    refine ⟨undefV, .rows [], ?_, by simpa [Eff.app] using hk⟩
    rcases hcl with hcl | hcl | hcl | hcl
    · exact .inr (.inl ⟨hcl, rfl, fun H' _ => hK _ _ ⟨rfl, rfl⟩⟩)
    · exact .inr (.inr ⟨.inl ⟨hcl, [], rfl⟩, hK _ _ ⟨rfl, by simp [Eff.app]⟩⟩)
    · exact .inl ⟨hcl, rfl, fun H' => hK _ _ ⟨rfl, rfl⟩⟩
    · exact .inr (.inr ⟨.inr ⟨hcl, by simp only [Eff.app, List.append_nil]; exact off_refl⟩, hK _ _ ⟨rfl, by simp [Eff.app]⟩⟩)
  unfold opK at h
  split at h
  · rename_i hg
    exact key h (fun H' K' hs => by unfold opK; rw [hg]; exact hs)
  · rename_i t b hg
    split at h
    · rename_i c hv
      cases hcb : (c == b) with
      | true =>
        rw [hcb] at h
        exact key h (fun H' K' hs => by unfold opK; rw [hg]; simp only [hv, hcb, cond_true]; exact hs)
      | false =>
        rw [hcb] at h
        exact skip h fun H' K' hk => by unfold opK; rw [hg]; simp only [hv, hcb, cond_false]; exact hk
    · rename_i vs hv
      exact skip h fun H' K' hk => by unfold opK; rw [hg]; simp only [hv]; exact hk
    · exact h.elim
abbrev Res := V × Eff
def Run (P : Program) : List AO → List V → List Entry → List Res → Prop
  | [], _, _, rs => rs = []
  | o :: l, e, H, rs => ∃ v f rs', rs = (v, f) :: rs' ∧ OpOk P o e H v f ∧ Run P l (putD e o.dst v) (f.app H) rs'
def selE (S : Nat → Bool) : Nat → List AO → List Res → List V → List V
  | i, o :: l, (v, _) :: rs, e => selE S (i + 1) l rs (bif S i then putD e o.dst v else e)
  | _, _, _, e => e
def selH (S : Nat → Bool) : Nat → List Res → List Entry → List Entry
  | i, (_, f) :: rs, H => selH S (i + 1) rs (bif S i then f.app H else H)
  | _, [], H => H
theorem ops_run {K : K1} : ∀ {l : List AO} {e : List V} {H : List Entry} (i : Nat), (∀ o ∈ l, 1 ≤ o.op.cls ∧ o.op.cls ≠ 5) → ops P l K e H → ∃ rs, Run P l e H rs ∧ K (selE (fun _ => true) i l rs e) (selH (fun _ => true) i rs H)
  | [], e, H, i, _, h => ⟨[], rfl, h⟩
  | o :: l, e, H, i, hc, h => by
    rw [ops_cons] at h
    obtain ⟨v, r, h1, h2⟩ := opK_ok (hc o (by simp)).1 (hc o (by simp)).2 h
    obtain ⟨rs, h3, h4⟩ := ops_run (i + 1) (fun o ho => hc o (by simp [ho])) h2
    exact ⟨(v, r) :: rs, ⟨v, r, rs, rfl, h1, h3⟩, by simpa only [selE, selH, cond_true] using h4⟩
theorem Run.length : ∀ {l : List AO} {e : List V} {H : List Entry} {rs : List Res}, Run P l e H rs → rs.length = l.length
  | [], _, _, _, h => by rw [show _ = [] from h]; rfl
  | o :: l, _, _, _, ⟨v, r, rs', he, _, h⟩ => by rw [he]; simp [h.length]
theorem selE_none {S : Nat → Bool} : ∀ (l : List AO) (rs : List Res) (i : Nat) (e : List V), (∀ j, i ≤ j → S j = false) → selE S i l rs e = e
  | [], rs, i, e, _ => by simp [selE]
  | _ :: _, [], i, e, _ => by simp [selE]
  | o :: l, (v, r) :: rs, i, e, h => by
    simp only [selE, h i (Nat.le_refl _), cond_false]
    exact selE_none l rs (i + 1) e fun j hj => h j (by omega)
theorem selH_none {S : Nat → Bool} : ∀ (rs : List Res) (i : Nat) (H : List Entry), (∀ j, i ≤ j → S j = false) → selH S i rs H = H
  | [], i, e, _ => by simp [selH]
  | (v, r) :: rs, i, e, h => by
    simp only [selH, h i (Nat.le_refl _), cond_false]
    exact selH_none rs (i + 1) e fun j hj => h j (by omega)
theorem run_at : ∀ {l : List AO} {e : List V} {H : List Entry} {rs : List Res} (i k : Nat) {o : AO}, Run P l e H rs → l[k]? = some o →
    ∃ v r, rs[k]? = some (v, r) ∧ OpOk P o (selE (fun j => decide (j < i + k)) i l rs e) (selH (fun j => decide (j < i + k)) i rs H) v r
  | [], _, _, _, _, _, _, _, h => by simp at h
  | o :: l, e, H, rs, i, 0, o', hr, h => by
    obtain ⟨v, r, rs', rfl, h1, h2⟩ := hr
    simp at h; subst h
    refine ⟨v, r, rfl, ?_⟩
    rw [selE_none _ _ _ _ (fun j hj => by simp; omega), selH_none _ _ _ (fun j hj => by simp; omega)]
    exact h1
  | o :: l, e, H, rs, i, k + 1, o', hr, h => by
    obtain ⟨v, r, rs', rfl, h1, h2⟩ := hr
    obtain ⟨v', r', h3, h4⟩ := run_at (i + 1) k h2 (by simpa using h)
    refine ⟨v', r', by simpa using h3, ?_⟩
    simp only [selE, selH]
    have hd : decide (i < i + (k + 1)) = true := by simp
    rw [hd, cond_true, cond_true]
    rw [show i + (k + 1) = i + 1 + k by omega]
    exact h4
theorem nth_setAt_ne : ∀ {e : List V} {i j : Nat} {v : V}, i ≠ j → nth (setAt e i v) j = nth e j
  | [], _, _, _, _ => rfl
  | _ :: _, 0, 0, _, h => absurd rfl h
  | _ :: _, 0, _ + 1, _, _ => rfl
  | _ :: _, _ + 1, 0, _, _ => rfl
  | _ :: l, i + 1, j + 1, v, h => nth_setAt_ne (e := l) (by omega)
theorem nth_setAt_eq : ∀ {e : List V} {i : Nat} {v : V}, i < e.length → nth (setAt e i v) i = v
  | [], _, _, h => by simp at h
  | _ :: _, 0, _, _ => rfl
  | _ :: l, i + 1, v, h => nth_setAt_eq (e := l) (by simpa using h)
theorem setAt_length : ∀ {e : List V} {i : Nat} {v : V}, (setAt e i v).length = e.length
  | [], _, _ => rfl
  | _ :: _, 0, _ => rfl
  | _ :: l, i + 1, v => by simp [setAt, setAt_length (e := l)]
theorem putD_length {e : List V} {d : Option Nat} {v : V} : (putD e d v).length = e.length := by
  cases d with
  | none => rfl
  | some i => exact setAt_length
theorem nth_ext : ∀ {a b : List V}, a.length = b.length → (∀ t, nth a t = nth b t) → a = b
  | [], [], _, _ => rfl
  | [], _ :: _, h, _ => by simp at h
  | _ :: _, [], h, _ => by simp at h
  | x :: a, y :: b, h, ht => by
    rw [show x = y from ht 0, nth_ext (a := a) (b := b) (by simpa using h) fun t => ht (t + 1)]
theorem selE_length {S : Nat → Bool} : ∀ (l : List AO) (rs : List Res) (i : Nat) (e : List V), (selE S i l rs e).length = e.length
  | [], rs, i, e => by simp [selE]
  | _ :: _, [], i, e => by simp [selE]
  | o :: l, (v, r) :: rs, i, e => by
    simp only [selE]
    rw [selE_length l rs (i + 1)]
    cases S i
    · rfl
    · exact putD_length
theorem selE_nth {S S' : Nat → Bool} {t : Nat} : ∀ (l : List AO) (rs : List Res) (i : Nat) (e e' : List V), nth e t = nth e' t → e.length = e'.length → (∀ k o, l[k]? = some o → o.dst = some t → S (i + k) = S' (i + k)) → nth (selE S i l rs e) t = nth (selE S' i l rs e') t
  | [], rs, i, e, e', he, _, _ => by simpa [selE] using he
  | _ :: _, [], i, e, e', he, _, _ => by simpa [selE] using he
  | o :: l, (v, r) :: rs, i, e, e', he, hl, h => by
    simp only [selE]
    refine selE_nth l rs (i + 1) _ _ ?_ ?_ fun k o' hk ho => by have := h (k + 1) o' (by simpa using hk) ho; rwa [show i + (k + 1) = i + 1 + k by omega] at this
    · by_cases hd : o.dst = some t
      · have := h 0 o rfl hd
        simp only [Nat.add_zero] at this
        rw [this]
        cases S' i
        · exact he
        · simp only [cond_true, putD, hd]
          by_cases hlt : t < e.length
          · rw [nth_setAt_eq hlt, nth_setAt_eq (by omega)]
          · rw [nth_out (by rw [setAt_length]; omega), nth_out (by rw [setAt_length]; omega)]
      · have hne : ∀ (x : List V), nth (putD x o.dst v) t = nth x t := by
          intro x
          cases hdd : o.dst with
          | none => rfl
          | some d => exact nth_setAt_ne fun heq => hd (by rw [hdd, heq])
        cases S i <;> cases S' i <;> simp only [cond_true, cond_false, hne] <;> exact he
    · cases S i <;> cases S' i <;> simp only [cond_true, cond_false, putD_length] <;> exact hl
theorem selE_last {S : Nat → Bool} {t : Nat} : ∀ (l : List AO) (rs : List Res) (i k : Nat) (e : List V) {o : AO} {v : V} {r : Eff}, l[k]? = some o → rs[k]? = some (v, r) → o.dst = some t → S (i + k) = true → t < e.length →
    (∀ j o', k < j → l[j]? = some o' → o'.dst = some t → S (i + j) = false) → nth (selE S i l rs e) t = v
  | [], rs, i, k, e, _, _, _, h, _, _, _, _, _ => by simp at h
  | _ :: _, [], i, k, e, _, _, _, _, h, _, _, _, _ => by simp at h
  | o :: l, (v, r) :: rs, i, 0, e, o1, v1, r1, h1, h2, hd, hS, ht, hno => by
    simp at h1 h2
    obtain ⟨rfl, rfl⟩ := h2
    subst h1
    simp only [selE]
    rw [show S i = true from hS, cond_true]
    have : nth (selE S (i + 1) l rs (putD e o.dst v)) t = nth (selE (fun _ => false) (i + 1) l rs (putD e o.dst v)) t :=
      selE_nth l rs (i + 1) _ _ rfl rfl fun k o' hk ho => by
        have := hno (k + 1) o' (by omega) (by simpa using hk) ho
        rw [show i + 1 + k = i + (k + 1) by omega]; exact this
    rw [this, selE_none _ _ _ _ (fun _ _ => rfl), hd]
    exact nth_setAt_eq ht
  | o :: l, (v, r) :: rs, i, k + 1, e, o1, v1, r1, h1, h2, hd, hS, ht, hno => by
    simp only [selE]
    refine selE_last l rs (i + 1) k _ (by simpa using h1) (by simpa using h2) hd (by rw [show i + 1 + k = i + (k + 1) by omega]; exact hS) ?_ fun j o' hj hl ho => by
      have := hno (j + 1) o' (by omega) (by simpa using hl) ho
      rw [show i + 1 + j = i + (j + 1) by omega]; exact this
    cases S i
    · exact ht
    · simp only [cond_true]; rw [putD_length]; exact ht
theorem selH_congr {S S' : Nat → Bool} : ∀ (rs : List Res) (i : Nat) (H : List Entry), (∀ k v f, rs[k]? = some (v, f) → f ≠ .rows [] → S (i + k) = S' (i + k)) → selH S i rs H = selH S' i rs H
  | [], _, _, _ => rfl
  | (v, f) :: rs, i, H, h => by
    simp only [selH]
    have hh : (bif S i then f.app H else H) = (bif S' i then f.app H else H) := by
      by_cases hr : f = .rows []
      · subst hr; simp [Eff.app]
      · rw [show S i = S' i from h 0 v f rfl hr]
    rw [hh]
    exact selH_congr rs (i + 1) _ fun k v' f' hk hr => by
      have := h (k + 1) v' f' (by simpa using hk) hr
      rw [show i + 1 + k = i + (k + 1) by omega]; exact this
theorem selH_add {S S' : Nat → Bool} : ∀ (rs : List Res) (i k : Nat) (H : List Entry) {v : V} {f : Eff}, rs[k]? = some (v, f) → S (i + k) = false → S' (i + k) = true → (∀ j, j ≠ i + k → S' j = S j) → (∀ j v' f', k < j → rs[j]? = some (v', f') → f' ≠ .rows [] → f ≠ .rows [] → S (i + j) = false) → selH S' i rs H = f.app (selH S i rs H)
  | [], _, _, _, _, _, h, _, _, _, _ => by simp at h
  | (v, f) :: rs, i, 0, H, v1, f1, h, h1, h2, h3, h4 => by
    simp at h
    obtain ⟨rfl, rfl⟩ := h
    simp only [selH]
    rw [show S i = false from h1, show S' i = true from h2, cond_true, cond_false]
    by_cases hr : f = .rows []
    · subst hr
      simp only [Eff.app, List.append_nil]
      exact selH_congr rs (i + 1) H fun k v' r' _ _ => h3 _ (by omega)
    · have e1 : ∀ (X : List Entry) (T : Nat → Bool), (∀ j, j ≠ i + 0 → T j = S j) → selH T (i + 1) rs X = X := by
        intro X T hT
        rw [selH_congr (S' := fun _ => false) rs (i + 1) X fun k v' r' hk hr' => by
          rw [hT _ (by omega)]
          have := h4 (k + 1) v' r' (by omega) (by simpa using hk) hr' hr
          rw [show i + 1 + k = i + (k + 1) by omega]; exact this]
        exact selH_none rs (i + 1) X fun _ _ => rfl
      rw [e1 _ S' h3, e1 _ S fun _ _ => rfl]
  | (v, f) :: rs, i, k + 1, H, v1, f1, h, h1, h2, h3, h4 => by
    simp only [selH]
    rw [h3 i (by omega)]
    exact selH_add rs (i + 1) k _ (by simpa using h) (by rw [show i + 1 + k = i + (k + 1) by omega]; exact h1) (by rw [show i + 1 + k = i + (k + 1) by omega]; exact h2)
      (fun j hj => h3 j (by omega)) fun j v' r' hj hrs hr' hr => by
        have := h4 (j + 1) v' r' (by omega) (by simpa using hrs) hr' hr
        rw [show i + 1 + j = i + (j + 1) by omega]; exact this
end
end Go.Av
namespace Go.Av
open Go Go.RowKit
set_option autoImplicit false
set_option linter.all false
section
variable {P : Program}
theorem hasN_iff : ∀ {l : List Nat} {x : Nat}, hasN l x = true ↔ x ∈ l
  | [], x => by simp [hasN]
  | y :: l, x => by
    simp only [hasN, Bool.or_eq_true, Nat.beq_eq, List.mem_cons, hasN_iff (l := l)]
    constructor
    · rintro (h | h)
      · exact .inl h.symm
      · exact .inr h
    · rintro (h | h)
      · exact .inl h.symm
      · exact .inr h
theorem edgeOk_spec {w : List (List Nat)} {i : Nat} : ∀ {l : List Edge}, edgeOk w i l = true → ∀ e ∈ l, Region.binds .any e = true → e.on < i
  | [], _, e, he, _ => by simp at he
  | x :: l, h, e, he, hb => by
    simp only [edgeOk, Bool.and_eq_true, Bool.or_eq_true, Bool.not_eq_true'] at h
    rcases List.mem_cons.1 he with rfl | he
    · rcases h.1 with h1 | h1
      · rw [hb] at h1; cases h1
      · exact Nat.le_of_ble_eq_true h1
    · exact edgeOk_spec h.2 e he hb
theorem waitOk_spec {w : List (List Nat)} {es : List Edge} : ∀ {l : List Nat}, waitOk w es l = true → ∀ j ∈ l, ∃ e ∈ es, Region.binds .any e = true ∧ (e.on = j ∨ j ∈ (w[e.on]?).getD [])
  | [], _, j, hj => by simp at hj
  | x :: l, h, j, hj => by
    simp only [waitOk, Bool.and_eq_true, List.any_eq_true, Bool.or_eq_true, Nat.beq_eq, hasN_iff] at h
    rcases List.mem_cons.1 hj with rfl | hj
    · obtain ⟨e, he, hb, h1⟩ := h.1
      exact ⟨e, he, hb, h1⟩
    · exact waitOk_spec h.2 j hj
theorem pairOk_spec {w : List Nat} {y : AO} : ∀ {l : List AO} {i : Nat}, pairOk w y i l = true → ∀ k x, l[k]? = some x → x.clash y = true → i + k ∈ w
  | [], _, _, k, x, h, _ => by simp at h
  | z :: l, i, h, 0, x, hx, hc => by
    simp at hx; subst hx
    simp only [pairOk, Bool.and_eq_true, Bool.or_eq_true, Bool.not_eq_true', hasN_iff] at h
    rcases h.1 with h1 | h1
    · rw [hc] at h1; cases h1
    · exact h1
  | z :: l, i, h, k + 1, x, hx, hc => by
    simp only [pairOk, Bool.and_eq_true] at h
    have := pairOk_spec h.2 k x (by simpa using hx) hc
    rw [show i + (k + 1) = i + 1 + k by omega]; exact this
/-- A look's places, and a change's, are told apart at the region's end. -/
def SepP (ps : List (Nat × Nat)) (l : List AO) (i : Nat) (x : AO) (j : Nat) (y : AO) : Prop :=
  ∀ u, wSlot y.op = some u → (∀ (k : Nat) (o : AO), j ≤ k → l[k]? = some o → o.dst ≠ some u) ∧ ∀ t ∈ tmpsOf x.op.opds, hasP ps t u = true ∧ ∀ (k : Nat) (o : AO), i ≤ k → l[k]? = some o → o.dst ≠ some t
/-- What is known of a region whose operations may be done in any order. -/
structure DrawFacts (ps : List (Nat × Nat)) (w : List (List Nat)) (os : List Oper) (l : List AO) : Prop where
  len : os.length = l.length
  cls : ∀ o ∈ l, 1 ≤ o.op.cls
  edge : ∀ (i : Nat) (o : Oper), os[i]? = some o → ∀ e ∈ o.after, Region.binds .any e = true → e.on < i
  wait : ∀ (i : Nat) (o : Oper), os[i]? = some o → ∀ j ∈ (w[i]?).getD [], ∃ e ∈ o.after, Region.binds .any e = true ∧ (e.on = j ∨ j ∈ (w[e.on]?).getD [])
  cst : ∀ o ∈ l, constOk o.op.opds = true
  pair : ∀ (i j : Nat) (x y : AO), i < j → l[i]? = some x → l[j]? = some y → x.clash y = true → i ∈ (w[j]?).getD []
  sep1 : ∀ (i j : Nat) (x y : AO), i < j → l[i]? = some x → l[j]? = some y → x.op.cls = 1 → y.op.cls = 4 → i ∈ (w[j]?).getD [] ∨ SepP ps l i x j y
  sep2 : ∀ (i j : Nat) (x y : AO), i < j → l[i]? = some x → l[j]? = some y → x.op.cls = 4 → y.op.cls = 1 → i ∈ (w[j]?).getD [] ∨ SepP ps l j y i x
  num : alcNum 0 l = true
  fst : ∀ (i k : Nat) (x y : AO), i < k → l[i]? = some x → isAlc x = true → l[k]? = some y → (y.op.cls = 2 ∨ y.op.cls = 4) → i ∈ (w[k]?).getD []
  ahead : ∀ (i k : Nat) (x y : AO), i < k → l[i]? = some x → (x.op.cls = 2 ∨ x.op.cls = 4) → l[k]? = some y → isAlc y = false
theorem wrFrom_spec {t : Nat} : ∀ {l : List AO}, wrFrom t l = false → ∀ (k : Nat) (o : AO), l[k]? = some o → o.dst ≠ some t
  | [], _, k, o, h => by simp at h
  | x :: l, h, k, o, ho => by
    simp only [wrFrom, Bool.or_eq_false_iff] at h
    cases k with
    | zero =>
      simp at ho; subst ho
      intro hd
      rw [hd] at h
      simp at h
    | succ k => exact wrFrom_spec h.2 k o (by simpa using ho)
theorem wrDrop_spec {t i : Nat} {l lx : List AO} (hl : l.drop i = lx) (h : wrFrom t lx = false) : ∀ (k : Nat) (o : AO), i ≤ k → l[k]? = some o → o.dst ≠ some t := by
  intro k o hk ho
  refine wrFrom_spec h (k - i) o ?_
  rw [← hl, List.getElem?_drop, show i + (k - i) = k by omega]; exact ho
theorem sepTs_spec {ps : List (Nat × Nat)} {lx : List AO} {u : Nat} : ∀ {ts : List Nat}, sepTs ps lx u ts = true → ∀ t ∈ ts, hasP ps t u = true ∧ wrFrom t lx = false
  | [], _, t, h => by cases h
  | a :: ts, h, t, ht => by
    simp only [sepTs, Bool.and_eq_true, Bool.not_eq_true'] at h
    rcases List.mem_cons.1 ht with rfl | ht
    · exact h.1
    · exact sepTs_spec h.2 t ht
theorem sepPair_spec {ps : List (Nat × Nat)} {l lx ly : List AO} {i j : Nat} {x y : AO} (hi : l.drop i = lx) (hj : l.drop j = ly) (h : sepPair ps x lx y ly = true) : SepP ps l i x j y := by
  intro u hu
  unfold sepPair at h
  rw [hu] at h
  simp only [Bool.and_eq_true, Bool.not_eq_true'] at h
  exact ⟨wrDrop_spec hj h.1, fun t ht => ⟨(sepTs_spec h.2 t ht).1, wrDrop_spec hi (sepTs_spec h.2 t ht).2⟩⟩
theorem sepAll1_spec {ps : List (Nat × Nat)} {w : List (List Nat)} {l lx : List AO} {i : Nat} {x : AO} (hi : l.drop i = lx) : ∀ {ly : List AO} {j : Nat}, l.drop j = ly → sepAll1 ps w x lx i j ly = true → ∀ (k : Nat) (y : AO), ly[k]? = some y →
    (x.op.cls = 1 → y.op.cls = 4 → i ∈ (w[j + k]?).getD [] ∨ SepP ps l i x (j + k) y) ∧ (x.op.cls = 4 → y.op.cls = 1 → i ∈ (w[j + k]?).getD [] ∨ SepP ps l (j + k) y i x)
  | [], _, _, _, k, y, h => by simp at h
  | z :: ly, j, hj, h, k, y, hy => by
    simp only [sepAll1, Bool.and_eq_true, Bool.or_eq_true, Bool.not_eq_true', Bool.and_eq_false_iff, hasN_iff] at h
    cases k with
    | zero =>
      simp at hy; subst hy
      refine ⟨fun hx hz => ?_, fun hx hz => ?_⟩
      · rcases h.1 with h1 | h1 | h1
        · rcases h1 with h1 | h1
          · rw [hx] at h1; cases h1
          · rw [hz] at h1; cases h1
        · exact .inl h1
        · exact .inr (sepPair_spec hi (by simpa using hj) h1)
      · rcases h.2.1 with h1 | h1 | h1
        · rcases h1 with h1 | h1
          · rw [hx] at h1; cases h1
          · rw [hz] at h1; cases h1
        · exact .inl h1
        · exact .inr (sepPair_spec (by simpa using hj) hi h1)
    | succ k =>
      have := sepAll1_spec hi (ly := ly) (j := j + 1) (by rw [← List.drop_drop, hj]; rfl) h.2.2 k y (by simpa using hy)
      rwa [show j + 1 + k = j + (k + 1) by omega] at this
theorem sepChk_spec {ps : List (Nat × Nat)} {w : List (List Nat)} {l : List AO} : ∀ {lx : List AO} {i : Nat}, l.drop i = lx → sepChk ps w i lx = true → ∀ (a k : Nat) (x y : AO), a < k → lx[a]? = some x → lx[k]? = some y →
    (x.op.cls = 1 → y.op.cls = 4 → i + a ∈ (w[i + k]?).getD [] ∨ SepP ps l (i + a) x (i + k) y) ∧ (x.op.cls = 4 → y.op.cls = 1 → i + a ∈ (w[i + k]?).getD [] ∨ SepP ps l (i + k) y (i + a) x)
  | [], _, _, _, a, k, x, y, _, h, _ => by simp at h
  | z :: lx, i, hi, h, a, k, x, y, hak, hx, hy => by
    simp only [sepChk, Bool.and_eq_true] at h
    obtain ⟨k, rfl⟩ : ∃ k', k = k' + 1 := ⟨k - 1, by omega⟩
    have hi' : l.drop (i + 1) = lx := by rw [← List.drop_drop, hi]; rfl
    cases a with
    | zero =>
      simp at hx; subst hx
      have := sepAll1_spec hi hi' h.1 k y (by simpa using hy)
      rw [show i + 1 + k = i + (k + 1) by omega] at this
      simpa using this
    | succ a =>
      have := sepChk_spec hi' h.2 a k x y (by omega) (by simpa using hx) (by simpa using hy)
      rwa [show i + 1 + a = i + (a + 1) by omega, show i + 1 + k = i + (k + 1) by omega] at this
theorem alcF1_spec {w : List (List Nat)} {i : Nat} : ∀ {l : List AO} {j : Nat}, alcF1 w i j l = true → ∀ (k : Nat) (y : AO), l[k]? = some y → (y.op.cls = 2 ∨ y.op.cls = 4) → i ∈ (w[j + k]?).getD []
  | [], _, _, k, y, h, _ => by simp at h
  | z :: l, j, h, k, y, hy, hc => by
    simp only [alcF1, Bool.and_eq_true, Bool.or_eq_true, Bool.not_eq_true', Bool.or_eq_false_iff, hasN_iff] at h
    cases k with
    | zero =>
      simp at hy; subst hy
      rcases h.1 with h1 | h1
      · rcases hc with hc | hc <;> rw [hc] at h1
        · exact absurd h1.1 (by decide)
        · exact absurd h1.2 (by decide)
      · exact h1
    | succ k =>
      have := alcF1_spec h.2 k y (by simpa using hy) hc
      rwa [show j + 1 + k = j + (k + 1) by omega] at this
theorem alcFst_spec {w : List (List Nat)} : ∀ {l : List AO} {i : Nat}, alcFst w i l = true → ∀ (a k : Nat) (x y : AO), a < k → l[a]? = some x → isAlc x = true → l[k]? = some y → (y.op.cls = 2 ∨ y.op.cls = 4) → i + a ∈ (w[i + k]?).getD []
  | [], _, _, a, k, x, y, _, h, _, _, _ => by simp at h
  | z :: l, i, h, a, k, x, y, hak, hx, hxa, hy, hc => by
    simp only [alcFst, Bool.and_eq_true, Bool.or_eq_true, Bool.not_eq_true'] at h
    obtain ⟨k, rfl⟩ : ∃ k', k = k' + 1 := ⟨k - 1, by omega⟩
    cases a with
    | zero =>
      simp at hx; subst hx
      rcases h.1 with h1 | h1
      · rw [hxa] at h1; cases h1
      · have := alcF1_spec h1 k y (by simpa using hy) hc
        rw [show i + 1 + k = i + (k + 1) by omega] at this
        simpa using this
    | succ a =>
      have := alcFst_spec h.2 a k x y (by omega) (by simpa using hx) hxa (by simpa using hy) hc
      rwa [show i + 1 + a = i + (a + 1) by omega, show i + 1 + k = i + (k + 1) by omega] at this
theorem alcNone_spec : ∀ {l : List AO}, alcNone l = true → ∀ (k : Nat) (y : AO), l[k]? = some y → isAlc y = false
  | [], _, k, y, h => by simp at h
  | z :: l, h, k, y, hy => by
    simp only [alcNone, Bool.and_eq_true, Bool.not_eq_true'] at h
    cases k with
    | zero => simp at hy; subst hy; exact h.1
    | succ k => exact alcNone_spec h.2 k y (by simpa using hy)
theorem alcAhead_spec : ∀ {l : List AO}, alcAhead l = true → ∀ (a k : Nat) (x y : AO), a < k → l[a]? = some x → (x.op.cls = 2 ∨ x.op.cls = 4) → l[k]? = some y → isAlc y = false
  | [], _, a, k, x, y, _, h, _, _ => by simp at h
  | z :: l, h, a, k, x, y, hak, hx, hc, hy => by
    simp only [alcAhead, Bool.and_eq_true, Bool.or_eq_true, Bool.not_eq_true', Bool.or_eq_false_iff] at h
    obtain ⟨k, rfl⟩ : ∃ k', k = k' + 1 := ⟨k - 1, by omega⟩
    cases a with
    | zero =>
      simp at hx; subst hx
      rcases h.1 with h1 | h1
      · rcases hc with hc | hc <;> rw [hc] at h1
        · exact absurd h1.1 (by decide)
        · exact absurd h1.2 (by decide)
      · exact alcNone_spec h1 k y (by simpa using hy)
    | succ a => exact alcAhead_spec h.2 a k x y (by omega) (by simpa using hx) hc (by simpa using hy)
theorem drawGo_spec {w : List (List Nat)} : ∀ {os : List Oper} {l before : List AO} {i : Nat}, before.length = i → drawGo w i before os l = true →
    os.length = l.length ∧ (∀ o ∈ l, 1 ≤ o.op.cls ∧ constOk o.op.opds = true) ∧ (∀ (k : Nat) (o : Oper), os[k]? = some o → ∀ e ∈ o.after, Region.binds .any e = true → e.on < i + k) ∧
    (∀ (k : Nat) (o : Oper), os[k]? = some o → ∀ j ∈ (w[i + k]?).getD [], ∃ e ∈ o.after, Region.binds .any e = true ∧ (e.on = j ∨ j ∈ (w[e.on]?).getD [])) ∧
    (∀ (k j : Nat) (x y : AO), k < i + j → (before ++ l)[k]? = some x → l[j]? = some y → x.clash y = true → k ∈ (w[i + j]?).getD [])
  | [], [], before, i, hb, h => ⟨rfl, by simp, by simp, by simp, by simp⟩
  | [], _ :: _, before, i, hb, h => by simp [drawGo] at h
  | _ :: _, [], before, i, hb, h => by simp [drawGo] at h
  | o :: os, a :: l, before, i, hb, h => by
    simp only [drawGo, Bool.and_eq_true] at h
    obtain ⟨h1, h0, h2, h3, h4, h5⟩ := h
    obtain ⟨k1, k2, k3, k4, k5⟩ := drawGo_spec (before := before ++ [a]) (i := i + 1) (by simp [hb]) h5
    refine ⟨by simp [k1], ?_, ?_, ?_, ?_⟩
    · intro o' ho'
      rcases List.mem_cons.1 ho' with rfl | ho'
      · exact ⟨Nat.le_of_ble_eq_true h1, h0⟩
      · exact k2 o' ho'
    · intro k o' ho' e he hbd
      cases k with
      | zero => simp at ho'; subst ho'; exact edgeOk_spec h2 e (by simpa using he) hbd
      | succ k =>
        have := k3 k o' (by simpa using ho') e he hbd
        omega
    · intro k o' ho' j hj
      cases k with
      | zero =>
        simp at ho'; subst ho'
        obtain ⟨e, he, hbd, h⟩ := waitOk_spec h3 j hj
        exact ⟨e, by simpa using he, hbd, h⟩
      | succ k => exact k4 k o' (by simpa using ho') j (by rw [show i + 1 + k = i + (k + 1) by omega]; exact hj)
    · intro k j x y hkj hx hy hc
      cases j with
      | zero =>
        simp at hy; subst hy
        rw [List.getElem?_append_left (by omega)] at hx
        have := pairOk_spec h4 k x hx hc
        simpa using this
      | succ j =>
        rw [show i + (j + 1) = i + 1 + j by omega]
        exact k5 k j x y (by omega) (by simpa using hx) (by simpa using hy) hc
theorem drawOk_spec {ps : List (Nat × Nat)} {os : List Oper} {l : List AO} (h : drawOk ps os l = true) : DrawFacts ps (waitA [] os) os l := by
  simp only [drawOk, Bool.and_eq_true] at h
  obtain ⟨h, hs, hn, hf, ha⟩ := h
  obtain ⟨k1, k2, k3, k4, k5⟩ := drawGo_spec (before := []) (i := 0) rfl h
  exact ⟨k1, fun o ho => (k2 o ho).1, fun i o ho e he hb => by have := k3 i o ho e he hb; omega, fun i o ho j hj => k4 i o ho j (by simpa using hj), fun o ho => (k2 o ho).2, fun i j x y hij hx hy hc => by
    have := k5 i j x y (by omega) (by simpa using hx) hy hc
    simpa using this, fun i j x y hij hx hy h1 h2 => by
    have := (sepChk_spec (l := l) (lx := l) (i := 0) rfl hs i j x y hij hx hy).1 h1 h2
    simpa using this, fun i j x y hij hx hy h1 h2 => by
    have := (sepChk_spec (l := l) (lx := l) (i := 0) rfl hs i j x y hij hx hy).2 h1 h2
    simpa using this, hn, fun i k x y hik hx hxa hy hc => by
    have := alcFst_spec hf i k x y hik hx hxa hy hc
    simpa using this, alcAhead_spec ha⟩
theorem tmpsOf_mem : ∀ {l : List Opd} {t : Nat}, Opd.t t ∈ l → t ∈ tmpsOf l
  | [], _, h => by simp at h
  | .t i :: l, t, h => by
    simp only [tmpsOf, List.mem_cons] at h ⊢
    rcases h with h | h
    · cases h; exact .inl rfl
    · exact .inr (tmpsOf_mem h)
  | .c v :: l, t, h => by
    simp only [tmpsOf, List.mem_cons] at h ⊢
    rcases h with h | h
    · cases h
    · exact tmpsOf_mem h
theorem ev_congr {e e' : List V} {x : Opd} (h : ∀ t, x = .t t → nth e t = nth e' t) : ev e x = ev e' x := by
  cases x with
  | t i => exact h i rfl
  | c v => rfl
/-- What it looks at counts. -/
theorem opK_reads {o : AO} {e e' : List V} {H : List Entry} {K : KV} (hc : 1 ≤ o.op.cls) (h : ∀ t ∈ o.rds, nth e t = nth e' t) : opK P o K e H = opK P o K e' H := by
  have hs : ∀ t ∈ tmpsOf o.op.opds, nth e t = nth e' t := fun t ht => h t (by unfold AO.rds; split <;> simp [ht])
  have hst : step P o.op e H K = step P o.op e' H K := step_reads (by omega) fun x hx => ev_congr fun t ht => hs t (tmpsOf_mem (by rw [← ht]; exact hx))
  unfold opK
  cases hg : o.guard with
  | none => exact hst
  | some tb =>
    obtain ⟨t, b⟩ := tb
    have : nth e t = nth e' t := h t (by unfold AO.rds; rw [hg]; simp)
    simp only [this, hst]
theorem clash_write {x y : AO} {d : Nat} (hx : x.dst = some d) (hy : y.dst = some d) : x.clash y = true := by
  unfold AO.clash
  rw [hx, hy]
  simp
theorem clash_read {x y : AO} {d : Nat} (hx : x.dst = some d) (hy : d ∈ y.rds) : x.clash y = true := by
  unfold AO.clash
  rw [hx]
  simp [hasN_iff.2 hy]
theorem clash_read' {x y : AO} {d : Nat} (hx : y.dst = some d) (hy : d ∈ x.rds) : x.clash y = true := by
  unfold AO.clash
  rw [hx]
  simp [hasN_iff.2 hy]
theorem clash_cls {x y : AO} (h : hcl x.op.cls y.op.cls = true) : x.clash y = true := by
  unfold AO.clash
  rw [h]
  simp
theorem hcl_comm {a b : Nat} (h : hcl a b = true) : hcl b a = true := by
  unfold hcl at h ⊢
  rw [Bool.or_comm]; exact h
theorem ev_gid {R : Rd} {y : V} {v : Value} {g : Nat} (h : VRep R y v) (hg : gid y = some g) : R.sh g ≠ none := by
  intro hn
  cases y <;> simp only [gid, reduceCtorEq, Option.some.injEq] at hg <;> subst hg <;> simp only [VRep, hn, and_false] at h
def unl : List Bool → Nat
  | [] => 0
  | b :: l => (bif b then 0 else 1) + unl l
theorem constOk_spec : ∀ {l : List Opd} {v : V}, constOk l = true → Opd.c v ∈ l → gid v = none
  | [], _, _, h => by simp at h
  | .t i :: l, v, hc, h => by
    simp only [constOk] at hc
    rcases List.mem_cons.1 h with h | h
    · cases h
    · exact constOk_spec hc h
  | .c w :: l, v, hc, h => by
    simp only [constOk, Bool.and_eq_true, Option.isNone_iff_eq_none] at hc
    rcases List.mem_cons.1 h with h | h
    · cases h; exact hc.1
    · exact constOk_spec hc.2 h
theorem unl_set : ∀ {l : List Bool} {i : Nat}, l[i]? = some false → unl (l.set i true) + 1 = unl l
  | [], _, h => by simp at h
  | b :: l, 0, h => by
    simp at h; subst h
    simp [unl] <;> omega
  | b :: l, i + 1, h => by
    have := unl_set (l := l) (i := i) (by simpa using h)
    simp only [List.set_cons_succ, unl]; omega
theorem unl_zero : ∀ {l : List Bool}, unl l = 0 → ∀ i, i < l.length → l[i]? = some true
  | [], _, i, h => by simp at h
  | b :: l, hu, i, h => by
    simp only [unl] at hu
    cases b with
    | false => simp at hu
    | true =>
      cases i with
      | zero => rfl
      | succ i => simpa using unl_zero (l := l) (by simpa using hu) i (by simpa using h)
theorem unl_rep : ∀ n, unl (List.replicate n false) = n
  | 0 => rfl
  | n + 1 => by simp [List.replicate_succ, unl, unl_rep n] <;> omega
end
end Go.Av
namespace Go.Av
open Go Go.RowKit
set_option autoImplicit false
set_option linter.all false
section
variable {P : Program}
theorem cOps_get {ops : Array Oper} : ∀ {l : List Oper} {aos : List AO} {i : Nat} {o : Oper}, cOps P ops l = some aos → l[i]? = some o → ∃ ao g, aos[i]? = some ⟨o.dst, ao, g⟩ ∧ cOp P o = some ao ∧ cGuard ops o.guard = some g
  | [], _, _, _, _, h => by simp at h
  | x :: l, aos, 0, o, h, hi => by
    obtain ⟨ao, g, r, h1, h2, h3, rfl⟩ := cOps_cons h
    simp at hi; subst hi
    exact ⟨ao, g, rfl, h1, h2⟩
  | x :: l, aos, i + 1, o, h, hi => by
    obtain ⟨ao, g, r, h1, h2, h3, rfl⟩ := cOps_cons h
    obtain ⟨ao', g', k1, k2, k3⟩ := cOps_get h3 (by simpa using hi)
    exact ⟨ao', g', by simpa using k1, k2, k3⟩
theorem opK_dr {p : Md} {o : AO} {e : List V} {H : List Entry} {K : KV} (h : opK P (o.dr p) K e H) : opK P o K e H := by
  unfold opK at h ⊢
  rw [dr_guard] at h
  split at h
  · exact step_dr h
  · rename_i t b hg
    split at h
    · rename_i c hv
      cases hcb : (c == b) with
      | true => rw [hcb] at h; exact step_dr h
      | false => rw [hcb] at h; exact h
    · exact h
    · exact h.elim
/-! ### New variables, whose numbers are told ahead -/
def rsv1 (n : Nat) (o : AO) : AO := ⟨o.dst, rsvO n o.op, o.guard⟩
theorem rsvL_get (n : Nat) : ∀ (l : List AO) (i : Nat), (rsvL n l)[i]? = (l[i]?).map (rsv1 n)
  | [], i => by simp [rsvL]
  | o :: l, 0 => rfl
  | o :: l, i + 1 => by simpa [rsvL] using rsvL_get n l i
theorem rsvL_length (n : Nat) : ∀ (l : List AO), (rsvL n l).length = l.length
  | [] => rfl
  | o :: l => by simp [rsvL, rsvL_length n l]
theorem rsv1_not {n : Nat} {o : AO} (h : isAlc o = false) : rsv1 n o = o := by
  obtain ⟨d, op, g⟩ := o
  unfold rsv1
  cases op <;> first | rfl | exact absurd h (by simp [isAlc])
theorem rsvL_not {n : Nat} : ∀ {l : List AO}, alcNone l = true → rsvL n l = l
  | [], _ => rfl
  | o :: l, h => by
    simp only [alcNone, Bool.and_eq_true, Bool.not_eq_true'] at h
    show rsv1 n o :: rsvL n l = o :: l
    rw [rsv1_not h.1, rsvL_not h.2]
theorem isAlc_iff {o : AO} : isAlc o = true ↔ ∃ j cs, o.op = .alcR j cs := by
  obtain ⟨d, op, g⟩ := o
  cases op <;> simp [isAlc]
theorem rsv1_cls {n : Nat} {o : AO} (h : 1 ≤ o.op.cls) : 1 ≤ (rsv1 n o).op.cls ∧ (rsv1 n o).op.cls ≠ 5 := by
  cases ha : isAlc o with
  | false =>
    rw [rsv1_not ha]
    refine ⟨h, fun h5 => ?_⟩
    obtain ⟨d, op, g⟩ := o
    cases op <;> first | (simp [AOp.cls] at h5; done) | (simp [isAlc] at ha; done)
  | true =>
    obtain ⟨j, cs, hj⟩ := isAlc_iff.1 ha
    simp [rsv1, rsvO, hj, AOp.cls]
theorem alcNum_alc {x : AO} {l : List AO} {m j : Nat} {cs : List V} (h : x.op = .alcR j cs) : alcNum m (x :: l) = ((Nat.beq j m && x.guard.isNone) && alcNum (m + 1) l) := by simp only [alcNum, h]
theorem alcNum_not {x : AO} {l : List AO} {m : Nat} (h : isAlc x = false) : alcNum m (x :: l) = alcNum m l := by
  obtain ⟨d, op, g⟩ := x
  cases op <;> first | rfl | simp [isAlc] at h
theorem alcL_alc {x : AO} {l : List AO} {j : Nat} {cs : List V} (h : x.op = .alcR j cs) : alcL (x :: l) = cs :: alcL l := by simp only [alcL, h]
theorem alcL_not {x : AO} {l : List AO} (h : isAlc x = false) : alcL (x :: l) = alcL l := by
  obtain ⟨d, op, g⟩ := x
  cases op <;> first | rfl | simp [isAlc] at h
theorem alcNum_spec : ∀ {l : List AO} {m k j : Nat} {o : AO} {cs : List V}, alcNum m l = true → l[k]? = some o → o.op = .alcR j cs → o.guard = none ∧ m ≤ j ∧ (alcL l)[j - m]? = some cs
  | [], _, _, _, _, _, _, h, _ => by simp at h
  | x :: l, m, 0, j, o, cs, hn, hk, ho => by
    simp at hk; subst hk
    simp only [alcNum_alc ho, Bool.and_eq_true, Nat.beq_eq, Option.isNone_iff_eq_none] at hn
    obtain ⟨⟨rfl, hg⟩, _⟩ := hn
    refine ⟨hg, Nat.le_refl _, ?_⟩
    simp [alcL_alc ho]
  | x :: l, m, k + 1, j, o, cs, hn, hk, ho => by
    have hk' : l[k]? = some o := by simpa using hk
    cases ha : isAlc x with
    | true =>
      obtain ⟨j', cs', hx⟩ := isAlc_iff.1 ha
      rw [alcNum_alc hx] at hn
      simp only [Bool.and_eq_true] at hn
      obtain ⟨h1, h2, h3⟩ := alcNum_spec hn.2 hk' ho
      refine ⟨h1, by omega, ?_⟩
      rw [alcL_alc hx, show j - m = (j - (m + 1)) + 1 by omega]
      simpa using h3
    | false =>
      rw [alcNum_not ha] at hn
      obtain ⟨h1, h2, h3⟩ := alcNum_spec hn hk' ho
      rw [alcL_not ha]
      exact ⟨h1, h2, h3⟩
theorem alcNum_lt {l : List AO} {j j' : Nat} {o o' : AO} {cs cs' : List V} (ho : o.op = .alcR j cs) (ho' : o'.op = .alcR j' cs') : ∀ (m k k' : Nat), alcNum m l = true → k < k' → l[k]? = some o → l[k']? = some o' → j < j' := by
  induction l with
  | nil => intro m k k' _ _ h _; simp at h
  | cons x l ih =>
    intro m k k' hn hlt hk hk'
    obtain ⟨q, rfl⟩ : ∃ q, k' = q + 1 := ⟨k' - 1, by omega⟩
    have hk2 : l[q]? = some o' := by simpa using hk'
    cases k with
    | zero =>
      simp at hk; subst hk
      rw [alcNum_alc ho] at hn
      simp only [Bool.and_eq_true, Nat.beq_eq] at hn
      have := (alcNum_spec hn.2 hk2 ho').2.1
      omega
    | succ k =>
      have hk1 : l[k]? = some o := by simpa using hk
      cases ha : isAlc x with
      | true =>
        obtain ⟨j'', cs'', hx⟩ := isAlc_iff.1 ha
        rw [alcNum_alc hx] at hn
        simp only [Bool.and_eq_true] at hn
        exact ih (m + 1) k q hn.2 (by omega) hk1 hk2
      | false =>
        rw [alcNum_not ha] at hn
        exact ih m k q hn (by omega) hk1 hk2
theorem alcL_get : ∀ {l : List AO} {m q : Nat} {cs : List V}, alcNum m l = true → (alcL l)[q]? = some cs → ∃ (k : Nat) (o : AO), l[k]? = some o ∧ o.op = AOp.alcR (m + q) cs
  | [], _, _, _, _, h => by simp [alcL] at h
  | x :: l, m, q, cs, hn, h => by
    cases ha : isAlc x with
    | true =>
      obtain ⟨j', cs', hx⟩ := isAlc_iff.1 ha
      rw [alcNum_alc hx] at hn
      rw [alcL_alc hx] at h
      simp only [Bool.and_eq_true, Nat.beq_eq] at hn
      cases q with
      | zero =>
        simp at h; subst h
        exact ⟨0, x, rfl, by rw [hx, hn.1.1]; rfl⟩
      | succ q =>
        obtain ⟨k, o, h1, h2⟩ := alcL_get hn.2 (by simpa using h)
        exact ⟨k + 1, o, by simpa using h1, by rw [h2, show m + 1 + q = m + (q + 1) by omega]⟩
    | false =>
      rw [alcNum_not ha] at hn
      rw [alcL_not ha] at h
      obtain ⟨k, o, h1, h2⟩ := alcL_get hn h
      exact ⟨k + 1, o, by simpa using h1, h2⟩
/-- Is a place one of a new variable that is not there yet? -/
def hid (n : Nat) (S : Nat → Bool) : Nat → List AO → Nat → Bool
  | _, [], _ => false
  | i, o :: l, g => (match o.op with | .alcR j _ => !S i && Nat.beq (n + j) g | _ => false) || hid n S (i + 1) l g
theorem hid_iff {n : Nat} {S : Nat → Bool} {g : Nat} : ∀ {l : List AO} {i : Nat}, hid n S i l g = true ↔ ∃ (k : Nat) (o : AO) (j : Nat) (cs : List V), l[k]? = some o ∧ o.op = .alcR j cs ∧ S (i + k) = false ∧ n + j = g
  | [], i => by simp [hid]
  | x :: l, i => by
    simp only [hid, Bool.or_eq_true, hid_iff (l := l)]
    constructor
    · rintro (h | ⟨k, o, j, cs, h1, h2, h3, h4⟩)
      · split at h
        · rename_i j cs hx
          simp only [Bool.and_eq_true, Bool.not_eq_true', Nat.beq_eq] at h
          exact ⟨0, x, j, cs, rfl, hx, h.1, h.2⟩
        · cases h
      · exact ⟨k + 1, o, j, cs, by simpa using h1, h2, by rw [← h3]; congr 1; omega, h4⟩
    · rintro ⟨k, o, j, cs, h1, h2, h3, h4⟩
      cases k with
      | zero =>
        simp at h1; subst h1
        left
        rw [h2]
        simp only [Bool.and_eq_true, Bool.not_eq_true', Nat.beq_eq]
        exact ⟨h3, h4⟩
      | succ k => exact .inr ⟨k, o, j, cs, by simpa using h1, h2, by rw [← h3]; congr 1; omega, h4⟩
def hideH (n : Nat) (S : Nat → Bool) (l : List AO) (H : List Entry) : List Entry := H.mapIdx fun g x => bif hid n S 0 l g then .resv else x
theorem hide_len {n : Nat} {S : Nat → Bool} {l : List AO} {H : List Entry} : (hideH n S l H).length = H.length := by simp [hideH]
theorem hide_get {n : Nat} {S : Nat → Bool} {l : List AO} {H : List Entry} {g : Nat} : (hideH n S l H)[g]? = (H[g]?).map fun x => bif hid n S 0 l g then .resv else x := by simp [hideH]
theorem hide_all {n : Nat} {S : Nat → Bool} {l : List AO} {H : List Entry} (h : ∀ (k : Nat) (o : AO), l[k]? = some o → isAlc o = true → S k = true) : hideH n S l H = H := by
  refine List.ext_getElem? fun g => ?_
  rw [hide_get]
  have : hid n S 0 l g = false := by
    rw [← Bool.not_eq_true, hid_iff]
    rintro ⟨k, o, j, cs, h1, h2, h3, _⟩
    rw [Nat.zero_add, h k o h1 (isAlc_iff.2 ⟨j, cs, h2⟩)] at h3
    cases h3
  rw [this]
  simp
theorem hide_congr {n : Nat} {S S' : Nat → Bool} {l : List AO} {H : List Entry} (h : ∀ (k : Nat) (o : AO), l[k]? = some o → isAlc o = true → S' k = S k) : hideH n S' l H = hideH n S l H := by
  have : ∀ g, hid n S' 0 l g = hid n S 0 l g := by
    intro g
    rw [Bool.eq_iff_iff, hid_iff, hid_iff]
    constructor
    · rintro ⟨k, o, j, cs, h1, h2, h3, h4⟩
      exact ⟨k, o, j, cs, h1, h2, by rw [Nat.zero_add] at h3 ⊢; rw [← h k o h1 (isAlc_iff.2 ⟨j, cs, h2⟩)]; exact h3, h4⟩
    · rintro ⟨k, o, j, cs, h1, h2, h3, h4⟩
      exact ⟨k, o, j, cs, h1, h2, by rw [Nat.zero_add] at h3 ⊢; rw [h k o h1 (isAlc_iff.2 ⟨j, cs, h2⟩)]; exact h3, h4⟩
  simp only [hideH, this]
theorem hide_put {n : Nat} {S S' : Nat → Bool} {l : List AO} {H : List Entry} {i j : Nat} {o : AO} {cs : List V} {en : Entry} (hn : alcNum 0 l = true) (hi : l[i]? = some o) (ho : o.op = .alcR j cs) (hH : H[n + j]? = some en) (h1 : S' i = true) (h2 : ∀ q, q ≠ i → S' q = S q) :
    hideH n S' l H = (hideH n S l H).set (n + j) en := by
  refine List.ext_getElem? fun g => ?_
  have hlt : n + j < (hideH n S l H).length := by rw [hide_len]; exact (List.getElem?_eq_some_iff.1 hH).1
  by_cases hg : n + j = g
  · subst hg
    rw [List.getElem?_set_self hlt, hide_get, hH]
    have : hid n S' 0 l (n + j) = false := by
      rw [← Bool.not_eq_true, hid_iff]
      rintro ⟨k, o', j', cs', k1, k2, k3, k4⟩
      have hjj : j' = j := by omega
      subst hjj
      rcases Nat.lt_trichotomy k i with h | h | h
      · exact absurd (alcNum_lt k2 ho 0 k i hn h k1 hi) (by omega)
      · subst h; rw [Nat.zero_add, h1] at k3; cases k3
      · exact absurd (alcNum_lt ho k2 0 i k hn h hi k1) (by omega)
    rw [this]; rfl
  · rw [List.getElem?_set_ne hg, hide_get, hide_get]
    have : hid n S' 0 l g = hid n S 0 l g := by
      rw [Bool.eq_iff_iff, hid_iff, hid_iff]
      constructor
      · rintro ⟨k, o', j', cs', k1, k2, k3, k4⟩
        by_cases hk : k = i
        · subst hk; rw [Nat.zero_add, h1] at k3; cases k3
        · exact ⟨k, o', j', cs', k1, k2, by rw [Nat.zero_add] at k3 ⊢; rw [← h2 k hk]; exact k3, k4⟩
      · rintro ⟨k, o', j', cs', k1, k2, k3, k4⟩
        by_cases hk : k = i
        · subst hk
          rw [hi] at k1; cases k1
          rw [ho] at k2; cases k2
          exact absurd k4 hg
        · exact ⟨k, o', j', cs', k1, k2, by rw [Nat.zero_add] at k3 ⊢; rw [h2 k hk]; exact k3, k4⟩
    rw [this]
end
end Go.Av
namespace Go.Av
open Go Go.RowKit
set_option autoImplicit false
set_option linter.all false
section
variable {P : Program}
theorem opOk_eff {o : AO} {e : List V} {H : List Entry} {v : V} {f : Eff} (h : OpOk P o e H v f) (hf : f ≠ .rows []) : (o.op.cls = 2 ∧ ∃ r, f = .rows r) ∨ (o.op.cls = 4 ∧ Off (o.wV e) H (f.app H)) := by
  rcases h with ⟨_, h, _⟩ | ⟨_, h, _⟩ | ⟨h, _⟩
  · exact absurd h hf
  · exact absurd h hf
  · exact h
theorem hcl_eff {a b : Nat} (ha : a = 2 ∨ a = 4) (hb : b = 2 ∨ b = 4) : hcl a b = true := by
  rcases ha with rfl | rfl <;> rcases hb with rfl | rfl <;> rfl
def Closed (w : List (List Nat)) (S : Nat → Bool) : Prop := ∀ i, S i = true → ∀ j ∈ (w[i]?).getD [], S j = true
theorem clash_comm {x y : AO} (h : x.clash y = true) : y.clash x = true := by
  unfold AO.clash at h ⊢
  simp only [Bool.or_eq_true, Bool.and_eq_true, Nat.beq_eq] at h ⊢
  rcases h with (h | h) | h
  · split at h
    · rename_i d hd
      simp only [Bool.or_eq_true] at h
      rcases h with h | h
      · exact .inl (.inr (by simpa [hd] using h))
      · split at h
        · rename_i d' hd'
          refine .inl (.inl ?_)
          simp only [Bool.or_eq_true, Nat.beq_eq] at h ⊢
          exact .inr h.symm
        · cases h
    · cases h
  · split at h
    · rename_i d hd
      exact .inl (.inl (by simp only [Bool.or_eq_true]; exact .inl h))
    · cases h
  · exact .inr (hcl_comm h)
theorem hasP_mem : ∀ {ps : List (Nat × Nat)} {t u : Nat}, hasP ps t u = true → (t, u) ∈ ps
  | [], _, _, h => by cases h
  | (a, b) :: l, t, u, h => by
    simp only [hasP, Bool.or_eq_true, Bool.and_eq_true, Nat.beq_eq] at h
    rcases h with ⟨rfl, rfl⟩ | h
    · exact List.mem_cons_self
    · exact List.mem_cons_of_mem _ (hasP_mem h)
theorem sepAll_mem {e : List V} : ∀ {ps : List (Nat × Nat)} {t u : Nat}, sepAll e ps → (t, u) ∈ ps → sepV (nth e t) (nth e u) = true
  | [], _, _, _, h => by cases h
  | (a, b) :: l, t, u, h, hm => by
    simp only [sepAll] at h
    rcases List.mem_cons.1 hm with hm | hm
    · cases hm; exact h.1
    · exact sepAll_mem h.2 hm
theorem sepV_ne {a b : V} {g : Nat} (h : sepV a b = true) (ha : gid a = some g) : gid b ≠ some g := by
  intro hb
  simp only [sepV, ha, hb, sepN, Bool.not_eq_true'] at h
  exact absurd (Nat.beq_refl g) (by rw [h]; decide)
section draw
variable {ps : List (Nat × Nat)} {w : List (List Nat)} {l : List AO} {rs : List Res} {e : List V} {H : List Entry} {os : List Oper} {n : Nat}
theorem clash_done {S : Nat → Bool} {i k : Nat} {x y : AO} (F : DrawFacts ps w os l) (hcl : Closed w S) (hrd : ∀ j ∈ (w[i]?).getD [], S j = true) (hi : S i = false) (hx : l[i]? = some x) (hy : l[k]? = some y) (h1 : y.clash x = true) (h2 : x.clash y = true) : S k = decide (k < i) := by
  rcases Nat.lt_trichotomy k i with h | h | h
  · rw [hrd k (F.pair k i y x h hy hx h1)]; simp [h]
  · subst h; rw [hi]; simp
  · cases hk : S k with
    | false => simp; omega
    | true =>
      have := hcl k hk i (F.pair i k x y h hx hy h2)
      rw [hi] at this; cases this
/-- The memory ahead of one, in the text's order. -/
def HH (rs : List Res) (H : List Entry) (k : Nat) : List Entry := selH (fun j => decide (j < k)) 0 rs H
theorem HH_step {k : Nat} {v : V} {f : Eff} (hk : rs[k]? = some (v, f)) : HH rs H (k + 1) = f.app (HH rs H k) := by
  unfold HH
  refine selH_add rs 0 k H hk (by simp) (by simp) (fun j hj => by simp; omega) fun j v' f' hj _ _ _ => by simp; omega
theorem HH_out {k : Nat} (hk : rs[k]? = none) : HH rs H (k + 1) = HH rs H k := by
  unfold HH
  refine selH_congr rs 0 H fun j v f hj _ => ?_
  have h1 := (List.getElem?_eq_some_iff.1 hj).1
  have h2 := List.getElem?_eq_none_iff.1 hk
  simp; omega
/-- One that is at a place in the text's order. -/
theorem at_text (hR : Run P (rsvL n l) e H rs) {k : Nat} {y : AO} (hy : l[k]? = some y) : ∃ v f, rs[k]? = some (v, f) ∧ OpOk P (rsv1 n y) (selE (fun j => decide (j < k)) 0 (rsvL n l) rs e) (HH rs H k) v f := by
  obtain ⟨v, f, h1, h2⟩ := run_at 0 k hR (by rw [rsvL_get, hy]; rfl)
  simp only [Nat.zero_add] at h2
  exact ⟨v, f, h1, h2⟩
theorem eff_cls (hR : Run P (rsvL n l) e H rs) {k : Nat} {v : V} {f : Eff} (hk : rs[k]? = some (v, f)) (hf : f ≠ .rows []) : ∃ y, l[k]? = some y ∧ isAlc y = false ∧
    ((y.op.cls = 2 ∧ ∃ r, f = .rows r) ∨ (y.op.cls = 4 ∧ Off (y.wV (selE (fun j => decide (j < k)) 0 (rsvL n l) rs e)) (HH rs H k) (f.app (HH rs H k)))) := by
  have hlt : k < l.length := by
    have := hR.length
    rw [rsvL_length] at this
    rw [← this]
    exact (List.getElem?_eq_some_iff.1 hk).1
  have hy : l[k]? = some l[k] := List.getElem?_eq_getElem hlt
  obtain ⟨v', f', h1, h2⟩ := at_text hR hy
  rw [hk] at h1
  cases h1
  cases ha : isAlc l[k] with
  | true =>
    obtain ⟨j, cs, hj⟩ := isAlc_iff.1 ha
    rcases opOk_eff h2 hf with ⟨h, _⟩ | ⟨h, _⟩ <;> simp [rsv1, rsvO, hj, AOp.cls] at h
  | false =>
    rw [rsv1_not ha] at h2
    exact ⟨_, hy, ha, opOk_eff h2 hf⟩
theorem eff_two {y : AO} {f : Eff} {A : Prop} (h : (y.op.cls = 2 ∧ ∃ r, f = .rows r) ∨ (y.op.cls = 4 ∧ A)) : y.op.cls = 2 ∨ y.op.cls = 4 := h.imp (·.1) (·.1)
/-- What changes memory is done in order. -/
theorem closed_eff {S : Nat → Bool} (F : DrawFacts ps w os l) (hR : Run P (rsvL n l) e H rs) (hcl : Closed w S) {j k : Nat} {v v' : V} {f f' : Eff} (hjk : j < k) (hj : rs[j]? = some (v, f)) (hk : rs[k]? = some (v', f')) (hf : f ≠ .rows []) (hf' : f' ≠ .rows []) (hS : S k = true) : S j = true := by
  obtain ⟨y, hy, _, cy⟩ := eff_cls hR hj hf
  obtain ⟨z, hz, _, cz⟩ := eff_cls hR hk hf'
  exact hcl k hS j (F.pair j k y z hjk hy hz (clash_cls (hcl_eff (eff_two cy) (eff_two cz))))
/-- What is done of what changes memory is a beginning of it. -/
theorem eff_pre {S : Nat → Bool} (F : DrawFacts ps w os l) (hR : Run P (rsvL n l) e H rs) (hcl : Closed w S) : ∃ k, ∀ j v f, rs[j]? = some (v, f) → f ≠ .rows [] → S j = decide (j < k) := by
  by_cases h : ∃ j v f, rs[j]? = some (v, f) ∧ f ≠ .rows [] ∧ S j = false
  · have hmin : ∃ j, (∃ v f, rs[j]? = some (v, f) ∧ f ≠ .rows [] ∧ S j = false) ∧ ∀ q, q < j → ¬ ∃ v f, rs[q]? = some (v, f) ∧ f ≠ .rows [] ∧ S q = false := by
      obtain ⟨j, hj⟩ := h
      induction j using Nat.strongRecOn with
      | ind j ih =>
        by_cases hq : ∃ q, q < j ∧ ∃ v f, rs[q]? = some (v, f) ∧ f ≠ .rows [] ∧ S q = false
        · obtain ⟨q, hlt, hq⟩ := hq
          exact ih q hlt hq
        · exact ⟨j, hj, fun q hlt hh => hq ⟨q, hlt, hh⟩⟩
    obtain ⟨k, ⟨v, f, h1, h2, h3⟩, hm⟩ := hmin
    refine ⟨k, fun j v' f' hj hf => ?_⟩
    rcases Nat.lt_or_ge j k with hlt | hge
    · cases hS : S j with
      | true => simp [hlt]
      | false => exact absurd ⟨v', f', hj, hf, hS⟩ (hm j hlt)
    · cases hS : S j with
      | false => simp; omega
      | true =>
        rcases Nat.lt_or_ge k j with hkj | hkj
        · have := closed_eff F hR hcl hkj h1 hj h2 hf hS
          rw [h3] at this; cases this
        · have : k = j := by omega
          subst this; rw [h3] at hS; cases hS
  · refine ⟨rs.length, fun j v f hj hf => ?_⟩
    have := (List.getElem?_eq_some_iff.1 hj).1
    cases hS : S j with
    | true => simp [this]
    | false => exact absurd ⟨j, v, f, hj, hf, hS⟩ h
/-- Through a part of the text's order a place stays as it is. -/
theorem seg {g a : Nat} (hlt : g < (HH rs H a).length) : ∀ (d : Nat), (∀ j, a ≤ j → j < a + d → ∀ v f, rs[j]? = some (v, f) → f ≠ .rows [] → g < (HH rs H j).length → (HH rs H j).length ≤ (f.app (HH rs H j)).length ∧ (f.app (HH rs H j))[g]? = (HH rs H j)[g]?) →
    (HH rs H (a + d))[g]? = (HH rs H a)[g]? ∧ (HH rs H a).length ≤ (HH rs H (a + d)).length
  | 0, _ => ⟨rfl, Nat.le_refl _⟩
  | d + 1, h => by
    obtain ⟨h1, h2⟩ := seg hlt d fun j hj hj2 => h j hj (by omega)
    rw [show a + (d + 1) = (a + d) + 1 by omega]
    cases hr : rs[a + d]? with
    | none => rw [HH_out hr]; exact ⟨h1, h2⟩
    | some p =>
      obtain ⟨v, f⟩ := p
      rw [HH_step hr]
      by_cases hf : f = .rows []
      · subst hf; simpa [Eff.app] using ⟨h1, h2⟩
      · obtain ⟨k1, k2⟩ := h (a + d) (by omega) (by omega) v f hr hf (by omega)
        exact ⟨k2.trans h1, Nat.le_trans h2 k1⟩
theorem seg_len {a : Nat} : ∀ (d : Nat), (∀ j, a ≤ j → j < a + d → ∀ v f, rs[j]? = some (v, f) → f ≠ .rows [] → (HH rs H j).length ≤ (f.app (HH rs H j)).length) → (HH rs H a).length ≤ (HH rs H (a + d)).length
  | 0, _ => Nat.le_refl _
  | d + 1, h => by
    have h2 := seg_len d fun j hj hj2 => h j hj (by omega)
    rw [show a + (d + 1) = (a + d) + 1 by omega]
    cases hr : rs[a + d]? with
    | none => rw [HH_out hr]; exact h2
    | some p =>
      obtain ⟨v, f⟩ := p
      rw [HH_step hr]
      by_cases hf : f = .rows []
      · subst hf; simpa [Eff.app] using h2
      · exact Nat.le_trans h2 (h (a + d) (by omega) (by omega) v f hr hf)
theorem eff_len (hR : Run P (rsvL n l) e H rs) {j : Nat} {v : V} {f : Eff} (hj : rs[j]? = some (v, f)) (hf : f ≠ .rows []) : (HH rs H j).length ≤ (f.app (HH rs H j)).length := by
  obtain ⟨y, _, _, c⟩ := eff_cls hR hj hf
  rcases c with ⟨_, r, rfl⟩ | ⟨_, c⟩
  · simp [Eff.app]
  · exact c.1
/-- A look's place, told apart from a change's. -/
theorem sep_off (F : DrawFacts ps w os l) {i j t g : Nat} {x y : AO} (hsep : sepAll (selE (fun _ => true) 0 (rsvL n l) rs e) ps) (hx : l[i]? = some x) (hy : l[j]? = some y) (hP : SepP ps l i x j y) (ht : t ∈ tmpsOf x.op.opds)
    (hg : gid (nth (selE (fun q => decide (q < i)) 0 (rsvL n l) rs e) t) = some g) (hya : isAlc y = false) (hc : y.op.cls = 4) : gid (y.wV (selE (fun q => decide (q < j)) 0 (rsvL n l) rs e)) ≠ some g := by
  have keep : ∀ (s k : Nat), (∀ (q : Nat) (o : AO), k ≤ q → l[q]? = some o → o.dst ≠ some s) → nth (selE (fun _ => true) 0 (rsvL n l) rs e) s = nth (selE (fun q => decide (q < k)) 0 (rsvL n l) rs e) s := fun s k h =>
    selE_nth (rsvL n l) rs 0 e e rfl rfl fun q o hq hd => by
      rw [rsvL_get] at hq
      obtain ⟨o', h1, rfl⟩ := Option.map_eq_some_iff.1 hq
      have := h q o'
      simp only [Nat.zero_add]
      rcases Nat.lt_or_ge q k with hlt | hge
      · simp [hlt]
      · exact absurd hd (this hge h1)
  unfold AO.wV
  cases hw : wOpd y.op with
  | none => simp [gid]
  | some o =>
    cases o with
    | c v =>
      have hm : Opd.c v ∈ y.op.opds := by
        obtain ⟨d, op, gd⟩ := y
        cases op <;> simp [wOpd] at hw <;> simp [AOp.opds, hw]
      have := constOk_spec (F.cst y (List.mem_of_getElem? hy)) hm
      simp [ev, this]
    | t u =>
      have hu : wSlot y.op = some u := by simp [wSlot, hw]
      obtain ⟨k1, k2⟩ := hP u hu
      obtain ⟨k3, k4⟩ := k2 t ht
      have := sepAll_mem hsep (hasP_mem k3)
      rw [keep t i k4, keep u j k1] at this
      exact sepV_ne this hg
end draw
end
end Go.Av
namespace Go.Av
open Go Go.RowKit
set_option autoImplicit false
set_option linter.all false
section
variable {P : Program}
theorem ev_gid2 {R : Rd} {y : V} {v : Value} {g : Nat} (h : VRep R y v) (hg : gid y = some g) : R.sh g ≠ none ∧ R.sh g ≠ some .resv := by
  constructor <;> (intro hn; cases y <;> simp only [gid, reduceCtorEq, Option.some.injEq] at hg <;> subst hg <;> simp only [VRep, hn, and_false] at h)
section draw
variable {ps : List (Nat × Nat)} {w : List (List Nat)} {l : List AO} {rs : List Res} {e : List V} {H : List Entry} {os : List Oper} {n : Nat}
/-- All new variables are there where something is changed, or laid down. -/
theorem alc_done {S : Nat → Bool} {i : Nat} {x : AO} (F : DrawFacts ps w os l) (hrd : ∀ j ∈ (w[i]?).getD [], S j = true) (hx : l[i]? = some x) (hc : x.op.cls = 2 ∨ x.op.cls = 4) : ∀ (k : Nat) (o : AO), l[k]? = some o → isAlc o = true → S k = true := by
  intro k o hk ho
  rcases Nat.lt_trichotomy k i with h | h | h
  · exact hrd k (F.fst k i o x h hk ho hx hc)
  · subst h
    rw [hx] at hk; cases hk
    obtain ⟨j, cs, hj⟩ := isAlc_iff.1 ho
    rcases hc with hc | hc <;> simp [hj, AOp.cls] at hc
  · rw [F.ahead i k x o h hx hc hk] at ho; cases ho
/-- Where a new variable is not there yet nothing is changed. -/
theorem none_done {S : Nat → Bool} {i : Nat} {x : AO} (F : DrawFacts ps w os l) (hR : Run P (rsvL n l) e H rs) (hcl : Closed w S) (hi : S i = false) (hx : l[i]? = some x) (ha : isAlc x = true) : selH S 0 rs H = H := by
  rw [selH_congr (S' := fun _ => false) rs 0 H fun k v f hk hf => ?_]
  · exact selH_none rs 0 H fun _ _ => rfl
  · obtain ⟨y, hy, hya, c⟩ := eff_cls hR hk hf
    simp only [Nat.zero_add]
    cases hS : S k with
    | false => rfl
    | true =>
      rcases Nat.lt_trichotomy i k with h | h | h
      · have := hcl k hS i (F.fst i k x y h hx ha hy (eff_two c))
        rw [hi] at this; cases this
      · subst h; rw [hi] at hS; cases hS
      · rw [F.ahead k i y x h hy (eff_two c) hx] at ha; cases ha
/-- What is ready gives what it gives in its place. -/
theorem draw_step {S : Nat → Bool} {i : Nat} {x : AO} {C : Ctx} {ts : List Value} (F : DrawFacts ps w os l) (hR : Run P (rsvL n l) e H rs) (hsep : sepAll (selE (fun _ => true) 0 (rsvL n l) rs e) ps) (hcl : Closed w S) (hrd : ∀ j ∈ (w[i]?).getD [], S j = true) (hi : S i = false) (hx : l[i]? = some x) (hxa : isAlc x = false)
    (hH : C.H = hideH n S l (selH S 0 rs H)) (hE : CRep C.R (selE S 0 (rsvL n l) rs e) ts) : ∃ v r, rs[i]? = some (v, r) ∧ (r ≠ .rows [] → C.H = selH S 0 rs H ∧ ∀ (k : Nat) (o : AO), l[k]? = some o → isAlc o = true → S k = true) ∧ opK P x (fun v' H' => v' = v ∧ H' = r.app C.H) (selE S 0 (rsvL n l) rs e) C.H := by
  obtain ⟨v, r, h1, h2⟩ := at_text hR hx
  rw [rsv1_not hxa] at h2
  refine ⟨v, r, h1, ?_⟩
  have hxm : x ∈ l := List.mem_of_getElem? hx
  have hen : ∀ t ∈ x.rds, nth (selE (fun j => decide (j < i)) 0 (rsvL n l) rs e) t = nth (selE S 0 (rsvL n l) rs e) t := fun t ht =>
    selE_nth (rsvL n l) rs 0 e e rfl rfl fun k o hk ho => by
      rw [rsvL_get] at hk
      obtain ⟨o', k1, rfl⟩ := Option.map_eq_some_iff.1 hk
      have ho' : o'.dst = some t := ho
      simp only [Nat.zero_add]
      exact (clash_done F hcl hrd hi hx k1 (clash_read ho' ht) (clash_comm (clash_read ho' ht))).symm
  rcases h2 with ⟨hc, hr, h2⟩ | ⟨hc, hr, h2⟩ | ⟨hc, h2⟩
  · subst hr
    refine ⟨fun h => absurd rfl h, ?_⟩
    simp only [Eff.app, List.append_nil]
    rw [← opK_reads (F.cls x hxm) hen]
    exact h2 C.H
  · subst hr
    refine ⟨fun h => absurd rfl h, ?_⟩
    simp only [Eff.app, List.append_nil]
    rw [← opK_reads (F.cls x hxm) hen]
    refine h2 C.H ?_
    intro y hy g hg z hz
    obtain ⟨p, hp, rfl⟩ := List.mem_map.1 hy
    cases p with
    | c u =>
      have := constOk_spec (F.cst x hxm) hp
      simp only [ev] at hg
      rw [this] at hg; cases hg
    | t tt =>
      simp only [ev] at hg
      have htt : tt ∈ tmpsOf x.op.opds := tmpsOf_mem hp
      have ht : tt ∈ x.rds := by unfold AO.rds; split <;> simp [htt]
      have hg2 := hg
      rw [hen tt ht] at hg2
      obtain ⟨n1, n2⟩ := ev_gid2 (CRep_nth tt hE) hg2
      have hlt : g < C.H.length := by
        rcases Nat.lt_or_ge g C.H.length with h | h
        · exact h
        · exact absurd (by simp [Ctx.R, Ctx.sh, List.getElem?_eq_none h]) n1
      obtain ⟨k, hk⟩ := eff_pre F hR hcl
      have hSk : selH S 0 rs H = HH rs H k := selH_congr rs 0 H fun j v f hj hf => by simp only [Nat.zero_add]; exact hk j v f hj hf
      rw [hSk] at hH
      rw [hH, hide_len] at hlt
      have hzi : g < (HH rs H i).length := (List.getElem?_eq_some_iff.1 hz).1
      have hzk : (HH rs H k)[g]? = some z := by
        rcases Nat.le_total i k with hik | hki
        · have := (seg hzi (k - i) fun j hj hj2 v f hr hf hgl => ?_).1
          · rw [show i + (k - i) = k by omega] at this
            exact this.trans hz
          · obtain ⟨y, hy, hya, c⟩ := eff_cls hR hr hf
            rcases c with ⟨_, r, rfl⟩ | ⟨cy, c⟩
            · exact ⟨by simp [Eff.app], by simp only [Eff.app]; exact List.getElem?_append_left hgl⟩
            · refine ⟨c.1, c.2 g hgl ?_⟩
              have hij : i < j := by
                rcases Nat.lt_or_ge i j with h | h
                · exact h
                · have : i = j := by omega
                  subst this
                  rw [hx] at hy; cases hy
                  rw [hc] at cy; cases cy
              rcases F.sep1 i j x y hij hx hy hc cy with hw | hw
              · have hSj : S j = true := by rw [hk j v f hr hf]; simp; omega
                have := hcl j hSj i hw
                rw [hi] at this; cases this
              · exact sep_off F hsep hx hy hw htt hg hya cy
        · have := (seg hlt (i - k) fun j hj hj2 v f hr hf hgl => ?_).1
          · rw [show k + (i - k) = i by omega] at this
            exact this.symm.trans hz
          · obtain ⟨y, hy, hya, c⟩ := eff_cls hR hr hf
            rcases c with ⟨_, r, rfl⟩ | ⟨cy, c⟩
            · exact ⟨by simp [Eff.app], by simp only [Eff.app]; exact List.getElem?_append_left hgl⟩
            · refine ⟨c.1, c.2 g hgl ?_⟩
              rcases F.sep2 j i y x (by omega) hy hx cy hc with hw | hw
              · have hSj := hrd j hw
                rw [hk j v f hr hf] at hSj
                simp at hSj; omega
              · exact sep_off F hsep hx hy hw htt hg hya cy
      have hCg : C.H[g]? = (HH rs H k)[g]?.map fun x => bif hid n S 0 l g then .resv else x := by rw [hH, hide_get]
      rw [hzk] at hCg
      cases hh : hid n S 0 l g with
      | false => rw [hh] at hCg; simpa using hCg
      | true =>
        rw [hh] at hCg
        simp only [Option.map_some, cond_true] at hCg
        exact absurd (by simp only [Ctx.R, Ctx.sh, hCg, Option.map_some, Entry.shp]) n2
  · have hcx : x.op.cls = 2 ∨ x.op.cls = 4 := hc.imp (·.1) (·.1)
    have hall := alc_done F hrd hx hcx
    have hHe : HH rs H i = selH S 0 rs H := by
      refine selH_congr rs 0 H fun k v' r' hk hr' => ?_
      obtain ⟨y, hy, _, cy⟩ := eff_cls hR hk hr'
      simp only [Nat.zero_add]
      exact (clash_done F hcl hrd hi hx hy (clash_cls (hcl_eff (eff_two cy) hcx)) (clash_cls (hcl_eff hcx (eff_two cy)))).symm
    rw [hide_all hall] at hH
    rw [hHe, opK_reads (F.cls x hxm) hen, ← hH] at h2
    exact ⟨fun _ => ⟨hH, hall⟩, h2⟩
theorem draw_put {S S' : Nat → Bool} {i : Nat} {x : AO} {v : V} {r : Eff} (F : DrawFacts ps w os l) (hcl : Closed w S) (hi : S i = false) (hx : l[i]? = some x) (hr : rs[i]? = some (v, r)) (h1 : S' i = true) (h2 : ∀ j, j ≠ i → S' j = S j) :
    selE S' 0 (rsvL n l) rs e = putD (selE S 0 (rsvL n l) rs e) x.dst v := by
  have hx' : (rsvL n l)[i]? = some (rsv1 n x) := by rw [rsvL_get, hx]; rfl
  refine nth_ext (by rw [putD_length, selE_length, selE_length]) fun t => ?_
  by_cases hd : x.dst = some t
  · rw [hd]
    simp only [putD]
    by_cases ht : t < e.length
    · rw [nth_setAt_eq (by rw [selE_length]; exact ht)]
      refine selE_last (rsvL n l) rs 0 i e hx' hr hd (by simpa using h1) ht fun j o hj ho hod => ?_
      rw [rsvL_get] at ho
      obtain ⟨o', k1, rfl⟩ := Option.map_eq_some_iff.1 ho
      have hod' : o'.dst = some t := hod
      simp only [Nat.zero_add]
      rw [h2 j (by omega)]
      cases hS : S j with
      | false => rfl
      | true =>
        have := hcl j hS i (F.pair i j x o' hj hx k1 (clash_write hd hod'))
        rw [hi] at this; cases this
    · rw [nth_out (by rw [selE_length]; omega), nth_out (by rw [setAt_length, selE_length]; omega)]
  · have : nth (putD (selE S 0 (rsvL n l) rs e) x.dst v) t = nth (selE S 0 (rsvL n l) rs e) t := by
      cases hdd : x.dst with
      | none => rfl
      | some d => exact nth_setAt_ne fun heq => hd (by rw [hdd, heq])
    rw [this]
    refine selE_nth (rsvL n l) rs 0 e e rfl rfl fun k o hk ho => ?_
    rw [rsvL_get] at hk
    obtain ⟨o', k1, rfl⟩ := Option.map_eq_some_iff.1 hk
    have ho' : o'.dst = some t := ho
    simp only [Nat.zero_add]
    refine h2 k fun heq => ?_
    subst heq
    rw [hx] at k1; cases k1
    exact hd ho'
end draw
/-- Numbers are laid ahead. -/
theorem resv_many {C : Ctx} (hC : HRep C) : ∀ m : Nat, ∃ C' : Ctx, C'.w = C.w ∧ C'.H = C.H ++ List.replicate m .resv ∧ Tr C C' ∧ HRep C'
  | 0 => ⟨C, rfl, by simp, Tr.refl C, hC⟩
  | m + 1 => by
    obtain ⟨C1, h1, h2, h3, h4⟩ := resv_many hC m
    exact ⟨C1.more .resv, h1, by simp only [Ctx.more, h2, List.append_assoc, List.replicate_succ'], h3.trans more_tr, more_rep h4 trivial⟩
/-- A new variable, whose number was laid ahead. -/
theorem newVar_at {C : Ctx} {t : TypeId} {v : Value} {cs : List V} {g : Nat} (hC : HRep C) (hg : C.H[g]? = some .resv) (hv : CRep C.R cs v.cells.toList) :
    ∃ C' : Ctx, (do Pure.pure (Value.pointer (some (← newVar t v)))).run P C.w = .ok (.pointer (some ⟨C.w.heap.size, 0, none⟩)) C'.w ∧ Tr C C' ∧ HRep C' ∧ VRep C'.R (.ptr g 0) (.pointer (some ⟨C.w.heap.size, 0, none⟩)) ∧ C'.H = C.H.set g (.box cs) := by
  have ht : Turns C (C.w.alloc (.cells v.cells t)) g (some (C.w.heap.size, 0)) .resv (.box cs) :=
    ⟨hg, rfl, rfl, rfl, by simp, fun b hb _ => by simp only [World.alloc]; rw [Array.getElem?_push, if_neg (by omega)], trivial, fun _ b c hx => by cases hx; exact .inr (Nat.le_refl _)⟩
  refine ⟨C.turn (C.w.alloc (.cells v.cells t)) g (some (C.w.heap.size, 0)) (.box cs), ?_, turn_tr hC ht, turn_rep hC ht ⟨_, _, v.cells, t, turn_beta_new, av_alloc_new C.w _, CRep_tr (turn_tr hC ht).R _ _ hv⟩, ?_, rfl⟩
  · simp [newVar, newRow, Ctx.turn]
  · have hsh : (C.turn (C.w.alloc (.cells v.cells t)) g (some (C.w.heap.size, 0)) (.box cs)).R.sh g = some .box := by
      simp only [Ctx.R, Ctx.sh, turn_get_new hg, Option.map_some, Entry.shp]
    simp only [VRep, hsh]
    exact ⟨rfl, _, _, turn_beta_new (C := C) (w := C.w.alloc (.cells v.cells t)) (e' := .box cs), rfl⟩
end
end Go.Av
namespace Go.Av
open Go Go.RowKit
set_option autoImplicit false
set_option linter.all false
section
variable {P : Program}
theorem alcO_cases (j : Nat) (o : AO) : alcO j o = o ∨ ∃ cs, o.op = .alloc cs ∧ o.guard = none ∧ alcO j o = ⟨o.dst, .alcR j cs, none⟩ := by
  obtain ⟨d, op, g⟩ := o
  cases op <;> first | exact .inl rfl | skip
  rename_i cs
  cases g with
  | none => exact .inr ⟨cs, rfl, rfl, rfl⟩
  | some g => exact .inl rfl
theorem alcM_get : ∀ {l : List AO} {m i : Nat} {a : AO}, alcNone l = true → l[i]? = some a → ∃ x, (alcM m l)[i]? = some x ∧ (x = a ∧ isAlc x = false ∨ ∃ j cs, a.op = .alloc cs ∧ a.guard = none ∧ x = ⟨a.dst, .alcR j cs, none⟩)
  | [], _, _, _, _, h => by simp at h
  | o :: l, m, i, a, hn, h => by
    simp only [alcNone, Bool.and_eq_true, Bool.not_eq_true'] at hn
    cases i with
    | zero =>
      simp at h; subst h
      refine ⟨alcO m o, rfl, ?_⟩
      rcases alcO_cases m o with h1 | ⟨cs, h1, h2, h3⟩
      · rw [h1]; exact .inl ⟨rfl, hn.1⟩
      · exact .inr ⟨m, cs, h1, h2, h3⟩
    | succ i =>
      obtain ⟨x, h1, h2⟩ := alcM_get (m := bif isAlc (alcO m o) then m + 1 else m) hn.2 (by simpa using h)
      exact ⟨x, by simpa [alcM] using h1, h2⟩
theorem alcNone_get : ∀ {l : List AO} {i : Nat} {a : AO}, alcNone l = true → l[i]? = some a → isAlc a = false
  | [], _, _, _, h => by simp at h
  | o :: l, i, a, hn, h => by
    simp only [alcNone, Bool.and_eq_true, Bool.not_eq_true'] at hn
    cases i with
    | zero => simp at h; subst h; exact hn.1
    | succ i => exact alcNone_get hn.2 (by simpa using h)
theorem alcL_none : ∀ {l : List AO}, alcNone l = true → alcL l = []
  | [], _ => rfl
  | o :: l, hn => by
    simp only [alcNone, Bool.and_eq_true, Bool.not_eq_true'] at hn
    rw [alcL_not hn.1, alcL_none hn.2]
theorem dr_alloc {p : Md} {a : AO} {cs : List V} (h : (a.dr p).op = .alloc cs) : a.op = .alloc cs := by
  unfold AO.dr at h
  split at h
  · rename_i f a ho
    have key : ∀ (m q : Bool) (a : List Opd), drC m q f a = .alloc cs → False := fun m q a h => by
      cases a <;> cases m <;> cases q <;> cases h
    exact (key _ _ _ h).elim
  · simp at h
  · simp at h
  · simp at h
  · exact h
/-- The one way, or the other, that a region's operations are told. -/
def Told (p : Md) (aos l : List AO) : Prop := alcNone (aos.map (AO.dr p)) = true ∧ (l = aos.map (AO.dr p) ∨ l = alcM 0 (aos.map (AO.dr p)))
theorem told_get {p : Md} {aos l : List AO} (ht : Told p aos l) {i : Nat} {a : AO} (h : aos[i]? = some a) : ∃ x, l[i]? = some x ∧ (x = a.dr p ∧ isAlc x = false ∨ ∃ j cs, a.op = .alloc cs ∧ a.guard = none ∧ x = ⟨a.dst, .alcR j cs, none⟩) := by
  have h1 : (aos.map (AO.dr p))[i]? = some (a.dr p) := by simp [h]
  rcases ht.2 with rfl | rfl
  · exact ⟨_, h1, .inl ⟨rfl, alcNone_get ht.1 h1⟩⟩
  · obtain ⟨x, h2, h3⟩ := alcM_get (m := 0) ht.1 h1
    refine ⟨x, h2, ?_⟩
    rcases h3 with h3 | ⟨j, cs, k1, k2, k3⟩
    · exact .inl h3
    · exact .inr ⟨j, cs, dr_alloc k1, by rw [← dr_guard p a]; exact k2, by rw [k3, dr_dst]⟩
theorem hide_none {n : Nat} {l : List AO} {H : List Entry} (hn : alcNum 0 l = true) (hl : H.length = n) : hideH n (fun _ => false) l (H ++ (alcL l).map .box) = H ++ List.replicate (alcL l).length .resv := by
  refine List.ext_getElem? fun g => ?_
  rw [hide_get]
  rcases Nat.lt_or_ge g H.length with h | h
  · rw [List.getElem?_append_left h, List.getElem?_append_left h]
    have : hid n (fun _ => false) 0 l g = false := by
      rw [← Bool.not_eq_true, hid_iff]
      rintro ⟨k, o, j, cs, _, _, _, h4⟩
      omega
    rw [this]; simp
  · rw [List.getElem?_append_right h, List.getElem?_append_right h, List.getElem?_map, List.getElem?_replicate]
    cases hb : (alcL l)[g - H.length]? with
    | none =>
      have := List.getElem?_eq_none_iff.1 hb
      rw [if_neg (by omega)]; rfl
    | some cs =>
      have h2 := (List.getElem?_eq_some_iff.1 hb).1
      rw [if_pos h2]
      obtain ⟨k, o, k1, k2⟩ := alcL_get hn hb
      have : hid n (fun _ => false) 0 l g = true := hid_iff.2 ⟨k, o, _, cs, k1, k2, rfl, by omega⟩
      rw [this]; rfl
theorem drawX_sound {p : Md} {ps : List (Nat × Nat)} {bx : List (List V)} {ops : Array Oper} {Q : Exit → Act → World → Prop} {K : K1} {id : Nat} {aos l : List AO} (hm : P.follows .mixedOrders = true) (h : cOps P ops ops.toList = some aos) (htl : Told p aos l) (hbx : bx = alcL l) (hd : drawOk ps ops.toList l = true)
    (C : Ctx) (a : Act) (e : List V) (hC : HRep C) (hE : CRep C.R e a.tmps.toList) (hk : drawP P bx ps l K e C.H)
    (hn : ∀ (C' : Ctx) (a' : Act) (e' : List V), Tr C C' → HRep C' → CRep C'.R e' a'.tmps.toList → a'.defers = a.defers → K e' C'.H → Q .normal a' C'.w) : (Code.region id ops true).wp P Q a C.w := by
  have F := drawOk_spec hd
  obtain ⟨n, hnl⟩ : ∃ n, n = C.H.length := ⟨_, rfl⟩
  have hk' : Av.ops P (rsvL n l) (sepK ps K) e (C.H ++ (alcL l).map .box) := by
    subst hbx hnl
    unfold drawP at hk
    split at hk
    · rename_i hb
      have hnone : alcNone l = true := by
        have key : ∀ (l : List AO), alcL l = [] → alcNone l = true := by
          intro l
          induction l with
          | nil => intro _; rfl
          | cons o l ih =>
            intro hl
            cases ha : isAlc o with
            | true =>
              obtain ⟨j, cs, hj⟩ := isAlc_iff.1 ha
              rw [alcL_alc hj] at hl; cases hl
            | false =>
              rw [alcL_not ha] at hl
              simp only [alcNone, ha, Bool.not_false, Bool.true_and]
              exact ih hl
        exact key l hb
      rw [rsvL_not hnone, hb]
      simpa using hk
    · rename_i b bs hb
      rw [hb]; exact hk
  have hcl1 : ∀ o ∈ rsvL n l, 1 ≤ o.op.cls ∧ o.op.cls ≠ 5 := by
    intro o ho
    obtain ⟨i, hi⟩ := List.mem_iff_getElem?.1 ho
    rw [rsvL_get] at hi
    obtain ⟨o', h1, rfl⟩ := Option.map_eq_some_iff.1 hi
    exact rsv1_cls (F.cls o' (List.mem_of_getElem? h1))
  obtain ⟨rs, hR, hfin0⟩ := ops_run 0 hcl1 hk'
  obtain ⟨hsep, hfin⟩ := hfin0
  generalize hH1 : C.H ++ (alcL l).map Entry.box = H1 at *
  generalize hw : waitA [] ops.toList = w at F
  have hrl : rs.length = l.length := by rw [hR.length, rsvL_length]
  have hol : ops.size = l.length := by have := F.len; simpa using this
  apply wp_region_any hm
  have main : ∀ (fuel : Nat) (listed : Array Bool) (C' : Ctx) (a' : Act), listed.size = ops.size → unl listed.toList = fuel → Closed w (fun i => listed.getD i false) → Tr C C' → HRep C' → C'.H = hideH n (fun i => listed.getD i false) l (selH (fun i => listed.getD i false) 0 rs H1) →
      CRep C'.R (selE (fun i => listed.getD i false) 0 (rsvL n l) rs e) a'.tmps.toList → a'.defers = a.defers → wpAny P .any ops Q fuel listed a' C'.w := by
    intro fuel
    induction fuel with
    | zero =>
      intro listed C' a' hsz hu hcl ht hC' hH hE' hdf
      have all : ∀ i, i < ops.size → listed.getD i false = true := fun i hi => by
        have := unl_zero hu i (by simpa [hsz] using hi)
        simp at this
        simp [this]
      refine ⟨?_, ?_⟩
      · rw [List.eq_nil_iff_forall_not_mem]
        intro j hj
        obtain ⟨h1, o, ho, _⟩ := mem_ready.1 hj
        have hj' : j < ops.size := (Array.getElem?_eq_some_iff.1 ho).1
        have := all j hj'
        have hjl : j < listed.size := by omega
        simp [hjl] at this h1
        rw [h1] at this; cases this
      · refine hn C' a' _ ht hC' hE' hdf ?_
        rw [hH]
        have e1 : selE (fun i => listed.getD i false) 0 (rsvL n l) rs e = selE (fun _ => true) 0 (rsvL n l) rs e := nth_ext (by rw [selE_length, selE_length]) fun t => selE_nth (rsvL n l) rs 0 e e rfl rfl fun k o hk' _ => by
          simp only [Nat.zero_add]
          refine all k ?_
          have h1 := (List.getElem?_eq_some_iff.1 hk').1
          rw [rsvL_length] at h1
          omega
        have e2 : selH (fun i => listed.getD i false) 0 rs H1 = selH (fun _ => true) 0 rs H1 := selH_congr rs 0 H1 fun k v r hk' _ => by
          simp only [Nat.zero_add]
          refine all k ?_
          have h1 := (List.getElem?_eq_some_iff.1 hk').1
          omega
        have e3 : hideH n (fun i => listed.getD i false) l (selH (fun _ => true) 0 rs H1) = selH (fun _ => true) 0 rs H1 := hide_all fun k o hk _ => all k (by
          have := (List.getElem?_eq_some_iff.1 hk).1
          omega)
        rw [e1, e2, e3]
        exact hfin
    | succ fuel ih =>
      intro listed C' a' hsz hu hcl ht hC' hH hE' hdf
      refine ⟨fun hr0 => ?_, fun i hi => ?_⟩
      · exfalso
        have all : ∀ n i, i < n → i < ops.size → listed.getD i false = true := by
          intro n
          induction n with
          | zero => intro i hi; omega
          | succ n ihn =>
            intro i hin hi
            cases hli : listed.getD i false with
            | true => rfl
            | false =>
              have hmem : i ∈ Region.ready .any ops listed := mem_ready.2 ⟨by
                have hil : i < listed.size := by omega
                simp [hil] at hli ⊢; exact hli, ops[i], by simp [hi], fun ed hed hb => by
                have h1 := F.edge i ops[i] (by simp [hi]) ed hed hb
                exact ihn ed.on (by omega) (by omega)⟩
              rw [hr0] at hmem; cases hmem
        have : unl listed.toList = 0 := by
          have key : ∀ l : List Bool, (∀ i, i < l.length → l[i]? = some true) → unl l = 0 := by
            intro l
            induction l with
            | nil => intro _; rfl
            | cons b l ihl =>
              intro h
              have := h 0 (by simp)
              simp at this; subst this
              simp only [unl, cond_true, Nat.zero_add]
              exact ihl fun i hi => by simpa using h (i + 1) (by simpa using hi)
          refine key _ fun i hi => ?_
          have hi' : i < listed.size := by simpa using hi
          have := all (i + 1) i (by omega) (by omega)
          simp [hi'] at this
          simp [hi', this]
        omega
      · obtain ⟨h1, o, ho, hed⟩ := mem_ready.1 hi
        have hilt : i < ops.size := (Array.getElem?_eq_some_iff.1 ho).1
        have hil : i < listed.size := by omega
        have hfalse : listed[i]? = some false := by simp [hil] at h1 ⊢; exact h1
        have hSi : listed.getD i false = false := by simp [hil] at h1 ⊢; exact h1
        have ho' : ops.toList[i]? = some o := by simpa using ho
        obtain ⟨ao, g, k1, k2, k3⟩ := cOps_get h ho'
        obtain ⟨x, hx, hxr⟩ := told_get htl k1
        have hrd : ∀ j ∈ (w[i]?).getD [], listed.getD j false = true := by
          intro j hj
          obtain ⟨ed, he1, he2, he3⟩ := F.wait i o ho' j hj
          have := hed ed he1 he2
          rcases he3 with rfl | he3
          · exact this
          · exact hcl ed.on this j he3
        have hset : ∀ j, j ≠ i → (listed.setIfInBounds i true).getD j false = listed.getD j false := fun j hj => getD_set_ne false (Ne.symm hj)
        have hset1 : (listed.setIfInBounds i true).getD i false = true := by simp [hil]
        have hfu : unl (listed.setIfInBounds i true).toList = fuel := by
          have := unl_set (l := listed.toList) (i := i) (by simpa using hfalse)
          simp only [Array.toList_setIfInBounds]; omega
        have hcl2 : Closed w (fun q => (listed.setIfInBounds i true).getD q false) := by
          intro j hj k hk'
          by_cases hji : j = i
          · subst hji
            exact getD_set_true (hrd k hk')
          · simp only [hset j hji] at hj
            exact getD_set_true (hcl j hj k hk')
        rcases hxr with ⟨rfl, hxa⟩ | ⟨j, cs, hao, hg, rfl⟩
        · obtain ⟨v, r, hrs, hr1, hop⟩ := draw_step F hR hsep hcl hrd hSi hx hxa hH hE'
          refine opK_sound ho k2 k3 hC' hE' (opK_dr hop) fun C2 x u t2 r2 vr hK => ?_
          obtain ⟨rfl, hH2⟩ := hK
          refine ih (listed.setIfInBounds i true) C2 (a'.put o.dst u) (by simpa using hsz) hfu hcl2 (ht.trans t2) r2 ?_ ?_ (put_defers.trans hdf)
          · have hadd : selH (fun q => (listed.setIfInBounds i true).getD q false) 0 rs H1 = r.app (selH (fun q => listed.getD q false) 0 rs H1) :=
              selH_add rs 0 i H1 hrs (by simpa using hSi) (by simpa using hset1) (fun j hj => hset j (by omega)) fun j v' r' hj hrs' hr' hr => by
                simp only [Nat.zero_add]
                cases hS : listed.getD j false with
                | false => rfl
                | true =>
                  have := closed_eff F hR hcl hj hrs hrs' hr hr' hS
                  simp only [hSi] at this
                  cases this
            have hhide : ∀ X, hideH n (fun q => (listed.setIfInBounds i true).getD q false) l X = hideH n (fun q => listed.getD q false) l X := fun X => hide_congr fun k o' hk' hka => hset k fun hki => by
              subst hki
              rw [hx] at hk'; cases hk'
              rw [hxa] at hka; cases hka
            rw [hH2, hadd, hhide]
            by_cases hre : r = .rows []
            · subst hre
              simp only [Eff.app, List.append_nil]
              exact hH
            · obtain ⟨q1, q2⟩ := hr1 hre
              rw [q1, hide_all q2]
          · have := draw_put (n := n) (e := e) (S' := fun i_1 => (listed.setIfInBounds i true).getD i_1 false) F hcl hSi hx hrs hset1 hset
            rw [this, dr_dst]
            exact put_rep (CRep_tr t2.R _ _ hE') vr
        · simp only at hao hg
          subst hao hg
          have hal : alcNum 0 l = true := F.num
          obtain ⟨_, hj0, hjl⟩ := alcNum_spec hal hx rfl
          rw [Nat.sub_zero] at hjl
          have hsel := none_done F hR hcl hSi hx rfl
          rw [hsel] at hH
          have hlt : j < (alcL l).length := (List.getElem?_eq_some_iff.1 hjl).1
          have hH1j : H1[n + j]? = some (.box cs) := by
            rw [← hH1, hnl, List.getElem?_append_right (Nat.le_add_right _ _)]
            simp [hjl]
          have hcg : C'.H[n + j]? = some .resv := by
            rw [hH, hide_get, hH1j]
            have : hid n (fun i => listed.getD i false) 0 l (n + j) = true := hid_iff.2 ⟨i, _, j, cs, hx, rfl, by rw [Nat.zero_add]; exact hSi, rfl⟩
            rw [this]; rfl
          obtain ⟨v, f, hrs, hok⟩ := at_text hR hx
          have hvf : v = .ptr (n + j) 0 ∧ f = .rows [] := by
            rcases hok with ⟨_, h1, h2⟩ | ⟨h1, _⟩ | ⟨h1, _⟩
            · have := h2 []
              simp only [rsv1, rsvO, opK, step, ev] at this
              exact ⟨this.1.symm, h1⟩
            · simp [rsv1, rsvO, AOp.cls] at h1
            · rcases h1 with ⟨h1, _⟩ | ⟨h1, _⟩ <;> simp [rsv1, rsvO, AOp.cls] at h1
          obtain ⟨rfl, rfl⟩ := hvf
          have hog : o.guard = none := by
            cases hgd : o.guard with
            | none => rfl
            | some jb =>
              rw [hgd] at k3
              obtain ⟨t, _, ht2⟩ := cGuard_some k3
              cases ht2
          unfold wpOp
          simp only [ho, Region.wanted, hog, if_true]
          refine .inl ?_
          obtain ⟨t, hot, z, hz, rfl⟩ : ∃ t, o.op = .alloc t ∧ ∃ z, zeroT P t = some z ∧ z.cells = cs := by
            unfold cOp at k2
            split at k2 <;> first
              | (rename_i t hot
                 obtain ⟨z, hz, he⟩ := Option.map_eq_some_iff.1 k2
                 cases he
                 exact ⟨t, hot, z, hz, rfl⟩)
              | (exfalso; revert k2; repeat' split
                 all_goals (intro k2; first | cases k2 | (obtain ⟨_, _, k3⟩ := Option.map_eq_some_iff.1 k2; cases k3)))
          obtain ⟨ti, zv, hi', hzv, _, _, hzr⟩ := zero_rep (R := C'.R) hz
          obtain ⟨C2, q1, q2, q3, q4, q5⟩ := newVar_at (P := P) (t := t) hC' hcg hzr
          have hdoes : Does P (Instr.alloc t true (.tuple #[])) C' (fun x Hx => x = .ptr (n + j) 0 ∧ Hx = C'.H.set (n + j) (.box z.cells)) := by
            refine ⟨C2, _, _, ?_, q2, q3, q4, rfl, q5⟩
            simp only [Instr.alloc, Sem.run_bind, zeroValue, typeInfo, run_program, Result.andThen_ok, hi', hzv, Sem.run_pure] at q1 ⊢
            exact q1
          refine wp_does (s := Instr.alloc t true (.tuple #[])) (by unfold execOp; rw [hot]) hdoes fun C3 x u t3 r3 vr hK => ?_
          obtain ⟨rfl, hH3⟩ := hK
          refine ih (listed.setIfInBounds i true) C3 (a'.put o.dst u) (by simpa using hsz) hfu hcl2 (ht.trans t3) r3 ?_ ?_ (put_defers.trans hdf)
          · have hadd : selH (fun q => (listed.setIfInBounds i true).getD q false) 0 rs H1 = H1 := by
              have h3 := selH_add (S := fun q => listed.getD q false) (S' := fun q => (listed.setIfInBounds i true).getD q false) rs 0 i H1 hrs (by simpa using hSi) (by simpa using hset1) (fun j hj => hset j (by omega)) fun j v' r' _ _ _ hr => absurd rfl hr
              rw [h3, hsel]; simp [Eff.app]
            rw [hadd, hH3, hide_put (S := fun q => listed.getD q false) hal hx rfl hH1j hset1 hset, hH]
          · have := draw_put (n := n) (e := e) (S' := fun i_1 => (listed.setIfInBounds i true).getD i_1 false) F hcl hSi hx hrs hset1 hset
            rw [this]
            exact put_rep (CRep_tr t3.R _ _ hE') vr
  have hS0 : (fun i => (Array.replicate ops.size false).getD i false) = fun _ => false := by
    funext i
    simp [Array.getElem?_replicate]
    split <;> rfl
  have e1 : selE (fun _ => false) 0 (rsvL n l) rs e = e := selE_none _ _ _ _ fun _ _ => rfl
  have e2 : selH (fun _ => false) 0 rs H1 = H1 := selH_none _ _ _ fun _ _ => rfl
  obtain ⟨C1, c1, c2, c3, c4⟩ := resv_many (drew_rep hC) (alcL l).length
  have t1 : Tr C C1 := (drew_tr C).trans c3
  show wpAny P .any ops Q ops.size (Array.replicate ops.size false) a C.drew.w
  rw [← c1]
  refine main ops.size (Array.replicate ops.size false) C1 a (by simp) (by simp [unl_rep]) ?_ t1 c4 ?_ ?_ rfl
  · rw [hS0]
    intro i hi
    cases hi
  · rw [hS0, e2, ← hH1, hide_none F.num hnl.symm, c2]; rfl
  · rw [hS0, e1]
    exact CRep_tr t1.R _ _ hE
theorem sepK_nil {K : K1} : sepK [] K = K := by
  funext e H
  simp [sepK, sepAll]
theorem draw_sound {p : Md} {ops : Array Oper} {Q : Exit → Act → World → Prop} {K : K1} {id : Nat} {aos : List AO} (hm : P.follows .mixedOrders = true) (h : cOps P ops ops.toList = some aos) (hz : alcNone (aos.map (AO.dr p)) = true) (hd : drawOk [] ops.toList (aos.map (AO.dr p)) = true)
    (C : Ctx) (a : Act) (e : List V) (hC : HRep C) (hE : CRep C.R e a.tmps.toList) (hk : Av.ops P (aos.map (AO.dr p)) K e C.H)
    (hn : ∀ (C' : Ctx) (a' : Act) (e' : List V), Tr C C' → HRep C' → CRep C'.R e' a'.tmps.toList → a'.defers = a.defers → K e' C'.H → Q .normal a' C'.w) : (Code.region id ops true).wp P Q a C.w :=
  drawX_sound (ps := []) (bx := []) hm h ⟨hz, .inl rfl⟩ (alcL_none hz).symm hd C a e hC hE (by unfold drawP; rw [sepK_nil]; exact hk) hn
end
end Go.Av
namespace Go.Av
open Go Go.RowKit
set_option autoImplicit false
set_option linter.all false
section
variable {P : Program}
def exOf : Exit → Option Ex
  | .normal => some .norm
  | .exit id => some (.exit id)
  | .ret => some .ret
  | _ => none
def post (Q : KQ) (C0 : Ctx) (x : Exit) (a : Act) (w : World) : Prop := ∃ C e y, C.w = w ∧ Tr C0 C ∧ HRep C ∧ CRep C.R e a.tmps.toList ∧ a.defers = [] ∧ exOf x = some y ∧ Q y e C.H
theorem wp_loop_n {c : Code} {Q : Exit → Act → World → Prop} {a : Act} {w : World} (J : Nat → Act → World → Prop) {n : Nat} (h₀ : J n a w)
    (round : ∀ n a w, J n a w → c.wp P (Exit.then (fun a' w' => ∃ m, m < n ∧ J m a' w') Q) a w) : (Code.loop c).wp P Q a w := by
  intro b k cs
  have key : ∀ n a w, J n a w →
      ∃ e a' w', Q e a' w' ∧ Arrives P (lone (b.at a (.code c :: .inLoop c :: k)) cs w) b k cs e a' w' := by
    intro n
    induction n using Nat.strongRecOn with
    | _ n ih =>
      intro a w hI
      obtain ⟨e, a₁, w₁, hq, harr⟩ := round n a w hI b (.inLoop c :: k) cs
      cases e with
      | normal =>
        obtain ⟨m, hlt, hI₁⟩ := hq
        obtain ⟨e₂, a₂, w₂, hq₂, harr₂⟩ := ih m hlt a₁ w₁ hI₁
        exact ⟨e₂, a₂, w₂, hq₂, .of_steps (Steps.trans harr (.one step_inLoop)) harr₂⟩
      | exit id => exact ⟨_, a₁, w₁, hq, .pass (x := .inLoop c) rfl (fun _ _ => .inl (by simp)) harr⟩
      | goto l => exact ⟨_, a₁, w₁, hq, .pass (x := .inLoop c) rfl (fun _ _ => .inl (by simp)) harr⟩
      | ret => exact ⟨_, a₁, w₁, hq, .pass (x := .inLoop c) rfl (fun _ _ => .inl (by simp)) harr⟩
      | panic ch => exact ⟨_, a₁, w₁, hq, .pass (x := .inLoop c) rfl (fun _ _ => .inl (by simp)) harr⟩
      | outgrown => exact ⟨_, a₁, w₁, hq, .pass (x := .inLoop c) rfl (fun _ _ => .inl (by simp)) harr⟩
  obtain ⟨e, a', w', hq, harr⟩ := key _ a w h₀
  exact ⟨e, a', w', hq, .of_steps (.one step_loop) harr⟩
/-- What is compiled, and to what. -/
inductive CompR (P : Program) : Code → AC → Prop
  | skip : CompR P .skip .skip
  | label {l : Nat} : CompR P (.label l) .skip
  | ops {id : Nat} {os : Array Oper} {l : List AO} (h : cOps P os os.toList = some l) : CompR P (.region id os false) (.ops l)
  | draw {id : Nat} {os : Array Oper} {l : List AO} {p : Md} (h : cOps P os os.toList = some l) (hm : P.follows .mixedOrders = true) (hz : alcNone (l.map (AO.dr p)) = true) (hd : drawOk [] os.toList (l.map (AO.dr p)) = true) : CompR P (.region id os true) (.draw (l.map (AO.dr p)))
  | drawX {id : Nat} {os : Array Oper} {l l' : List AO} {p : Md} {ps : List (Nat × Nat)} {bx : List (List V)} (h : cOps P os os.toList = some l) (hm : P.follows .mixedOrders = true) (ht : Told p l l') (hb : bx = alcL l') (hd : drawOk ps os.toList l' = true) : CompR P (.region id os true) (.drawX bx ps l')
  | seq {a b : Code} {x y : AC} (h : comp P a = some x) (k : comp P b = some y) : CompR P (.seq a b) (.seq x y)
  | cond {c : Operand} {o : Opd} {a b : Code} {x y : AC} (g : cOpd c = some o) (h : comp P a = some x) (k : comp P b = some y) : CompR P (.cond c a b) (.cond o x y)
  | block {id : Nat} {a : Code} {x : AC} (h : comp P a = some x) : CompR P (.block id a) (.block id x)
  | loop {a : Code} {x : AC} (h : comp P a = some x) : CompR P (.loop a) (.loop x)
  | exit {id : Nat} : CompR P (.exit id) (.exit id)
  | scope {a : Code} {x : AC} (h : comp P a = some x) : CompR P (.scope a) (.scope x)
  | ret : CompR P .ret .ret
  | bad {c : Code} : CompR P c .bad
theorem comp_rel {c : Code} {x : AC} (h : comp P c = some x) : CompR P c x := by
  unfold comp at h
  split at h
  · cases h; exact .skip
  · split at h
    · rename_i l hl
      cases h; exact .ops hl
    · cases h; exact .bad
  · rename_i id ops
    split at h
    · rename_i l hl
      split at h
      · rename_i hm
        cases h
        have hB : ∀ {p : Md} {r : AC}, CompR P (.region id ops true) r → CompR P (.region id ops true) (drawB p ops.toList l r) := fun {p r} hr => by
          unfold drawB
          split
          · rename_i hh; simp only [Bool.and_eq_true] at hh; exact .draw hl hm hh.1 hh.2
          · exact hr
        have hD : ∀ {p : Md} {r : AC}, CompR P (.region id ops true) r → CompR P (.region id ops true) (drawD p ops.toList l r) := fun {p r} hr => by
          unfold drawD
          split
          · rename_i hh; simp only [Bool.and_eq_true] at hh; exact .drawX hl hm ⟨hh.1, .inl rfl⟩ (alcL_none hh.1).symm hh.2
          · exact hr
        have hE : ∀ {p : Md} {r : AC}, CompR P (.region id ops true) r → CompR P (.region id ops true) (drawE p ops.toList l r) := fun {p r} hr => by
          unfold drawE
          split
          · rename_i hh; simp only [Bool.and_eq_true] at hh; exact .drawX hl hm ⟨hh.1, .inr rfl⟩ rfl hh.2
          · exact hr
        unfold drawC
        cases l.any (fun o => isPC P o.op)
        · exact hB (hB (hD (hD (hE (hE .bad)))))
        · exact hB (hB (hD (hD (hE (hE .bad)))))
      · cases h; exact .bad
    · cases h; exact .bad
  · split at h
    · rename_i x y h1 h2
      cases h; exact .seq h1 h2
    · cases h
  · split at h
    · rename_i c x y h0 h1 h2
      cases h; exact .cond h0 h1 h2
    · cases h
  · obtain ⟨l, hl, rfl⟩ := Option.map_eq_some_iff.1 h; exact .block hl
  · obtain ⟨l, hl, rfl⟩ := Option.map_eq_some_iff.1 h; exact .loop hl
  · cases h; exact .exit
  · obtain ⟨l, hl, rfl⟩ := Option.map_eq_some_iff.1 h; exact .scope hl
  · cases h; exact .label
  · cases h; exact .ret
  · cases h; exact .bad
theorem awp_sound {n0 : Nat} : ∀ (ac : AC) (code : Code), comp P code = some (strip ac) → ∀ (Q : KQ) (C0 C : Ctx) (a : Act) (e : List V), C0.H.length = n0 → Tr C0 C → HRep C → CRep C.R e a.tmps.toList → a.defers = [] → awp P n0 ac Q e C.H → code.wp P (post Q C0) a C.w
  | .wk x, code, h, Q, C0, C, a, e, hn, ht, hC, hE, hd, hk => by
    simp only [awp, WkP] at hk
    obtain ⟨e', H', hw, hk⟩ := hk
    obtain ⟨C', w', k1, k2, k3, k4⟩ := Wk_sound hw C0 C _ hn rfl ht hC hE
    rw [← w']
    subst k1
    exact awp_sound x code (by simpa only [strip] using h) Q C0 C' a e' hn k2 k3 k4 hd hk
  | .skip, code, h, Q, C0, C, a, e, hn, ht, hC, hE, hd, hk => by
    simp only [awp] at hk
    rcases comp_rel h
    · exact wp_skip ⟨C, e, _, rfl, ht, hC, hE, hd, rfl, hk⟩
    · exact wp_label ⟨C, e, _, rfl, ht, hC, hE, hd, rfl, hk⟩
  | .ops l, code, h, Q, C0, C, a, e, hn, ht, hC, hE, hd, hk => by
    simp only [awp] at hk
    cases comp_rel h with | ops h1 =>
    exact region_sound h1 C a e hC hE hk fun C' a' e' t' r' c' d' k' => ⟨C', e', _, rfl, ht.trans t', r', c', d'.trans hd, rfl, k'⟩
  | .draw l, code, h, Q, C0, C, a, e, hn, ht, hC, hE, hd, hk => by
    simp only [awp] at hk
    cases comp_rel h with | draw h1 h2 h3 h4 =>
    exact draw_sound h2 h1 h3 h4 C a e hC hE hk fun C' a' e' t' r' c' d' k' => ⟨C', e', _, rfl, ht.trans t', r', c', d'.trans hd, rfl, k'⟩
  | .drawX bx ps l, code, h, Q, C0, C, a, e, hn, ht, hC, hE, hd, hk => by
    simp only [awp] at hk
    cases comp_rel h with | drawX h1 h2 h3 h4 h5 =>
    exact drawX_sound h2 h1 h3 h4 h5 C a e hC hE hk fun C' a' e' t' r' c' d' k' => ⟨C', e', _, rfl, ht.trans t', r', c', d'.trans hd, rfl, k'⟩
  | .seq x y, code, h, Q, C0, C, a, e, hn, ht, hC, hE, hd, hk => by
    simp only [awp] at hk
    cases comp_rel h with | @seq p q _ _ h1 h2 =>
    refine wp_seq (wp_mono (awp_sound x p h1 _ C0 C a e hn ht hC hE hd hk) ?_)
    rintro ex a' w' ⟨C', e', z, rfl, t', r', c', d', hx, hq⟩
    cases ex <;> simp only [exOf, reduceCtorEq, Option.some.injEq] at hx <;> subst hx
    · exact awp_sound y q h2 Q C0 C' a' e' hn t' r' c' d' hq
    · exact ⟨C', e', _, rfl, t', r', c', d', rfl, hq⟩
    · exact ⟨C', e', _, rfl, t', r', c', d', rfl, hq⟩
  | .cond x y z, code, h, Q, C0, C, a, e, hn, ht, hC, hE, hd, hk => by
    simp only [awp, condK] at hk
    cases comp_rel h with | @cond p _ q r _ _ h1 h2 h3 =>
    have hv := opd_rep h1 hE
    split at hk
    · rename_i t hx
      rw [hx, VRep_bool] at hv
      cases t
      · exact wp_cond_false hv (awp_sound z r h3 Q C0 C a e hn ht hC hE hd hk)
      · exact wp_cond_true hv (awp_sound y q h2 Q C0 C a e hn ht hC hE hd hk)
    · exact hk.elim
  | .block id x, code, h, Q, C0, C, a, e, hn, ht, hC, hE, hd, hk => by
    simp only [awp] at hk
    cases comp_rel h with | @block _ p _ h1 =>
    refine wp_block (wp_mono (awp_sound x p h1 _ C0 C a e hn ht hC hE hd hk) ?_)
    rintro ex a' w' ⟨C', e', z, rfl, t', r', c', d', hx, hq⟩
    cases ex <;> simp only [exOf, reduceCtorEq, Option.some.injEq] at hx <;> subst hx
    · exact ⟨C', e', _, rfl, t', r', c', d', rfl, hq⟩
    · rename_i i
      simp only [blockK] at hq
      simp only [Exit.inBlock]
      by_cases hi : i = id
      · subst hi
        simp only [beq_self_eq_true, cond_true] at hq
        rw [if_pos rfl]
        exact ⟨C', e', _, rfl, t', r', c', d', rfl, hq⟩
      · rw [if_neg hi]
        have : (i == id) = false := by simp [hi]
        rw [this] at hq
        exact ⟨C', e', _, rfl, t', r', c', d', rfl, hq⟩
    · exact ⟨C', e', _, rfl, t', r', c', d', rfl, hq⟩
  | .loop x, code, h, Q, C0, C, a, e, hn, ht, hC, hE, hd, hk => by
    simp only [awp, LoopP] at hk
    cases comp_rel h with | @loop p _ h1 =>
    obtain ⟨I, ⟨n, e1, H1, hw, hI⟩, hr⟩ := hk
    let J : Nat → Act → World → Prop := fun n a w => ∃ C e, C.w = w ∧ Tr C0 C ∧ HRep C ∧ CRep C.R e a.tmps.toList ∧ a.defers = [] ∧ I n e C.H
    have h0 : J n a C.w := by
      obtain ⟨C', w', k1, k2, k3, k4⟩ := Wk_sound hw C0 C _ hn rfl ht hC hE
      subst k1
      exact ⟨C', e1, w', k2, k3, k4, hd, hI⟩
    refine wp_loop_n J h0 ?_
    rintro n a w ⟨C, e, rfl, ht, hC, hE, hd, hI⟩
    refine wp_mono (awp_sound x p h1 _ C0 C a e hn ht hC hE hd (hr n e C.H hI)) ?_
    rintro ex a' w' ⟨C', e', z, rfl, t', r', c', d', hx, hq⟩
    cases ex <;> simp only [exOf, reduceCtorEq, Option.some.injEq] at hx <;> subst hx
    · obtain ⟨m, e2, H2, hm, hw2, hI2⟩ := hq
      obtain ⟨C2, w2, k1, k2, k3, k4⟩ := Wk_sound hw2 C0 C' _ hn rfl t' r' c'
      subst k1
      exact ⟨m, hm, C2, e2, w2, k2, k3, k4, d', hI2⟩
    · exact ⟨C', e', _, rfl, t', r', c', d', rfl, hq⟩
    · exact ⟨C', e', _, rfl, t', r', c', d', rfl, hq⟩
  | .exit id, code, h, Q, C0, C, a, e, hn, ht, hC, hE, hd, hk => by
    simp only [awp] at hk
    cases comp_rel h with | exit =>
    exact wp_exit ⟨C, e, _, rfl, ht, hC, hE, hd, rfl, hk⟩
  | .scope x, code, h, Q, C0, C, a, e, hn, ht, hC, hE, hd, hk => by
    simp only [awp] at hk
    cases comp_rel h with | @scope p _ h1 =>
    refine wp_scope_straight (wp_mono (awp_sound x p h1 _ C0 C a e hn ht hC hE hd hk) ?_)
    rintro ex a' w' ⟨C', e', z, rfl, t', r', c', d', hx, hq⟩
    cases ex <;> simp only [exOf, reduceCtorEq, Option.some.injEq] at hx <;> subst hx
    · exact ⟨C', e', _, rfl, t', r', c', d', rfl, hq⟩
    · exact ⟨C', e', _, rfl, t', r', c', d', rfl, hq⟩
    · exact ⟨C', e', _, rfl, t', r', c', d', rfl, hq⟩
  | .ret, code, h, Q, C0, C, a, e, hn, ht, hC, hE, hd, hk => by
    simp only [awp] at hk
    cases comp_rel h with | ret =>
    exact wp_ret ⟨C, e, _, rfl, ht, hC, hE, hd, rfl, hk⟩
  | .bad, code, h, Q, C0, C, a, e, hn, ht, hC, hE, hd, hk => by
    simp only [awp] at hk
end
end Go.Av
namespace Go.Av
open Go Go.RowKit
set_option autoImplicit false
set_option linter.all false
section
variable {P : Program}
/-! ### Functions -/
inductive RA where
  | tmp (t : Nat)
  | cell (a n : Nat) (g : Bool)
def cRes (P : Program) : List ResultVar → Option (List RA)
  | [] => some []
  | .tmp t :: l => (cRes P l).map (.tmp t :: ·)
  | .cell a t :: l => match sizeT P t, cRes P l with | some n, some r => if tyOk P t n then some (.cell a n (isAggT P t) :: r) else none | _, _ => none
def oneV : List V → V
  | [v] => v
  | vs => .tup vs
def resK : List RA → List V → KV → List V → List Entry → Prop
  | [], acc, K, _, H => K (oneV acc) H
  | .tmp t :: l, acc, K, e, H => resK l (acc ++ [nth e t]) K e H
  | .cell a n g :: l, acc, K, e, H => loadK n g (nth e a) H (fun v H' => resK l (acc ++ [v]) K e H')
def finK (rs : List RA) (K : KV) : KQ
  | .norm, e, H => resK rs [] K e H
  | .ret, e, H => resK rs [] K e H
  | .exit _, _, _ => False
def resOne (tmps : Array Value) : ResultVar → Sem Value
  | .tmp t => pure (tmps.getD t undef)
  | .cell a t => do loadVar t (← asAddr (tmps.getD a undef))
theorem results_eq (fn : Func) (tmps : Array Value) : results fn tmps = (do let vs ← fn.results.toList.mapM (resOne tmps); pure (if vs.length = 1 then vs.headD undef else .tuple vs.toArray)) := by
  have h0 : results fn tmps = (do let vs ← fn.results.mapM (resOne tmps); pure (if h : vs.size = 1 then vs[0] else .tuple vs)) := by
    unfold results
    congr 1
  rw [h0, Array.mapM_eq_mapM_toList]
  simp only [bind_map_left]
  congr 1
  funext vs
  by_cases h : vs.length = 1
  · obtain ⟨v, rfl⟩ := List.length_eq_one_iff.1 h
    simp
  · simp [h]
theorem load_as {t : TypeId} {v u : Value} {w w' : World} (h : (Instr.loadAt t v).run P w = .ok u w') : (do loadVar t (← asAddr v)).run P w = .ok u w' := by
  unfold Instr.loadAt Instr.sureAddr at h
  unfold asAddr
  split at h
  · exact h
  · simp at h
theorem resK_sound {K : KV} : ∀ (l : List ResultVar) (rs : List RA), cRes P l = some rs → ∀ (C : Ctx) (e : List V) (tmps : Array Value) (acc : List V) (ds : List Value), HRep C → CRep C.R e tmps.toList → CRep C.R acc ds → resK rs acc K e C.H →
    ∃ (vs : List Value) (xs : List V), (l.mapM (resOne tmps)).run P C.w = .ok vs C.w ∧ CRep C.R xs (ds ++ vs) ∧ K (oneV xs) C.H
  | [], rs, h, C, e, tmps, acc, ds, hC, hE, ha, hk => by
    simp only [cRes, Option.some.injEq] at h
    subst h
    exact ⟨[], acc, by simp, by simpa using ha, hk⟩
  | .tmp t :: l, rs, h, C, e, tmps, acc, ds, hC, hE, ha, hk => by
    simp only [cRes] at h
    obtain ⟨r, hr, rfl⟩ := Option.map_eq_some_iff.1 h
    simp only [resK] at hk
    have hv : VRep C.R (nth e t) (tmps.getD t undef) := by
      have := CRep_nth t hE
      simpa using this
    obtain ⟨vs, xs, h1, h4, h5⟩ := resK_sound l r hr C e tmps (acc ++ [nth e t]) (ds ++ [tmps.getD t undef]) hC hE (CRep_append ha (CRep_cons hv CRep_nil)) hk
    refine ⟨tmps.getD t undef :: vs, xs, ?_, by simpa using h4, h5⟩
    simp only [List.mapM_cons, resOne, Sem.run_bind, Sem.run_pure, Result.andThen_ok, h1]
  | .cell a t :: l, rs, h, C, e, tmps, acc, ds, hC, hE, ha, hk => by
    simp only [cRes] at h
    split at h
    · rename_i n r hn hr
      split at h
      · rename_i hty
        cases h
        simp only [resK] at hk
        have hv : VRep C.R (nth e a) (tmps.getD a undef) := by
          have := CRep_nth a hE
          simpa using this
        obtain ⟨x, v, h1, h4, h5⟩ := load_reads (P := P) hn hty hC hv hk
        obtain ⟨vs, xs, k1, k4, k5⟩ := resK_sound l r hr C e tmps (acc ++ [x]) (ds ++ [v]) hC hE (CRep_append ha (CRep_cons h4 CRep_nil)) h5
        refine ⟨v :: vs, xs, ?_, by simpa using k4, k5⟩
        have h1' : (resOne tmps (.cell a t)).run P C.w = .ok v C.w := load_as h1
        simp only [List.mapM_cons, Sem.run_bind, h1', Sem.run_pure, Result.andThen_ok, k1]
      · cases h
    · cases h
theorem oneV_rep {R : Rd} {xs : List V} {vs : List Value} (h : CRep R xs vs) : VRep R (oneV xs) (if vs.length = 1 then vs.headD undef else .tuple vs.toArray) := by
  have hl := CRep_length h
  cases xs with
  | nil =>
    simp only [CRep] at h
    subst h
    simp only [oneV, VRep]
    exact ⟨[], rfl, by simp [CRep]⟩
  | cons x xs =>
    cases xs with
    | nil =>
      simp only [CRep] at h
      obtain ⟨d, r, rfl, h1, rfl⟩ := h
      simpa [oneV] using h1
    | cons y xs =>
      simp only [List.length_cons] at hl
      rw [if_neg (by omega)]
      simp only [oneV]
      rw [show VRep R (.tup (x :: y :: xs)) (.tuple vs.toArray) ↔ ∃ ds : List Value, Value.tuple vs.toArray = .tuple ds.toArray ∧ CRep R (x :: y :: xs) ds by simp only [VRep]]
      exact ⟨vs, rfl, h⟩
theorem undefs_rep {R : Rd} : ∀ n : Nat, CRep R (List.replicate n undefV) (List.replicate n undef)
  | 0 => CRep_nil
  | n + 1 => CRep_cons VRep_undef (undefs_rep n)
/-- A function's body, walked: that is its call. -/
theorem acall_of {f : FuncId} {fn : Func} {c : Code} {ac : AC} {rs : List RA} {args : List V} {H : List Entry} {K : KV} {nt m : Nat} (hf : P.funcs[f]? = some fn) (hb : fn.body = some c) (hc : comp P c = some (strip ac)) (hr : cRes P fn.results.toList = some rs) (hnt : fn.ntmps = nt) (hm : args.length + m = nt)
    (h : awp P H.length ac (finK rs K) (args ++ List.replicate m undefV) H) : ACall P f args H K := by
  intro C vals hH hC hv
  have hl := CRep_length hv
  refine calls_of_wp hf hb ?_
  have he : (⟨vals.toArray ++ Array.replicate (fn.ntmps - vals.toArray.size) undef, []⟩ : Act).tmps.toList = vals ++ List.replicate m undef := by
    have : fn.ntmps - vals.toArray.size = m := by simp; omega
    rw [this]; simp
  have hw := awp_sound ac c hc (finK rs K) C C ⟨vals.toArray ++ Array.replicate (fn.ntmps - vals.toArray.size) undef, []⟩ (args ++ List.replicate m undefV) (by rw [hH]) (Tr.refl C) hC (by rw [he]; exact CRep_append hv (undefs_rep m)) rfl (by rw [hH]; exact h)
  refine wp_mono hw ?_
  rintro x a w ⟨C', e, y, rfl, ht, hC', hE, hd, hx, hq⟩
  have fin : resK rs [] K e C'.H → a.defers = [] ∧ ∃ v, (results fn a.tmps).run P C'.w = .ok v C'.w ∧ ∃ (C2 : Ctx) (x : V) (u : Value), Ending.returned v = .returned u ∧ C2.w = C'.w ∧ Tr C C2 ∧ HRep C2 ∧ VRep C2.R x u ∧ K x C2.H := by
    intro hk
    obtain ⟨vs, xs, k1, k4, k5⟩ := resK_sound fn.results.toList rs hr C' e a.tmps [] [] hC' hE CRep_nil hk
    refine ⟨hd, _, ?_, C', oneV xs, _, rfl, rfl, ht, hC', oneV_rep (by simpa using k4), k5⟩
    rw [results_eq]
    simp only [Sem.run_bind, k1, Result.andThen_ok, Sem.run_pure]
  cases x <;> simp only [exOf, reduceCtorEq, Option.some.injEq] at hx <;> subst hx
  · exact fin hq
  · exact hq.elim
  · exact fin hq
end
end Go.Av
namespace Go.Av
open Go Go.RowKit
set_option autoImplicit false
set_option linter.all false
/-! ### Other numbers -/
mutual
def ren (ρ : Nat → Nat) : V → V
  | .agg cs => .agg (rens ρ cs)
  | .tup cs => .tup (rens ρ cs)
  | .fn f a b => .fn f (rens ρ a) (rens ρ b)
  | .own g len => .own (ρ g) len
  | .ptr g off => .ptr (ρ g) off
  | .eptr g len i off => .eptr (ρ g) len i off
  | .cut g len i j => .cut (ρ g) len i j
  | .map g => .map (ρ g)
  | .it g => .it (ρ g)
  | v => v
def rens (ρ : Nat → Nat) : List V → List V
  | [] => []
  | x :: l => ren ρ x :: rens ρ l
end
def renM (ρ : Nat → Nat) : List (V × V) → List (V × V)
  | [] => []
  | (k, x) :: l => (ren ρ k, ren ρ x) :: renM ρ l
def renE (ρ : Nat → Nat) : Entry → Entry
  | .box cs => .box (rens ρ cs)
  | .map kvs => .map (renM ρ kvs)
  | e => e
theorem renE_shp (ρ : Nat → Nat) (e : Entry) : (renE ρ e).shp = e.shp := by cases e <;> rfl
theorem renE_owned (ρ : Nat → Nat) (e : Entry) : (renE ρ e).owned = e.owned := by cases e <;> rfl
theorem sl_deep {R R' : Rd} (h : RTr R.deep R'.deep) {n : Nat} {xs : List V} {v : Value} (hv : VRep R (.sl n xs) v) : VRep R' (.sl n xs) v := by
  have h2 : VRep R.deep (.sl n xs) v := by simp only [VRep] at hv ⊢; exact hv
  have h3 := VRep_tr h _ v h2
  simp only [VRep] at h3 ⊢; exact h3
theorem slx_deep {R R' : Rd} (h : RTr R.deep R'.deep) {n : Nat} {xs : List V} {v : Value} (hv : VRep R (.slx n xs) v) : VRep R' (.slx n xs) v := by
  have h2 : VRep R.deep (.slx n xs) v := by simp only [VRep] at hv ⊢; exact hv
  have h3 := VRep_tr h _ v h2
  simp only [VRep] at h3 ⊢; exact h3
theorem ref_deep {R R' : Rd} (h : RTr R.deep R'.deep) {xs : List V} {v : Value} (hv : VRep R (.ref xs) v) : VRep R' (.ref xs) v := by
  have h2 : VRep R.deep (.ref xs) v := by simp only [VRep] at hv ⊢; exact hv
  have h3 := VRep_tr h _ v h2
  simp only [VRep] at h3 ⊢; exact h3
/-- One reading's numbers are told by the other's. -/
structure Ren (R R' : Rd) (ρ : Nat → Nat) : Prop where
  deep : RTr R.deep R'.deep
  id : ∀ g s, R.sh g = some s → s ≠ .resv → R'.sh (ρ g) = some s ∧ R'.β (ρ g) = R.β g
mutual
theorem VRep_ren {R R' : Rd} {ρ : Nat → Nat} (h : Ren R R' ρ) : ∀ (x : V) (v : Value), VRep R x v → VRep R' (ren ρ x) v
  | .bool _, _, hv => by simpa only [VRep, ren] using hv
  | .int _ _, _, hv => by simpa only [VRep, ren] using hv
  | .str _, _, hv => by simpa only [VRep, ren] using hv
  | .agg cs, _, hv => by
    simp only [VRep, ren] at hv ⊢
    obtain ⟨ds, rfl, hc⟩ := hv
    exact ⟨ds, rfl, CRep_ren h cs ds hc⟩
  | .tup cs, _, hv => by
    simp only [VRep, ren] at hv ⊢
    obtain ⟨ds, rfl, hc⟩ := hv
    exact ⟨ds, rfl, CRep_ren h cs ds hc⟩
  | .nilsl, _, hv => by simpa only [VRep, ren] using hv
  | .sl n xs, v, hv => sl_deep h.deep hv
  | .slx n xs, v, hv => slx_deep h.deep hv
  | .own g len, v, hv => by
    simp only [VRep, ren] at hv ⊢
    refine ⟨hv.1, ?_⟩
    cases hs : R.sh g with
    | none => rw [hs] at hv; exact hv.2.elim
    | some s =>
      rw [hs] at hv
      obtain ⟨h1, h2⟩ := h.id g s hs (by rintro rfl; exact hv.2.elim)
      rw [h1, h2]; exact hv.2
  | .nilp, _, hv => by simpa only [VRep, ren] using hv
  | .ref cs, v, hv => ref_deep h.deep hv
  | .ptr g off, v, hv => by
    simp only [VRep, ren] at hv ⊢
    refine ⟨hv.1, ?_⟩
    cases hs : R.sh g with
    | none => rw [hs] at hv; exact hv.2.elim
    | some s =>
      rw [hs] at hv
      obtain ⟨h1, h2⟩ := h.id g s hs (by rintro rfl; exact hv.2.elim)
      rw [h1, h2]; exact hv.2
  | .eptr g len i off, v, hv => by
    simp only [VRep, ren] at hv ⊢
    refine ⟨hv.1, ?_⟩
    cases hs : R.sh g with
    | none => rw [hs] at hv; exact hv.2.elim
    | some s =>
      rw [hs] at hv
      obtain ⟨h1, h2⟩ := h.id g s hs (by rintro rfl; exact hv.2.elim)
      rw [h1, h2]; exact hv.2
  | .cut g len i j, v, hv => by
    simp only [VRep, ren] at hv ⊢
    refine ⟨hv.1, ?_⟩
    cases hs : R.sh g with
    | none => rw [hs] at hv; exact hv.2.elim
    | some s =>
      rw [hs] at hv
      obtain ⟨h1, h2⟩ := h.id g s hs (by rintro rfl; exact hv.2.elim)
      rw [h1, h2]; exact hv.2
  | .nilfn, _, hv => by simpa only [VRep, ren] using hv
  | .fn f a b, _, hv => by
    simp only [VRep, ren] at hv ⊢
    obtain ⟨x, y, rfl, h1, h2⟩ := hv
    exact ⟨x, y, rfl, CRep_ren h a x h1, CRep_ren h b y h2⟩
  | .nilmap, _, hv => by simpa only [VRep, ren] using hv
  | .map g, v, hv => by
    simp only [VRep, ren] at hv ⊢
    refine ⟨hv.1, ?_⟩
    cases hs : R.sh g with
    | none => rw [hs] at hv; exact hv.2.elim
    | some s =>
      rw [hs] at hv
      obtain ⟨h1, h2⟩ := h.id g s hs (by rintro rfl; exact hv.2.elim)
      rw [h1, h2]; exact hv.2
  | .it g, v, hv => by
    simp only [VRep, ren] at hv ⊢
    refine ⟨hv.1, ?_⟩
    cases hs : R.sh g with
    | none => rw [hs] at hv; exact hv.2.elim
    | some s =>
      rw [hs] at hv
      obtain ⟨h1, h2⟩ := h.id g s hs (by rintro rfl; exact hv.2.elim)
      rw [h1, h2]; exact hv.2
  | .junk, _, _ => by simp only [VRep, ren]
theorem CRep_ren {R R' : Rd} {ρ : Nat → Nat} (h : Ren R R' ρ) : ∀ (cs : List V) (ds : List Value), CRep R cs ds → CRep R' (rens ρ cs) ds
  | [], _, hv => by simpa only [CRep, rens] using hv
  | c :: cs, ds, hv => by
    simp only [CRep, rens] at hv ⊢
    obtain ⟨d, r, rfl, h1, h2⟩ := hv
    exact ⟨d, r, rfl, VRep_ren h c d h1, CRep_ren h cs r h2⟩
end
theorem MRep_ren {R R' : Rd} {ρ : Nat → Nat} (h : Ren R R' ρ) : ∀ (kvs : List (V × V)) (es : List MapEntry), MRep R kvs es → MRep R' (renM ρ kvs) es
  | [], _, hv => hv
  | (k, x) :: l, es, hv => by
    obtain ⟨e, r, rfl, h1, h2, h3⟩ := hv
    exact ⟨e, r, rfl, VRep_ren h _ _ h1, VRep_ren h _ _ h2, MRep_ren h l r h3⟩
/-- And back, where the numbers are told. -/
structure Unren (R R' : Rd) (ρ : Nat → Nat) (m : Nat) : Prop where
  deep : RTr R'.deep R.deep
  id : ∀ g, g < m → R.sh g = R'.sh (ρ g) ∧ R.β g = R'.β (ρ g)
mutual
theorem VRep_unren {R R' : Rd} {ρ : Nat → Nat} {m : Nat} (h : Unren R R' ρ m) : ∀ (x : V) (v : Value), idsLt m x = true → VRep R' (ren ρ x) v → VRep R x v
  | .bool _, _, _, hv => by simpa only [VRep, ren] using hv
  | .int _ _, _, _, hv => by simpa only [VRep, ren] using hv
  | .str _, _, _, hv => by simpa only [VRep, ren] using hv
  | .agg cs, _, hi, hv => by
    simp only [VRep, ren] at hv ⊢
    obtain ⟨ds, rfl, hc⟩ := hv
    exact ⟨ds, rfl, CRep_unren h cs ds (by simpa only [idsLt] using hi) hc⟩
  | .tup cs, _, hi, hv => by
    simp only [VRep, ren] at hv ⊢
    obtain ⟨ds, rfl, hc⟩ := hv
    exact ⟨ds, rfl, CRep_unren h cs ds (by simpa only [idsLt] using hi) hc⟩
  | .nilsl, _, _, hv => by simpa only [VRep, ren] using hv
  | .sl n xs, v, _, hv => sl_deep h.deep hv
  | .slx n xs, v, _, hv => slx_deep h.deep hv
  | .own g len, v, hi, hv => by
    simp only [VRep, ren] at hv ⊢
    obtain ⟨h1, h2⟩ := h.id g (by simpa only [idsLt, decide_eq_true_eq] using hi)
    rw [h1, h2]; exact hv
  | .nilp, _, _, hv => by simpa only [VRep, ren] using hv
  | .ref cs, v, _, hv => ref_deep h.deep hv
  | .ptr g off, v, hi, hv => by
    simp only [VRep, ren] at hv ⊢
    obtain ⟨h1, h2⟩ := h.id g (by simpa only [idsLt, decide_eq_true_eq] using hi)
    rw [h1, h2]; exact hv
  | .eptr g len i off, v, hi, hv => by
    simp only [VRep, ren] at hv ⊢
    obtain ⟨h1, h2⟩ := h.id g (by simpa only [idsLt, decide_eq_true_eq] using hi)
    rw [h1, h2]; exact hv
  | .cut g len i j, v, hi, hv => by
    simp only [VRep, ren] at hv ⊢
    obtain ⟨h1, h2⟩ := h.id g (by simpa only [idsLt, decide_eq_true_eq] using hi)
    rw [h1, h2]; exact hv
  | .nilfn, _, _, hv => by simpa only [VRep, ren] using hv
  | .fn f a b, _, hi, hv => by
    simp only [VRep, ren] at hv ⊢
    simp only [idsLt, Bool.and_eq_true] at hi
    obtain ⟨x, y, rfl, h1, h2⟩ := hv
    exact ⟨x, y, rfl, CRep_unren h a x hi.1 h1, CRep_unren h b y hi.2 h2⟩
  | .nilmap, _, _, hv => by simpa only [VRep, ren] using hv
  | .map g, v, hi, hv => by
    simp only [VRep, ren] at hv ⊢
    obtain ⟨h1, h2⟩ := h.id g (by simpa only [idsLt, decide_eq_true_eq] using hi)
    rw [h1, h2]; exact hv
  | .it g, v, hi, hv => by
    simp only [VRep, ren] at hv ⊢
    obtain ⟨h1, h2⟩ := h.id g (by simpa only [idsLt, decide_eq_true_eq] using hi)
    rw [h1, h2]; exact hv
  | .junk, _, _, _ => by simp only [VRep]
theorem CRep_unren {R R' : Rd} {ρ : Nat → Nat} {m : Nat} (h : Unren R R' ρ m) : ∀ (cs : List V) (ds : List Value), idsLts m cs = true → CRep R' (rens ρ cs) ds → CRep R cs ds
  | [], _, _, hv => by simpa only [CRep, rens] using hv
  | c :: cs, ds, hi, hv => by
    simp only [CRep, rens] at hv ⊢
    simp only [idsLts, Bool.and_eq_true] at hi
    obtain ⟨d, r, rfl, h1, h2⟩ := hv
    exact ⟨d, r, rfl, VRep_unren h c d hi.1 h1, CRep_unren h cs r hi.2 h2⟩
end
theorem MRep_unren {R R' : Rd} {ρ : Nat → Nat} {m : Nat} (h : Unren R R' ρ m) : ∀ (kvs : List (V × V)) (es : List MapEntry), idsLtM m kvs = true → MRep R' (renM ρ kvs) es → MRep R kvs es
  | [], _, _, hv => hv
  | (k, x) :: l, es, hi, hv => by
    simp only [idsLtM, Bool.and_eq_true] at hi
    obtain ⟨e, r, rfl, h1, h2, h3⟩ := hv
    exact ⟨e, r, rfl, VRep_unren h _ _ hi.1 h1, VRep_unren h _ _ hi.2.1 h2, MRep_unren h l r hi.2.2 h3⟩
end Go.Av
namespace Go.Av
open Go Go.RowKit
set_option autoImplicit false
set_option linter.all false
section
variable {P : Program}
/-- What the callee calls its numbers, the caller calls so. -/
def rho (ps : List Nat) (g : Nat) : Nat := ps.getD g 0
def setAll : List Entry → List Nat → List Entry → List Entry
  | H, g :: gs, e :: es => setAll (H.set g e) gs es
  | H, _, _ => H
theorem setAll_length : ∀ (H : List Entry) (gs : List Nat) (es : List Entry), (setAll H gs es).length = H.length
  | H, [], es => by simp [setAll]
  | H, _ :: _, [] => by simp [setAll]
  | H, g :: gs, e :: es => by simp [setAll, setAll_length (H.set g e) gs es]
theorem setAll_out : ∀ (H : List Entry) (gs : List Nat) (es : List Entry) (g : Nat), g ∉ gs → (setAll H gs es)[g]? = H[g]?
  | H, [], es, g, _ => by simp [setAll]
  | H, _ :: _, [], g, _ => by simp [setAll]
  | H, a :: gs, e :: es, g, h => by
    simp only [List.mem_cons, not_or] at h
    rw [setAll, setAll_out _ gs es g h.2, List.getElem?_set_ne (Ne.symm h.1)]
theorem setAll_in : ∀ (H : List Entry) (gs : List Nat) (es : List Entry) (i g : Nat), gs.Nodup → gs[i]? = some g → g < H.length → gs.length ≤ es.length → (setAll H gs es)[g]? = es[i]?
  | H, [], es, i, g, _, h, _, _ => by simp at h
  | H, _ :: _, [], i, g, _, h, _, hl => by simp at hl
  | H, a :: gs, e :: es, 0, g, hn, h, hg, hl => by
    simp at h; subst h
    rw [setAll, setAll_out _ gs es _ (List.nodup_cons.1 hn).1, List.getElem?_set_self hg]
    rfl
  | H, a :: gs, e :: es, i + 1, g, hn, h, hg, hl => by
    rw [setAll, setAll_in _ gs es i g (List.nodup_cons.1 hn).2 (by simpa using h) (by simpa using hg) (by simpa using hl)]
    simp
theorem nodup_get {gs : List Nat} (hn : gs.Nodup) {i j g : Nat} (h1 : gs[i]? = some g) (h2 : gs[j]? = some g) : i = j := by
  have hi := (List.getElem?_eq_some_iff.1 h1).1
  exact (List.getElem?_inj hi hn).1 (h1.trans h2.symm)
section sub
variable {C : Ctx} {gs : List Nat} {Hs : List Entry}
def Ctx.sub (C : Ctx) (gs : List Nat) (Hs : List Entry) : Ctx :=
  ⟨C.w, fun i => C.β (gs.getD i 0), Hs, fun b => C.av b ∧ ¬ ∃ i e c, Hs[i]? = some e ∧ e.owned = true ∧ C.β (gs.getD i 0) = some (b, c)⟩
/-- The callee's numbers are told. -/
structure Fits (C : Ctx) (gs : List Nat) (Hs : List Entry) : Prop where
  nd : gs.Nodup
  len : Hs.length = gs.length
  ent : ∀ (i : Nat) (e : Entry), Hs[i]? = some e → ∃ g, gs[i]? = some g ∧ C.H[g]? = some (renE (rho gs) e) ∧ idsLtE gs.length e = true
variable (hf : Fits C gs Hs) (hC : HRep C)
include hf
theorem Fits.get {i : Nat} {e : Entry} (h : Hs[i]? = some e) : gs[i]? = some (gs.getD i 0) ∧ C.H[gs.getD i 0]? = some (renE (rho gs) e) ∧ idsLtE gs.length e = true := by
  obtain ⟨g, h1, h2, h3⟩ := hf.ent i e h
  have : gs.getD i 0 = g := by simp [h1]
  rw [this]; exact ⟨h1, h2, h3⟩
theorem sub_own {b : Nat} (h : (C.sub gs Hs).own b) : C.own b := by
  obtain ⟨i, e, c, h1, h2, h3⟩ := h
  obtain ⟨k1, k2, k3⟩ := hf.get h1
  exact ⟨_, _, c, k2, by rw [renE_owned]; exact h2, h3⟩
omit hf in
theorem sub_own_iff {b : Nat} : (C.sub gs Hs).own b ↔ ∃ i e c, Hs[i]? = some e ∧ e.owned = true ∧ C.β (gs.getD i 0) = some (b, c) := Iff.rfl
theorem sub_av {b : Nat} : (C.sub gs Hs).av b ↔ C.av b := by
  constructor
  · rintro (h | h)
    · exact .inl (sub_own hf h)
    · exact h.1
  · intro h
    by_cases ho : (C.sub gs Hs).own b
    · exact .inl ho
    · exact .inr ⟨h, ho⟩
theorem sub_deep : RTr C.R.deep (C.sub gs Hs).R.deep :=
  ⟨Nat.le_refl _, fun b _ hn => ⟨rfl, fun h => hn ((sub_av hf).1 h)⟩, fun g s h => by cases h⟩
theorem sub_unren : Unren (C.sub gs Hs).R C.R (rho gs) gs.length := by
  refine ⟨sub_deep hf, fun g hg => ?_⟩
  have hH : Hs[g]? = some (Hs[g]'(by rw [hf.len]; exact hg)) := List.getElem?_eq_getElem _
  obtain ⟨k1, k2, k3⟩ := hf.get hH
  have hr : rho gs g = gs.getD g 0 := rfl
  rw [hr]
  refine ⟨?_, rfl⟩
  simp only [Ctx.R, Ctx.sh, Ctx.sub, hH, k2, Option.map_some, renE_shp]
include hC
theorem sub_rep : HRep (C.sub gs Hs) := by
  refine ⟨fun i e hi => ?_, ?_, fun b h hF => hF.2 h, fun b hb => ?_⟩
  · obtain ⟨k1, k2, k3⟩ := hf.get hi
    have h0 := hC.ent _ _ k2
    have hu := sub_unren hf
    have hd := sub_deep hf
    cases e with
    | box cs =>
      obtain ⟨b, c, cur, E, h1, h2, h3⟩ := h0
      exact ⟨b, c, cur, E, h1, h2, CRep_unren hu _ _ k3 h3⟩
    | ibox cs =>
      obtain ⟨b, c, cells, h1, h2, h3, h4, h5⟩ := h0
      exact ⟨b, c, cells, h1, fun k => h2 ((sub_av hf).1 k), h3, h4, CRep_tr hd _ _ h5⟩
    | row E n xs =>
      rcases h0 with h0 | ⟨b, cap, cur, cells, h1, h2, h3, h4, h5, h6, h7⟩
      · exact .inl h0
      · exact .inr ⟨b, cap, cur, cells, h1, h2, h3, h4, h5, h6, ERep_tr hd _ _ _ h7⟩
    | irow n xs =>
      rcases h0 with h0 | ⟨b, cap, cells, h1, h2, h3, h4, h5, h6⟩
      · exact .inl h0
      · exact .inr ⟨b, cap, cells, h1, fun k => h2 ((sub_av hf).1 k), h3, h4, h5, ERep_tr hd _ _ _ h6⟩
    | map kvs =>
      obtain ⟨b, c, es, clock, h1, h2, h3⟩ := h0
      exact ⟨b, c, es, clock, h1, h2, MRep_unren hu _ _ k3 h3⟩
    | siter s pos => exact h0
    | resv => trivial
    | gone => trivial
  · intro i j e e' b c c' h1 h2 o1 o2 b1 b2
    obtain ⟨k1, k2, _⟩ := hf.get h1
    obtain ⟨m1, m2, _⟩ := hf.get h2
    have := hC.inj _ _ _ _ b c c' k2 m2 (by rw [renE_owned]; exact o1) (by rw [renE_owned]; exact o2) b1 b2
    rw [this] at k1
    exact nodup_get hf.nd k1 m1
  · rcases hb.1 with h | h
    · exact own_lt hC h
    · exact hC.ltF b h
end sub
section join
variable {C C1 : Ctx} {gs ps : List Nat} {Hs : List Entry}
/-- The caller, when the callee has come back: what is new stands where it was kept free. -/
def Ctx.join (C : Ctx) (ps : List Nat) (C1 : Ctx) : Ctx :=
  ⟨C1.w, fun g => match ps.idxOf? g with | some i => C1.β i | none => C.β g, setAll C.H ps (C1.H.map (renE (rho ps))), C.F⟩
/-- Where what is new is to stand. -/
structure Place (C : Ctx) (gs ps : List Nat) (C1 : Ctx) : Prop where
  nd : ps.Nodup
  len : ps.length = C1.H.length
  old : ∀ (i g : Nat), gs[i]? = some g → ps[i]? = some g
  new : ∀ (i g : Nat), ps[i]? = some g → gs.length ≤ i → C.H[g]? = some .resv
variable (hf : Fits C gs Hs) (hC : HRep C) (ht : Tr (C.sub gs Hs) C1) (h1 : HRep C1) (hp : Place C gs ps C1)
include hf in
theorem gs_lt {i g : Nat} (h : gs[i]? = some g) : g < C.H.length := by
  have hi : i < gs.length := (List.getElem?_eq_some_iff.1 h).1
  have hH : Hs[i]? = some (Hs[i]'(by rw [hf.len]; exact hi)) := List.getElem?_eq_getElem _
  obtain ⟨g', k1, k2, _⟩ := hf.ent i _ hH
  rw [h] at k1; cases k1
  exact (List.getElem?_eq_some_iff.1 k2).1
include hf hp
theorem ps_lt {i g : Nat} (h : ps[i]? = some g) : g < C.H.length := by
  rcases Nat.lt_or_ge i gs.length with hi | hi
  · have h2 : gs[i]? = some gs[i] := List.getElem?_eq_getElem hi
    have := hp.old i _ h2
    rw [h] at this; cases this
    exact gs_lt hf h2
  · exact (List.getElem?_eq_some_iff.1 (hp.new i g h hi)).1
omit hf in
theorem ps_get {j : Nat} (hj : j < C1.H.length) : ps[j]? = some (rho ps j) := by
  have : j < ps.length := by rw [hp.len]; exact hj
  simp [rho, this]
theorem join_get {j : Nat} {e : Entry} (h : C1.H[j]? = some e) : (C.join ps C1).H[rho ps j]? = some (renE (rho ps) e) := by
  have hj := (List.getElem?_eq_some_iff.1 h).1
  have hg := ps_get hp hj
  simp only [Ctx.join]
  rw [setAll_in C.H ps _ j _ hp.nd hg (ps_lt hf hp hg) (by simp [hp.len]), List.getElem?_map, h]
  rfl
omit hf in
theorem join_beta {j : Nat} (h : j < C1.H.length) : (C.join ps C1).β (rho ps j) = C1.β j := by
  simp only [Ctx.join]
  have hg := ps_get hp h
  have : ps.idxOf? (rho ps j) = some j := by
    rw [List.idxOf?_eq_some_iff]
    refine ⟨by rw [hp.len]; exact h, by simpa using (List.getElem?_eq_some_iff.1 hg).2, fun k hk hk2 => ?_⟩
    have hkl : k < ps.length := by rw [hp.len]; omega
    have hk3 : ps[k]? = some (rho ps j) := by
      rw [List.getElem?_eq_getElem hkl]; simpa using hk2
    have := nodup_get hp.nd hk3 hg
    omega
  rw [this]
omit hf hp in
theorem join_old {g : Nat} (hn : g ∉ ps) : (C.join ps C1).H[g]? = C.H[g]? ∧ (C.join ps C1).β g = C.β g := by
  constructor
  · simp only [Ctx.join]
    rw [setAll_out _ _ _ _ hn]
  · simp only [Ctx.join]
    have : ps.idxOf? g = none := by simpa [List.idxOf?_eq_none_iff] using hn
    rw [this]
omit hf in
theorem gs_ps {g : Nat} (h : g ∉ ps) : g ∉ gs := by
  intro hg
  obtain ⟨j, hj⟩ := List.mem_iff_getElem?.1 hg
  exact h (List.mem_of_getElem? (hp.old j g hj))
theorem join_cases {g : Nat} {e : Entry} (h : (C.join ps C1).H[g]? = some e) : (g ∉ ps ∧ C.H[g]? = some e) ∨ ∃ j e0, C1.H[j]? = some e0 ∧ e = renE (rho ps) e0 ∧ g = rho ps j := by
  by_cases hm : g ∈ ps
  · obtain ⟨j, hj⟩ := List.mem_iff_getElem?.1 hm
    have hjl : j < ps.length := (List.getElem?_eq_some_iff.1 hj).1
    have hj1 : j < C1.H.length := by rw [← hp.len]; exact hjl
    have hr : rho ps j = g := by simp [rho, hj]
    have hH : C1.H[j]? = some C1.H[j] := List.getElem?_eq_getElem hj1
    have := join_get hf hp hH
    rw [hr, h] at this
    cases this
    exact .inr ⟨j, _, hH, rfl, hr.symm⟩
  · rw [(join_old (C1 := C1) hm).1] at h
    exact .inl ⟨hm, h⟩
theorem join_own {b : Nat} (h : (C.join ps C1).own b) : (∃ g e c, g ∉ ps ∧ C.H[g]? = some e ∧ e.owned = true ∧ C.β g = some (b, c)) ∨ C1.own b := by
  obtain ⟨g, e, c, k1, k2, k3⟩ := h
  rcases join_cases hf hp k1 with ⟨m2, m3⟩ | ⟨j, e0, m1, rfl, rfl⟩
  · rw [(join_old (C1 := C1) m2).2] at k3
    exact .inl ⟨g, e, c, m2, m3, k2, k3⟩
  · have hj := (List.getElem?_eq_some_iff.1 m1).1
    rw [join_beta hp hj] at k3
    rw [renE_owned] at k2
    exact .inr ⟨j, e0, c, m1, k2, k3⟩
omit hp in
include hC in
/-- What another of the caller's owns, the callee does not. -/
theorem other_own {g b c : Nat} {e : Entry} (hg : g ∉ gs) (he : C.H[g]? = some e) (ho : e.owned = true) (hb : C.β g = some (b, c)) : ¬ (C.sub gs Hs).own b := by
  rintro ⟨i, e', c', k1, k2, k3⟩
  obtain ⟨m1, m2, _⟩ := hf.get k1
  have := hC.inj g _ _ _ b c c' he m2 ho (by rw [renE_owned]; exact k2) hb k3
  exact hg (by rw [this]; exact List.mem_of_getElem? m1)
include hC ht
theorem join_av {b : Nat} (h : (C.join ps C1).av b) : C1.av b := by
  rcases h with h | h
  · rcases join_own hf hp h with ⟨g, e, c, k2, k3, k4, k5⟩ | h
    · have hn := other_own hf hC (gs_ps hp k2) k3 k4 k5
      exact .inr (by rw [ht.F]; exact ⟨.inl ⟨g, e, c, k3, k4, k5⟩, hn⟩)
    · exact .inl h
  · exact .inr (by
      rw [ht.F]
      exact ⟨.inr h, fun k => hC.nF b (sub_own hf k) h⟩)
theorem join_ren : Ren C1.R (C.join ps C1).R (rho ps) := by
  refine ⟨⟨Nat.le_refl _, fun b _ hn => ⟨rfl, fun k => hn (join_av hf hC ht hp k)⟩, fun g s hs => by cases hs⟩, fun g s hs _ => ?_⟩
  have hg : g < C1.H.length := by
    rcases Nat.lt_or_ge g C1.H.length with h | h
    · exact h
    · simp [Ctx.R, Ctx.sh, List.getElem?_eq_none h] at hs
  have hH : C1.H[g]? = some C1.H[g] := List.getElem?_eq_getElem hg
  simp only [Ctx.R, Ctx.sh, hH, Option.map_some, Option.some.injEq] at hs
  subst hs
  refine ⟨?_, join_beta hp hg⟩
  simp only [Ctx.R, Ctx.sh, join_get hf hp hH, Option.map_some, renE_shp]
theorem join_tr : Tr C (C.join ps C1) := by
  refine ⟨ht.os, ht.tape, ht.output, ht.size, rfl, fun b hb hn => ?_, fun g s hs => ?_⟩
  · have hn0 : ¬ (C.sub gs Hs).own b := fun k => hn (sub_own hf k)
    obtain ⟨k1, k2⟩ := ht.keep b hb hn0
    refine ⟨k1, fun k => ?_⟩
    rcases join_own hf hp k with ⟨g, e, c, m2, m3, m4, m5⟩ | k
    · exact hn ⟨g, e, c, m3, m4, m5⟩
    · exact k2 k
  · by_cases hm : g ∈ ps
    · obtain ⟨j, hj⟩ := List.mem_iff_getElem?.1 hm
      have hjl : j < ps.length := (List.getElem?_eq_some_iff.1 hj).1
      have hr : rho ps j = g := by simp [rho, hj]
      have hj1 : j < C1.H.length := by rw [← hp.len]; exact hjl
      rcases Nat.lt_or_ge j gs.length with hjg | hjg
      · have hgj : gs[j]? = some g := by
          have h2 : gs[j]? = some gs[j] := List.getElem?_eq_getElem hjg
          have := hp.old j _ h2
          rw [hj] at this; cases this
          exact h2
        have hrg : rho gs j = g := by simp [rho, hgj]
        obtain ⟨u1, u2⟩ := (sub_unren hf).id j hjg
        rw [hrg] at u1 u2
        have hs0 : (C.sub gs Hs).sh j = some s := u1.trans hs
        obtain ⟨s', k1, k2⟩ := ht.ids j s hs0
        have hH : C1.H[j]? = some C1.H[j] := List.getElem?_eq_getElem hj1
        have r1 : (C.join ps C1).sh g = some s' := by
          rw [← hr]
          simp only [Ctx.sh, join_get hf hp hH, Option.map_some, renE_shp]
          simpa only [Ctx.sh, hH, Option.map_some] using k1
        refine ⟨s', r1, ?_⟩
        have e1 : C.β g = (C.sub gs Hs).β j := u2.symm
        have e2 : (C.join ps C1).β g = C1.β j := by rw [← hr]; exact join_beta hp hj1
        rw [e1, e2]; exact k2
      · have h0 := hp.new j g hj hjg
        simp only [Ctx.sh, h0, Option.map_some, Option.some.injEq, Entry.shp] at hs
        subst hs
        have hH : C1.H[j]? = some C1.H[j] := List.getElem?_eq_getElem hj1
        refine ⟨C1.H[j].shp, ?_, trivial⟩
        rw [← hr]
        simp only [Ctx.sh, join_get hf hp hH, Option.map_some, renE_shp]
    · obtain ⟨k1, k2⟩ := join_old (C := C) (C1 := C1) hm
      exact ⟨s, by simp only [Ctx.sh, k1]; exact hs, by rw [k2]; exact STr.refl _ _⟩
include h1
theorem join_rep : HRep (C.join ps C1) := by
  have hr := join_ren hf hC ht hp
  refine ⟨fun g e he => ?_, ?_, fun b hb hF => ?_, fun b hb => Nat.lt_of_lt_of_le (hC.ltF b hb) ht.size⟩
  · rcases join_cases hf hp he with ⟨m2, m3⟩ | ⟨j, e0, m1, rfl, rfl⟩
    · refine (hC.ent g e m3).keep (join_tr hf hC ht hp) (join_old (C1 := C1) m2).2 fun ho b c hb => ?_
      have hlt := own_lt hC ⟨g, e, c, m3, ho, hb⟩
      exact (ht.keep b hlt (other_own hf hC (gs_ps hp m2) m3 ho hb)).1
    · have hj := (List.getElem?_eq_some_iff.1 m1).1
      have hb := join_beta (C := C) hp hj
      have h0 := h1.ent j e0 m1
      cases e0 with
      | box cs =>
        obtain ⟨b, c, cur, E, k1, k2, k3⟩ := h0
        exact ⟨b, c, cur, E, hb.trans k1, k2, CRep_ren hr _ _ k3⟩
      | ibox cs =>
        obtain ⟨b, c, cells, k1, k2, k3, k4, k5⟩ := h0
        exact ⟨b, c, cells, hb.trans k1, fun k => k2 (join_av hf hC ht hp k), k3, k4, CRep_tr hr.deep _ _ k5⟩
      | row E n xs =>
        rcases h0 with ⟨k1, k2⟩ | ⟨b, cap, cur, cells, k1, k2, k3, k4, k5, k6, k7⟩
        · exact .inl ⟨hb.trans k1, k2⟩
        · exact .inr ⟨b, cap, cur, cells, hb.trans k1, k2, k3, k4, k5, k6, ERep_tr hr.deep _ _ _ k7⟩
      | irow n xs =>
        rcases h0 with ⟨k1, k2⟩ | ⟨b, cap, cells, k1, k2, k3, k4, k5, k6⟩
        · exact .inl ⟨hb.trans k1, k2⟩
        · exact .inr ⟨b, cap, cells, hb.trans k1, fun k => k2 (join_av hf hC ht hp k), k3, k4, k5, ERep_tr hr.deep _ _ _ k6⟩
      | map kvs =>
        obtain ⟨b, c, es, clock, k1, k2, k3⟩ := h0
        exact ⟨b, c, es, clock, hb.trans k1, k2, MRep_ren hr _ _ k3⟩
      | siter s pos =>
        obtain ⟨b, c, k1, k2⟩ := h0
        exact ⟨b, c, hb.trans k1, k2⟩
      | resv => trivial
      | gone => trivial
  · have mix : ∀ {g j b c c' : Nat} {e e0 : Entry}, g ∉ ps → C.H[g]? = some e → e.owned = true → C.β g = some (b, c) → C1.H[j]? = some e0 → e0.owned = true → C1.β j = some (b, c') → False := by
      intro g j b c c' e e0 m2 m3 o1 b1 k1 o2 b2
      have hlt := own_lt hC ⟨g, e, c, m3, o1, b1⟩
      exact (ht.keep b hlt (other_own hf hC (gs_ps hp m2) m3 o1 b1)).2 ⟨j, e0, c', k1, o2, b2⟩
    intro g g' e e' b c c' g1 g2 o1 o2 b1 b2
    rcases join_cases hf hp g1 with ⟨m2, m3⟩ | ⟨j, e0, m1, rfl, rfl⟩
    · rw [(join_old (C1 := C1) m2).2] at b1
      rcases join_cases hf hp g2 with ⟨n2, n3⟩ | ⟨j', e0', n1, rfl, rfl⟩
      · rw [(join_old (C1 := C1) n2).2] at b2
        exact hC.inj g g' e e' b c c' m3 n3 o1 o2 b1 b2
      · have hj := (List.getElem?_eq_some_iff.1 n1).1
        rw [join_beta hp hj] at b2
        rw [renE_owned] at o2
        exact (mix m2 m3 o1 b1 n1 o2 b2).elim
    · have hj := (List.getElem?_eq_some_iff.1 m1).1
      rw [join_beta hp hj] at b1
      rw [renE_owned] at o1
      rcases join_cases hf hp g2 with ⟨n2, n3⟩ | ⟨j', e0', n1, rfl, rfl⟩
      · rw [(join_old (C1 := C1) n2).2] at b2
        exact (mix n2 n3 o2 b2 m1 o1 b1).elim
      · have hj' := (List.getElem?_eq_some_iff.1 n1).1
        rw [join_beta hp hj'] at b2
        rw [renE_owned] at o2
        rw [h1.inj j j' _ _ b c c' m1 n1 o1 o2 b1 b2]
  · rcases join_own hf hp hb with ⟨g, e, c, k2, k3, k4, k5⟩ | h
    · exact hC.nF b ⟨g, e, c, k3, k4, k5⟩ hF
    · exact h1.nF b h (by
        rw [ht.F]
        exact ⟨.inr hF, fun k => hC.nF b (sub_own hf k) hF⟩)
end join
/-! ### Places that are kept free -/
def Ctx.keep (C : Ctx) (r : Nat) : Ctx := ⟨C.w, C.β, C.H ++ List.replicate r .resv, C.F⟩
section keep
variable {C : Ctx} {r : Nat}
theorem keep_cases {g : Nat} {e : Entry} (h : (C.keep r).H[g]? = some e) : C.H[g]? = some e ∨ (C.H.length ≤ g ∧ e = .resv) := by
  simp only [Ctx.keep] at h
  rcases Nat.lt_or_ge g C.H.length with hg | hg
  · rw [List.getElem?_append_left hg] at h; exact .inl h
  · rw [List.getElem?_append_right hg, List.getElem?_replicate] at h
    split at h
    · cases h; exact .inr ⟨hg, rfl⟩
    · cases h
theorem keep_old {g : Nat} (h : g < C.H.length) : (C.keep r).H[g]? = C.H[g]? := by
  simp only [Ctx.keep]; exact List.getElem?_append_left h
theorem keep_own {b : Nat} : (C.keep r).own b ↔ C.own b := by
  constructor
  · rintro ⟨g, e, c, h1, h2, h3⟩
    rcases keep_cases h1 with h1 | ⟨_, rfl⟩
    · exact ⟨g, e, c, h1, h2, h3⟩
    · cases h2
  · rintro ⟨g, e, c, h1, h2, h3⟩
    exact ⟨g, e, c, by rw [keep_old (List.getElem?_eq_some_iff.1 h1).1]; exact h1, h2, h3⟩
theorem keep_tr : Tr C (C.keep r) :=
  ⟨rfl, rfl, rfl, Nat.le_refl _, rfl, fun b _ hn => ⟨rfl, fun k => hn (keep_own.1 k)⟩, fun g s hs => by
    have hg : g < C.H.length := by
      rcases Nat.lt_or_ge g C.H.length with h | h
      · exact h
      · simp [Ctx.sh, List.getElem?_eq_none h] at hs
    exact ⟨s, by simp only [Ctx.sh, keep_old hg]; exact hs, STr.refl _ _⟩⟩
theorem keep_rep (h : HRep C) : HRep (C.keep r) := by
  refine ⟨fun g e he => ?_, ?_, fun b hb => h.nF b (keep_own.1 hb), h.ltF⟩
  · rcases keep_cases he with he | ⟨_, rfl⟩
    · exact (h.ent g e he).keep keep_tr rfl (fun _ _ _ _ => rfl)
    · trivial
  · intro g g' e e' b c c' h1 h2 o1 o2 b1 b2
    rcases keep_cases h1 with h1 | ⟨_, rfl⟩
    · rcases keep_cases h2 with h2 | ⟨_, rfl⟩
      · exact h.inj g g' e e' b c c' h1 h2 o1 o2 b1 b2
      · cases o2
    · cases o1
theorem keep_sub {gs : List Nat} {Hs : List Entry} : (C.keep r).sub gs Hs = C.sub gs Hs := by
  have : (C.keep r).av = C.av := by
    funext b
    exact propext ⟨fun h => h.imp keep_own.1 id, fun h => h.imp keep_own.2 id⟩
  simp only [Ctx.sub, this]
  rfl
end keep
/-- What is there when a callee has come back. -/
def joinH (H : List Entry) (gs : List Nat) (H1 : List Entry) : List Entry :=
  setAll H gs ((H1.take gs.length).map (renE (rho (gs ++ List.range' H.length (H1.length - gs.length))))) ++ (H1.drop gs.length).map (renE (rho (gs ++ List.range' H.length (H1.length - gs.length))))
theorem setAll_app : ∀ (H : List Entry) (gs qs : List Nat) (es fs : List Entry), gs.length = es.length → setAll H (gs ++ qs) (es ++ fs) = setAll (setAll H gs es) qs fs
  | H, [], qs, [], fs, _ => by simp [setAll]
  | H, [], qs, _ :: _, fs, h => by simp at h
  | H, _ :: _, qs, [], fs, h => by simp at h
  | H, g :: gs, qs, e :: es, fs, h => by
    simp only [List.cons_append, setAll]
    exact setAll_app _ gs qs es fs (by simpa using h)
theorem setAll_left : ∀ (H T : List Entry) (gs : List Nat) (es : List Entry), (∀ g ∈ gs, g < H.length) → setAll (H ++ T) gs es = setAll H gs es ++ T
  | H, T, [], es, _ => by simp [setAll]
  | H, T, _ :: _, [], _ => by simp [setAll]
  | H, T, g :: gs, e :: es, h => by
    simp only [setAll]
    rw [List.set_append_left _ _ (h g (by simp)), setAll_left _ T gs es fun x hx => by rw [List.length_set]; exact h x (by simp [hx])]
theorem setAll_fresh : ∀ (fs : List Entry) (H : List Entry), setAll (H ++ List.replicate fs.length .resv) (List.range' H.length fs.length) fs = H ++ fs
  | [], H => by simp [setAll]
  | f :: fs, H => by
    simp only [List.length_cons, List.replicate_succ, List.range'_succ, setAll]
    have e1 : (H ++ Entry.resv :: List.replicate fs.length Entry.resv).set H.length f = (H ++ [f]) ++ List.replicate fs.length .resv := by
      rw [List.set_append_right _ _ (Nat.le_refl _)]; simp
    rw [e1]
    have := setAll_fresh fs (H ++ [f])
    simp only [List.length_append, List.length_cons, List.length_nil, Nat.zero_add] at this
    rw [this]; simp
theorem joinH_eq {H : List Entry} {gs : List Nat} {H1 : List Entry} (hg : ∀ g ∈ gs, g < H.length) (hl : gs.length ≤ H1.length) :
    setAll (H ++ List.replicate (H1.length - gs.length) .resv) (gs ++ List.range' H.length (H1.length - gs.length)) (H1.map (renE (rho (gs ++ List.range' H.length (H1.length - gs.length))))) = joinH H gs H1 := by
  generalize hρ : rho (gs ++ List.range' H.length (H1.length - gs.length)) = ρ
  have e1 : H1.map (renE ρ) = (H1.take gs.length).map (renE ρ) ++ (H1.drop gs.length).map (renE ρ) := by
    rw [← List.map_append, List.take_append_drop]
  rw [e1, setAll_app _ _ _ _ _ (by simp [hl]), setAll_left _ _ _ _ hg]
  unfold joinH
  rw [hρ]
  generalize hA : setAll H gs _ = A
  have hAl : A.length = H.length := by rw [← hA, setAll_length]
  have := setAll_fresh ((H1.drop gs.length).map (renE ρ)) A
  simp only [List.length_map, List.length_drop] at this
  rw [hAl] at this
  exact this
/-- A call among more than it touches. -/
theorem acall_frame {f : FuncId} {args : List V} {Hs H : List Entry} {gs : List Nat} {K K' : KV} (h : ACall P f args Hs K) (hnd : gs.Nodup) (hlen : Hs.length = gs.length) (hids : idsLts gs.length args = true)
    (hent : ∀ (i : Nat) (e : Entry), Hs[i]? = some e → ∃ g, gs[i]? = some g ∧ H[g]? = some (renE (rho gs) e) ∧ idsLtE gs.length e = true)
    (hk : ∀ x H1, gs.length ≤ H1.length → K x H1 → K' (ren (rho (gs ++ List.range' H.length (H1.length - gs.length))) x) (joinH H gs H1)) : ACall P f (rens (rho gs) args) H K' := by
  intro C vals hH hC hv
  subst hH
  have hf0 : Fits C gs Hs := ⟨hnd, hlen, hent⟩
  refine Calls.mono (h (C.sub gs Hs) vals rfl (sub_rep hf0 hC) (CRep_unren (sub_unren hf0) _ _ hids hv)) ?_
  rintro e w' ⟨C1, x, v, rfl, rfl, ht, h1, hx, hK⟩
  have hlt : ∀ g ∈ gs, g < C.H.length := fun g hg => by
    obtain ⟨j, hj⟩ := List.mem_iff_getElem?.1 hg
    exact gs_lt hf0 hj
  have hle : gs.length ≤ C1.H.length := by
    rcases Nat.lt_or_ge C1.H.length gs.length with h | h
    · exfalso
      have hH : Hs[C1.H.length]? = some (Hs[C1.H.length]'(by rw [hlen]; exact h)) := List.getElem?_eq_getElem _
      obtain ⟨s', k1, _⟩ := ht.ids C1.H.length _ (show (C.sub gs Hs).sh C1.H.length = some _ by simp only [Ctx.sh, Ctx.sub, hH, Option.map_some]; rfl)
      simp [Ctx.sh] at k1
    · exact h
  have hf : Fits (C.keep (C1.H.length - gs.length)) gs Hs := ⟨hnd, hlen, fun i e he => by
    obtain ⟨g, k1, k2, k3⟩ := hent i e he
    exact ⟨g, k1, by rw [keep_old (List.getElem?_eq_some_iff.1 k2).1]; exact k2, k3⟩⟩
  have hC2 := keep_rep (r := C1.H.length - gs.length) hC
  have ht2 : Tr ((C.keep (C1.H.length - gs.length)).sub gs Hs) C1 := by rw [keep_sub]; exact ht
  have hp : Place (C.keep (C1.H.length - gs.length)) gs (gs ++ List.range' C.H.length (C1.H.length - gs.length)) C1 := by
    refine ⟨?_, by simp; omega, fun i g hg => by rw [List.getElem?_append_left (List.getElem?_eq_some_iff.1 hg).1]; exact hg, fun i g hg hi => ?_⟩
    · rw [List.nodup_append]
      refine ⟨hnd, List.nodup_range', fun a ha b hb => ?_⟩
      have := hlt a ha
      have hb := List.mem_range'_1.1 hb
      omega
    · rw [List.getElem?_append_right hi] at hg
      have hb := (List.getElem?_eq_some_iff.1 hg).1
      rw [List.length_range'] at hb
      rw [List.getElem?_range' (by omega)] at hg
      cases hg
      simp only [Ctx.keep]
      rw [List.getElem?_append_right (by omega), List.getElem?_replicate, if_pos (by omega)]
  refine ⟨(C.keep (C1.H.length - gs.length)).join (gs ++ List.range' C.H.length (C1.H.length - gs.length)) C1, _, v, rfl, rfl, keep_tr.trans (join_tr hf hC2 ht2 hp), join_rep hf hC2 ht2 h1 hp, VRep_ren (join_ren hf hC2 ht2 hp) _ _ hx, ?_⟩
  have := hk x C1.H hle hK
  rw [← joinH_eq hlt hle] at this
  exact this
end
end Go.Av
