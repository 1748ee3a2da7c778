/- A part of a way to reckon what a Go program does without its memory (AvDs). -/
import Derived.Test.YtllojkdacinhfaaAvDr
namespace Go.Av
open Go Go.RowKit
set_option autoImplicit false
set_option linter.all false
section
variable {P : Program}
/-- What becomes of memory. -/
inductive Eff where
  | rows (r : List Entry)
  | whole (H : List Entry)
def Eff.app : Eff → List Entry → List Entry
  | .rows r, H => H ++ r
  | .whole H', _ => H'
/-- What one operation gives, wherever it stands among the others. -/
def OpOk (P : Program) (o : AO) (e : List V) (H : List Entry) (v : V) (f : Eff) : Prop :=
  (o.op.cls = 3 ∧ f = .rows [] ∧ ∀ H', opK P o (fun v' H'' => v' = v ∧ H'' = H') e H') ∨
  (o.op.cls = 1 ∧ f = .rows [] ∧ ∀ H', Agree H H' → (∀ y ∈ o.op.opds.map (ev e), ∀ g, gid y = some g → g < H'.length) → opK P o (fun v' H'' => v' = v ∧ H'' = H') e H') ∨
  (((o.op.cls = 2 ∧ ∃ r, f = .rows r) ∨ o.op.cls = 4) ∧ opK P o (fun v' H' => v' = v ∧ H' = f.app H) e H)
theorem cls_le {o : AOp} (h : 1 ≤ o.cls) : o.cls = 1 ∨ o.cls = 2 ∨ o.cls = 3 ∨ o.cls = 4 := by
  cases o <;> first | exact .inl rfl | exact .inr (.inl rfl) | exact .inr (.inr (.inl rfl)) | exact .inr (.inr (.inr rfl)) | exact absurd h (Nat.not_succ_le_zero 0)
theorem opK_ok {o : AO} {e : List V} {H : List Entry} {K : KV} (hc : 1 ≤ o.op.cls) (h : opK P o K e H) : ∃ v f, OpOk P o e H v f ∧ K v (f.app H) := by
  have hcl := cls_le hc
  have key : step P o.op e H K → (∀ H' K', step P o.op e H' K' → opK P o K' e H') → ∃ v f, OpOk P o e H v f ∧ K v (f.app H) := by
    intro hs h1
    rcases hcl with hcl | hcl | hcl | hcl
    · obtain ⟨v, hk, ha⟩ := step_again hcl hs
      exact ⟨v, .rows [], .inr (.inl ⟨hcl, rfl, fun H' ag hr => h1 _ _ (ha H' _ ag hr ⟨rfl, rfl⟩)⟩), by simpa [Eff.app] using hk⟩
    · obtain ⟨v, r, hk, hst⟩ := step_push hcl hs
      exact ⟨v, .rows r, .inr (.inr ⟨.inl ⟨hcl, r, rfl⟩, h1 _ _ hst⟩), hk⟩
    · obtain ⟨v, hk, ha⟩ := step_pure hcl hs
      exact ⟨v, .rows [], .inl ⟨hcl, rfl, fun H' => h1 _ _ (ha H' _ ⟨rfl, rfl⟩)⟩, by simpa [Eff.app] using hk⟩
    · obtain ⟨v, H', hk, hst⟩ := step_any hcl hs
      exact ⟨v, .whole H', .inr (.inr ⟨.inr hcl, h1 _ _ hst⟩), hk⟩
  have skip : K undefV H → (∀ H' K', K' undefV H' → opK P o K' e H') → ∃ v f, OpOk P o e H v f ∧ K v (f.app H) := by
    intro hk hK
    refine ⟨undefV, .rows [], ?_, by simpa [Eff.app] using hk⟩
    rcases hcl with hcl | hcl | hcl | hcl
    · exact .inr (.inl ⟨hcl, rfl, fun H' _ _ => hK _ _ ⟨rfl, rfl⟩⟩)
    · exact .inr (.inr ⟨.inl ⟨hcl, [], rfl⟩, hK _ _ ⟨rfl, by simp [Eff.app]⟩⟩)
    · exact .inl ⟨hcl, rfl, fun H' => hK _ _ ⟨rfl, rfl⟩⟩
    · exact .inr (.inr ⟨.inr hcl, hK _ _ ⟨rfl, by simp [Eff.app]⟩⟩)
  unfold opK at h
  split at h
  · rename_i hg
    exact key h (fun H' K' hs => by unfold opK; rw [hg]; exact hs)
  · rename_i t b hg
    split at h
    · rename_i c hv
      cases hcb : (c == b) with
      | true =>
        rw [hcb] at h
        exact key h (fun H' K' hs => by unfold opK; rw [hg]; simp only [hv, hcb, cond_true]; exact hs)
      | false =>
        rw [hcb] at h
        exact skip h fun H' K' hk => by unfold opK; rw [hg]; simp only [hv, hcb, cond_false]; exact hk
    · rename_i vs hv
      exact skip h fun H' K' hk => by unfold opK; rw [hg]; simp only [hv]; exact hk
    · exact h.elim
abbrev Res := V × Eff
def Run (P : Program) : List AO → List V → List Entry → List Res → Prop
  | [], _, _, rs => rs = []
  | o :: l, e, H, rs => ∃ v f rs', rs = (v, f) :: rs' ∧ OpOk P o e H v f ∧ Run P l (putD e o.dst v) (f.app H) rs'
def selE (S : Nat → Bool) : Nat → List AO → List Res → List V → List V
  | i, o :: l, (v, _) :: rs, e => selE S (i + 1) l rs (bif S i then putD e o.dst v else e)
  | _, _, _, e => e
def selH (S : Nat → Bool) : Nat → List Res → List Entry → List Entry
  | i, (_, f) :: rs, H => selH S (i + 1) rs (bif S i then f.app H else H)
  | _, [], H => H
theorem ops_run {K : K1} : ∀ {l : List AO} {e : List V} {H : List Entry} (i : Nat), (∀ o ∈ l, 1 ≤ o.op.cls) → ops P l K e H → ∃ rs, Run P l e H rs ∧ K (selE (fun _ => true) i l rs e) (selH (fun _ => true) i rs H)
  | [], e, H, i, _, h => ⟨[], rfl, h⟩
  | o :: l, e, H, i, hc, h => by
    rw [ops_cons] at h
    obtain ⟨v, r, h1, h2⟩ := opK_ok (hc o (by simp)) h
    obtain ⟨rs, h3, h4⟩ := ops_run (i + 1) (fun o ho => hc o (by simp [ho])) h2
    exact ⟨(v, r) :: rs, ⟨v, r, rs, rfl, h1, h3⟩, by simpa only [selE, selH, cond_true] using h4⟩
theorem Run.length : ∀ {l : List AO} {e : List V} {H : List Entry} {rs : List Res}, Run P l e H rs → rs.length = l.length
  | [], _, _, _, h => by rw [show _ = [] from h]; rfl
  | o :: l, _, _, _, ⟨v, r, rs', he, _, h⟩ => by rw [he]; simp [h.length]
theorem selE_none {S : Nat → Bool} : ∀ (l : List AO) (rs : List Res) (i : Nat) (e : List V), (∀ j, i ≤ j → S j = false) → selE S i l rs e = e
  | [], rs, i, e, _ => by simp [selE]
  | _ :: _, [], i, e, _ => by simp [selE]
  | o :: l, (v, r) :: rs, i, e, h => by
    simp only [selE, h i (Nat.le_refl _), cond_false]
    exact selE_none l rs (i + 1) e fun j hj => h j (by omega)
theorem selH_none {S : Nat → Bool} : ∀ (rs : List Res) (i : Nat) (H : List Entry), (∀ j, i ≤ j → S j = false) → selH S i rs H = H
  | [], i, e, _ => by simp [selH]
  | (v, r) :: rs, i, e, h => by
    simp only [selH, h i (Nat.le_refl _), cond_false]
    exact selH_none rs (i + 1) e fun j hj => h j (by omega)
theorem run_at : ∀ {l : List AO} {e : List V} {H : List Entry} {rs : List Res} (i k : Nat) {o : AO}, Run P l e H rs → l[k]? = some o →
    ∃ v r, rs[k]? = some (v, r) ∧ OpOk P o (selE (fun j => decide (j < i + k)) i l rs e) (selH (fun j => decide (j < i + k)) i rs H) v r
  | [], _, _, _, _, _, _, _, h => by simp at h
  | o :: l, e, H, rs, i, 0, o', hr, h => by
    obtain ⟨v, r, rs', rfl, h1, h2⟩ := hr
    simp at h; subst h
    refine ⟨v, r, rfl, ?_⟩
    rw [selE_none _ _ _ _ (fun j hj => by simp; omega), selH_none _ _ _ (fun j hj => by simp; omega)]
    exact h1
  | o :: l, e, H, rs, i, k + 1, o', hr, h => by
    obtain ⟨v, r, rs', rfl, h1, h2⟩ := hr
    obtain ⟨v', r', h3, h4⟩ := run_at (i + 1) k h2 (by simpa using h)
    refine ⟨v', r', by simpa using h3, ?_⟩
    simp only [selE, selH]
    have hd : decide (i < i + (k + 1)) = true := by simp
    rw [hd, cond_true, cond_true]
    rw [show i + (k + 1) = i + 1 + k by omega]
    exact h4
theorem nth_setAt_ne : ∀ {e : List V} {i j : Nat} {v : V}, i ≠ j → nth (setAt e i v) j = nth e j
  | [], _, _, _, _ => rfl
  | _ :: _, 0, 0, _, h => absurd rfl h
  | _ :: _, 0, _ + 1, _, _ => rfl
  | _ :: _, _ + 1, 0, _, _ => rfl
  | _ :: l, i + 1, j + 1, v, h => nth_setAt_ne (e := l) (by omega)
theorem nth_setAt_eq : ∀ {e : List V} {i : Nat} {v : V}, i < e.length → nth (setAt e i v) i = v
  | [], _, _, h => by simp at h
  | _ :: _, 0, _, _ => rfl
  | _ :: l, i + 1, v, h => nth_setAt_eq (e := l) (by simpa using h)
theorem setAt_length : ∀ {e : List V} {i : Nat} {v : V}, (setAt e i v).length = e.length
  | [], _, _ => rfl
  | _ :: _, 0, _ => rfl
  | _ :: l, i + 1, v => by simp [setAt, setAt_length (e := l)]
theorem putD_length {e : List V} {d : Option Nat} {v : V} : (putD e d v).length = e.length := by
  cases d with
  | none => rfl
  | some i => exact setAt_length
theorem nth_ext : ∀ {a b : List V}, a.length = b.length → (∀ t, nth a t = nth b t) → a = b
  | [], [], _, _ => rfl
  | [], _ :: _, h, _ => by simp at h
  | _ :: _, [], h, _ => by simp at h
  | x :: a, y :: b, h, ht => by
    rw [show x = y from ht 0, nth_ext (a := a) (b := b) (by simpa using h) fun t => ht (t + 1)]
theorem selE_length {S : Nat → Bool} : ∀ (l : List AO) (rs : List Res) (i : Nat) (e : List V), (selE S i l rs e).length = e.length
  | [], rs, i, e => by simp [selE]
  | _ :: _, [], i, e => by simp [selE]
  | o :: l, (v, r) :: rs, i, e => by
    simp only [selE]
    rw [selE_length l rs (i + 1)]
    cases S i
    · rfl
    · exact putD_length
theorem selE_nth {S S' : Nat → Bool} {t : Nat} : ∀ (l : List AO) (rs : List Res) (i : Nat) (e e' : List V), nth e t = nth e' t → e.length = e'.length → (∀ k o, l[k]? = some o → o.dst = some t → S (i + k) = S' (i + k)) → nth (selE S i l rs e) t = nth (selE S' i l rs e') t
  | [], rs, i, e, e', he, _, _ => by simpa [selE] using he
  | _ :: _, [], i, e, e', he, _, _ => by simpa [selE] using he
  | o :: l, (v, r) :: rs, i, e, e', he, hl, h => by
    simp only [selE]
    refine selE_nth l rs (i + 1) _ _ ?_ ?_ fun k o' hk ho => by have := h (k + 1) o' (by simpa using hk) ho; rwa [show i + (k + 1) = i + 1 + k by omega] at this
    · by_cases hd : o.dst = some t
      · have := h 0 o rfl hd
        simp only [Nat.add_zero] at this
        rw [this]
        cases S' i
        · exact he
        · simp only [cond_true, putD, hd]
          by_cases hlt : t < e.length
          · rw [nth_setAt_eq hlt, nth_setAt_eq (by omega)]
          · rw [nth_out (by rw [setAt_length]; omega), nth_out (by rw [setAt_length]; omega)]
      · have hne : ∀ (x : List V), nth (putD x o.dst v) t = nth x t := by
          intro x
          cases hdd : o.dst with
          | none => rfl
          | some d => exact nth_setAt_ne fun heq => hd (by rw [hdd, heq])
        cases S i <;> cases S' i <;> simp only [cond_true, cond_false, hne] <;> exact he
    · cases S i <;> cases S' i <;> simp only [cond_true, cond_false, putD_length] <;> exact hl
theorem selE_last {S : Nat → Bool} {t : Nat} : ∀ (l : List AO) (rs : List Res) (i k : Nat) (e : List V) {o : AO} {v : V} {r : Eff}, l[k]? = some o → rs[k]? = some (v, r) → o.dst = some t → S (i + k) = true → t < e.length →
    (∀ j o', k < j → l[j]? = some o' → o'.dst = some t → S (i + j) = false) → nth (selE S i l rs e) t = v
  | [], rs, i, k, e, _, _, _, h, _, _, _, _, _ => by simp at h
  | _ :: _, [], i, k, e, _, _, _, _, h, _, _, _, _ => by simp at h
  | o :: l, (v, r) :: rs, i, 0, e, o1, v1, r1, h1, h2, hd, hS, ht, hno => by
    simp at h1 h2
    obtain ⟨rfl, rfl⟩ := h2
    subst h1
    simp only [selE]
    rw [show S i = true from hS, cond_true]
    have : nth (selE S (i + 1) l rs (putD e o.dst v)) t = nth (selE (fun _ => false) (i + 1) l rs (putD e o.dst v)) t :=
      selE_nth l rs (i + 1) _ _ rfl rfl fun k o' hk ho => by
        have := hno (k + 1) o' (by omega) (by simpa using hk) ho
        rw [show i + 1 + k = i + (k + 1) by omega]; exact this
    rw [this, selE_none _ _ _ _ (fun _ _ => rfl), hd]
    exact nth_setAt_eq ht
  | o :: l, (v, r) :: rs, i, k + 1, e, o1, v1, r1, h1, h2, hd, hS, ht, hno => by
    simp only [selE]
    refine selE_last l rs (i + 1) k _ (by simpa using h1) (by simpa using h2) hd (by rw [show i + 1 + k = i + (k + 1) by omega]; exact hS) ?_ fun j o' hj hl ho => by
      have := hno (j + 1) o' (by omega) (by simpa using hl) ho
      rw [show i + 1 + j = i + (j + 1) by omega]; exact this
    cases S i
    · exact ht
    · simp only [cond_true]; rw [putD_length]; exact ht
theorem selH_congr {S S' : Nat → Bool} : ∀ (rs : List Res) (i : Nat) (H : List Entry), (∀ k v f, rs[k]? = some (v, f) → f ≠ .rows [] → S (i + k) = S' (i + k)) → selH S i rs H = selH S' i rs H
  | [], _, _, _ => rfl
  | (v, f) :: rs, i, H, h => by
    simp only [selH]
    have hh : (bif S i then f.app H else H) = (bif S' i then f.app H else H) := by
      by_cases hr : f = .rows []
      · subst hr; simp [Eff.app]
      · rw [show S i = S' i from h 0 v f rfl hr]
    rw [hh]
    exact selH_congr rs (i + 1) _ fun k v' f' hk hr => by
      have := h (k + 1) v' f' (by simpa using hk) hr
      rw [show i + 1 + k = i + (k + 1) by omega]; exact this
theorem selH_rows {S : Nat → Bool} : ∀ (rs : List Res) (i : Nat) (H : List Entry), (∀ k v f, rs[k]? = some (v, f) → S (i + k) = true → ∃ r, f = .rows r) → ∃ s, selH S i rs H = H ++ s
  | [], _, H, _ => ⟨[], by simp [selH]⟩
  | (v, f) :: rs, i, H, h => by
    simp only [selH]
    have hr : ∀ k v' f', rs[k]? = some (v', f') → S (i + 1 + k) = true → ∃ r, f' = .rows r := fun k v' f' hk hS => h (k + 1) v' f' (by simpa using hk) (by rw [show i + (k + 1) = i + 1 + k by omega]; exact hS)
    cases hS : S i with
    | false => exact selH_rows rs (i + 1) H hr
    | true =>
      obtain ⟨r, rfl⟩ := h 0 v f rfl hS
      obtain ⟨s, hs⟩ := selH_rows rs (i + 1) (H ++ r) hr
      exact ⟨r ++ s, by simp only [cond_true, Eff.app]; rw [hs, List.append_assoc]⟩
/-- Two of which each did a beginning of what changes memory, and where they differ only laid down more: one goes on from the other. -/
theorem selH_two {S T : Nat → Bool} : ∀ (rs : List Res) (i : Nat) (H : List Entry), (∀ k v f, rs[k]? = some (v, f) → f ≠ .rows [] → S (i + k) = T (i + k) ∨ ∃ r, f = .rows r) →
    (∀ j k v f v' f', j < k → rs[j]? = some (v, f) → rs[k]? = some (v', f') → f ≠ .rows [] → f' ≠ .rows [] → S (i + k) = true → S (i + j) = true) →
    (∀ j k v f v' f', j < k → rs[j]? = some (v, f) → rs[k]? = some (v', f') → f ≠ .rows [] → f' ≠ .rows [] → T (i + k) = true → T (i + j) = true) →
    (∃ s, selH S i rs H ++ s = selH T i rs H) ∨ ∃ s, selH T i rs H ++ s = selH S i rs H
  | [], _, _, _, _, _ => .inl ⟨[], by simp [selH]⟩
  | (v, f) :: rs, i, H, h, hS, hT => by
    have h' : ∀ k v f, rs[k]? = some (v, f) → f ≠ .rows [] → S (i + 1 + k) = T (i + 1 + k) ∨ ∃ r, f = .rows r := fun k v' f' hk hn => by
      have := h (k + 1) v' f' (by simpa using hk) hn
      rwa [show i + (k + 1) = i + 1 + k by omega] at this
    have hS' : ∀ j k v f v' f', j < k → rs[j]? = some (v, f) → rs[k]? = some (v', f') → f ≠ .rows [] → f' ≠ .rows [] → S (i + 1 + k) = true → S (i + 1 + j) = true := fun j k v f v' f' hj h1 h2 h3 h4 h5 => by
      have := hS (j + 1) (k + 1) v f v' f' (by omega) (by simpa using h1) (by simpa using h2) h3 h4 (by rw [show i + (k + 1) = i + 1 + k by omega]; exact h5)
      rw [show i + 1 + j = i + (j + 1) by omega]; exact this
    have hT' : ∀ j k v f v' f', j < k → rs[j]? = some (v, f) → rs[k]? = some (v', f') → f ≠ .rows [] → f' ≠ .rows [] → T (i + 1 + k) = true → T (i + 1 + j) = true := fun j k v f v' f' hj h1 h2 h3 h4 h5 => by
      have := hT (j + 1) (k + 1) v f v' f' (by omega) (by simpa using h1) (by simpa using h2) h3 h4 (by rw [show i + (k + 1) = i + 1 + k by omega]; exact h5)
      rw [show i + 1 + j = i + (j + 1) by omega]; exact this
    simp only [selH]
    by_cases hf : f = .rows []
    · subst hf
      have : ∀ b : Bool, (bif b then Eff.app (.rows []) H else H) = H := fun b => by cases b <;> simp [Eff.app]
      rw [this, this]
      exact selH_two rs (i + 1) H h' hS' hT'
    · have noS : S i = false → ∀ k v' f', rs[k]? = some (v', f') → f' ≠ .rows [] → S (i + 1 + k) = false := fun h0 k v' f' hk hn => by
        cases hk2 : S (i + 1 + k) with
        | false => rfl
        | true =>
          have := hS 0 (k + 1) v f v' f' (by omega) rfl (by simpa using hk) hf hn (by rw [show i + (k + 1) = i + 1 + k by omega]; exact hk2)
          rw [Nat.add_zero, h0] at this; cases this
      have noT : T i = false → ∀ k v' f', rs[k]? = some (v', f') → f' ≠ .rows [] → T (i + 1 + k) = false := fun h0 k v' f' hk hn => by
        cases hk2 : T (i + 1 + k) with
        | false => rfl
        | true =>
          have := hT 0 (k + 1) v f v' f' (by omega) rfl (by simpa using hk) hf hn (by rw [show i + (k + 1) = i + 1 + k by omega]; exact hk2)
          rw [Nat.add_zero, h0] at this; cases this
      have endS : S i = false → ∀ X, selH S (i + 1) rs X = X := fun h0 X => by
        rw [selH_congr (S' := fun _ => false) rs (i + 1) X fun k v' f' hk hn => noS h0 k v' f' hk hn]
        exact selH_none rs (i + 1) X fun _ _ => rfl
      have endT : T i = false → ∀ X, selH T (i + 1) rs X = X := fun h0 X => by
        rw [selH_congr (S' := fun _ => false) rs (i + 1) X fun k v' f' hk hn => noT h0 k v' f' hk hn]
        exact selH_none rs (i + 1) X fun _ _ => rfl
      cases hSi : S i with
      | false =>
        cases hTi : T i with
        | false =>
          simp only [cond_false]
          rw [endS hSi, endT hTi]
          exact .inl ⟨[], by simp⟩
        | true =>
          simp only [cond_false, cond_true]
          rw [endS hSi]
          obtain ⟨r, rfl⟩ : ∃ r, f = .rows r := by
            rcases h 0 v f rfl hf with h1 | h1
            · rw [Nat.add_zero, hSi, hTi] at h1; cases h1
            · exact h1
          obtain ⟨s, hs⟩ := selH_rows (S := T) rs (i + 1) (Eff.app (.rows r) H) fun k v' f' hk hk2 => by
            by_cases hn : f' = .rows []
            · exact ⟨[], hn⟩
            · rcases h' k v' f' hk hn with h1 | h1
              · rw [noS hSi k v' f' hk hn, hk2] at h1; cases h1
              · exact h1
          exact .inl ⟨r ++ s, by rw [hs]; simp [Eff.app]⟩
      | true =>
        cases hTi : T i with
        | true =>
          simp only [cond_true]
          exact selH_two rs (i + 1) _ h' hS' hT'
        | false =>
          simp only [cond_false, cond_true]
          rw [endT hTi]
          obtain ⟨r, rfl⟩ : ∃ r, f = .rows r := by
            rcases h 0 v f rfl hf with h1 | h1
            · rw [Nat.add_zero, hSi, hTi] at h1; cases h1
            · exact h1
          obtain ⟨s, hs⟩ := selH_rows (S := S) rs (i + 1) (Eff.app (.rows r) H) fun k v' f' hk hk2 => by
            by_cases hn : f' = .rows []
            · exact ⟨[], hn⟩
            · rcases h' k v' f' hk hn with h1 | h1
              · rw [noT hTi k v' f' hk hn, hk2] at h1; cases h1
              · exact h1
          exact .inr ⟨r ++ s, by rw [hs]; simp [Eff.app]⟩
theorem selH_add {S S' : Nat → Bool} : ∀ (rs : List Res) (i k : Nat) (H : List Entry) {v : V} {f : Eff}, rs[k]? = some (v, f) → S (i + k) = false → S' (i + k) = true → (∀ j, j ≠ i + k → S' j = S j) → (∀ j v' f', k < j → rs[j]? = some (v', f') → f' ≠ .rows [] → f ≠ .rows [] → S (i + j) = false) → selH S' i rs H = f.app (selH S i rs H)
  | [], _, _, _, _, _, h, _, _, _, _ => by simp at h
  | (v, f) :: rs, i, 0, H, v1, f1, h, h1, h2, h3, h4 => by
    simp at h
    obtain ⟨rfl, rfl⟩ := h
    simp only [selH]
    rw [show S i = false from h1, show S' i = true from h2, cond_true, cond_false]
    by_cases hr : f = .rows []
    · subst hr
      simp only [Eff.app, List.append_nil]
      exact selH_congr rs (i + 1) H fun k v' r' _ _ => h3 _ (by omega)
    · have e1 : ∀ (X : List Entry) (T : Nat → Bool), (∀ j, j ≠ i + 0 → T j = S j) → selH T (i + 1) rs X = X := by
        intro X T hT
        rw [selH_congr (S' := fun _ => false) rs (i + 1) X fun k v' r' hk hr' => by
          rw [hT _ (by omega)]
          have := h4 (k + 1) v' r' (by omega) (by simpa using hk) hr' hr
          rw [show i + 1 + k = i + (k + 1) by omega]; exact this]
        exact selH_none rs (i + 1) X fun _ _ => rfl
      rw [e1 _ S' h3, e1 _ S fun _ _ => rfl]
  | (v, f) :: rs, i, k + 1, H, v1, f1, h, h1, h2, h3, h4 => by
    simp only [selH]
    rw [h3 i (by omega)]
    exact selH_add rs (i + 1) k _ (by simpa using h) (by rw [show i + 1 + k = i + (k + 1) by omega]; exact h1) (by rw [show i + 1 + k = i + (k + 1) by omega]; exact h2)
      (fun j hj => h3 j (by omega)) fun j v' r' hj hrs hr' hr => by
        have := h4 (j + 1) v' r' (by omega) (by simpa using hrs) hr' hr
        rw [show i + 1 + j = i + (j + 1) by omega]; exact this
end
end Go.Av
