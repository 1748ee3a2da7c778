/- A part of a way to reckon what a Go program does without its memory (AvAw). -/
import Derived.Test.YtllojkdacinhfaaAvDu
namespace Go.Av
open Go Go.RowKit
set_option autoImplicit false
set_option linter.all false
section
variable {P : Program}
def exOf : Exit → Option Ex
  | .normal => some .norm
  | .exit id => some (.exit id)
  | .ret => some .ret
  | _ => none
def post (Q : KQ) (C0 : Ctx) (x : Exit) (a : Act) (w : World) : Prop := ∃ C e y, C.w = w ∧ Tr C0 C ∧ HRep C ∧ CRep C.R e a.tmps.toList ∧ a.defers = [] ∧ exOf x = some y ∧ Q y e C.H
theorem wp_loop_n {c : Code} {Q : Exit → Act → World → Prop} {a : Act} {w : World} (J : Nat → Act → World → Prop) {n : Nat} (h₀ : J n a w)
    (round : ∀ n a w, J n a w → c.wp P (Exit.then (fun a' w' => ∃ m, m < n ∧ J m a' w') Q) a w) : (Code.loop c).wp P Q a w := by
  intro b k cs
  have key : ∀ n a w, J n a w →
      ∃ e a' w', Q e a' w' ∧ Arrives P (lone (b.at a (.code c :: .inLoop c :: k)) cs w) b k cs e a' w' := by
    intro n
    induction n using Nat.strongRecOn with
    | _ n ih =>
      intro a w hI
      obtain ⟨e, a₁, w₁, hq, harr⟩ := round n a w hI b (.inLoop c :: k) cs
      cases e with
      | normal =>
        obtain ⟨m, hlt, hI₁⟩ := hq
        obtain ⟨e₂, a₂, w₂, hq₂, harr₂⟩ := ih m hlt a₁ w₁ hI₁
        exact ⟨e₂, a₂, w₂, hq₂, .of_steps (Steps.trans harr (.one step_inLoop)) harr₂⟩
      | exit id => exact ⟨_, a₁, w₁, hq, .pass (x := .inLoop c) rfl (fun _ _ => .inl (by simp)) harr⟩
      | goto l => exact ⟨_, a₁, w₁, hq, .pass (x := .inLoop c) rfl (fun _ _ => .inl (by simp)) harr⟩
      | ret => exact ⟨_, a₁, w₁, hq, .pass (x := .inLoop c) rfl (fun _ _ => .inl (by simp)) harr⟩
      | panic ch => exact ⟨_, a₁, w₁, hq, .pass (x := .inLoop c) rfl (fun _ _ => .inl (by simp)) harr⟩
      | outgrown => exact ⟨_, a₁, w₁, hq, .pass (x := .inLoop c) rfl (fun _ _ => .inl (by simp)) harr⟩
  obtain ⟨e, a', w', hq, harr⟩ := key _ a w h₀
  exact ⟨e, a', w', hq, .of_steps (.one step_loop) harr⟩
/-- What is compiled, and to what. -/
inductive CompR (P : Program) : Code → AC → Prop
  | skip : CompR P .skip .skip
  | label {l : Nat} : CompR P (.label l) .skip
  | ops {id : Nat} {os : Array Oper} {l : List AO} (h : cOps P os os.toList = some l) : CompR P (.region id os false) (.ops l)
  | draw {id : Nat} {os : Array Oper} {l : List AO} (h : cOps P os os.toList = some l) (hm : P.follows .mixedOrders = true) (hd : drawOk os.toList (l.map AO.dr) = true) : CompR P (.region id os true) (.draw (l.map AO.dr))
  | seq {a b : Code} {x y : AC} (h : comp P a = some x) (k : comp P b = some y) : CompR P (.seq a b) (.seq x y)
  | cond {c : Operand} {o : Opd} {a b : Code} {x y : AC} (g : cOpd c = some o) (h : comp P a = some x) (k : comp P b = some y) : CompR P (.cond c a b) (.cond o x y)
  | block {id : Nat} {a : Code} {x : AC} (h : comp P a = some x) : CompR P (.block id a) (.block id x)
  | loop {a : Code} {x : AC} (h : comp P a = some x) : CompR P (.loop a) (.loop x)
  | exit {id : Nat} : CompR P (.exit id) (.exit id)
  | scope {a : Code} {x : AC} (h : comp P a = some x) : CompR P (.scope a) (.scope x)
  | ret : CompR P .ret .ret
theorem comp_rel {c : Code} {x : AC} (h : comp P c = some x) : CompR P c x := by
  unfold comp at h
  split at h
  · cases h; exact .skip
  · obtain ⟨l, hl, rfl⟩ := Option.map_eq_some_iff.1 h; exact .ops hl
  · split at h
    · rename_i l hl
      split at h
      · rename_i hh
        cases h
        simp only [Bool.and_eq_true] at hh
        exact .draw hl hh.1 hh.2
      · cases h
    · cases h
  · split at h
    · rename_i x y h1 h2
      cases h; exact .seq h1 h2
    · cases h
  · split at h
    · rename_i c x y h0 h1 h2
      cases h; exact .cond h0 h1 h2
    · cases h
  · obtain ⟨l, hl, rfl⟩ := Option.map_eq_some_iff.1 h; exact .block hl
  · obtain ⟨l, hl, rfl⟩ := Option.map_eq_some_iff.1 h; exact .loop hl
  · cases h; exact .exit
  · obtain ⟨l, hl, rfl⟩ := Option.map_eq_some_iff.1 h; exact .scope hl
  · cases h; exact .label
  · cases h; exact .ret
  · cases h
theorem awp_sound {n0 : Nat} : ∀ (ac : AC) (code : Code), comp P code = some (strip ac) → ∀ (Q : KQ) (C0 C : Ctx) (a : Act) (e : List V), C0.H.length = n0 → Tr C0 C → HRep C → CRep C.R e a.tmps.toList → a.defers = [] → awp P n0 ac Q e C.H → code.wp P (post Q C0) a C.w
  | .wk x, code, h, Q, C0, C, a, e, hn, ht, hC, hE, hd, hk => by
    simp only [awp, WkP] at hk
    obtain ⟨e', H', hw, hk⟩ := hk
    obtain ⟨C', w', k1, k2, k3, k4⟩ := Wk_sound hw C0 C _ hn rfl ht hC hE
    rw [← w']
    subst k1
    exact awp_sound x code (by simpa only [strip] using h) Q C0 C' a e' hn k2 k3 k4 hd hk
  | .skip, code, h, Q, C0, C, a, e, hn, ht, hC, hE, hd, hk => by
    simp only [awp] at hk
    rcases comp_rel h
    · exact wp_skip ⟨C, e, _, rfl, ht, hC, hE, hd, rfl, hk⟩
    · exact wp_label ⟨C, e, _, rfl, ht, hC, hE, hd, rfl, hk⟩
  | .ops l, code, h, Q, C0, C, a, e, hn, ht, hC, hE, hd, hk => by
    simp only [awp] at hk
    cases comp_rel h with | ops h1 =>
    exact region_sound h1 C a e hC hE hk fun C' a' e' t' r' c' d' k' => ⟨C', e', _, rfl, ht.trans t', r', c', d'.trans hd, rfl, k'⟩
  | .draw l, code, h, Q, C0, C, a, e, hn, ht, hC, hE, hd, hk => by
    simp only [awp] at hk
    cases comp_rel h with | draw h1 h2 h3 =>
    exact draw_sound h2 h1 h3 C a e hC hE hk fun C' a' e' t' r' c' d' k' => ⟨C', e', _, rfl, ht.trans t', r', c', d'.trans hd, rfl, k'⟩
  | .seq x y, code, h, Q, C0, C, a, e, hn, ht, hC, hE, hd, hk => by
    simp only [awp] at hk
    cases comp_rel h with | @seq p q _ _ h1 h2 =>
    refine wp_seq (wp_mono (awp_sound x p h1 _ C0 C a e hn ht hC hE hd hk) ?_)
    rintro ex a' w' ⟨C', e', z, rfl, t', r', c', d', hx, hq⟩
    cases ex <;> simp only [exOf, reduceCtorEq, Option.some.injEq] at hx <;> subst hx
    · exact awp_sound y q h2 Q C0 C' a' e' hn t' r' c' d' hq
    · exact ⟨C', e', _, rfl, t', r', c', d', rfl, hq⟩
    · exact ⟨C', e', _, rfl, t', r', c', d', rfl, hq⟩
  | .cond x y z, code, h, Q, C0, C, a, e, hn, ht, hC, hE, hd, hk => by
    simp only [awp, condK] at hk
    cases comp_rel h with | @cond p _ q r _ _ h1 h2 h3 =>
    have hv := opd_rep h1 hE
    split at hk
    · rename_i t hx
      rw [hx, VRep_bool] at hv
      cases t
      · exact wp_cond_false hv (awp_sound z r h3 Q C0 C a e hn ht hC hE hd hk)
      · exact wp_cond_true hv (awp_sound y q h2 Q C0 C a e hn ht hC hE hd hk)
    · exact hk.elim
  | .block id x, code, h, Q, C0, C, a, e, hn, ht, hC, hE, hd, hk => by
    simp only [awp] at hk
    cases comp_rel h with | @block _ p _ h1 =>
    refine wp_block (wp_mono (awp_sound x p h1 _ C0 C a e hn ht hC hE hd hk) ?_)
    rintro ex a' w' ⟨C', e', z, rfl, t', r', c', d', hx, hq⟩
    cases ex <;> simp only [exOf, reduceCtorEq, Option.some.injEq] at hx <;> subst hx
    · exact ⟨C', e', _, rfl, t', r', c', d', rfl, hq⟩
    · rename_i i
      simp only [blockK] at hq
      simp only [Exit.inBlock]
      by_cases hi : i = id
      · subst hi
        simp only [beq_self_eq_true, cond_true] at hq
        rw [if_pos rfl]
        exact ⟨C', e', _, rfl, t', r', c', d', rfl, hq⟩
      · rw [if_neg hi]
        have : (i == id) = false := by simp [hi]
        rw [this] at hq
        exact ⟨C', e', _, rfl, t', r', c', d', rfl, hq⟩
    · exact ⟨C', e', _, rfl, t', r', c', d', rfl, hq⟩
  | .loop x, code, h, Q, C0, C, a, e, hn, ht, hC, hE, hd, hk => by
    simp only [awp, LoopP] at hk
    cases comp_rel h with | @loop p _ h1 =>
    obtain ⟨I, ⟨n, e1, H1, hw, hI⟩, hr⟩ := hk
    let J : Nat → Act → World → Prop := fun n a w => ∃ C e, C.w = w ∧ Tr C0 C ∧ HRep C ∧ CRep C.R e a.tmps.toList ∧ a.defers = [] ∧ I n e C.H
    have h0 : J n a C.w := by
      obtain ⟨C', w', k1, k2, k3, k4⟩ := Wk_sound hw C0 C _ hn rfl ht hC hE
      subst k1
      exact ⟨C', e1, w', k2, k3, k4, hd, hI⟩
    refine wp_loop_n J h0 ?_
    rintro n a w ⟨C, e, rfl, ht, hC, hE, hd, hI⟩
    refine wp_mono (awp_sound x p h1 _ C0 C a e hn ht hC hE hd (hr n e C.H hI)) ?_
    rintro ex a' w' ⟨C', e', z, rfl, t', r', c', d', hx, hq⟩
    cases ex <;> simp only [exOf, reduceCtorEq, Option.some.injEq] at hx <;> subst hx
    · obtain ⟨m, e2, H2, hm, hw2, hI2⟩ := hq
      obtain ⟨C2, w2, k1, k2, k3, k4⟩ := Wk_sound hw2 C0 C' _ hn rfl t' r' c'
      subst k1
      exact ⟨m, hm, C2, e2, w2, k2, k3, k4, d', hI2⟩
    · exact ⟨C', e', _, rfl, t', r', c', d', rfl, hq⟩
    · exact ⟨C', e', _, rfl, t', r', c', d', rfl, hq⟩
  | .exit id, code, h, Q, C0, C, a, e, hn, ht, hC, hE, hd, hk => by
    simp only [awp] at hk
    cases comp_rel h with | exit =>
    exact wp_exit ⟨C, e, _, rfl, ht, hC, hE, hd, rfl, hk⟩
  | .scope x, code, h, Q, C0, C, a, e, hn, ht, hC, hE, hd, hk => by
    simp only [awp] at hk
    cases comp_rel h with | @scope p _ h1 =>
    refine wp_scope_straight (wp_mono (awp_sound x p h1 _ C0 C a e hn ht hC hE hd hk) ?_)
    rintro ex a' w' ⟨C', e', z, rfl, t', r', c', d', hx, hq⟩
    cases ex <;> simp only [exOf, reduceCtorEq, Option.some.injEq] at hx <;> subst hx
    · exact ⟨C', e', _, rfl, t', r', c', d', rfl, hq⟩
    · exact ⟨C', e', _, rfl, t', r', c', d', rfl, hq⟩
    · exact ⟨C', e', _, rfl, t', r', c', d', rfl, hq⟩
  | .ret, code, h, Q, C0, C, a, e, hn, ht, hC, hE, hd, hk => by
    simp only [awp] at hk
    cases comp_rel h with | ret =>
    exact wp_ret ⟨C, e, _, rfl, ht, hC, hE, hd, rfl, hk⟩
  | .bad, code, h, Q, C0, C, a, e, hn, ht, hC, hE, hd, hk => by
    simp only [awp] at hk
end
end Go.Av
