/- A part of a way to reckon what a Go program does without its memory (AvI). -/
import Derived.Test.YtllojkdacinhfaaAvH
namespace Go.Av
open Go Go.RowKit
set_option autoImplicit false
set_option linter.all false
section
variable {P : Program} {C : Ctx} {K : KV}
theorem eqGuard_int {op : BinOp} {t : TypeId} {x y : Operand} {k q : IntKind} {a b : Int} : eqGuard op t x y (.int k a) (.int q b) = Pure.pure () := by
  cases op <;> rfl
theorem eqGuard_str {op : BinOp} {t : TypeId} {x y : Operand} {a b : ByteArray} : eqGuard op t x y (.string a) (.string b) = Pure.pure () := by
  cases op <;> rfl
theorem bin_does {op : BinOp} {t : TypeId} {ox oy : Operand} {x y : V} {v u : Value} (hC : HRep C) (hv : VRep C.R x v) (hu : VRep C.R y u) (hk : binK op x y C.H K) :
    Does P (do eqGuard op t ox oy v u; binOp op t v u) C K := by
  unfold binK at hk
  split at hk
  · rename_i q a r b
    rw [VRep_int] at hv hu
    subst hv hu
    simp only [eqGuard_int]
    cases op <;> dsimp only at hk
    all_goals first
      | (obtain ⟨rfl, hk⟩ := hk; refine Does.pure hC ?_ (VRep_int.2 rfl) hk; simp [binOp, Op.intArith, Op.intBits]; done)
      | (obtain ⟨rfl, hk⟩ := hk; refine Does.pure hC ?_ (VRep_bool.2 rfl) hk; simp [binOp, Op.intCmp]; done)
      | (obtain ⟨⟨rfl, hb⟩, hk⟩ := hk; refine Does.pure hC ?_ (VRep_int.2 rfl) hk; simp [binOp, Op.intDiv, hb]; done)
      | (obtain ⟨hb, hk⟩ := hk; refine Does.pure hC ?_ (VRep_int.2 rfl) hk; simp [binOp, Op.shift, Int.not_lt.2 hb]; done)
  · rename_i a b
    rw [VRep_str] at hv hu
    subst hv hu
    simp only [eqGuard_str]
    cases op <;> dsimp only at hk
    all_goals first
      | exact hk.elim
      | (refine Does.pure hC ?_ (VRep_bool.2 rfl) hk; simp [binOp, Op.stringOp, bne]; done)
      | (obtain ⟨hl, hk⟩ := hk; refine Does.pure hC ?_ (VRep_str.2 rfl) hk; simp [binOp, Op.stringOp, ByteArray.size]; rw [if_neg (by omega)]; simp; rfl)
  · exact hk.elim
theorem binb_does {neg : Bool} {t : TypeId} {ox oy : Operand} {x y : V} {v u : Value} (ht : P.underlying t = some .bool) (hC : HRep C) (hv : VRep C.R x v) (hu : VRep C.R y u) (hk : binbK neg x y C.H K) :
    Does P (do eqGuard (if neg then .neq else .eql) t ox oy v u; binOp (if neg then .neq else .eql) t v u) C K := by
  unfold binbK at hk
  split at hk
  · rename_i a b
    rw [VRep_bool] at hv hu
    subst hv hu
    refine Does.pure hC ?_ (VRep_bool.2 rfl) hk
    cases neg
    · simp [eqGuard, run_eql_bool _ t a b ht]
    · simp [eqGuard, run_neq_bool _ t a b ht, bne]
  · exact hk.elim
/-- What a kind of type is. -/
def kindOk : Nat → Option TypeDesc → Bool
  | 0, some (.slice _) | 1, some (.pointer _) | 2, some (.map _ _) | 3, some (.func ..) => true
  | _, _ => false
theorem cnil_does {neg : Bool} {kind : Nat} {t : TypeId} {ox oy : Operand} {x y : V} {v u : Value} (ht : kindOk kind (P.underlying t) = true) (hC : HRep C) (hv : VRep C.R x v) (hu : VRep C.R y u) (hk : eqaK neg (isNil kind x y) C.H K) :
    Does P (do eqGuard (if neg then .neq else .eql) t ox oy v u; binOp (if neg then .neq else .eql) t v u) C K := by
  have fin : ∀ b : Bool, isNil kind x y = some b → (∀ d, (Op.equalIn (d + 1) t v u).run P C.w = .ok b C.w) → (∀ op, eqGuard op t ox oy v u = Pure.pure ()) → (binOp .eql t v u = do Pure.pure (.bool (← Op.equal t v u))) → (binOp .neq t v u = do Pure.pure (.bool (!(← Op.equal t v u)))) →
      Does P (do eqGuard (if neg then .neq else .eql) t ox oy v u; binOp (if neg then .neq else .eql) t v u) C K := by
    intro b hb hr' h1 h2 h3
    have hr : (Op.equal t v u).run P C.w = .ok b C.w := hr' 9999
    rw [hb] at hk
    refine Does.pure hC ?_ (VRep_bool.2 rfl) hk
    cases neg <;> simp [h1, h2, h3, hr]
  have ud : ∀ d, P.underlying t = some d → (underlying t).run P C.w = .ok d C.w := fun d h => run_underlying' h
  unfold isNil at hk
  cases hd : P.underlying t with
  | none => rw [hd] at ht; unfold kindOk at ht; split at ht <;> simp_all
  | some d =>
  rw [hd] at ht
  have hud := ud d hd
  split at hk
  all_goals first
    | exact hk.elim
    | (split at hk
       · rename_i hkd
         subst hkd
         cases d <;> simp only [kindOk, Bool.false_eq_true] at ht
         simp only [VRep] at hv hu
         first
           | (subst hv hu
              exact fin true (by simp [isNil]) (fun d => by simp [Op.equalIn, hud]) (fun op => by cases op <;> rfl) rfl rfl)
           | (subst hu
              rcases hv with ⟨h, _⟩ | ⟨b, o, cap, cells, rfl, _⟩
              · cases h
              · exact fin false (by simp [isNil]) (fun d => by simp [Op.equalIn, hud]) (fun op => by cases op <;> rfl) rfl rfl)
           | (subst hu
              rcases hv with ⟨h, _⟩ | ⟨b, o, cells, rfl, _⟩
              · cases h
              · exact fin false (by simp [isNil]) (fun d => by simp [Op.equalIn, hud]) (fun op => by cases op <;> rfl) rfl rfl)
           | (subst hu
              obtain ⟨b, o, cells, rfl, _⟩ := hv
              exact fin false (by simp [isNil]) (fun d => by simp [Op.equalIn, hud]) (fun op => by cases op <;> rfl) rfl rfl)
           | (subst hu
              obtain ⟨p, q, rfl, _⟩ := hv
              exact fin false (by simp [isNil]) (fun d => by simp [Op.equalIn, hud]) (fun op => by cases op <;> rfl) rfl rfl)
       · exact hk.elim)
theorem cnil_slice {neg : Bool} {t : TypeId} {ox oy : Operand} {a : Option Addr} {len cap : Nat} (ht : kindOk 0 (P.underlying t) = true) (hC : HRep C) (hk : K (.bool (if neg then !a.isNone else a.isNone)) C.H) :
    Does P (do eqGuard (if neg then .neq else .eql) t ox oy (.slice a len cap) (.slice none 0 0); binOp (if neg then .neq else .eql) t (.slice a len cap) (.slice none 0 0)) C K := by
  cases hd : P.underlying t with
  | none => rw [hd] at ht; cases ht
  | some d =>
    rw [hd] at ht
    have hud : (underlying t).run P C.w = .ok d C.w := run_underlying' hd
    cases d <;> simp only [kindOk, Bool.false_eq_true] at ht
    have hr : (Op.equal t (.slice a len cap) (.slice none 0 0)).run P C.w = .ok a.isNone C.w := by
      have : ∀ d, (Op.equalIn (d + 1) t (.slice a len cap) (.slice none 0 0)).run P C.w = .ok a.isNone C.w := fun d => by cases a <;> simp [Op.equalIn, hud]
      exact this 9999
    refine Does.pure hC ?_ (VRep_bool.2 rfl) hk
    have h1 : ∀ op, eqGuard op t ox oy (.slice a len cap) (.slice none 0 0) = Pure.pure () := fun op => by cases op <;> rfl
    have h2 : binOp .eql t (.slice a len cap) (.slice none 0 0) = (do Pure.pure (.bool (← Op.equal t (.slice a len cap) (.slice none 0 0)))) := rfl
    have h3 : binOp .neq t (.slice a len cap) (.slice none 0 0) = (do Pure.pure (.bool (!(← Op.equal t (.slice a len cap) (.slice none 0 0))))) := rfl
    cases neg <;> simp [h1, h2, h3, hr]
theorem cnil_any {neg : Bool} {kind : Nat} {t : TypeId} {ox oy : Operand} {x y : V} {v u : Value} (ht : kindOk kind (P.underlying t) = true) (hC : HRep C) (hv : VRep C.R x v) (hu : VRep C.R y u) (hk : cnilK kind neg x y C.H K) :
    Does P (do eqGuard (if neg then .neq else .eql) t ox oy v u; binOp (if neg then .neq else .eql) t v u) C K := by
  unfold cnilK at hk
  split at hk
  · obtain ⟨rfl, hk⟩ := hk
    simp only [VRep] at hv hu
    subst hu
    rcases hv with ⟨_, a, cap, rfl⟩ | ⟨b, o, cap, cells, rfl, _⟩
    · exact cnil_slice ht hC (hk _)
    · exact cnil_slice ht hC (hk _)
  · obtain ⟨rfl, hk⟩ := hk
    simp only [VRep] at hv hu
    subst hu
    rcases hv with ⟨_, a, rfl⟩ | ⟨b, o, cells, rfl, _⟩
    · exact cnil_slice ht hC (hk _)
    · exact cnil_slice ht hC (hk _)
  · obtain ⟨rfl, hk⟩ := hk
    simp only [VRep] at hv hu
    subst hu
    rename_i g
    have key : ∀ (xs : List V) (e : Entry), C.H[g]? = some e → (∃ E m, e = .row E m xs ∨ e = .irow m xs) → 0 = xs.length → (∀ b, K (.bool b) C.H) → Does P (do eqGuard (if neg then .neq else .eql) t ox oy v (.slice none 0 0); binOp (if neg then .neq else .eql) t v (.slice none 0 0)) C K := by
      intro xs e he hx hl hk
      have hs : ∃ m, C.R.sh g = some (.row m 0) := by
        obtain ⟨E, m, rfl | rfl⟩ := hx <;> exact ⟨m, by simp only [Ctx.R, Ctx.sh, he, Option.map_some, Entry.shp, ← hl]⟩
      obtain ⟨m, hs⟩ := hs
      rw [hs] at hv
      rcases hv.2.2 rfl with ⟨_, a, rfl⟩ | ⟨b, c, _, rfl⟩
      · exact cnil_slice ht hC (hk _)
      · exact cnil_slice ht hC (hk _)
    unfold isRow at hk
    split at hk
    · rename_i he; exact key _ _ he ⟨_, _, .inl rfl⟩ hk.1 hk.2
    · rename_i he; exact key _ _ he ⟨0, _, .inr rfl⟩ hk.1 hk.2
    · exact hk.elim
  · rename_i g n
    obtain ⟨rfl, hk⟩ := hk
    simp only [VRep] at hv hu
    subst hu
    have key : ∀ (xs : List V) (e : Entry), C.H[g]? = some e → (∃ E m, e = .row E m xs ∨ e = .irow m xs) → n + 1 = xs.length → K (.bool neg) C.H → Does P (do eqGuard (if neg then .neq else .eql) t ox oy v (.slice none 0 0); binOp (if neg then .neq else .eql) t v (.slice none 0 0)) C K := by
      intro xs e he hx hl hk
      have hs : ∃ m, C.R.sh g = some (.row m (n + 1)) := by
        obtain ⟨E, m, rfl | rfl⟩ := hx <;> exact ⟨m, by simp only [Ctx.R, Ctx.sh, he, Option.map_some, Entry.shp, ← hl]⟩
      have hb : C.R.β g ≠ none := by
        intro hb
        have h0 := hC.ent g e he
        obtain ⟨E, m, rfl | rfl⟩ := hx
        · rcases h0 with ⟨_, rfl⟩ | ⟨b, cap, cur, cells, h1, _⟩
          · simp at hl
          · rw [show C.R.β g = C.β g from rfl, h1] at hb; cases hb
        · rcases h0 with ⟨_, rfl⟩ | ⟨b, cap, cells, h1, _⟩
          · simp at hl
          · rw [show C.R.β g = C.β g from rfl, h1] at hb; cases hb
      obtain ⟨m, hs⟩ := hs
      rw [hs] at hv
      rcases hv.2.2 rfl with ⟨h, _⟩ | ⟨b, c, _, rfl⟩
      · exact absurd h hb
      · exact cnil_slice ht hC (by cases neg <;> exact hk)
    unfold isRow at hk
    split at hk
    · rename_i he; exact key _ _ he ⟨_, _, .inl rfl⟩ hk.1 hk.2
    · rename_i he; exact key _ _ he ⟨0, _, .inr rfl⟩ hk.1 hk.2
    · exact hk.elim
  · exact cnil_does ht hC hv hu hk
theorem un_does {op : UnOp} {x : V} {v : Value} (hC : HRep C) (hv : VRep C.R x v) (hk : unK op x C.H K) : Does P (Op.unary op v) C K := by
  unfold unK at hk
  split at hk
  · rw [VRep_int] at hv; subst hv
    exact Does.pure hC (by simp [Op.unary, Op.intArith]) (VRep_int.2 rfl) hk
  · rw [VRep_int] at hv; subst hv
    exact Does.pure hC (by simp [Op.unary, Op.intBits]) (VRep_int.2 rfl) hk
  · rw [VRep_bool] at hv; subst hv
    exact Does.pure hC (by simp [Op.unary]) (VRep_bool.2 rfl) hk
  · exact hk.elim
theorem cvi_does {s t : TypeId} {q r : IntKind} {x : V} {v : Value} (hs : P.underlying s = some (.int r)) (ht : P.underlying t = some (.int q)) (hC : HRep C) (hv : VRep C.R x v) (hk : cviK q x C.H K) : Does P (convert s t v) C K := by
  unfold cviK at hk
  split at hk
  · rw [VRep_int] at hv; subst hv
    exact Does.pure hC (by simp [convert, run_underlying' hs, run_underlying' ht, Conv.intToInt]) (VRep_int.2 rfl) hk
  · exact hk.elim
theorem mnx_does {m : Bool} {ts : Array TypeId} {t : TypeId} {l : List V} {vs : List Value} (hC : HRep C) (hv : CRep C.R l vs) (hk : mnxK (mnxI m l) C.H K) :
    Does P (if m then Builtin.min_ ts t vs.toArray else Builtin.max_ ts t vs.toArray) C K := by
  unfold mnxK at hk
  split at hk
  · rename_i q a he
    unfold mnxI at he
    split at he
    · rename_i q' a' r b
      split at he
      · rename_i hqr
        cases he
        subst hqr
        simp only [CRep] at hv
        obtain ⟨d, r, rfl, h1, d2, r2, rfl, h2, rfl⟩ := hv
        rw [VRep_int] at h1 h2
        subst h1 h2
        refine Does.pure hC ?_ (VRep_int.2 rfl) hk
        cases m
        · simp only [Bool.false_eq_true, if_false]
          exact run_max_int2 _ ts t _ _ a' b
        · simp only [if_true]
          exact run_min_int2 _ ts t _ _ a' b
      · cases he
    · cases he
  · exact hk.elim
end
end Go.Av
