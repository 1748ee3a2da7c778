/- A part of a way to reckon what a Go program does without its memory (AvH). -/
import Derived.Test.YtgeiicchkfpanaaAvA
namespace Go.Av
open Go Go.RowKit
set_option autoImplicit false
set_option linter.all false
section
variable {P : Program} {C : Ctx} {K : KV}
theorem row_none {j n : Nat} {e : Entry} {xs : List V} (hC : HRep C) (he : C.H[j]? = some e) (hs : e.shp = .row n xs.length) (hb : C.β j = none) (h : 0 < xs.length) : False := by
  have := hC.ent j e he
  cases e <;> simp only [Entry.shp, Shp.row.injEq, reduceCtorEq] at hs
  · rcases this with ⟨_, rfl⟩ | ⟨b, _, _, _, k1, _⟩
    · simp at hs; omega
    · rw [hb] at k1; cases k1
  · rcases this with ⟨_, rfl⟩ | ⟨b, _, _, k1, _⟩
    · simp at hs; omega
    · rw [hb] at k1; cases k1

/-! An element's place -/
theorem indexAt_run {t e : TypeId} {n : Nat} (hu : P.underlying t = some (.slice e)) (hn : sizeT P e = some n) (b o len cap : Nat) (q : IntKind) (j : Int) (h0 : 0 ≤ j) (h1 : j < len) {w : World} :
    (Instr.indexAt t (.slice (some ⟨b, o, none⟩) len cap) (.int q j)).run P w = .ok (.pointer (some ⟨b, o + j.toNat * n, none⟩)) w := by
  simp [Instr.indexAt, asIntOf, run_underlying' hu, run_sizeOf hn, Addr.add_lit, h0, h1]
theorem iad_does {t e : TypeId} {n : Nat} {x i : V} {v u : Value} (hu : P.underlying t = some (.slice e)) (hn : sizeT P e = some n) (hC : HRep C) (hv : VRep C.R x v) (hi : VRep C.R i u)
    (hk : iadK n x i C.H K) : Does P (Instr.indexAt t v u) C K := by
  have key : ∀ {xs : List V} {q : IntKind} {j : Int} {b o cap : Nat} {cells : List Value}, ¬ C.av b → b < C.w.heap.size → cellsAt C.w b o cells → ERep C.R.deep n xs cells → 0 ≤ j ∧ j < xs.length → K (.ref (nth xs j.toNat).cells) C.H →
      Does P (Instr.indexAt t (.slice (some ⟨b, o, none⟩) xs.length cap) (.int q j)) C K := by
    intro xs q j b o cap cells h1 h2 hc hr hj hk
    obtain ⟨u, e1, e2, e3, e4⟩ := ERep_at j.toNat hr (by omega)
    refine Does.pure hC (indexAt_run hu hn b o _ cap q j hj.1 hj.2) ?_ hk
    simp only [VRep]
    refine ⟨b, o + j.toNat * n, _, rfl, h1, h2, cellsAt_drop hc (j.toNat * n) n, ?_⟩
    rw [← e1]
    exact cells_rep e4 e3
  unfold iadK at hk
  split at hk
  · rename_i m xs q j
    obtain ⟨⟨rfl, hj⟩, hk⟩ := hk
    rw [VRep_int] at hi
    subst hi
    simp only [VRep] at hv
    rcases hv with ⟨rfl, _⟩ | ⟨b, o, cap, cells, rfl, _, h1, h2, hc, hr⟩
    · simp at hj; omega
    · exact key h1 h2 hc hr hj hk
  · rename_i m xs q j
    obtain ⟨⟨rfl, hj⟩, hk⟩ := hk
    rw [VRep_int] at hi
    subst hi
    simp only [VRep] at hv
    rcases hv with ⟨rfl, _⟩ | ⟨b, o, cells, rfl, h1, h2, hc, hr⟩
    · simp at hj; omega
    · exact key h1 h2 hc hr hj hk
  · rename_i g len q j
    rw [VRep_int] at hi
    subst hi
    obtain ⟨hj, hk⟩ := hk
    obtain ⟨en, m, xs, he, hs, hl, ⟨hm, hk2⟩, hor⟩ := isRow_at hk
    clear hk
    have hk := hk2
    have hm2 : m = n := by
      rw [he] at hm
      rcases hor with ⟨E, rfl⟩ | rfl <;> simpa [rowN] using hm
    subst hm2
    rcases own_at hv he hs hl with ⟨hb, a, rfl⟩ | ⟨b, c, hb, rfl⟩
    · exact (row_none hC he hs hb (by omega)).elim
    · refine Does.pure hC (indexAt_run hu hn b 0 _ c q j hj.1 hj.2) ?_ hk
      simp only [VRep, Ctx.R, sh_of he, hs]
      exact ⟨rfl, by omega, fun _ => ⟨b, c, hb, by simp⟩⟩
  · rename_i g len a b q j
    rw [VRep_int] at hi
    subst hi
    obtain ⟨hj, hk⟩ := hk
    obtain ⟨en, m, xs, he, hs, hl, ⟨hm, hk2⟩, hor⟩ := isRow_at hk
    clear hk
    have hk := hk2
    have hm2 : m = n := by
      rw [he] at hm
      rcases hor with ⟨E, rfl⟩ | rfl <;> simpa [rowN] using hm
    subst hm2
    obtain ⟨⟨h1, h2⟩, b, c, o, hb, hc, rfl, ho⟩ := cut_at hv he hs hl
    refine Does.pure hC (indexAt_run hu hn b o _ _ q j hj.1 hj.2) ?_ hk
    simp only [VRep, Ctx.R, sh_of he, hs]
    refine ⟨rfl, by omega, fun _ => ⟨b, c, hb, ?_⟩⟩
    rw [ho (by omega)]; simp [Nat.add_mul]
  · exact hk.elim

/-! Places in an array; parts of a value -/
theorem iaa_does {t e : TypeId} {len n : Nat} {x i : V} {v u : Value} (hu : P.underlying t = some (.array len e)) (hn : sizeT P e = some n) (hC : HRep C) (hv : VRep C.R x v) (hi : VRep C.R i u)
    (hk : iaaK len n x i C.H K) : Does P (Instr.indexAt t v u) C K := by
  have run : ∀ (b o : Nat) (q : IntKind) (j : Int), 0 ≤ j → j < len → (Instr.indexAt t (.pointer (some ⟨b, o, none⟩)) (.int q j)).run P C.w = .ok (.pointer (some ⟨b, o + j.toNat * n, none⟩)) C.w := by
    intro b o q j h0 h1
    simp [Instr.indexAt, asIntOf, run_underlying' hu, run_sizeOf hn, Addr.add_lit, h0, h1, Instr.sureAddr]
  unfold iaaK at hk
  split at hk
  · rename_i cs q j
    rw [VRep_int] at hi
    subst hi
    simp only [VRep] at hv
    obtain ⟨b, o, cells, rfl, h1, h2, hc, hr⟩ := hv
    refine Does.pure hC (run b o q j hk.1.1 hk.1.2) ?_ hk.2
    simp only [VRep]
    refine ⟨b, o + j.toNat * n, cells.drop (j.toNat * n), rfl, h1, h2, ?_, CRep_drop _ hr⟩
    intro k c hk
    rw [List.getElem?_drop] at hk
    rw [Nat.add_assoc]
    exact hc _ _ hk
  · rename_i g o q j
    rw [VRep_int] at hi
    subst hi
    obtain ⟨b, c, hb, rfl, hsh, hk2⟩ := box_at hv hk.2
    refine Does.pure hC (run b o q j hk.1.1 hk.1.2) ?_ hk2
    simp only [VRep, hsh]
    exact ⟨rfl, b, c, hb, rfl⟩
  · exact hk.elim
theorem part_run {t : TypeId} {n off : Nat} {cs : List V} {ds : List Value} (hs : sizeT P t = some n) (ht : tyOk P t n = true) (hr : CRep C.R cs ds) (hl : off + n ≤ cs.length) {w : World} :
    ∃ v, (Go.part t ds.toArray off).run P w = .ok v w ∧ VRep C.R (part n (isAggT P t) (cs.drop off)) v := by
  obtain ⟨hu, h1⟩ := tyOk_parts ht
  have hlen := CRep_length hr
  cases hg : isAggT P t with
  | true =>
    refine ⟨.agg ((ds.drop off).take n).toArray, ?_, ?_⟩
    · simp [Go.part, run_isAgg hs hu, hg, run_sizeOf hs]
    · simp only [part, cond_true, VRep]
      exact ⟨_, rfl, CRep_take n (CRep_drop off hr)⟩
  | false =>
    have e1 := h1 hg
    subst e1
    have hlt : off < ds.length := by omega
    refine ⟨ds[off], ?_, ?_⟩
    · simp [Go.part, run_isAgg hs hu, hg, hlt]
    · simp only [part, cond_false]
      exact CRep_get 0 _ (CRep_drop off hr) (by simp [List.getElem?_drop, hlt])
theorem fld_does {s : TypeId} {fs : Array Field} {g : Field} {f n : Nat} {x : V} {v : Value} (hu : P.underlying s = some (.struct fs)) (hf : fs[f]? = some g) (hn : sizeT P g.type = some n) (ht : tyOk P g.type n = true) (hC : HRep C)
    (hv : VRep C.R x v) (hk : fldK g.offset n (isAggT P g.type) x C.H K) : Does P (Instr.field s v f) C K := by
  unfold fldK at hk
  split at hk
  · rename_i cs
    simp only [VRep] at hv
    obtain ⟨ds, rfl, hr⟩ := hv
    obtain ⟨u, h1, h2⟩ := part_run (C := C) (w := C.w) hn ht hr hk.1
    refine Does.pure hC ?_ h2 hk.2
    simp [Instr.field, run_underlying' hu, hf, asAgg, h1]
  · exact hk.elim
theorem ixa_does {t e : TypeId} {len n : Nat} {x i : V} {v u : Value} (hu : P.underlying t = some (.array len e)) (hn : sizeT P e = some n) (ht : tyOk P e n = true) (hC : HRep C) (hv : VRep C.R x v) (hi : VRep C.R i u)
    (hk : ixaK len n (isAggT P e) x i C.H K) : Does P (Instr.index t v u) C K := by
  unfold ixaK at hk
  split at hk
  · rename_i cs q j
    rw [VRep_int] at hi
    subst hi
    simp only [VRep] at hv
    obtain ⟨ds, rfl, hr⟩ := hv
    obtain ⟨⟨h0, h1, h2⟩, hk⟩ := hk
    have hfit : j.toNat * n + n ≤ cs.length := by
      have : (j.toNat + 1) * n ≤ len * n := Nat.mul_le_mul_right n (by omega)
      rw [Nat.add_mul, Nat.one_mul] at this
      omega
    obtain ⟨z, k1, k2⟩ := part_run (C := C) (w := C.w) hn ht hr hfit
    refine Does.pure hC ?_ k2 hk
    simp [Instr.index, asIntOf, run_underlying' hu, h0, h1, run_sizeOf hn, k1]
  · exact hk.elim
theorem ixs_does {t : TypeId} {x i : V} {v u : Value} (hu : P.underlying t = some .string) (hC : HRep C) (hv : VRep C.R x v) (hi : VRep C.R i u) (hk : ixsK x i C.H K) : Does P (Instr.index t v u) C K := by
  unfold ixsK at hk
  split at hk
  · rename_i s q j
    rw [VRep_int] at hi
    rw [VRep_str] at hv
    subst hi hv
    obtain ⟨⟨h0, h1⟩, hk⟩ := hk
    have hlt : j.toNat < s.length := by omega
    refine Does.pure hC (v := .int .u8 (octet s j.toNat)) ?_ (by simp [VRep]) hk
    have hb : (⟨s.toArray⟩ : ByteArray)[j.toNat]? = some s[j.toNat] := by
      have hsz : j.toNat < (⟨s.toArray⟩ : ByteArray).size := by simpa [ByteArray.size] using hlt
      rw [getElem?_pos (⟨s.toArray⟩ : ByteArray) j.toNat hsz]
      rfl
    simp [Instr.index, asIntOf, run_underlying' hu, h0, hb, octet, hlt]
  · exact hk.elim
theorem ext_does {i : Nat} {x : V} {v : Value} (hC : HRep C) (hv : VRep C.R x v) (hk : extK i x C.H K) : Does P (Instr.extract v i) C K := by
  unfold extK at hk
  split at hk
  · rename_i vs
    simp only [VRep] at hv
    obtain ⟨ds, rfl, hr⟩ := hv
    have hl := CRep_length hr
    have hlt : i < ds.length := by omega
    refine Does.pure hC (v := ds[i]) ?_ (CRep_get i _ hr (List.getElem?_eq_getElem hlt)) hk.2
    simp [Instr.extract, hlt]
  · exact hk.elim
end
end Go.Av
namespace Go.Av
open Go Go.RowKit
set_option autoImplicit false
set_option linter.all false
section
variable {P : Program} {C : Ctx} {K : KV}
theorem eqGuard_int {op : BinOp} {t : TypeId} {x y : Operand} {k q : IntKind} {a b : Int} : eqGuard op t x y (.int k a) (.int q b) = Pure.pure () := by
  cases op <;> rfl
theorem eqGuard_str {op : BinOp} {t : TypeId} {x y : Operand} {a b : ByteArray} : eqGuard op t x y (.string a) (.string b) = Pure.pure () := by
  cases op <;> rfl
theorem bin_does {op : BinOp} {t : TypeId} {ox oy : Operand} {x y : V} {v u : Value} (hC : HRep C) (hv : VRep C.R x v) (hu : VRep C.R y u) (hk : binK op x y C.H K) :
    Does P (do eqGuard op t ox oy v u; binOp op t v u) C K := by
  unfold binK at hk
  split at hk
  · rename_i q a r b
    rw [VRep_int] at hv hu
    subst hv hu
    simp only [eqGuard_int]
    cases op <;> dsimp only at hk
    all_goals first
      | (obtain ⟨rfl, hk⟩ := hk; refine Does.pure hC ?_ (VRep_int.2 rfl) hk; simp [binOp, Op.intArith, Op.intBits]; done)
      | (obtain ⟨rfl, hk⟩ := hk; refine Does.pure hC ?_ (VRep_bool.2 rfl) hk; simp [binOp, Op.intCmp]; done)
      | (obtain ⟨⟨rfl, hb⟩, hk⟩ := hk; refine Does.pure hC ?_ (VRep_int.2 rfl) hk; simp [binOp, Op.intDiv, hb]; done)
      | (obtain ⟨hb, hk⟩ := hk; refine Does.pure hC ?_ (VRep_int.2 rfl) hk; simp [binOp, Op.shift, Int.not_lt.2 hb]; done)
  · rename_i a b
    rw [VRep_str] at hv hu
    subst hv hu
    simp only [eqGuard_str]
    cases op <;> dsimp only at hk
    all_goals first
      | exact hk.elim
      | (refine Does.pure hC ?_ (VRep_bool.2 rfl) hk; simp [binOp, Op.stringOp, bne]; done)
      | (obtain ⟨hl, hk⟩ := hk; refine Does.pure hC ?_ (VRep_str.2 rfl) hk; simp [binOp, Op.stringOp, ByteArray.size]; rw [if_neg (by omega)]; simp; rfl)
  · exact hk.elim
theorem binb_does {neg : Bool} {t : TypeId} {ox oy : Operand} {x y : V} {v u : Value} (ht : P.underlying t = some .bool) (hC : HRep C) (hv : VRep C.R x v) (hu : VRep C.R y u) (hk : binbK neg x y C.H K) :
    Does P (do eqGuard (if neg then .neq else .eql) t ox oy v u; binOp (if neg then .neq else .eql) t v u) C K := by
  unfold binbK at hk
  split at hk
  · rename_i a b
    rw [VRep_bool] at hv hu
    subst hv hu
    refine Does.pure hC ?_ (VRep_bool.2 rfl) hk
    cases neg
    · simp [eqGuard, run_eql_bool _ t a b ht]
    · simp [eqGuard, run_neq_bool _ t a b ht, bne]
  · exact hk.elim
/-- What a kind of type is. -/
def kindOk : Nat → Option TypeDesc → Bool
  | 0, some (.slice _) | 1, some (.pointer _) | 2, some (.map _ _) | 3, some (.func ..) => true
  | _, _ => false
theorem cnil_does {neg : Bool} {kind : Nat} {t : TypeId} {ox oy : Operand} {x y : V} {v u : Value} (ht : kindOk kind (P.underlying t) = true) (hC : HRep C) (hv : VRep C.R x v) (hu : VRep C.R y u) (hk : eqaK neg (isNil kind x y) C.H K) :
    Does P (do eqGuard (if neg then .neq else .eql) t ox oy v u; binOp (if neg then .neq else .eql) t v u) C K := by
  have fin : ∀ b : Bool, isNil kind x y = some b → (∀ d, (Op.equalIn (d + 1) t v u).run P C.w = .ok b C.w) → (∀ op, eqGuard op t ox oy v u = Pure.pure ()) → (binOp .eql t v u = do Pure.pure (.bool (← Op.equal t v u))) → (binOp .neq t v u = do Pure.pure (.bool (!(← Op.equal t v u)))) →
      Does P (do eqGuard (if neg then .neq else .eql) t ox oy v u; binOp (if neg then .neq else .eql) t v u) C K := by
    intro b hb hr' h1 h2 h3
    have hr : (Op.equal t v u).run P C.w = .ok b C.w := hr' 9999
    rw [hb] at hk
    refine Does.pure hC ?_ (VRep_bool.2 rfl) hk
    cases neg <;> simp [h1, h2, h3, hr]
  have ud : ∀ d, P.underlying t = some d → (underlying t).run P C.w = .ok d C.w := fun d h => run_underlying' h
  unfold isNil at hk
  cases hd : P.underlying t with
  | none => rw [hd] at ht; unfold kindOk at ht; split at ht <;> simp_all
  | some d =>
  rw [hd] at ht
  have hud := ud d hd
  split at hk
  all_goals first
    | exact hk.elim
    | (split at hk
       · rename_i hkd
         subst hkd
         cases d <;> simp only [kindOk, Bool.false_eq_true] at ht
         simp only [VRep] at hv hu
         first
           | (subst hv hu
              exact fin true (by simp [isNil]) (fun d => by simp [Op.equalIn, hud]) (fun op => by cases op <;> rfl) rfl rfl)
           | (subst hu
              rcases hv with ⟨h, _⟩ | ⟨b, o, cap, cells, rfl, _⟩
              · cases h
              · exact fin false (by simp [isNil]) (fun d => by simp [Op.equalIn, hud]) (fun op => by cases op <;> rfl) rfl rfl)
           | (subst hu
              rcases hv with ⟨h, _⟩ | ⟨b, o, cells, rfl, _⟩
              · cases h
              · exact fin false (by simp [isNil]) (fun d => by simp [Op.equalIn, hud]) (fun op => by cases op <;> rfl) rfl rfl)
           | (subst hu
              obtain ⟨b, o, cells, rfl, _⟩ := hv
              exact fin false (by simp [isNil]) (fun d => by simp [Op.equalIn, hud]) (fun op => by cases op <;> rfl) rfl rfl)
           | (subst hu
              obtain ⟨p, q, rfl, _⟩ := hv
              exact fin false (by simp [isNil]) (fun d => by simp [Op.equalIn, hud]) (fun op => by cases op <;> rfl) rfl rfl)
       · exact hk.elim)
theorem cnil_slice {neg : Bool} {t : TypeId} {ox oy : Operand} {a : Option Addr} {len cap : Nat} (ht : kindOk 0 (P.underlying t) = true) (hC : HRep C) (hk : K (.bool (if neg then !a.isNone else a.isNone)) C.H) :
    Does P (do eqGuard (if neg then .neq else .eql) t ox oy (.slice a len cap) (.slice none 0 0); binOp (if neg then .neq else .eql) t (.slice a len cap) (.slice none 0 0)) C K := by
  cases hd : P.underlying t with
  | none => rw [hd] at ht; cases ht
  | some d =>
    rw [hd] at ht
    have hud : (underlying t).run P C.w = .ok d C.w := run_underlying' hd
    cases d <;> simp only [kindOk, Bool.false_eq_true] at ht
    have hr : (Op.equal t (.slice a len cap) (.slice none 0 0)).run P C.w = .ok a.isNone C.w := by
      have : ∀ d, (Op.equalIn (d + 1) t (.slice a len cap) (.slice none 0 0)).run P C.w = .ok a.isNone C.w := fun d => by cases a <;> simp [Op.equalIn, hud]
      exact this 9999
    refine Does.pure hC ?_ (VRep_bool.2 rfl) hk
    have h1 : ∀ op, eqGuard op t ox oy (.slice a len cap) (.slice none 0 0) = Pure.pure () := fun op => by cases op <;> rfl
    have h2 : binOp .eql t (.slice a len cap) (.slice none 0 0) = (do Pure.pure (.bool (← Op.equal t (.slice a len cap) (.slice none 0 0)))) := rfl
    have h3 : binOp .neq t (.slice a len cap) (.slice none 0 0) = (do Pure.pure (.bool (!(← Op.equal t (.slice a len cap) (.slice none 0 0))))) := rfl
    cases neg <;> simp [h1, h2, h3, hr]
theorem cnil_any {neg : Bool} {kind : Nat} {t : TypeId} {ox oy : Operand} {x y : V} {v u : Value} (ht : kindOk kind (P.underlying t) = true) (hC : HRep C) (hv : VRep C.R x v) (hu : VRep C.R y u) (hk : cnilK kind neg x y C.H K) :
    Does P (do eqGuard (if neg then .neq else .eql) t ox oy v u; binOp (if neg then .neq else .eql) t v u) C K := by
  unfold cnilK at hk
  split at hk
  · obtain ⟨rfl, hk⟩ := hk
    simp only [VRep] at hv hu
    subst hu
    rcases hv with ⟨_, a, cap, rfl⟩ | ⟨b, o, cap, cells, rfl, _⟩
    · exact cnil_slice ht hC (hk _)
    · exact cnil_slice ht hC (hk _)
  · obtain ⟨rfl, hk⟩ := hk
    simp only [VRep] at hv hu
    subst hu
    rcases hv with ⟨_, a, rfl⟩ | ⟨b, o, cells, rfl, _⟩
    · exact cnil_slice ht hC (hk _)
    · exact cnil_slice ht hC (hk _)
  · obtain ⟨rfl, hk⟩ := hk
    simp only [VRep] at hv hu
    subst hu
    rename_i g
    have key : ∀ (xs : List V) (e : Entry), C.H[g]? = some e → (∃ E m, e = .row E m xs ∨ e = .irow m xs) → 0 = xs.length → (∀ b, K (.bool b) C.H) → Does P (do eqGuard (if neg then .neq else .eql) t ox oy v (.slice none 0 0); binOp (if neg then .neq else .eql) t v (.slice none 0 0)) C K := by
      intro xs e he hx hl hk
      have hs : ∃ m, C.R.sh g = some (.row m 0) := by
        obtain ⟨E, m, rfl | rfl⟩ := hx <;> exact ⟨m, by simp only [Ctx.R, Ctx.sh, he, Option.map_some, Entry.shp, ← hl]⟩
      obtain ⟨m, hs⟩ := hs
      rw [hs] at hv
      rcases hv.2.2 rfl with ⟨_, a, rfl⟩ | ⟨b, c, _, rfl⟩
      · exact cnil_slice ht hC (hk _)
      · exact cnil_slice ht hC (hk _)
    unfold isRow at hk
    split at hk
    · rename_i he; exact key _ _ he ⟨_, _, .inl rfl⟩ hk.1 hk.2
    · rename_i he; exact key _ _ he ⟨0, _, .inr rfl⟩ hk.1 hk.2
    · exact hk.elim
  · rename_i g n
    obtain ⟨rfl, hk⟩ := hk
    simp only [VRep] at hv hu
    subst hu
    have key : ∀ (xs : List V) (e : Entry), C.H[g]? = some e → (∃ E m, e = .row E m xs ∨ e = .irow m xs) → n + 1 = xs.length → K (.bool neg) C.H → Does P (do eqGuard (if neg then .neq else .eql) t ox oy v (.slice none 0 0); binOp (if neg then .neq else .eql) t v (.slice none 0 0)) C K := by
      intro xs e he hx hl hk
      have hs : ∃ m, C.R.sh g = some (.row m (n + 1)) := by
        obtain ⟨E, m, rfl | rfl⟩ := hx <;> exact ⟨m, by simp only [Ctx.R, Ctx.sh, he, Option.map_some, Entry.shp, ← hl]⟩
      have hb : C.R.β g ≠ none := by
        intro hb
        have h0 := hC.ent g e he
        obtain ⟨E, m, rfl | rfl⟩ := hx
        · rcases h0 with ⟨_, rfl⟩ | ⟨b, cap, cur, cells, h1, _⟩
          · simp at hl
          · rw [show C.R.β g = C.β g from rfl, h1] at hb; cases hb
        · rcases h0 with ⟨_, rfl⟩ | ⟨b, cap, cells, h1, _⟩
          · simp at hl
          · rw [show C.R.β g = C.β g from rfl, h1] at hb; cases hb
      obtain ⟨m, hs⟩ := hs
      rw [hs] at hv
      rcases hv.2.2 rfl with ⟨h, _⟩ | ⟨b, c, _, rfl⟩
      · exact absurd h hb
      · exact cnil_slice ht hC (by cases neg <;> exact hk)
    unfold isRow at hk
    split at hk
    · rename_i he; exact key _ _ he ⟨_, _, .inl rfl⟩ hk.1 hk.2
    · rename_i he; exact key _ _ he ⟨0, _, .inr rfl⟩ hk.1 hk.2
    · exact hk.elim
  · exact cnil_does ht hC hv hu hk
theorem un_does {op : UnOp} {x : V} {v : Value} (hC : HRep C) (hv : VRep C.R x v) (hk : unK op x C.H K) : Does P (Op.unary op v) C K := by
  unfold unK at hk
  split at hk
  · rw [VRep_int] at hv; subst hv
    exact Does.pure hC (by simp [Op.unary, Op.intArith]) (VRep_int.2 rfl) hk
  · rw [VRep_int] at hv; subst hv
    exact Does.pure hC (by simp [Op.unary, Op.intBits]) (VRep_int.2 rfl) hk
  · rw [VRep_bool] at hv; subst hv
    exact Does.pure hC (by simp [Op.unary]) (VRep_bool.2 rfl) hk
  · exact hk.elim
theorem cvi_does {s t : TypeId} {q r : IntKind} {x : V} {v : Value} (hs : P.underlying s = some (.int r)) (ht : P.underlying t = some (.int q)) (hC : HRep C) (hv : VRep C.R x v) (hk : cviK q x C.H K) : Does P (convert s t v) C K := by
  unfold cviK at hk
  split at hk
  · rw [VRep_int] at hv; subst hv
    exact Does.pure hC (by simp [convert, run_underlying' hs, run_underlying' ht, Conv.intToInt]) (VRep_int.2 rfl) hk
  · exact hk.elim
theorem mnx_does {m : Bool} {ts : Array TypeId} {t : TypeId} {l : List V} {vs : List Value} (hC : HRep C) (hv : CRep C.R l vs) (hk : mnxK (mnxI m l) C.H K) :
    Does P (if m then Builtin.min_ ts t vs.toArray else Builtin.max_ ts t vs.toArray) C K := by
  unfold mnxK at hk
  split at hk
  · rename_i q a he
    unfold mnxI at he
    split at he
    · rename_i q' a' r b
      split at he
      · rename_i hqr
        cases he
        subst hqr
        simp only [CRep] at hv
        obtain ⟨d, r, rfl, h1, d2, r2, rfl, h2, rfl⟩ := hv
        rw [VRep_int] at h1 h2
        subst h1 h2
        refine Does.pure hC ?_ (VRep_int.2 rfl) hk
        cases m
        · simp only [Bool.false_eq_true, if_false]
          exact run_max_int2 _ ts t _ _ a' b
        · simp only [if_true]
          exact run_min_int2 _ ts t _ _ a' b
      · cases he
    · cases he
  · exact hk.elim
end
end Go.Av
namespace Go.Av
open Go Go.RowKit
set_option autoImplicit false
set_option linter.all false
section
variable {P : Program}
/-! ### Equality of structs and arrays, cell by cell -/
theorem cellsEq_append : ∀ {ks ls : List Nat} {a c : List V} {x : Bool}, cellsEq (ks ++ ls) a c = some x →
    ∃ y z, cellsEq ks (a.take ks.length) (c.take ks.length) = some y ∧ cellsEq ls (a.drop ks.length) (c.drop ks.length) = some z ∧ x = (y && z)
  | [], ls, a, c, x, h => ⟨true, x, by simp [cellsEq], by simpa using h, by simp⟩
  | k :: ks, ls, [], c, x, h => by simp [cellsEq] at h
  | k :: ks, ls, p :: a, [], x, h => by simp [cellsEq] at h
  | k :: ks, ls, p :: a, q :: c, x, h => by
    simp only [List.cons_append, cellsEq] at h
    split at h
    · rename_i u v h1 h2
      obtain ⟨y, z, h3, h4, rfl⟩ := cellsEq_append h2
      cases h
      exact ⟨u && y, z, by simp only [List.length_cons, List.take_succ_cons, cellsEq, h1, h3], by simpa using h4, by simp [Bool.and_assoc]⟩
    · cases h
theorem cellsEq_len : ∀ {ks : List Nat} {a c : List V} {x : Bool}, cellsEq ks a c = some x → a.length = ks.length ∧ c.length = ks.length
  | [], [], [], x, h => by simp
  | [], p :: a, c, x, h => by simp [cellsEq] at h
  | [], [], q :: c, x, h => by simp [cellsEq] at h
  | k :: ks, [], c, x, h => by simp [cellsEq] at h
  | k :: ks, p :: a, [], x, h => by simp [cellsEq] at h
  | k :: ks, p :: a, q :: c, x, h => by
    simp only [cellsEq] at h
    split at h
    · rename_i u v h1 h2
      have := cellsEq_len h2
      simp [this.1, this.2]
    · cases h
def partEq (D : Nat) (t : TypeId) (vs us : List Value) (off : Nat) : Sem Bool := do
  let x ← Go.part t vs.toArray off
  let y ← Go.part t us.toArray off
  Op.equalIn D t x y
theorem part_agg_run {t : TypeId} {n off : Nat} {ds : List Value} {w : World} (hs : sizeT P t = some n) (hu : (P.underlying t).isSome = true) (hg : isAggT P t = true) :
    (Go.part t ds.toArray off).run P w = .ok (.agg ((ds.drop off).take n).toArray) w := by
  simp [Go.part, run_isAgg hs hu, hg, run_sizeOf hs]
theorem part_atom_run {t : TypeId} {n off : Nat} {ds : List Value} {w : World} (hs : sizeT P t = some n) (hu : (P.underlying t).isSome = true) (hg : isAggT P t = false) (h : off < ds.length) :
    (Go.part t ds.toArray off).run P w = .ok ds[off] w := by
  simp [Go.part, run_isAgg hs hu, hg, h]
/-- What the cells say of a value. -/
def EqOk (P : Program) (R : Rd) (f : TypeId → Option (List Nat)) (D : Nat) : Prop :=
  ∀ (t : TypeId) (ks : List Nat) (off : Nat) (cs ds : List V) (vs us : List Value) (b : Bool) (w : World), f t = some ks → CRep R cs vs → CRep R ds us →
    cellsEq ks ((cs.drop off).take ks.length) ((ds.drop off).take ks.length) = some b → (partEq D t vs us off).run P w = .ok b w
theorem flatF_ext {f : TypeId → Option (List Nat)} : ∀ {fs : List Field} {acc ks : List Nat}, flatF f acc fs = some ks → ∃ m, ks = acc ++ m
  | [], acc, ks, h => by simp only [flatF, Option.some.injEq] at h; exact ⟨[], by simp [h]⟩
  | x :: fs, acc, ks, h => by
    simp only [flatF] at h
    split at h
    · split at h
      · rename_i l hl
        obtain ⟨m, rfl⟩ := flatF_ext h
        exact ⟨l ++ m, by simp⟩
      · cases h
    · cases h
theorem eqFields_run {R : Rd} {f : TypeId → Option (List Nat)} {D : Nat} (hf : EqOk P R f D) : ∀ (fs : List Field) (acc ks : List Nat) (cs ds : List V) (vs us : List Value) (b : Bool) (w : World),
    flatF f acc fs = some ks → CRep R cs vs → CRep R ds us → cellsEq (ks.drop acc.length) (cs.drop acc.length) (ds.drop acc.length) = some b → (Op.eqFields D vs.toArray us.toArray fs).run P w = .ok b w
  | [], acc, ks, cs, ds, vs, us, b, w, h, _, _, he => by
    simp only [flatF, Option.some.injEq] at h
    subst h
    rw [List.drop_length] at he
    have := cellsEq_len he
    have e1 := List.eq_nil_of_length_eq_zero this.1
    have e2 := List.eq_nil_of_length_eq_zero this.2
    rw [e1, e2] at he
    simp only [cellsEq, Option.some.injEq] at he
    subst he
    simp [Op.eqFields]
  | x :: fs, acc, ks, cs, ds, vs, us, b, w, h, hr, hr2, he => by
    simp only [flatF] at h
    split at h
    · rename_i hx
      split at h
      · rename_i l hl
        obtain ⟨m, hm⟩ := flatF_ext h
        subst hm
        have e1 : ((acc ++ l) ++ m).drop acc.length = l ++ m := by simp
        rw [e1] at he
        obtain ⟨y, z, h1, h2, rfl⟩ := cellsEq_append he
        rw [List.drop_drop, List.drop_drop] at h2
        have hp := hf x.type l acc.length cs ds vs us y w hl hr hr2 h1
        have hrest := eqFields_run hf fs (acc ++ l) ((acc ++ l) ++ m) cs ds vs us z w h hr hr2 (by simpa [List.length_append] using h2)
        unfold partEq at hp
        rw [← hx.1] at hp
        simp only [Op.eqFields, hx.2, ne_eq, not_false_eq_true, if_true, Sem.run_bind] at hp ⊢
        generalize (Go.part x.type vs.toArray x.offset).run P w = r1 at hp ⊢
        cases r1 with
        | halt _ _ => cases hp
        | ok p w1 =>
          simp only [Result.andThen_ok] at hp ⊢
          generalize (Go.part x.type us.toArray x.offset).run P w1 = r2 at hp ⊢
          cases r2 with
          | halt _ _ => cases hp
          | ok q w2 =>
            simp only [Result.andThen_ok] at hp ⊢
            rw [hp]
            cases y
            · simp
            · simpa using hrest
      · cases h
    · cases h
theorem flatK_size : ∀ {d : Nat} {t : TypeId} {l : List Nat}, flatK P d t = some l → sizeT P t = some l.length
  | 0, t, l, h => by simp [flatK] at h
  | d + 1, t, l, h => by
    unfold flatK at h
    split at h
    · rename_i h1 h2; cases h; simpa using h2
    · rename_i q h1 h2; cases h; simpa using h2
    · rename_i h1 h2; cases h; simpa using h2
    · rename_i fs n hu hs
      split at h
      · cases h
      · split at h
        · split at h
          · rename_i hn; cases h; rw [hs, hn]
          · cases h
        · cases h
    · rename_i len e n hu hs
      split at h
      · rename_i l' hl
        split at h
        · rename_i hn; cases h; rw [hs]; simp [hn]
        · cases h
      · cases h
    · cases h
theorem atomEq_run {R : Rd} {k : Nat} {c d : V} {v u : Value} {b : Bool} {t : TypeId} {D : Nat} {w : World} (hv : VRep R c v) (hu : VRep R d u) (he : atomEq k c d = some b)
    (ht : (k = 0 ∧ P.underlying t = some .bool) ∨ (k = 1 ∧ ∃ q, P.underlying t = some (.int q)) ∨ (k = 2 ∧ P.underlying t = some .string)) : (Op.equalIn (D + 1) t v u).run P w = .ok b w := by
  unfold atomEq at he
  split at he
  · rcases ht with ⟨_, ht⟩ | ⟨h, _⟩ | ⟨h, _⟩ <;> first | omega | skip
    rw [VRep_bool] at hv hu
    subst hv hu
    cases he
    exact run_equalIn_bool' w D t _ _ ht
  · rcases ht with ⟨h, _⟩ | ⟨_, q, ht⟩ | ⟨h, _⟩ <;> first | omega | skip
    rw [VRep_int] at hv hu
    subst hv hu
    split at he
    · rename_i hpq
      subst hpq
      cases he
      exact run_equalIn_int w D t _ _ _ _ ht
    · cases he
  · rcases ht with ⟨h, _⟩ | ⟨h, _⟩ | ⟨_, ht⟩ <;> first | omega | skip
    rw [VRep_str] at hv hu
    subst hv hu
    cases he
    rw [run_equalIn_string w D t _ _ ht]
    simp
  · cases he
theorem array_loop {R : Rd} {f : TypeId → Option (List Nat)} {D : Nat} (hf : EqOk P R f D) {e : TypeId} {l : List Nat} (hl : f e = some l) (cs ds : List V) (vs us : List Value) (hr : CRep R cs vs) (hr2 : CRep R ds us) :
    ∀ (m i : Nat) (b : Bool) (w : World), cellsEq (List.replicate m l).flatten (cs.drop (i * l.length)) (ds.drop (i * l.length)) = some b →
      (do let r ← forIn (List.range' i m) ((none : Option Bool), ()) (fun j _ => do
            let x ← Go.part e vs.toArray (j * l.length)
            let y ← Go.part e us.toArray (j * l.length)
            let z ← Op.equalIn D e x y
            if (!z) = true then Pure.pure (ForInStep.done (some false, ())) else Pure.pure (ForInStep.yield (none, ())))
          match r.1 with
          | some a => Pure.pure a
          | none => Pure.pure true : Sem Bool).run P w = .ok b w
  | 0, i, b, w, h => by
    have := cellsEq_len h
    simp only [List.replicate_zero, List.flatten_nil, List.length_nil] at this
    have e1 := List.eq_nil_of_length_eq_zero this.1
    have e2 := List.eq_nil_of_length_eq_zero this.2
    rw [e1, e2] at h
    simp only [List.replicate_zero, List.flatten_nil, cellsEq, Option.some.injEq] at h
    subst h
    simp
  | m + 1, i, b, w, h => by
    rw [List.replicate_succ, List.flatten_cons] at h
    obtain ⟨y, z, h1, h2, rfl⟩ := cellsEq_append h
    rw [List.drop_drop, List.drop_drop, show i * l.length + l.length = (i + 1) * l.length by rw [Nat.add_mul, Nat.one_mul]] at h2
    have hp := hf e l (i * l.length) cs ds vs us y w hl hr hr2 h1
    have ih := array_loop hf hl cs ds vs us hr hr2 m (i + 1) z w h2
    unfold partEq at hp
    simp only [List.range'_succ, List.forIn_cons, Sem.run_bind] at hp ih ⊢
    generalize (Go.part e vs.toArray (i * l.length)).run P w = r1 at hp ⊢
    cases r1 with
    | halt _ _ => cases hp
    | ok p w1 =>
      simp only [Result.andThen_ok] at hp ⊢
      generalize (Go.part e us.toArray (i * l.length)).run P w1 = r2 at hp ⊢
      cases r2 with
      | halt _ _ => cases hp
      | ok q w2 =>
        simp only [Result.andThen_ok] at hp ⊢
        rw [hp]
        cases y
        · simp
        · simpa using ih
theorem eqOk {R : Rd} : ∀ (d D : Nat), d ≤ D → EqOk P R (flatK P d) D
  | 0, D, _ => fun t ks off cs ds vs us b w h => by simp [flatK] at h
  | d + 1, D, hD => fun t ks off cs ds vs us b w h hr hr2 he => by
    obtain ⟨D, rfl⟩ : ∃ D', D = D' + 1 := ⟨D - 1, by omega⟩
    have ih : EqOk P R (flatK P d) D := eqOk d D (by omega)
    have hlv := CRep_length hr
    have hlu := CRep_length hr2
    have hlen := cellsEq_len he
    simp only [List.length_take, List.length_drop] at hlen
    have atom : ∀ k, ks = [k] → sizeT P t = some 1 → ((k = 0 ∧ P.underlying t = some .bool) ∨ (k = 1 ∧ ∃ q, P.underlying t = some (.int q)) ∨ (k = 2 ∧ P.underlying t = some .string)) →
        (partEq (D + 1) t vs us off).run P w = .ok b w := by
      intro k hk hs ht
      subst hk
      simp only [List.length_singleton] at hlen he
      have hu : (P.underlying t).isSome = true := by rcases ht with ⟨_, h⟩ | ⟨_, q, h⟩ | ⟨_, h⟩ <;> simp [h]
      have hg : isAggT P t = false := by rcases ht with ⟨_, h⟩ | ⟨_, q, h⟩ | ⟨_, h⟩ <;> simp [isAggT, h]
      have k1 := part_atom_run (w := w) (off := off) (ds := vs) hs hu hg (by omega)
      have k2 := part_atom_run (w := w) (off := off) (ds := us) hs hu hg (by omega)
      have r1 := CRep_take 1 (CRep_drop off hr)
      have r2 := CRep_take 1 (CRep_drop off hr2)
      have e1 : (vs.drop off).take 1 = [vs[off]] := by rw [List.drop_eq_getElem_cons (by omega)]; rfl
      have e2 : (us.drop off).take 1 = [us[off]] := by rw [List.drop_eq_getElem_cons (by omega)]; rfl
      rw [e1] at r1
      rw [e2] at r2
      generalize (cs.drop off).take 1 = A at *
      generalize (ds.drop off).take 1 = B at *
      cases A with
      | nil => simp only [CRep] at r1; cases r1
      | cons c A =>
        cases B with
        | nil => simp only [CRep] at r2; cases r2
        | cons c' B =>
          simp only [CRep, List.cons.injEq] at r1 r2
          obtain ⟨_, _, ⟨rfl, rfl⟩, g1, g2⟩ := r1
          obtain ⟨_, _, ⟨rfl, rfl⟩, g3, g4⟩ := r2
          simp only [cellsEq] at he
          split at he
          · rename_i x y h1 h2
            have he2 : atomEq k c c' = some b := by
              cases A <;> cases B <;> simp [CRep] at g2 g4
              simp only [cellsEq, Option.some.injEq] at h2
              subst h2
              simpa [h1] using he
            have := atomEq_run (D := D) (w := w) g1 g3 he2 ht
            simp [partEq, k1, k2, this]
          · cases he
    unfold flatK at h
    split at h
    · rename_i h1 h2; cases h; exact atom 0 rfl h2 (.inl ⟨rfl, h1⟩)
    · rename_i q h1 h2; cases h; exact atom 1 rfl h2 (.inr (.inl ⟨rfl, q, h1⟩))
    · rename_i h1 h2; cases h; exact atom 2 rfl h2 (.inr (.inr ⟨rfl, h1⟩))
    · rename_i fs n hu hs
      split at h
      · cases h
      · rename_i hst
        split at h
        · rename_i l hl
          split at h
          · rename_i hn
            cases h
            have hg : isAggT P t = true := by simp [isAggT, hu]
            have k1 := part_agg_run (w := w) (off := off) (ds := vs) hs (by simp [hu]) hg
            have k2 := part_agg_run (w := w) (off := off) (ds := us) hs (by simp [hu]) hg
            rw [← hn] at k1 k2
            have hfo : P.fieldsOf t = fs := by simp [Program.fieldsOf, hu]
            have := eqFields_run ih fs.toList [] ks ((cs.drop off).take ks.length) ((ds.drop off).take ks.length) ((vs.drop off).take ks.length) ((us.drop off).take ks.length) b w hl
              (CRep_take _ (CRep_drop _ hr)) (CRep_take _ (CRep_drop _ hr2)) (by simpa using he)
            have hst2 : P.stoodInHeld t = false := by simpa using hst
            simp [partEq, k1, k2]
            rw [run_equalIn_struct w D t _ _ (by rw [hfo]; exact hu) hst2, hfo]
            exact this
          · cases h
        · cases h
    · rename_i len e n hu hs
      split at h
      · rename_i l hl
        split at h
        · rename_i hn
          cases h
          have hg : isAggT P t = true := by simp [isAggT, hu]
          have hkl : (List.replicate len l).flatten.length = n := by simp [hn]
          rw [hkl] at he hlen
          have k1 := part_agg_run (w := w) (off := off) (ds := vs) hs (by simp [hu]) hg
          have k2 := part_agg_run (w := w) (off := off) (ds := us) hs (by simp [hu]) hg
          have hse : sizeT P e = some l.length := flatK_size hl
          have := array_loop ih hl _ _ _ _ (CRep_take n (CRep_drop off hr)) (CRep_take n (CRep_drop off hr2)) len 0 b w (by simpa using he)
          simp only [partEq, k1, k2, Op.equalIn, Sem.run_bind, Result.andThen_ok, run_underlying' hu, run_sizeOf hse, Std.Legacy.Range.forIn_eq_forIn_range', Std.Legacy.Range.size, Nat.sub_zero, Nat.add_sub_cancel, Nat.div_one]
          rw [Sem.run_bind] at this
          refine Eq.trans ?_ this
          congr 1
          funext a w'
          cases a.fst <;> rfl
        · cases h
      · cases h
    · cases h
end
end Go.Av
namespace Go.Av
open Go Go.RowKit
set_option autoImplicit false
set_option linter.all false
section
variable {P : Program} {C : Ctx} {K : KV}
theorem eqa_does {neg : Bool} {ks : List Nat} {t : TypeId} {ox oy : Operand} {x y : V} {v u : Value} (hg : P.eqGuardType P.depth t = false) (hk2 : flatK P 20 t = some ks) (hagg : isAggT P t = true) (hC : HRep C) (hv : VRep C.R x v) (hu : VRep C.R y u)
    (hk : eqaK neg (eqaO ks x y) C.H K) : Does P (do eqGuard (if neg then .neq else .eql) t ox oy v u; binOp (if neg then .neq else .eql) t v u) C K := by
  unfold eqaO at hk
  split at hk
  · rename_i a b
    unfold eqaK at hk
    split at hk
    · rename_i r hr
      simp only [VRep] at hv hu
      obtain ⟨vs, rfl, h1⟩ := hv
      obtain ⟨us, rfl, h2⟩ := hu
      have hl := cellsEq_len hr
      have hlv := CRep_length h1
      have hlu := CRep_length h2
      have hs := flatK_size hk2
      have hun : (P.underlying t).isSome = true := by unfold isAggT at hagg; split at hagg <;> simp_all
      have := eqOk (P := P) (R := C.R) 20 10000 (by omega) t ks 0 a b vs us r C.w hk2 h1 h2 (by rw [List.drop_zero, List.drop_zero, List.take_of_length_le (by omega), List.take_of_length_le (by omega)]; exact hr)
      have p1 := part_agg_run (w := C.w) (off := 0) (ds := vs) hs hun hagg
      have p2 := part_agg_run (w := C.w) (off := 0) (ds := us) hs hun hagg
      rw [List.drop_zero, List.take_of_length_le (by omega)] at p1 p2
      simp only [partEq, Sem.run_bind, p1, p2, Result.andThen_ok] at this
      refine Does.pure hC ?_ (VRep_bool.2 rfl) hk
      cases neg
      · simp [run_eqGuard_agg _ _ _ _ _ _ _ hg, run_eql_struct, this]
      · simp [run_eqGuard_agg _ _ _ _ _ _ _ hg, run_neq_struct, this]
    · exact hk.elim
  · exact hk.elim

/-! ### Structs and arrays that are made -/
theorem cellsO_rep {R : Rd} {x : V} {v : Value} {cs : List V} (h : VRep R x v) (hc : cellsO x = some cs) : CRep R cs v.cells.toList := by
  have hx : x ≠ .junk := by rintro rfl; simp [cellsO] at hc
  have : cs = x.cells := by cases x <;> simp_all [cellsO, V.cells]
  subst this
  exact cells_rep h hx
theorem putO_rep {R : Rd} {cs cs' : List V} {o n : Nat} {x : V} {v : Value} {ds : List Value} (h : putO cs o n (cellsO x) = some cs') (hr : CRep R cs ds) (hv : VRep R x v) :
    v.cells.toList.length = n ∧ o + n ≤ ds.length ∧ CRep R cs' (ds.take o ++ v.cells.toList ++ ds.drop (o + n)) := by
  unfold putO at h
  split at h
  · rename_i vs hc
    exact putC_rep h hr (cellsO_rep hv hc)
  · cases h
theorem fill_fold (cells : Array Value) (off : Nat) : ∀ (vs : List Value) (i : Nat) (cur : Array Value), off + i + vs.length ≤ cur.size →
    ((vs.zipIdx i).foldl (fun cs (c, j) => cs.setIfInBounds (off + j) c) cur).toList = cur.toList.take (off + i) ++ vs ++ cur.toList.drop (off + i + vs.length)
  | [], i, cur, h => by simp
  | v :: vs, i, cur, h => by
    simp only [List.zipIdx_cons, List.foldl_cons]
    rw [fill_fold cells off vs (i + 1) _ (by simp at h ⊢; omega)]
    simp only [Array.toList_setIfInBounds, List.length_cons]
    have e := list_seg_step cur.toList (off + i) v vs (by simp at h ⊢; omega)
    simpa [Nat.add_assoc, Nat.add_comm, Nat.add_left_comm] using e
theorem fill_rep {R : Rd} {place : Nat → Option (Nat × Nat)} : ∀ (l : List (Nat × Nat × Nat × V × Value)) (cs cs' : List V) (cur : Array Value),
    (∀ x ∈ l, place x.1 = some (x.2.1, x.2.2.1) ∧ VRep R x.2.2.2.1 x.2.2.2.2) →
    bldO cs (l.map fun x => (x.2.1, x.2.2.1, x.2.2.2.1)) = some cs' → CRep R cs cur.toList → ∃ cur' : Array Value, Instr.fill place cur (l.map fun x => (x.1, x.2.2.2.2)) = some cur' ∧ CRep R cs' cur'.toList
  | [], cs, cs', cur, _, h, hr => by
    simp only [List.map_nil, bldO, Option.some.injEq] at h
    subst h
    exact ⟨cur, rfl, hr⟩
  | (i, o, n, x, v) :: l, cs, cs', cur, hl, h, hr => by
    simp only [List.map_cons, bldO] at h
    split at h
    · rename_i cs1 hp
      obtain ⟨h1, h2⟩ := hl _ (List.mem_cons_self)
      obtain ⟨k1, k2, k3⟩ := putO_rep hp hr h2
      have hsz : v.cells.size = n := by simpa using k1
      have hfit : o + v.cells.size ≤ cur.size := by rw [hsz]; simpa using k2
      have hfold := fill_fold cur o v.cells.toList 0 cur (by simpa using hfit)
      obtain ⟨cur', k4, k5⟩ := fill_rep l cs1 cs' (v.cells.zipIdx.foldl (fun cs (c, j) => cs.setIfInBounds (o + j) c) cur) (fun x hx => hl x (List.mem_cons_of_mem _ hx)) h (by
        rw [← Array.foldl_toList, Array.toList_zipIdx, hfold]
        simpa [hsz] using k3)
      refine ⟨cur', ?_, k5⟩
      simp only [List.map_cons, Instr.fill, h1]
      rw [if_neg (by simp only [Bool.or_eq_true, decide_eq_true_eq, ne_eq]; omega)]
      exact k4
    · cases h
theorem mapM_places : ∀ (l : List Field) (w : World), (∀ f ∈ l, (sizeT P f.type).isSome = true) →
    (l.mapM (fun f => do Pure.pure (f.offset, ← sizeOf f.type) : Field → Sem (Nat × Nat))).run P w = .ok (l.map fun f => (f.offset, (sizeT P f.type).getD 0)) w
  | [], w, _ => by simp
  | f :: l, w, h => by
    have h1 := h f List.mem_cons_self
    obtain ⟨n, hn⟩ := Option.isSome_iff_exists.1 h1
    have ih := mapM_places l w (fun x hx => h x (List.mem_cons_of_mem _ hx))
    simp only [List.mapM_cons, Sem.run_bind, run_sizeOf hn, Result.andThen_ok, Sem.run_pure, ih, List.map_cons, hn, Option.getD_some]
theorem build_parts {R : Rd} {a : Act} {e : List V} (hE : CRep R e a.tmps.toList) {fs : Array Field} : ∀ {parts : List (Nat × Operand)} {ps : List (Nat × Nat × Opd)}, cParts P fs parts = some ps →
    ∃ l : List (Nat × Nat × Nat × V × Value), evp e ps = l.map (fun x => (x.2.1, x.2.2.1, x.2.2.2.1)) ∧ parts.map (fun x => (x.1, a.eval x.2)) = l.map (fun x => (x.1, x.2.2.2.2)) ∧
      ∀ x ∈ l, (∃ f, fs[x.1]? = some f ∧ f.offset = x.2.1 ∧ sizeT P f.type = some x.2.2.1) ∧ VRep R x.2.2.2.1 x.2.2.2.2
  | [], ps, h => by
    simp only [cParts, Option.some.injEq] at h
    subst h
    exact ⟨[], rfl, rfl, fun x hx => by cases hx⟩
  | (i, x) :: parts, ps, h => by
    simp only [cParts] at h
    split at h
    · rename_i f hf
      split at h
      · rename_i n o b hn ho hb
        cases h
        obtain ⟨l, h1, h2, h3⟩ := build_parts hE hb
        refine ⟨(i, f.offset, n, ev e o, a.eval x) :: l, by simp [evp, h1], by simp [h2], fun y hy => ?_⟩
        rcases List.mem_cons.1 hy with rfl | hy
        · exact ⟨⟨f, hf, rfl, hn⟩, opd_rep ho hE⟩
        · exact h3 y hy
      · cases h
    · cases h
theorem build_partsA {R : Rd} {a : Act} {e : List V} (hE : CRep R e a.tmps.toList) {n len : Nat} : ∀ {parts : List (Nat × Operand)} {ps : List (Nat × Nat × Opd)}, cPartsA n len parts = some ps →
    ∃ l : List (Nat × Nat × Nat × V × Value), evp e ps = l.map (fun x => (x.2.1, x.2.2.1, x.2.2.2.1)) ∧ parts.map (fun x => (x.1, a.eval x.2)) = l.map (fun x => (x.1, x.2.2.2.2)) ∧
      ∀ x ∈ l, (x.2.1 = x.1 * n ∧ x.2.2.1 = n) ∧ VRep R x.2.2.2.1 x.2.2.2.2
  | [], ps, h => by
    simp only [cPartsA, Option.some.injEq] at h
    subst h
    exact ⟨[], rfl, rfl, fun x hx => by cases hx⟩
  | (i, x) :: parts, ps, h => by
    simp only [cPartsA] at h
    split at h
    · split at h
      · rename_i o b ho hb
        cases h
        obtain ⟨l, h1, h2, h3⟩ := build_partsA hE hb
        refine ⟨(i, i * n, n, ev e o, a.eval x) :: l, by simp [evp, h1], by simp [h2], fun y hy => ?_⟩
        rcases List.mem_cons.1 hy with rfl | hy
        · exact ⟨⟨rfl, rfl⟩, opd_rep ho hE⟩
        · exact h3 y hy
      · cases h
    · cases h
theorem bld_does {t : TypeId} {parts : Array (Nat × Value)} {place : Nat → Option (Nat × Nat)} {l : List (Nat × Nat × Nat × V × Value)} {z : V} {zv : Value} {zs : List V} {ps : List (Nat × Nat × V)} (hC : HRep C) (hz : CRep C.R zs zv.cells.toList)
    (hl : ∀ x ∈ l, place x.1 = some (x.2.1, x.2.2.1) ∧ VRep C.R x.2.2.2.1 x.2.2.2.2) (hp : parts.toList = l.map fun x => (x.1, x.2.2.2.2)) (hps : ps = l.map fun x => (x.2.1, x.2.2.1, x.2.2.2.1))
    (hk : bldK (bldO zs ps) C.H K) : ∃ cur : Array Value, Instr.fill place zv.cells parts.toList = some cur ∧ ∃ cs, VRep C.R (.agg cs) (.agg cur) ∧ K (.agg cs) C.H := by
  unfold bldK at hk
  split at hk
  · rename_i cs hb
    subst hps
    obtain ⟨cur, h1, h2⟩ := fill_rep l zs cs zv.cells hl hb hz
    refine ⟨cur, by rw [hp]; exact h1, cs, ?_, hk⟩
    simp only [VRep]
    exact ⟨cur.toList, by simp, h2⟩
  · exact hk.elim
theorem build_struct_does {t : TypeId} {fs : Array Field} {parts : Array (Nat × Operand)} {ps : List (Nat × Nat × Opd)} {z : V} {a : Act} {e : List V} (hu : P.underlying t = some (.struct fs)) (hz : zeroT P t = some z) (hfs : fs.all (fun f => (sizeT P f.type).isSome) = true)
    (hps : cParts P fs parts.toList = some ps) (hC : HRep C) (hE : CRep C.R e a.tmps.toList) (hk : bldK (bldO z.cells (evp e ps)) C.H K) : Does P (Instr.build t (parts.map fun (i, x) => (i, a.eval x))) C K := by
  obtain ⟨i, zv, hi, hzz, _, _, hzr⟩ := zero_rep (R := C.R) hz
  obtain ⟨l, h1, h2, h3⟩ := build_parts hE hps
  have hall : ∀ f ∈ fs.toList, (sizeT P f.type).isSome = true := by
    intro f hf
    have := Array.all_eq_true_iff_forall_mem.1 hfs f (Array.mem_toList_iff.1 hf)
    exact this
  have hm : (fs.mapM (fun f => do Pure.pure (f.offset, ← sizeOf f.type) : Field → Sem (Nat × Nat))).run P C.w = .ok (fs.toList.map fun f => (f.offset, (sizeT P f.type).getD 0)).toArray C.w := by
    have := mapM_places fs.toList C.w hall
    obtain ⟨fl⟩ := fs
    rw [List.mapM_toArray]
    simp only [Sem.run_map, this, Result.andThen_ok]
  have hpl : ∀ x ∈ l, ((fs.toList.map fun f => (f.offset, (sizeT P f.type).getD 0)).toArray)[x.1]? = some (x.2.1, x.2.2.1) ∧ VRep C.R x.2.2.2.1 x.2.2.2.2 := by
    intro x hx
    obtain ⟨⟨f, k1, k2, k3⟩, k4⟩ := h3 x hx
    refine ⟨?_, k4⟩
    have : fs.toList[x.1]? = some f := by simpa using k1
    simp [k1, k2, k3]
  obtain ⟨cur, k1, cs, k2, k3⟩ := bld_does (place := fun i => ((fs.toList.map fun f => (f.offset, (sizeT P f.type).getD 0)).toArray)[i]?) (parts := parts.map fun (i, x) => (i, a.eval x)) (t := t) (z := z) hC hzr hpl (by simpa using h2) h1 hk
  refine Does.pure hC ?_ k2 k3
  unfold Instr.build
  simp only [Sem.run_bind, zeroValue, typeInfo, run_program, Result.andThen_ok, hi, hzz, Sem.run_pure, run_underlying' hu, hm]
  rw [k1]
  rfl
theorem build_array_does {t el : TypeId} {len n : Nat} {parts : Array (Nat × Operand)} {ps : List (Nat × Nat × Opd)} {z : V} {a : Act} {e : List V} (hu : P.underlying t = some (.array len el)) (hz : zeroT P t = some z) (hn : sizeT P el = some n)
    (hps : cPartsA n len parts.toList = some ps) (hC : HRep C) (hE : CRep C.R e a.tmps.toList) (hk : bldK (bldO z.cells (evp e ps)) C.H K) : Does P (Instr.build t (parts.map fun (i, x) => (i, a.eval x))) C K := by
  obtain ⟨i, zv, hi, hzz, _, _, hzr⟩ := zero_rep (R := C.R) hz
  obtain ⟨l, h1, h2, h3⟩ := build_partsA hE hps
  have hpl : ∀ x ∈ l, (some (x.1 * n, n) : Option (Nat × Nat)) = some (x.2.1, x.2.2.1) ∧ VRep C.R x.2.2.2.1 x.2.2.2.2 := by
    intro x hx
    obtain ⟨⟨k1, k2⟩, k4⟩ := h3 x hx
    exact ⟨by rw [k1, k2], k4⟩
  obtain ⟨cur, k1, cs, k2, k3⟩ := bld_does (place := fun i => some (i * n, n)) (parts := parts.map fun (i, x) => (i, a.eval x)) (t := t) (z := z) hC hzr hpl (by simpa using h2) h1 hk
  refine Does.pure hC ?_ k2 k3
  unfold Instr.build
  simp only [Sem.run_bind, zeroValue, typeInfo, run_program, Result.andThen_ok, hi, hzz, Sem.run_pure, run_underlying' hu, run_sizeOf hn]
  rw [k1]
  rfl
end
end Go.Av
namespace Go.Av
open Go Go.RowKit
set_option autoImplicit false
set_option linter.all false
section
variable {P : Program} {C : Ctx} {K : KV}
/-! ### A world that has grown -/
def Ctx.ext (C : Ctx) (w : World) : Ctx := { C with w := w }
structure Grows (w w' : World) : Prop where
  os : w'.os = w.os
  tape : w'.tape = w.tape
  output : w'.output = w.output
  size : w.heap.size ≤ w'.heap.size
  block : ∀ b, b < w.heap.size → w'.heap[b]? = w.heap[b]?
theorem ext_tr {w : World} (h : Grows C.w w) : Tr C (C.ext w) := ⟨h.os, h.tape, h.output, h.size, rfl, fun b hb hn => ⟨h.block b hb, hn⟩, fun g s hs => ⟨s, hs, STr.refl _ _⟩⟩
theorem ext_rep {w : World} (hC : HRep C) (h : Grows C.w w) : HRep (C.ext w) :=
  ⟨fun g e he => (hC.ent g e he).keep (ext_tr h) rfl (fun ho b c hb => h.block b (own_lt hC ⟨g, e, c, he, ho, hb⟩)), hC.inj, hC.nF, fun b hb => Nat.lt_of_lt_of_le (hC.ltF b hb) h.size⟩
theorem ext_av {w : World} {b : Nat} : (C.ext w).av b ↔ C.av b := Iff.rfl
theorem Grows.alloc (w : World) (o : Obj) : Grows w (w.alloc o) := ⟨rfl, rfl, rfl, by simp, fun b hb => Below.heap_alloc w o b hb⟩
theorem new_free (hC : HRep C) {b : Nat} (hb : C.w.heap.size ≤ b) : ¬ C.av b := fun h => by
  rcases h with h | h
  · have := own_lt hC h; omega
  · have := hC.ltF b h; omega

/-! ### No number in it: read so -/
mutual
theorem noid_deep {R : Rd} : ∀ (x : V) (v : Value), noid x = true → VRep R x v → VRep R.deep x v
  | .bool _, _, _, h => by simpa only [VRep] using h
  | .int _ _, _, _, h => by simpa only [VRep] using h
  | .str _, _, _, h => by simpa only [VRep] using h
  | .agg cs, _, hn, h => by
    simp only [VRep] at h ⊢
    obtain ⟨ds, rfl, hc⟩ := h
    exact ⟨ds, rfl, noids_deep cs ds (by simpa only [noid] using hn) hc⟩
  | .tup cs, _, hn, h => by
    simp only [VRep] at h ⊢
    obtain ⟨ds, rfl, hc⟩ := h
    exact ⟨ds, rfl, noids_deep cs ds (by simpa only [noid] using hn) hc⟩
  | .nilsl, _, _, h => by simpa only [VRep] using h
  | .sl n xs, _, _, h => by simp only [VRep] at h ⊢; exact h
  | .slx n xs, _, _, h => by simp only [VRep] at h ⊢; exact h
  | .own g len, _, hn, _ => by simp [noid] at hn
  | .nilp, _, _, h => by simpa only [VRep] using h
  | .ref cs, _, _, h => by simp only [VRep] at h ⊢; exact h
  | .ptr g o, _, hn, _ => by simp [noid] at hn
  | .eptr .., _, hn, _ => by simp [noid] at hn
  | .cut .., _, hn, _ => by simp [noid] at hn
  | .nilfn, _, _, h => by simpa only [VRep] using h
  | .fn f a b, _, hn, h => by
    simp only [noid, Bool.and_eq_true] at hn
    simp only [VRep] at h ⊢
    obtain ⟨x, y, rfl, h1, h2⟩ := h
    exact ⟨x, y, rfl, noids_deep a x hn.1 h1, noids_deep b y hn.2 h2⟩
  | .nilmap, _, _, h => by simpa only [VRep] using h
  | .map g, _, hn, _ => by simp [noid] at hn
  | .it g, _, hn, _ => by simp [noid] at hn
  | .junk, _, _, _ => by simp only [VRep]
theorem noids_deep {R : Rd} : ∀ (cs : List V) (ds : List Value), noids cs = true → CRep R cs ds → CRep R.deep cs ds
  | [], _, _, h => by simpa only [CRep] using h
  | c :: cs, ds, hn, h => by
    simp only [noids, Bool.and_eq_true] at hn
    simp only [CRep] at h ⊢
    obtain ⟨d, r, rfl, h1, h2⟩ := h
    exact ⟨d, r, rfl, noid_deep c d hn.1 h1, noids_deep cs r hn.2 h2⟩
end
theorem atom_cell {R : Rd} {x : V} {v : Value} (hx : atom x = true) (h : VRep R x v) : v.oneCell' = true := by
  have hc := cells_rep h (by rintro rfl; simp [atom] at hx)
  have hl := CRep_length hc
  cases x <;> simp only [atom, Bool.false_eq_true] at hx <;> simp only [VRep] at h
  all_goals first
    | exact h.1
    | (subst h; rfl)
    | (rcases h with ⟨_, _, _, rfl⟩ | ⟨_, _, _, _, rfl, _⟩ <;> rfl)
    | (rcases h with ⟨_, _, rfl⟩ | ⟨_, _, _, rfl, _⟩ <;> rfl)
    | (obtain ⟨_, _, _, rfl, _⟩ := h; rfl)
    | (obtain ⟨_, _, rfl, _⟩ := h; rfl)
theorem atoms_cells {R : Rd} : ∀ {cs : List V} {ds : List Value}, atoms cs = true → CRep R cs ds → ∀ u ∈ ds, u.oneCell' = true
  | [], ds, _, h, u, hu => by simp only [CRep] at h; subst h; cases hu
  | c :: cs, ds, hn, h, u, hu => by
    simp only [atoms, Bool.and_eq_true] at hn
    simp only [CRep] at h
    obtain ⟨d, r, rfl, h1, h2⟩ := h
    rcases List.mem_cons.1 hu with rfl | hu
    · exact atom_cell hn.1 h1
    · exact atoms_cells hn.2 h2 u hu
theorem cells_one {v : Value} (h : v.oneCell' = true) : v.cells = #[v] := by cases v <;> first | rfl | simp [Value.oneCell'] at h
theorem okC_cells {R : Rd} {x : V} {v : Value} (hx : okC x = true) (h : VRep R x v) : ∀ u ∈ v.cells.toList, u.oneCell' = true := by
  by_cases ha : ∃ cs, x = .agg cs
  · obtain ⟨cs, rfl⟩ := ha
    simp only [VRep] at h
    obtain ⟨ds, rfl, hc⟩ := h
    simpa [Value.cells] using atoms_cells (by simpa only [okC] using hx) hc
  · have hx2 : atom x = true := by cases x <;> first | (exact absurd ⟨_, rfl⟩ ha) | exact hx
    have h1 := atom_cell hx2 h
    rw [cells_one h1]
    simpa using h1
theorem okEl_parts {n : Nat} {g : Bool} {R : Rd} {x : V} {v : Value} (hx : okEl n g x = true) (h : VRep R x v) : v.cells.size = n ∧ (x ≠ .junk ∧ ∀ u ∈ v.cells.toList, u.oneCell' = true) := by
  unfold okEl at hx
  split at hx
  · rename_i cs
    simp only [Bool.and_eq_true] at hx
    have h' := h
    simp only [VRep] at h
    obtain ⟨ds, rfl, hc⟩ := h
    refine ⟨?_, by simp, okC_cells (x := .agg cs) (by simpa only [okC] using hx.2) h'⟩
    have := lenEq_iff.1 hx.1
    simpa [Value.cells, ← CRep_length hc] using this
  · simp only [Bool.and_eq_true, beq_iff_eq] at hx
    have h1 := atom_cell hx.1 h
    rw [cells_one h1]
    refine ⟨by simp [hx.2], by rintro rfl; simp [atom] at hx, by simpa using h1⟩
  · cases hx
theorem okEls_rep {n : Nat} {g : Bool} {R : Rd} : ∀ {xs : List V} {vs : List Value}, okEls n g xs = true → noids xs = true → CRep R xs vs → ERep R.deep n xs (vs.flatMap fun v => v.cells.toList)
  | [], vs, _, _, h => by simp only [CRep] at h; subst h; simp [ERep]
  | x :: xs, vs, hk, hn, h => by
    simp only [okEls, Bool.and_eq_true] at hk
    simp only [noids, Bool.and_eq_true] at hn
    simp only [CRep] at h
    obtain ⟨d, r, rfl, h1, h2⟩ := h
    obtain ⟨k1, k2⟩ := okEl_parts hk.1 h1
    simp only [ERep]
    exact ⟨d, _, rfl, k1, k2, noid_deep x d hn.1 h1, okEls_rep hk.2 hn.2 h2⟩
theorem ERep_cells {R : Rd} {n : Nat} : ∀ {xs : List V} {cells : List Value}, ERep R n xs cells → ∀ u ∈ cells, u.oneCell' = true
  | [], cells, h, u, hu => by simp only [ERep] at h; subst h; cases hu
  | x :: xs, cells, h, u, hu => by
    simp only [ERep] at h
    obtain ⟨v, r, rfl, h1, hj, h2, h3⟩ := h
    rcases List.mem_append.1 hu with hu | hu
    · exact hj.2 u hu
    · exact ERep_cells h3 u hu
theorem ERep_append {R : Rd} {n : Nat} : ∀ {xs ys : List V} {cells ds : List Value}, ERep R n xs cells → ERep R n ys ds → ERep R n (xs ++ ys) (cells ++ ds)
  | [], ys, cells, ds, h, h2 => by simp only [ERep] at h; subst h; exact h2
  | x :: xs, ys, cells, ds, h, h2 => by
    simp only [List.cons_append, ERep] at h ⊢
    obtain ⟨v, r, rfl, h1, hj, h3, h4⟩ := h
    exact ⟨v, r ++ ds, by simp, h1, hj, h3, ERep_append h4 h2⟩
theorem ERep_take {R : Rd} {n : Nat} : ∀ {xs : List V} {cells : List Value} (i : Nat), ERep R n xs cells → ERep R n (xs.take i) (cells.take (i * n))
  | xs, cells, 0, h => by simp [ERep]
  | [], cells, i + 1, h => by simp only [ERep] at h; subst h; simp [ERep]
  | x :: xs, cells, i + 1, h => by
    simp only [ERep] at h
    obtain ⟨v, r, rfl, h1, hj, h3, h4⟩ := h
    simp only [List.take_succ_cons, ERep]
    refine ⟨v, r.take (i * n), ?_, h1, hj, h3, ERep_take i h4⟩
    have : v.cells.toList.length = n := by simpa using h1
    rw [Nat.add_mul, Nat.one_mul, Nat.add_comm, List.take_append, this]
    simp [List.take_of_length_le, this]
theorem ERep_drop {R : Rd} {n : Nat} : ∀ {xs : List V} {cells : List Value} (i : Nat), ERep R n xs cells → ERep R n (xs.drop i) (cells.drop (i * n))
  | xs, cells, 0, h => by simpa using h
  | [], cells, i + 1, h => by simp only [ERep] at h; subst h; simp [ERep]
  | x :: xs, cells, i + 1, h => by
    simp only [ERep] at h
    obtain ⟨v, r, rfl, h1, hj, h3, h4⟩ := h
    have : v.cells.toList.length = n := by simpa using h1
    have := ERep_drop i h4
    simp only [List.drop_succ_cons]
    rw [Nat.add_mul, Nat.one_mul, Nat.add_comm, ← List.drop_drop, List.drop_left' (by simpa using h1)]
    exact this

/-! ### A row that is written out -/
theorem fill_row {n : Nat} : ∀ (vs : List Value) (i : Nat) (cur : Array Value), (∀ v ∈ vs, v.cells.size = n) → cur.size = (i + vs.length) * n →
    ∃ cur', Instr.fill (fun j => some (j * n, n)) cur (vs.zipIdx i |>.map fun x => (x.2, x.1)) = some cur' ∧ cur'.toList = cur.toList.take (i * n) ++ vs.flatMap fun v => v.cells.toList
  | [], i, cur, _, h => ⟨cur, rfl, by simp at h; simp [List.take_of_length_le, h]⟩
  | v :: vs, i, cur, hv, h => by
    have h1 := hv v List.mem_cons_self
    have hfit : i * n + v.cells.size ≤ cur.size := by rw [h1, h, List.length_cons, show i * n + n = (i + 1) * n by rw [Nat.add_mul, Nat.one_mul]]; exact Nat.mul_le_mul_right n (by omega)
    have hfold := fill_fold cur (i * n) v.cells.toList 0 cur (by simpa using hfit)
    rw [← Array.toList_zipIdx, Array.foldl_toList] at hfold
    obtain ⟨cur', k1, k2⟩ := fill_row vs (i + 1) (v.cells.zipIdx.foldl (fun cs (c, j) => cs.setIfInBounds (i * n + j) c) cur) (fun u hu => hv u (List.mem_cons_of_mem _ hu)) (by
      have := congrArg List.length hfold
      simp only [Array.length_toList, List.length_append, List.length_take, List.length_drop, Nat.add_zero] at this
      rw [this, h]
      simp only [List.length_cons] at h ⊢
      rw [show i + 1 + vs.length = i + (vs.length + 1) by omega]
      omega)
    refine ⟨cur', ?_, ?_⟩
    · simp only [List.zipIdx_cons, List.map_cons, Instr.fill]
      rw [if_neg (by simp only [Bool.or_eq_true, decide_eq_true_eq, ne_eq]; omega)]
      exact k1
    · rw [k2, hfold]
      have hl : v.cells.toList.length = n := by simpa using h1
      have e1 : i * n ≤ cur.toList.length := by simp; omega
      rw [Nat.add_mul, Nat.one_mul, List.take_append_of_le_length (by simp; omega), List.take_append]
      simp only [Nat.add_zero, List.append_assoc, List.flatMap_cons, List.length_take, Nat.min_eq_left e1, List.take_take, Nat.min_eq_right (Nat.le_add_right (i * n) n), Nat.add_sub_cancel_left]
      rw [List.take_of_length_le (Nat.le_of_eq hl)]
end
end Go.Av
namespace Go.Av
open Go Go.RowKit
set_option autoImplicit false
set_option linter.all false
section
variable {P : Program} {C : Ctx} {K : KV}
theorem inOrder_eval {R : Rd} {a : Act} {e : List V} (hE : CRep R e a.tmps.toList) : ∀ {i : Nat} {parts : List (Nat × Operand)} {l : List Opd}, inOrder i parts = some l →
    ∃ vs : List Value, parts.map (fun x => (x.1, a.eval x.2)) = ((vs.zipIdx i).map fun x => (x.2, x.1)) ∧ CRep R (evs e l) vs ∧ l.length = vs.length
  | i, [], l, h => by
    simp only [inOrder, Option.some.injEq] at h
    subst h
    exact ⟨[], rfl, by simp [evs, CRep], rfl⟩
  | i, (j, x) :: parts, l, h => by
    simp only [inOrder] at h
    split at h
    · rename_i hij
      subst hij
      split at h
      · rename_i o b ho hb
        cases h
        obtain ⟨vs, h1, h2, h3⟩ := inOrder_eval hE hb
        exact ⟨a.eval x :: vs, by simp [h1], CRep_cons (opd_rep ho hE) h2, by simp [h3]⟩
      · cases h
    · cases h
theorem CRep_mem {R : Rd} {n : Nat} {g : Bool} : ∀ {xs : List V} {vs : List Value}, okEls n g xs = true → CRep R xs vs → ∀ v ∈ vs, v.cells.size = n
  | [], vs, _, h, v, hv => by simp only [CRep] at h; subst h; cases hv
  | x :: xs, vs, hk, h, v, hv => by
    simp only [okEls, Bool.and_eq_true] at hk
    simp only [CRep] at h
    obtain ⟨d, r, rfl, h1, h2⟩ := h
    rcases List.mem_cons.1 hv with rfl | hv
    · exact (okEl_parts hk.1 h1).1
    · exact CRep_mem hk.2 h2 v hv
theorem bsl_core {t el : TypeId} {n len : Nat} {g : Bool} {parts : Array (Nat × Operand)} {xs : List V} {vs : List Value} {a : Act} (hu : P.underlying t = some (.slice el)) (hn : sizeT P el = some n) (h1 : parts.toList.map (fun x => (x.1, a.eval x.2)) = ((vs.zipIdx 0).map fun x => (x.2, x.1))) (hvl : vs.length = len)
    (h24 : len * n ≤ 2 ^ 24) (hz : (zeroT P el).isSome = true) (hC : HRep C) (h2 : CRep C.R xs vs) (hk : bslK n (okEls n g xs && noids xs) xs C.H K) :
    Does P (Instr.buildSlice t len (parts.map fun (i, x) => (i, a.eval x))) C K := by
  unfold bslK at hk
  split at hk
  · rename_i hok
    simp only [Bool.and_eq_true] at hok
    obtain ⟨z, hzz⟩ := Option.isSome_iff_exists.1 hz
    obtain ⟨i, zv, hi, hzv, _, _, _⟩ := zero_rep (R := C.R) hzz
    obtain ⟨z0, hz0⟩ : ∃ z0 : Array Value, z0 = if len * n = 0 then #[] else zv.cells := ⟨_, rfl⟩
    obtain ⟨cur, k1, k2⟩ := fill_row (n := n) vs 0 ((Array.range (len * n)).map (z0[· % z0.size]!)) (CRep_mem hok.1 h2) (by simp [hvl])
    have hparts : (parts.map fun (i, x) => (i, a.eval x)).toList = (vs.zipIdx 0).map fun x => (x.2, x.1) := by simpa using h1
    have hrun : (Instr.buildSlice t len (parts.map fun (i, x) => (i, a.eval x))).run P C.w = .ok (.slice (some ⟨C.w.heap.size, 0, none⟩) len len) (C.w.alloc (.cells cur el)) := by
      unfold Instr.buildSlice
      simp only [Sem.run_bind, run_underlying' hu, run_sizeOf hn, Result.andThen_ok]
      rw [if_neg (by omega)]
      by_cases h0 : len * n = 0
      · rw [if_pos h0] at hz0 ⊢
        simp only [Sem.run_bind, Sem.run_pure, Result.andThen_ok, ← hz0, hparts, k1]
        simp [newRow]
      · rw [if_neg h0] at hz0 ⊢
        simp only [Sem.run_bind, Sem.run_pure, Result.andThen_ok, zeroValue, typeInfo, run_program, hi, hzv, ← hz0, hparts, k1]
        simp [newRow]
    have he := okEls_rep hok.1 hok.2 h2
    simp only [Nat.zero_mul, List.take_zero, List.nil_append] at k2
    have hlen2 : (xs).length = len := by rw [CRep_length h2]; exact hvl
    refine ⟨C.ext (C.w.alloc (.cells cur el)), .slx n (xs), _, hrun, ext_tr (Grows.alloc _ _), ext_rep hC (Grows.alloc _ _), ?_, hk⟩
    simp only [VRep]
    refine .inr ⟨C.w.heap.size, 0, cur.toList, by rw [hlen2], new_free hC (Nat.le_refl _), by simp [Ctx.R, Ctx.ext], cellsAt_row (av_alloc_new C.w _), ?_⟩
    rw [k2]
    exact ERep_tr (ext_tr (C := C) (Grows.alloc _ _)).R.deep _ _ _ he
  · exact hk.elim
theorem zero_part {R : Rd} {t : TypeId} {n : Nat} {z : V} {zv : Value} (hzr : VRep R z zv) (hzj : z ≠ .junk) (hzc : CRep R z.cells zv.cells.toList) (hzl : z.cells.length = n) (hn : 0 < n) (ht : isAggT P t = false → n = 1) (hok : okEl n (isAggT P t) (part n (isAggT P t) z.cells) = true)
    (hnd : noid (part n (isAggT P t) z.cells) = true) : ∃ v, v.cells = zv.cells ∧ v.cells.size = n ∧ (part n (isAggT P t) z.cells ≠ .junk ∧ ∀ u ∈ v.cells.toList, u.oneCell' = true) ∧ VRep R.deep (part n (isAggT P t) z.cells) v := by
  have hl := CRep_length hzc
  cases hg : isAggT P t with
  | true =>
    have hv : VRep R (.agg z.cells) (.agg zv.cells) := by simp only [VRep]; exact ⟨zv.cells.toList, by simp, hzc⟩
    have hp : part n true z.cells = .agg z.cells := by simp [part, ← hzl]
    rw [hg] at hok hnd
    rw [hp] at hok hnd ⊢
    obtain ⟨k1, k2⟩ := okEl_parts hok hv
    exact ⟨.agg zv.cells, rfl, k1, k2, noid_deep _ _ hnd hv⟩
  | false =>
    have h1 := ht hg
    subst h1
    rw [hg] at hok hnd
    have hp : part 1 false z.cells = nth z.cells 0 := rfl
    rw [hp] at hok hnd ⊢
    have hzl2 : zv.cells.size = 1 := by simpa [hzl] using hl.symm
    obtain ⟨u, hu⟩ : ∃ u, zv.cells = #[u] := by
      have h3 : zv.cells.toList.length = 1 := by simpa using hzl2
      match hh : zv.cells.toList, h3 with
      | [u], _ => exact ⟨u, by rw [← Array.toArray_toList (xs := zv.cells), hh]⟩
    have hv : VRep R (nth z.cells 0) u := CRep_get 0 u hzc (by simp [hu])
    obtain ⟨k1, k2⟩ := okEl_parts hok hv
    have h1c : u.oneCell' = true := by
      simp only [okEl, Bool.and_eq_true] at hok
      exact atom_cell hok.1 hv
    exact ⟨u, by rw [cells_one h1c, hu], k1, k2, noid_deep _ _ hnd hv⟩
theorem madeCells_rows {R : Rd} {n : Nat} {x : V} {v : Value} (hn : 0 < n) (hs : v.cells.size = n) (hx : x ≠ .junk ∧ ∀ u ∈ v.cells.toList, u.oneCell' = true) (hv : VRep R x v) : ∀ m : Nat, ERep R n (List.replicate m x) (madeCells v.cells (m * n)).toList
  | 0 => by simp [madeCells, ERep, Array.range_zero']
  | m + 1 => by
    rw [List.replicate_succ]
    simp only [ERep]
    refine ⟨v, (madeCells v.cells (m * n)).toList, ?_, hs, hx, hv, madeCells_rows hn hs hx hv m⟩
    apply List.ext_getElem?
    intro i
    rcases Nat.lt_or_ge i n with h | h
    · rw [List.getElem?_append_left (by simpa [hs] using h)]
      have : i < (m + 1) * n := Nat.lt_of_lt_of_le h (by rw [Nat.add_mul, Nat.one_mul]; omega)
      simp [madeCells, this, hs, Nat.mod_eq_of_lt h, h]
    · rw [List.getElem?_append_right (by simpa [hs] using h)]
      simp only [madeCells, Array.length_toList, hs, Array.toList_map, Array.toList_range, List.getElem?_map, List.getElem?_range']
      by_cases h2 : i < (m + 1) * n
      · have h3 : i - n < m * n := by rw [Nat.add_mul, Nat.one_mul] at h2; omega
        have h4 : i % n = (i - n) % n := by rw [Nat.mod_eq_sub_mod h]
        simp [List.getElem?_range, h2, h3, h4]
      · have h3 : ¬ i - n < m * n := by rw [Nat.add_mul, Nat.one_mul] at h2; omega
        simp [h2, h3]
end
end Go.Av
namespace Go.Av
open Go Go.RowKit
set_option autoImplicit false
set_option linter.all false
section
variable {P : Program} {C : Ctx} {K : KV}
theorem own_rep_new {C' : Ctx} {g n len b c E : Nat} {xs : List V} (he : C'.H[g]? = some (.row E n xs)) (hb : C'.β g = some (b, c)) (hl : len = xs.length) : VRep C'.R (.own g len) (.slice (some ⟨b, 0, none⟩) len c) := by
  simp only [VRep, Ctx.R, sh_of he, Entry.shp]
  exact ⟨rfl, by omega, fun _ => .inr ⟨b, c, hb, rfl⟩⟩
theorem mks_does {t el : TypeId} {i : TypeInfo} {z : V} {x y : V} {v u : Value} (hu : P.underlying t = some (.slice el)) (hi : P.info? el = some i) (hz : zeroT P el = some z) (hzl : z.cells.length = i.size) (hsz : 0 < i.size) (ht : tyOk P el i.size = true)
    (hC : HRep C) (hv : VRep C.R x v) (hw : VRep C.R y u) (hk : mksK el i.size (isAggT P el) z.cells i.bytes x y C.H K) : Does P (Instr.makeSlice t v u) C K := by
  unfold mksK at hk
  split at hk
  · rename_i q a q' b hok
    simp only [Bool.and_eq_true] at hok
    rw [VRep_int] at hv hw
    subst hv hw
    obtain ⟨i', zv, hi', hzv, hzr, hzj, hzc⟩ := zero_rep (R := C.R) hz
    rw [hi] at hi'
    cases hi'
    obtain ⟨⟨h0, h1, h2, h3⟩, hk⟩ := hk
    obtain ⟨p, hp1, hp2, hp3, hp4⟩ := zero_part hzr hzj hzc hzl hsz (tyOk_parts ht).2 hok.1 hok.2
    have hrun := run_make (P := P) C.w t el i zv hu hi hzv q q' a b h0 h1 (by rw [Int.mul_comm]; omega) (by omega)
    have hrows := madeCells_rows hsz hp2 hp3 hp4 b.toNat
    rw [hp1] at hrows
    have htk := ERep_take a.toNat hrows
    rw [List.take_replicate, Nat.min_eq_left (by omega)] at htk
    have hpr : HRep (C.push (.cells (madeCells zv.cells (b.toNat * i.size)) el) b.toNat (.row el i.size (List.replicate a.toNat (part i.size (isAggT P el) z.cells)))) := by
      refine push_rep hC ?_
      refine .inr ⟨C.w.heap.size, b.toNat, madeCells zv.cells (b.toNat * i.size), _, push_beta_new, av_alloc_new C.w _, size_madeCells _ _, by simp; omega, by simp only [maxLen]; omega, rfl, ?_⟩
      rw [List.length_replicate]
      exact ERep_tr push_tr.R.deep _ _ _ htk
    refine ⟨_, .own C.H.length a.toNat, _, hrun, push_tr, hpr, ?_, hk⟩
    exact own_rep_new push_get_new push_beta_new (by simp)
  · exact hk.elim

/-! ### Stores -/
theorem row_turns {j : Nat} {e e' : Entry} {b c E : Nat} {cur cur' : Array Value} (hC : HRep C) (he : C.H[j]? = some e) (ho : e.owned = true) (hb : C.β j = some (b, c)) (hh : C.w.heap[b]? = some (.cells cur E (0, 0))) (hs : STr e.shp e'.shp (C.β j) (some (b, c))) :
    Turns C (C.w.setRow b cur') j (some (b, c)) e e' := by
  refine ⟨he, rfl, rfl, rfl, by simp, fun k hk hn => ?_, hs, fun _ b' c' hx => ?_⟩
  · exact setRow_other C.w b k _ (fun e => hn ho c (by rw [e]; exact hb))
  · cases hx
    exact .inl ⟨ho, c, hb⟩
theorem storeVar_run {t : TypeId} {n : Nat} {b o E : Nat} {cur : Array Value} {v : Value} (hs : sizeT P t = some n) (hv : v.cells.toList.length = n) (h1 : ∀ u ∈ v.cells.toList, u.oneCell' = true) (hh : C.w.heap[b]? = some (.cells cur E (0, 0))) (hfit : o + n ≤ cur.size) :
    (Instr.storeAt t (.pointer (some ⟨b, o, none⟩)) v).run P C.w = .ok () (C.w.setRow b (cur.toList.take o ++ v.cells.toList ++ cur.toList.drop (o + n)).toArray) := by
  have hst := run_storeCells_at P b o E v.cells.toList 0 cur C.w hh (by rw [hv]; simpa using hfit) h1
  have hv2 : v.cells.size = n := by simpa using hv
  simp only [Nat.add_zero, hv] at hst
  simp [Instr.storeAt, Instr.sureAddr, storeVar, run_sizeOf hs, hv2, hst]
theorem ERep_at2 {R : Rd} {n : Nat} : ∀ {xs : List V} {cells : List Value} (i : Nat), ERep R n xs cells → i < xs.length →
    ∃ v, v.cells.toList = (cells.drop (i * n)).take n ∧ v.cells.size = n ∧ nth xs i ≠ .junk ∧ (∀ u ∈ v.cells.toList, u.oneCell' = true) ∧ VRep R (nth xs i) v
  | [], cells, i, h, hi => by simp at hi
  | x :: xs, cells, 0, h, hi => by
    simp only [ERep] at h
    obtain ⟨v, r, rfl, h1, hj, h2, h3⟩ := h
    exact ⟨v, by simp [h1], h1, hj.1, hj.2, h2⟩
  | x :: xs, cells, i + 1, h, hi => by
    simp only [ERep] at h
    obtain ⟨v, r, rfl, h1, hj, h2, h3⟩ := h
    obtain ⟨u, k1, k2, k3⟩ := ERep_at2 i h3 (by simpa using hi)
    refine ⟨u, ?_, k2, k3⟩
    rw [k1, Nat.add_mul, Nat.one_mul, Nat.add_comm (i * n) n, ← List.drop_drop, List.drop_left' (by simpa using h1)]
theorem ERep_set {R : Rd} {n : Nat} {x : V} {v : Value} : ∀ {xs : List V} {cells : List Value} (i : Nat), ERep R n xs cells → i < xs.length → v.cells.toList.length = n → (x ≠ .junk ∧ ∀ u ∈ v.cells.toList, u.oneCell' = true) → VRep R x v →
    ERep R n (xs.set i x) (cells.take (i * n) ++ v.cells.toList ++ cells.drop ((i + 1) * n))
  | [], cells, i, h, hi, _, _, _ => by simp at hi
  | y :: xs, cells, 0, h, hi, hl, hx, hv => by
    simp only [ERep] at h
    obtain ⟨u, r, rfl, h1, hj, h2, h3⟩ := h
    simp only [List.set_cons_zero, ERep]
    exact ⟨v, r, by simp [h1], by simpa using hl, hx, hv, h3⟩
  | y :: xs, cells, i + 1, h, hi, hl, hx, hv => by
    simp only [ERep] at h
    obtain ⟨u, r, rfl, h1, hj, h2, h3⟩ := h
    have ih := ERep_set i h3 (by simpa using hi) hl hx hv
    have hul : u.cells.toList.length = n := by simpa using h1
    simp only [List.set_cons_succ, ERep]
    refine ⟨u, _, ?_, h1, hj, h2, ih⟩
    have e1 : (i + 1) * n = n + i * n := by rw [Nat.add_mul, Nat.one_mul, Nat.add_comm]
    have e2 : (i + 1 + 1) * n = n + (i + 1) * n := by rw [Nat.add_mul (i + 1), Nat.one_mul, Nat.add_comm]
    rw [e1, e2, List.take_append, ← List.drop_drop (l := u.cells.toList ++ r), List.drop_left' hul, hul]
    simp [List.take_of_length_le, hul, e1]
/-- What a value's cells are made of anew. -/
theorem unc_rep {R : Rd} {x : V} {z u : Value} {cs' : List V} {off n : Nat} (hx : VRep R x z) (hj : x ≠ .junk) (hz : ∀ c ∈ z.cells.toList, c.oneCell' = true) (hnj : unc x cs' ≠ .junk) (hc : CRep R cs' (z.cells.toList.take off ++ u.cells.toList ++ z.cells.toList.drop (off + n)))
    (hu : ∀ c ∈ u.cells.toList, c.oneCell' = true) (hul : u.cells.toList.length = n) (hfit : off + n ≤ z.cells.toList.length) :
    ∃ z' : Value, z'.cells.toList = z.cells.toList.take off ++ u.cells.toList ++ z.cells.toList.drop (off + n) ∧ unc x cs' ≠ .junk ∧ (∀ c ∈ z'.cells.toList, c.oneCell' = true) ∧ VRep R (unc x cs') z' := by
  have hall : ∀ c ∈ z.cells.toList.take off ++ u.cells.toList ++ z.cells.toList.drop (off + n), c.oneCell' = true := by
    intro c hc
    simp only [List.mem_append] at hc
    rcases hc with (h | h) | h
    · exact hz c (List.mem_of_mem_take h)
    · exact hu c h
    · exact hz c (List.mem_of_mem_drop h)
  by_cases ha : ∃ cs, x = .agg cs
  · obtain ⟨cs, rfl⟩ := ha
    refine ⟨.agg (z.cells.toList.take off ++ u.cells.toList ++ z.cells.toList.drop (off + n)).toArray, by simp [Value.cells], by simp [unc], by simpa [Value.cells] using hall, ?_⟩
    simp only [unc, VRep]
    exact ⟨_, rfl, hc⟩
  · have hun : unc x cs' = nth cs' 0 := by cases x <;> first | rfl | exact absurd ⟨_, rfl⟩ ha
    have hat : atom x = true := by
      cases x <;> first | rfl | exact absurd ⟨_, rfl⟩ ha | exact absurd rfl hj | skip
      simp only [VRep] at hx
      obtain ⟨ds, rfl, _⟩ := hx
      have := hz (.tuple ds.toArray) (by simp [Value.cells])
      simp [Value.oneCell'] at this
    have hz1 := cells_one (atom_cell hat hx)
    rw [hz1] at hc hfit hall ⊢
    simp only [List.length_singleton, List.size_toArray, List.length_cons, List.length_nil] at hfit
    have hlen : (([z] : List Value).take off ++ u.cells.toList ++ ([z] : List Value).drop (off + n)).length = 1 := by
      simp only [List.length_append, List.length_take, List.length_drop, List.length_singleton, hul]; omega
    obtain ⟨d, hd⟩ := List.length_eq_one_iff.1 hlen
    have hd1 : d.oneCell' = true := hall d (by rw [hd]; simp)
    refine ⟨d, by rw [cells_one hd1]; exact hd.symm, hnj, by rw [cells_one hd1]; simpa using hd1, ?_⟩
    rw [hun]
    rw [hd] at hc
    exact CRep_get 0 d hc rfl
theorem splice_eq (l m : List Value) (a o n k L : Nat) (hm : m.length = n) (h1 : o + n ≤ k) (h2 : a + k ≤ L) (h3 : L ≤ l.length) {b : Nat} (hb : b = a + k) :
    (l.take (a + o) ++ m ++ l.drop (a + o + n)).take L = (l.take L).take a ++ ((((l.take L).drop a).take k).take o ++ m ++ (((l.take L).drop a).take k).drop (o + n)) ++ (l.take L).drop b := by
  subst hb
  have e1 : (l.take L).take a = l.take a := by rw [List.take_take, Nat.min_eq_left (by omega)]
  have e2 : ((l.take L).drop a).take k = (l.drop a).take k := by rw [List.drop_take, List.take_take, Nat.min_eq_left (by omega)]
  have e3 : ((l.drop a).take k).take o = (l.drop a).take o := by rw [List.take_take, Nat.min_eq_left (by omega)]
  have e4 : ((l.drop a).take k).drop (o + n) = (l.drop (a + o + n)).take (k - (o + n)) := by rw [List.drop_take, List.drop_drop, Nat.add_assoc]
  have e5 : (l.take L).drop (a + k) = (l.drop (a + k)).take (L - (a + k)) := by rw [List.drop_take]
  rw [e1, e2, e3, e4, e5]
  have hA : (l.take (a + o) ++ m).length = a + o + n := by simp only [List.length_append, List.length_take, hm]; omega
  have hL : L = (a + o + n) + (L - (a + o + n)) := by omega
  rw [hL, List.take_append, hA, List.take_of_length_le (by rw [hA]; omega), Nat.add_sub_cancel_left]
  have e6 : L - (a + o + n) = (k - (o + n)) + (L - (a + k)) := by omega
  have e7 : (l.drop (a + o + n)).take (L - (a + o + n)) = (l.drop (a + o + n)).take (k - (o + n)) ++ (l.drop (a + k)).take (L - (a + k)) := by
    rw [e6, List.take_add, List.drop_drop, show a + o + n + (k - (o + n)) = a + k by omega]
  rw [e7, List.take_add]
  rw [← hL]
  simp [List.append_assoc]
theorem store_does {t : TypeId} {n : Nat} {x y : V} {v u : Value} (hs : sizeT P t = some n) (hC : HRep C) (hv : VRep C.R x v) (hu : VRep C.R y u) (hk : storeK n x y C.H K) : DoesU P (Instr.storeAt t v u) C K := by
  unfold storeK at hk
  split at hk
  · rename_i j off
    unfold storeH at hk
    split at hk
    · rename_i cs he
      split at hk
      · rename_i cs' hp hok
        obtain ⟨b, c, hb, rfl⟩ := ptr_at hv he rfl
        obtain ⟨b', c', cur, E, k1, k2, k3⟩ := hC.ent j _ he
        rw [hb] at k1; cases k1
        obtain ⟨g1, g2, g3⟩ := putO_rep hp k3 hu
        have hrun := storeVar_run hs g1 (okC_cells hok hu) k2 (by simpa using g2)
        have ht : Turns C (C.w.setRow b (cur.toList.take off ++ u.cells.toList ++ cur.toList.drop (off + n)).toArray) j (some (b, c)) (.box cs) (.box cs') := row_turns hC he rfl hb k2 (by rw [hb]; exact STr.refl _ _)
        refine ⟨C.turn _ j (some (b, c)) (.box cs'), hrun, turn_tr hC ht, turn_rep hC ht ?_, hk⟩
        refine ⟨b, c, _, E, turn_beta_new, setRow_heap C.w b cur _ E _ k2, ?_⟩
        have g4 := CRep_tr (turn_tr hC ht).R _ _ g3
        rw [List.toList_toArray]
        exact g4
      · exact hk.elim
    · exact hk.elim
  · rename_i j len i off
    unfold storeE at hk
    split at hk
    · rename_i E m xs he
      obtain ⟨⟨hl, hi⟩, hk⟩ := hk
      split at hk
      · rename_i cs' hp hok hnd
        obtain ⟨hnj, hk⟩ := hk
        obtain ⟨b, c, hb, rfl⟩ := eptr_at hv he rfl hl
        rcases hC.ent j _ he with ⟨k1, _⟩ | ⟨b', cap, cur, cells, k1, k2, k3, k4, k5, k6, k7⟩
        · rw [hb] at k1; cases k1
        rw [hb] at k1
        obtain ⟨rfl, rfl⟩ : b = b' ∧ c = cap := by simpa using k1
        obtain ⟨z, e1, e2, e3, e5, e4⟩ := ERep_at2 i k7 hi
        have hcr := cells_rep e4 e3
        have hudeep := noid_deep y u hnd hu
        obtain ⟨g1, g2, g3⟩ := putO_rep hp hcr hudeep
        have hzl : z.cells.toList.length = m := by simpa using e2
        have hoc := okC_cells hok hu
        obtain ⟨z', f1, f2, f3, f4⟩ := unc_rep e4 e3 e5 hnj g3 hoc (by omega) (by omega)
        have hlm : (i + 1) * m ≤ c * m := Nat.mul_le_mul_right m (by omega)
        have hlx : xs.length * m ≤ c * m := Nat.mul_le_mul_right m k4
        have hix : (i + 1) * m ≤ xs.length * m := Nat.mul_le_mul_right m (by omega)
        have hex : (i + 1) * m = i * m + m := by rw [Nat.add_mul, Nat.one_mul]
        have hfit : i * m + off + n ≤ cur.size := by rw [k3]; omega
        have hrun := storeVar_run hs g1 hoc k2 hfit
        have ht : Turns C (C.w.setRow b (cur.toList.take (i * m + off) ++ u.cells.toList ++ cur.toList.drop (i * m + off + n)).toArray) j (some (b, c)) (.row E m xs) (.row E m (xs.set i (unc (nth xs i) cs'))) :=
          row_turns hC he rfl hb k2 (by rw [hb]; simp [Entry.shp, STr])
        refine ⟨C.turn _ j (some (b, c)) (.row E m (xs.set i (unc (nth xs i) cs'))), hrun, turn_tr hC ht, turn_rep hC ht ?_, hk⟩
        refine .inr ⟨b, c, _, _, turn_beta_new, setRow_heap C.w b cur _ E _ k2, ?_, by simpa using k4, k5, rfl, ?_⟩
        · simp only [List.size_toArray, List.length_append, List.length_take, List.length_drop, Array.length_toList, g1]
          rw [← k3]; omega
        · have key := ERep_set i k7 hi (by rw [f1]; simp only [List.length_append, List.length_take, List.length_drop, g1]; omega) ⟨f2, f3⟩ f4
          rw [f1] at key
          have hcl : cells.length = xs.length * m := ERep_length k7
          have e6 : (cur.toList.take (i * m + off) ++ u.cells.toList ++ cur.toList.drop (i * m + off + n)).take (xs.length * m) =
              cells.take (i * m) ++ (z.cells.toList.take off ++ u.cells.toList ++ z.cells.toList.drop (off + n)) ++ cells.drop ((i + 1) * m) := by
            rw [e1, ← k6]
            exact splice_eq cur.toList u.cells.toList (i * m) off n m (xs.length * m) g1 (by omega) (by omega) (by simp only [Array.length_toList, k3]; omega) hex
          simp only [List.length_set, List.toList_toArray]
          rw [e6]
          exact ERep_tr (turn_tr hC ht).R.deep _ _ _ key
      · exact hk.elim
    · exact hk.elim
  · exact hk.elim
end
end Go.Av
