/- A part of a way to reckon what a Go program does without its memory (Eu). -/
import Derived.Test.YthonnheklgmkaaaEt
import Derived.Test.YthonnheklgmkaaaEa
import Derived.Test.YthonnheklgmkaaaE5
namespace Go.Av
open Go
set_option autoImplicit false
set_option linter.all false
/-! ### What is laid is read as it was; cut short it is too little -/
structure RT {α : Type} (p : Rs → α × Rs) (q : List UInt8) (a : α) : Prop where
  full : ∀ r, p (q ++ r, 0) = (a, (r, 0))
  cut : ∀ m, m < q.length → (p (q.take m, 0)).2.2 = 3
def Stay {α : Type} (p : Rs → α × Rs) : Prop := ∀ r : Rs, r.2 ≠ 0 → (p r).2 = r
theorem Stay.bind {α β : Type} {p : Rs → α × Rs} {p' : α → Rs → β × Rs} (h : Stay p) (h' : ∀ x, Stay (p' x)) : Stay (fun r => p' (p r).1 (p r).2) := fun r hr => by
  have := h r hr
  simp only [this]
  exact h' _ r hr
theorem RT.bind {α β : Type} {p : Rs → α × Rs} {p' : α → Rs → β × Rs} {q q' : List UInt8} {a : α} {b : β} (h : RT p q a) (hs : ∀ x, Stay (p' x)) (h' : RT (p' a) q' b) : RT (fun r => p' (p r).1 (p r).2) (q ++ q') b := by
  refine ⟨fun r => ?_, fun m hm => ?_⟩
  · simp only [List.append_assoc, h.full]
    exact h'.full r
  · rw [List.take_append]
    by_cases hlt : m < q.length
    · rw [show m - q.length = 0 by omega, List.take_zero, List.append_nil]
      have h3 := h.cut m hlt
      rw [hs _ _ (by rw [h3]; decide)]
      exact h3
    · rw [List.take_of_length_le (by omega)]
      simp only [h.full]
      rw [List.length_append] at hm
      exact h'.cut _ (by omega)
theorem RT.of_eq {α : Type} {p p2 : Rs → α × Rs} {q : List UInt8} {a : α} (h : RT p2 q a) (he : ∀ x, p (x, 0) = p2 (x, 0)) : RT p q a :=
  ⟨fun r => by rw [he]; exact h.full r, fun m hm => by rw [he]; exact h.cut m hm⟩
theorem RT.map {α β : Type} {p : Rs → α × Rs} {q : List UInt8} {a : α} (f : α → β) (h : RT p q a) : RT (fun r => (f (p r).1, (p r).2)) q (f a) :=
  ⟨fun r => by simp only [h.full], fun m hm => h.cut m hm⟩
theorem unp_full {n : Int} (h0 : 0 ≤ n) (h1 : n ≤ 18446744073709551615) (r : List UInt8) : unp (pkS n ++ r) = (n, ((pkS n).length : Int), 0) := by
  unfold unp pkS
  rw [Go.Proofs.Ythonnheklgmkaaa.unpS_pkL _ _ (by omega), Go.Proofs.Ythonnheklgmkaaa.pkL_length]
  simp
  omega
theorem unp_cut {n : Int} (h0 : 0 ≤ n) (h1 : n ≤ 18446744073709551615) {m : Nat} (hm : m < (pkS n).length) : unp ((pkS n).take m) = (0, 0, 3) := by
  unfold unp
  unfold pkS at hm ⊢
  rw [Go.Proofs.Ythonnheklgmkaaa.pkL_length] at hm
  have h9 := Go.Proofs.Ythonnheklgmkaaa.pkW_le9 n.toNat (by omega)
  rw [Go.Proofs.Ythonnheklgmkaaa.unpS_short _ m (by rw [List.length_take, Go.Proofs.Ythonnheklgmkaaa.pkL_length]; omega) (by omega) fun t ht => ?_]
  · rfl
  · have := Go.Proofs.Ythonnheklgmkaaa.gB_pkL n.toNat [] t (by omega)
    rw [List.append_nil] at this
    have e : Go.Proofs.Ythonnheklgmkaaa.gB ((Go.Proofs.Ythonnheklgmkaaa.pkL n.toNat).take m) t = Go.Proofs.Ythonnheklgmkaaa.gB (Go.Proofs.Ythonnheklgmkaaa.pkL n.toNat) t := by
      unfold Go.Proofs.Ythonnheklgmkaaa.gB
      simp only [List.getD_eq_getElem?_getD, List.getElem?_take, if_pos ht]
    rw [e, this]
    omega
theorem rt_num {n : Int} (h0 : 0 ≤ n) (h1 : n ≤ 18446744073709551615) : RT numR (pkS n) n :=
  ⟨fun r => by simp [numR, unp_full h0 h1], fun m hm => by simp [numR, unp_cut h0 h1 hm]⟩
theorem st_num : Stay numR := fun r hr => by simp [numR, hr]
theorem rt_size {most n : Int} (h0 : 0 ≤ n) (h1 : n ≤ 18446744073709551615) (hm : n ≤ most) : RT (sizeR most) (pkS n) n := by
  refine ⟨fun r => ?_, fun m hl => ?_⟩
  · unfold sizeR
    rw [(rt_num h0 h1).full, if_neg (by simp only; omega)]
  · have e : numR ((pkS n).take m, 0) = (0, ((pkS n).take m, 3)) := by simp [numR, unp_cut h0 h1 hl]
    unfold sizeR
    rw [e, if_neg (by simp only; omega)]
theorem st_size {most : Int} (h : 0 ≤ most) : Stay (sizeR most) := fun r hr => by
  have e : numR r = (0, r) := by simp [numR, hr]
  unfold sizeR
  rw [e, if_neg (by simp only; omega)]
theorem rt_text {most : Int} {s : List UInt8} (hs : (s.length : Int) ≤ most) (hb : s.length ≤ 1000000) : RT (textR most) (layT s) s := by
  have hn := rt_size (most := most) (n := (s.length : Int)) (by omega) (by omega) hs
  refine ⟨fun r => ?_, fun m hm => ?_⟩
  · unfold textR layT
    rw [List.append_assoc, hn.full]
    simp
    omega
  · unfold textR layT
    unfold layT at hm
    rw [List.length_append] at hm
    rw [List.take_append]
    by_cases hlt : m < (pkS (s.length : Int)).length
    · rw [show m - (pkS (s.length : Int)).length = 0 by omega, List.take_zero, List.append_nil]
      have h3 := hn.cut m hlt
      simp only
      rw [if_neg (by rw [h3]; decide)]
      exact h3
    · rw [List.take_of_length_le (by omega), hn.full]
      simp only [if_true]
      rw [if_pos (by simp; omega)]
theorem st_text {most : Int} (h : 0 ≤ most) : Stay (textR most) := fun r hr => by
  unfold textR
  have := st_size h r hr
  simp only
  rw [if_neg (by rw [this]; exact hr)]
  exact this
theorem tkV_full {v : Vl} (hv : vB v) (hm : mayV v = true) (r : List UInt8) : tkV (layV v ++ r) = (v, ((layV v).length : Int), 0) := by
  obtain ⟨b, z, t⟩ := v
  obtain ⟨h1, h2⟩ := hv
  simp only at h1 h2
  cases b
  · simp [mayV] at hm
    have e := unp_full (n := (t.length : Int)) (by omega) (by omega) (t ++ r)
    have hl : layV (false, z, t) = [2] ++ pkS (t.length : Int) ++ t := rfl
    rw [hl]
    unfold tkV
    rw [if_neg (by simp), if_neg (by simp), show List.drop 1 ((([2] : List UInt8) ++ pkS (t.length : Int) ++ t) ++ r) = pkS (t.length : Int) ++ (t ++ r) by simp, e]
    simp only [not_true, if_false]
    rw [if_neg (by simp)]
    unfold tkT
    rw [if_neg (by omega), if_neg (by simp; omega)]
    have e1 : (1 + ((pkS (t.length : Int)).length : Int) + (t.length : Int)).toNat = ([2] ++ pkS (t.length : Int) ++ t).length := by simp; omega
    have e2 : (1 + ((pkS (t.length : Int)).length : Int)).toNat = ([2] ++ pkS (t.length : Int)).length := by simp; omega
    rw [e1, e2, List.take_left, List.drop_left, hm.1]
    simp
    omega
  · simp [mayV] at hm
    subst hm
    have hf := Go.Proofs.Ythonnheklgmkaaa.foldZ_bd z h2.1 h2.2
    have e := unp_full hf.1 hf.2 r
    have hl : layV (true, z, []) = [1] ++ pkS (Go.Proofs.Ythonnheklgmkaaa.foldZ z) := rfl
    rw [hl]
    unfold tkV
    rw [if_neg (by simp), if_neg (by simp), show List.drop 1 ((([1] : List UInt8) ++ pkS (Go.Proofs.Ythonnheklgmkaaa.foldZ z)) ++ r) = pkS (Go.Proofs.Ythonnheklgmkaaa.foldZ z) ++ r by simp, e]
    simp only [not_true, if_false]
    rw [if_pos (by simp), Go.Proofs.Ythonnheklgmkaaa.unfold_fold]
    simp
    omega
theorem tkV_cut {v : Vl} (hv : vB v) (hm : mayV v = true) {m : Nat} (hl : m < (layV v).length) : (tkV ((layV v).take m)).2.2 = 3 := by
  obtain ⟨b, z, t⟩ := v
  obtain ⟨h1, h2⟩ := hv
  simp only at h1 h2
  cases m with
  | zero => simp [tkV]
  | succ m =>
  cases b
  · simp [mayV] at hm
    have e : layV (false, z, t) = 2 :: (pkS (t.length : Int) ++ t) := by simp [layV]
    rw [e] at hl ⊢
    simp only [List.length_cons, List.length_append] at hl
    rw [List.take_succ_cons]
    unfold tkV
    rw [if_neg (by simp), if_neg (by simp)]
    simp only [List.drop_succ_cons, List.drop_zero]
    rw [List.take_append]
    by_cases hlt : m < (pkS (t.length : Int)).length
    · rw [show m - (pkS (t.length : Int)).length = 0 by omega, List.take_zero, List.append_nil, unp_cut (by omega) (by omega) hlt]
      simp
    · rw [List.take_of_length_le (by omega), unp_full (by omega) (by omega)]
      simp only [not_true, if_false]
      rw [if_neg (by simp)]
      unfold tkT
      rw [if_neg (by omega), if_pos (by simp; omega)]
  · simp [mayV] at hm
    subst hm
    have hf := Go.Proofs.Ythonnheklgmkaaa.foldZ_bd z h2.1 h2.2
    have e : layV (true, z, []) = 1 :: pkS (Go.Proofs.Ythonnheklgmkaaa.foldZ z) := by simp [layV]
    rw [e] at hl ⊢
    simp only [List.length_cons] at hl
    rw [List.take_succ_cons]
    unfold tkV
    rw [if_neg (by simp), if_neg (by simp)]
    simp only [List.drop_succ_cons, List.drop_zero]
    rw [unp_cut hf.1 hf.2 (by omega)]
    simp
theorem rt_val {v : Vl} (hv : vB v) (hm : mayV v = true) : RT valR (layV v) v :=
  ⟨fun r => by simp [valR, tkV_full hv hm], fun m hl => by simp [valR, tkV_cut hv hm hl]⟩
theorem st_val : Stay valR := fun r hr => by simp [valR, hr]
theorem st_fds (n : Nat) : Stay (fdsR n) := fun r hr => by
  cases n with
  | zero => rfl
  | succ n => simp [fdsR, hr]
theorem rt_fds : ∀ {L : List Fd}, (∀ f ∈ L, fB f ∧ f.1.length ≤ 16) → RT (fdsR L.length) (layFs L) L
  | [], _ => ⟨fun r => by simp [fdsR, layFs], fun m hm => by simp [layFs] at hm⟩
  | f :: L, h => by
    obtain ⟨hf, hl⟩ := h f (by simp)
    have ih := rt_fds (L := L) fun x hx => h x (by simp [hx])
    have e : layFs (f :: L) = layT f.1 ++ (layV f.2 ++ layFs L) := by simp [layFs, layF, List.append_assoc]
    rw [e]
    refine RT.of_eq (p2 := fun r => (fun (n : List UInt8) r => (fun (v : Vl) r => (((n, v) :: (fdsR L.length r).1, (fdsR L.length r).2) : List Fd × Rs)) (valR r).1 (valR r).2) (textR 16 r).1 (textR 16 r).2) ?_ fun x => by simp [fdsR]
    refine RT.bind (p := textR 16) (p' := fun n r => (fun (v : Vl) r => (((n, v) :: (fdsR L.length r).1, (fdsR L.length r).2) : List Fd × Rs)) (valR r).1 (valR r).2) (rt_text (by omega) (by omega)) (fun n => Stay.bind (p := valR) (p' := fun (v : Vl) r => (((n, v) :: (fdsR L.length r).1, (fdsR L.length r).2) : List Fd × Rs)) st_val fun v r hr => st_fds _ r hr) ?_
    refine RT.bind (p := valR) (p' := fun (v : Vl) r => (((f.1, v) :: (fdsR L.length r).1, (fdsR L.length r).2) : List Fd × Rs)) (rt_val hf.2.1 hf.2.2) (fun v r hr => st_fds _ r hr) ?_
    exact RT.map (fun l => (f.1, f.2) :: l) ih
theorem rt_ev {e : Ev} (he : evB e) (h40 : e.1.length ≤ 40) (h16 : e.2.1.length ≤ 16) (h8 : e.2.2.2.length ≤ 8) (hf : ∀ f ∈ e.2.2.2, fB f ∧ f.1.length ≤ 16) : RT evR (layE e) e := by
  obtain ⟨h0, _, _, _, _⟩ := he
  obtain ⟨t, w, n, L⟩ := e
  simp only at h40 h16 h8 hf h0
  have e : layE (t, w, n, L) = layT t ++ (layT w ++ (pkS n ++ (pkS (L.length : Int) ++ layFs L))) := by simp [layE, List.append_assoc]
  rw [e]
  let p4 : List UInt8 → List UInt8 → Int → Int → Rs → Ev × Rs := fun a b c d r => ((a, b, c, (fdsR d.toNat r).1), (fdsR d.toNat r).2)
  let p3 : List UInt8 → List UInt8 → Int → Rs → Ev × Rs := fun a b c r => p4 a b c (sizeR 8 r).1 (sizeR 8 r).2
  let p2 : List UInt8 → List UInt8 → Rs → Ev × Rs := fun a b r => p3 a b (numR r).1 (numR r).2
  let p1 : List UInt8 → Rs → Ev × Rs := fun a r => p2 a (textR 16 r).1 (textR 16 r).2
  have s4 : ∀ a b c d, Stay (p4 a b c d) := fun a b c d r hr => st_fds _ r hr
  have s3 : ∀ a b c, Stay (p3 a b c) := fun a b c => Stay.bind (p := sizeR 8) (p' := p4 a b c) (st_size (by omega)) (s4 a b c)
  have s2 : ∀ a b, Stay (p2 a b) := fun a b => Stay.bind (p := numR) (p' := p3 a b) st_num (s3 a b)
  have s1 : ∀ a, Stay (p1 a) := fun a => Stay.bind (p := textR 16) (p' := p2 a) (st_text (by omega)) (s2 a)
  show RT (fun r => p1 (textR 40 r).1 (textR 40 r).2) _ _
  refine RT.bind (p := textR 40) (p' := p1) (rt_text (by omega) (by omega)) s1 ?_
  refine RT.bind (p := textR 16) (p' := p2 t) (rt_text (by omega) (by omega)) (s2 t) ?_
  refine RT.bind (p := numR) (p' := p3 t w) (rt_num h0.1 h0.2) (s3 t w) ?_
  refine RT.bind (p := sizeR 8) (p' := p4 t w n) (rt_size (by omega) (by omega) (by omega)) (s4 t w n) ?_
  show RT (fun r => ((t, w, n, (fdsR (L.length : Int).toNat r).1), (fdsR (L.length : Int).toNat r).2)) _ _
  rw [Int.toNat_natCast]
  exact RT.map (fun l => (t, w, n, l)) (rt_fds hf)
end Go.Av
namespace Go.Av
open Go
set_option autoImplicit false
set_option linter.all false
/-! ### An event is taken -/
def z0 : Ev := ([], [], 0, [])
noncomputable def takE (s : List UInt8) : Ev × Int × Int :=
  let z := evR (s, 0)
  if z.2.2 = 0 then (if mayE z.1 = true ∧ (s.length : Int) - z.2.1.length ≤ 800 then (z.1, (s.length : Int) - z.2.1.length, 0) else (z0, 0, 2)) else (z0, 0, z.2.2)
theorem textR_fst (most : Int) (r : Rs) : (textR most r).1.length ≤ r.1.length := by
  have := sizeR_len most r
  unfold textR
  simp only
  split
  · split
    · simp
    · simp; omega
  · simp
theorem tkV_fst (s : List UInt8) : (tkV s).1.2.2.length ≤ s.length := by
  unfold tkV
  split
  · simp [v0]
  · split
    · simp [v0]
    · split
      · simp [v0]
      · split
        · simp
        · unfold tkT
          split
          · simp
          · split
            · simp
            · simp; omega
theorem valR_fst (r : Rs) : (valR r).1.2.2.length ≤ r.1.length := by
  unfold valR
  split
  · exact tkV_fst _
  · simp [v0]
theorem fdsR_ok {M : Nat} : ∀ (n : Nat) (r : Rs), r.1.length ≤ M → (fdsR n r).2.1.length ≤ r.1.length ∧ ∀ f ∈ (fdsR n r).1, f.1.length ≤ M ∧ f.2.2.2.length ≤ M
  | 0, r, h => by simp [fdsR]
  | n + 1, r, h => by
    unfold fdsR
    split
    · have h1 := textR_len 16 r
      have h2 := textR_fst 16 r
      have h3 := valR_len (textR 16 r).2
      have h4 := valR_fst (textR 16 r).2
      obtain ⟨k1, k2⟩ := fdsR_ok (M := M) n (valR (textR 16 r).2).2 (by omega)
      refine ⟨by simp only; omega, fun f hf => ?_⟩
      rcases List.mem_cons.1 hf with rfl | hf
      · exact ⟨by simp only; omega, by simp only; omega⟩
      · exact k2 f hf
    · simp
theorem fdsR_cnt : ∀ (n : Nat) (r : Rs), (fdsR n r).1.length ≤ n
  | 0, r => by simp [fdsR]
  | n + 1, r => by
    unfold fdsR
    split
    · have := fdsR_cnt n (valR (textR 16 r).2).2
      simp; omega
    · simp
theorem evR_ok (s : List UInt8) (hs : s.length ≤ 900000) : evOk (evR (s, 0)).1 ∧ (evR (s, 0)).1.2.2.2.length ≤ 8 ∧ (evR (s, 0)).2.1.length ≤ s.length := by
  unfold evR
  simp only
  have a1 := textR_fst 40 (s, 0)
  have a2 := textR_len 40 (s, 0)
  generalize textR 40 (s, 0) = a at *
  have b1 := textR_fst 16 a.2
  have b2 := textR_len 16 a.2
  generalize textR 16 a.2 = b at *
  have c2 := numR_len b.2
  generalize numR b.2 = c at *
  have d1 := sizeR_len 8 c.2
  have d2 := sizeR_err 8 c.2
  have d3 := sizeR_pos 8 c.2
  generalize sizeR 8 c.2 = d at *
  simp only at a1 a2
  obtain ⟨k1, k2⟩ := fdsR_ok (M := 900000) d.1.toNat d.2 (by omega)
  have k3 := fdsR_cnt d.1.toNat d.2
  have k4 : (fdsR d.1.toNat d.2).1.length ≤ 8 := by
    by_cases h : 8 < d.1
    · have h2 := d2 h
      cases hd : d.1.toNat with
      | zero => simp [fdsR]
      | succ n => simp [fdsR, h2]
    · omega
  refine ⟨⟨by simp only; omega, by simp only; omega, by simp only; omega, fun f hf => ?_⟩, k4, by omega⟩
  have := k2 f hf
  omega
theorem s_event2 {H : List Entry} {b0 : Entry} {r : Rs} {K : KV} (hl : r.1.length ≤ 900000) (hK : K (evV (evR r).1) (H ++ [b0, .box [.str (evR r).2.1, .int .i64 (evR r).2.2]])) : BCall AP n_event_reader_event [.ptr (H.length + 1) 0] (H ++ [b0, .box [.str r.1, .int .i64 r.2]]) K := by
  have := s_event (P := H ++ [b0]) (r := r) (K := K) hl (by simpa using hK)
  simpa using this
theorem s_Take {s : List UInt8} {H : List Entry} (hs : s.length ≤ 900000) : Pure AP n_event_Take [.str s] H (.tup [evV (takE s).1, .int .i64 (takE s).2.1, .int .i64 (takE s).2.2]) := by
  intro K hK
  refine a_event_Take fun hw => ?_
  obtain ⟨o1, o2, o3⟩ := evR_ok s hs
  unfold takE at hK
  simp (disch := first | omega | (simp only [go_sem, true_and, and_true, List.length_append, List.length_take, List.length_set, List.length_drop, List.length_replicate, List.length_cons, List.length_nil, List.length_replicate] <;> omega)) only [go_sem, true_and, Nat.reduceAdd, Nat.reduceSub, Nat.reduceMul, Nat.reduceEqDiff, Nat.reduceLeDiff, Nat.reduceLT, Nat.reduceBEq, Int.reduceAdd, Int.reduceSub, Int.reduceMul, Int.reduceNeg, Int.reduceLT, Int.reduceLE, Int.reduceEq, Int.reduceToNat, c_event_Take]
  refine s_event2 (r := (s, 0)) hs ?_
  simp only at hK
  generalize evR (s, 0) = z at *
  obtain ⟨e, q1, q2⟩ := z
  simp only at *
  simp (disch := first | omega | (simp only [go_sem, true_and, and_true, List.length_append, List.length_take, List.length_set, List.length_drop, List.length_replicate, List.length_cons, List.length_nil, List.length_replicate] <;> omega)) only [go_sem, true_and, Nat.reduceAdd, Nat.reduceSub, Nat.reduceMul, Nat.reduceEqDiff, Nat.reduceLeDiff, Nat.reduceLT, Nat.reduceBEq, Int.reduceAdd, Int.reduceSub, Int.reduceMul, Int.reduceNeg, Int.reduceLT, Int.reduceLE, Int.reduceEq, Int.reduceToNat]
  by_cases h : q2 = 0
  · subst h
    simp only [if_true] at hK
    simp (disch := first | omega | (simp only [go_sem, true_and, and_true, List.length_append, List.length_take, List.length_set, List.length_drop, List.length_replicate, List.length_cons, List.length_nil, List.length_replicate] <;> omega)) only [go_sem, true_and, Nat.reduceAdd, Nat.reduceSub, Nat.reduceMul, Nat.reduceEqDiff, Nat.reduceLeDiff, Nat.reduceLT, Nat.reduceBEq, Int.reduceAdd, Int.reduceSub, Int.reduceMul, Int.reduceNeg, Int.reduceLT, Int.reduceLE, Int.reduceEq, Int.reduceToNat]
    refine s_May (e := e) o1 (by omega) _ ?_
    cases hm : mayE e
    · simp only [hm, Bool.false_eq_true, false_and, if_false] at hK
      simp (disch := first | omega | (simp only [go_sem, true_and, and_true, List.length_append, List.length_take, List.length_set, List.length_drop, List.length_replicate, List.length_cons, List.length_nil, List.length_replicate] <;> omega)) only [go_sem, true_and, Nat.reduceAdd, Nat.reduceSub, Nat.reduceMul, Nat.reduceEqDiff, Nat.reduceLeDiff, Nat.reduceLT, Nat.reduceBEq, Int.reduceAdd, Int.reduceSub, Int.reduceMul, Int.reduceNeg, Int.reduceLT, Int.reduceLE, Int.reduceEq, Int.reduceToNat, Bool.not_false]
      refine end_less [.agg [.str [], .str [], .int .u64 0, .sl 4 []], .int .i64 0, .int .i64 2] (by repeat' (first | exact .nil _ | exact .slx _ _ | exact .refl _ | exact .nil | refine .cons ?_ ?_ | refine .agg ?_ | refine .tup ?_)) ?_
      refine fin_res hw ?_ (fin_eq hK ?_)
      · simp (disch := first | omega | (simp only [go_sem, true_and, and_true, List.length_append, List.length_take, List.length_set, List.length_drop, List.length_replicate, List.length_cons, List.length_nil, List.length_replicate] <;> omega)) only [go_sem, true_and, Nat.reduceAdd, Nat.reduceSub, Nat.reduceMul, Nat.reduceEqDiff, Nat.reduceLeDiff, Nat.reduceLT, Nat.reduceBEq, Int.reduceAdd, Int.reduceSub, Int.reduceMul, Int.reduceNeg, Int.reduceLT, Int.reduceLE, Int.reduceEq, Int.reduceToNat]
      · simp [oneV, evV, z0]
    · by_cases h8 : (s.length : Int) - q1.length ≤ 800
      · simp only [hm, true_and, if_pos h8] at hK
        simp (disch := first | omega | (simp only [go_sem, true_and, and_true, List.length_append, List.length_take, List.length_set, List.length_drop, List.length_replicate, List.length_cons, List.length_nil, List.length_replicate] <;> omega)) only [go_sem, true_and, Nat.reduceAdd, Nat.reduceSub, Nat.reduceMul, Nat.reduceEqDiff, Nat.reduceLeDiff, Nat.reduceLT, Nat.reduceBEq, Int.reduceAdd, Int.reduceSub, Int.reduceMul, Int.reduceNeg, Int.reduceLT, Int.reduceLE, Int.reduceEq, Int.reduceToNat, Bool.not_true, h8, decide_true, decide_false]
        refine fin_res hw ?_ (fin_eq hK ?_)
        · simp (disch := first | omega | (simp only [go_sem, true_and, and_true, List.length_append, List.length_take, List.length_set, List.length_drop, List.length_replicate, List.length_cons, List.length_nil, List.length_replicate] <;> omega)) only [go_sem, true_and, Nat.reduceAdd, Nat.reduceSub, Nat.reduceMul, Nat.reduceEqDiff, Nat.reduceLeDiff, Nat.reduceLT, Nat.reduceBEq, Int.reduceAdd, Int.reduceSub, Int.reduceMul, Int.reduceNeg, Int.reduceLT, Int.reduceLE, Int.reduceEq, Int.reduceToNat]
        · simp [oneV, evV]
      · simp only [hm, true_and, if_neg h8] at hK
        simp (disch := first | omega | (simp only [go_sem, true_and, and_true, List.length_append, List.length_take, List.length_set, List.length_drop, List.length_replicate, List.length_cons, List.length_nil, List.length_replicate] <;> omega)) only [go_sem, true_and, Nat.reduceAdd, Nat.reduceSub, Nat.reduceMul, Nat.reduceEqDiff, Nat.reduceLeDiff, Nat.reduceLT, Nat.reduceBEq, Int.reduceAdd, Int.reduceSub, Int.reduceMul, Int.reduceNeg, Int.reduceLT, Int.reduceLE, Int.reduceEq, Int.reduceToNat, Bool.not_true, h8, decide_true, decide_false]
        refine end_less [.agg [.str [], .str [], .int .u64 0, .sl 4 []], .int .i64 0, .int .i64 2] (by repeat' (first | exact .nil _ | exact .slx _ _ | exact .refl _ | exact .nil | refine .cons ?_ ?_ | refine .agg ?_ | refine .tup ?_)) ?_
        refine fin_res hw ?_ (fin_eq hK ?_)
        · simp (disch := first | omega | (simp only [go_sem, true_and, and_true, List.length_append, List.length_take, List.length_set, List.length_drop, List.length_replicate, List.length_cons, List.length_nil, List.length_replicate] <;> omega)) only [go_sem, true_and, Nat.reduceAdd, Nat.reduceSub, Nat.reduceMul, Nat.reduceEqDiff, Nat.reduceLeDiff, Nat.reduceLT, Nat.reduceBEq, Int.reduceAdd, Int.reduceSub, Int.reduceMul, Int.reduceNeg, Int.reduceLT, Int.reduceLE, Int.reduceEq, Int.reduceToNat]
        · simp [oneV, evV, z0]
  · simp only [if_neg h] at hK
    simp (disch := first | omega | (simp only [go_sem, true_and, and_true, List.length_append, List.length_take, List.length_set, List.length_drop, List.length_replicate, List.length_cons, List.length_nil, List.length_replicate] <;> omega)) only [go_sem, true_and, Nat.reduceAdd, Nat.reduceSub, Nat.reduceMul, Nat.reduceEqDiff, Nat.reduceLeDiff, Nat.reduceLT, Nat.reduceBEq, Int.reduceAdd, Int.reduceSub, Int.reduceMul, Int.reduceNeg, Int.reduceLT, Int.reduceLE, Int.reduceEq, Int.reduceToNat, h, decide_false]
    refine end_less [.agg [.str [], .str [], .int .u64 0, .sl 4 []], .int .i64 0, .int .i64 q2] (by repeat' (first | exact .nil _ | exact .slx _ _ | exact .refl _ | exact .nil | refine .cons ?_ ?_ | refine .agg ?_ | refine .tup ?_)) ?_
    refine fin_res hw ?_ (fin_eq hK ?_)
    · simp (disch := first | omega | (simp only [go_sem, true_and, and_true, List.length_append, List.length_take, List.length_set, List.length_drop, List.length_replicate, List.length_cons, List.length_nil, List.length_replicate] <;> omega)) only [go_sem, true_and, Nat.reduceAdd, Nat.reduceSub, Nat.reduceMul, Nat.reduceEqDiff, Nat.reduceLeDiff, Nat.reduceLT, Nat.reduceBEq, Int.reduceAdd, Int.reduceSub, Int.reduceMul, Int.reduceNeg, Int.reduceLT, Int.reduceLE, Int.reduceEq, Int.reduceToNat]
    · simp [oneV, evV, z0]
end Go.Av
