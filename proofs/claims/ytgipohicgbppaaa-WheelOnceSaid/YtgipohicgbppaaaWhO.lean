/- Layer 11: the contract of Set. -/
import Derived.Test.YtgipohicgbppaaaWhN
namespace Go.Proofs.Ytgipohicgbppaaa
open Go.RowKit Go.Shelf
/-- The box of a timer, the last block ahead of whatever follows. -/
structure BoxT (B : Nat) (w0 w : World) (x : Tm) : Prop where
  c0 : w.cell? ⟨B, 0, none⟩ = some (.int .i64 x.1)
  c1 : w.cell? ⟨B, 1, none⟩ = some (.int .u64 x.2)
  size : B < w.heap.size
  below : Below B w0 w
theorem BoxT.step {B : Nat} {w0 w w' : World} {x : Tm} (h : BoxT B w0 w x) (hb : Below w.heap.size w w') : BoxT B w0 w' x := by
  have hz := h.size
  exact ⟨(hb.cell (p := ⟨B, 0, none⟩) hz).trans h.c0, (hb.cell (p := ⟨B, 1, none⟩) hz).trans h.c1, Nat.lt_of_lt_of_le hz hb.size, h.below.trans (hb.mono (by omega))⟩
theorem BoxT.drew {B : Nat} {w0 w : World} {x : Tm} (h : BoxT B w0 w x) : BoxT B w0 w.drew x := h.step ((Below.refl _ _).drew)
theorem keepB {B : Nat} {w0 w w' : World} {x : Tm} (h : BoxT B w0 w x) (hb : Below w.heap.size w w') : w'.cell? ⟨B, 0, none⟩ = some (.int .i64 x.1) ∧ w'.cell? ⟨B, 1, none⟩ = some (.int .u64 x.2) ∧ BoxT B w0 w' x :=
  ⟨(h.step hb).c0, (h.step hb).c1, h.step hb⟩
theorem heldB {B : Nat} {w0 w : World} {x : Tm} {v0 v1 : Value} (h : w.cell? ⟨B, 0, none⟩ = some v0 ∧ w.cell? ⟨B, 1, none⟩ = some v1 ∧ BoxT B w0 w x) : BoxT B w0 w x := h.2.2
/-- Timers with one, put where it goes. -/
def putL (R : List Tm) (t : Tm) : List Tm := R.take (goesL R t) ++ t :: R.drop (goesL R t)
theorem goesL_le (R : List Tm) (t : Tm) : goesL R t ≤ R.length := plL_le _ _
theorem putL_len (R : List Tm) (t : Tm) : (putL R t).length = R.length + 1 := by
  have := goesL_le R t
  unfold putL
  simp
  omega
def setP (X : List Tm) (id a : Int) : List Tm × Int :=
  if mayT X && timeB a then (if (stopL X id).length = 120 then ([], 6) else (putL (stopL X id) (a, id), 0)) else ([], 1)
theorem stopL_len (X : List Tm) (id : Int) : (stopL X id).length ≤ X.length := by
  unfold stopL
  split
  · rename_i h
    rw [hasB_iff] at h
    simp
    omega
  · omega
theorem mayT_len {X : List Tm} (h : mayT X = true) : X.length ≤ 120 := by
  unfold mayT at h
  simp at h
  exact h.1.1.1
theorem Own.nil_cap {w : World} {b : Nat} {X : List Tm} {pa : Option Addr} {n cap : Nat} (h : Own w b (.slice pa n cap) X) : pa = none → cap = 0 := by
  rintro rfl
  rcases h.own.2 with ⟨e, _⟩ | ⟨g, c, cur, e, _⟩
  · simp at e; exact e.2
  · simp at e
set_option maxHeartbeats 2000000 in
set_option maxRecDepth 100000 in
theorem set_any (X : List Tm) (pa : Option Addr) (cap : Nat) (id a : Int) (w : World) (hX : X.length ≤ 130) (hcap : X.length ≤ cap) (hR : Rd w pa X) (hnil : pa = none → cap = 0) :
    Calls Try.prog 10 #[.slice pa X.length cap, .int .u64 id, .int .i64 a] w (PairPost (setP X id a).1 (.int .i64 (setP X id a).2) w) := by
  have C := Lib.hid (check_any X pa cap w hX hR)
  have T := Lib.hid (fun w => isTime_any a w)
  have hT : (decide (0 ≤ a) && decide (a ≤ 1099511627775)) = timeB a := rfl
  rw [hT] at T
  have S := Lib.hid (fun w hR => stop_any X pa cap id w hX hcap hR hnil)
  have HR := Lib.hid hR
  have hP : ∀ p, setP X id a = p → p = if mayT X && timeB a then (if (stopL X id).length = 120 then ([], 6) else (putL (stopL X id) (a, id), 0)) else ([], 1) := fun p hp => by rw [← hp]; rfl
  have hlen : mayT X = true → (stopL X id).length ≤ 120 := fun h => Nat.le_trans (stopL_len X id) (mayT_len h)
  clear hR hT
  generalize setP X id a = p at *
  cases hm : mayT X
  · have hp := hP p rfl
    rw [hm] at C hp
    obtain rfl : p = ([], 1) := hp
    clear hm hlen hP
    go_enter Try.func10, Try.ntmps10
    go_wp2_with fail
    refine C.out.mono ?_
    rintro e w1 ⟨rfl, hb1⟩
    go_wp2
    refine bodyPost_ret (v := .tuple #[_, _]) (by simp [results, Try.results10, go_sem]; exact ⟨rfl, rfl⟩) rfl ?_
    exact ⟨_, rfl, Own.nil _ _, hb1⟩
  · cases ht : timeB a
    · have hp := hP p rfl
      rw [hm, ht] at hp
      rw [hm] at C
      rw [ht] at T
      obtain rfl : p = ([], 1) := hp
      clear hm ht hlen hP
      go_enter Try.func10, Try.ntmps10
      go_wp2_with fail
      refine C.out.mono ?_
      rintro e w1 ⟨rfl, hb1⟩
      go_wp2_with fail
      refine (T.out w1).mono ?_
      rintro e w2 ⟨rfl, rfl⟩
      go_wp2
      refine bodyPost_ret (v := .tuple #[_, _]) (by simp [results, Try.results10, go_sem]; exact ⟨rfl, rfl⟩) rfl ?_
      exact ⟨_, rfl, Own.nil _ _, hb1⟩
    · have hp := hP p rfl
      rw [hm, ht] at hp
      have hl := hlen hm
      rw [hm] at C S
      rw [ht] at T
      simp only [if_true] at S
      have hp2 : p = if (stopL X id).length = 120 then ([], 6) else (putL (stopL X id) (a, id), 0) := hp
      have HP := Lib.hid hp2
      clear hm ht hlen hP hp hp2
      generalize stopL X id = R at *
      go_enter Try.func10, Try.ntmps10
      go_wp2_with fail
      refine C.out.mono ?_
      rintro e w1 ⟨rfl, hb1⟩
      have B1 := Lib.hid hb1
      clear hb1
      go_wp2_with fail
      refine (T.out w1).mono ?_
      rintro e w1' ⟨rfl, rfl⟩
      have S1 := Lib.hid (S.out w1 (HR.out.lift B1.out))
      go_wp2_with fail
      refine S1.out.mono ?_
      rintro e w2 ⟨v, rfl, hown, hb2⟩
      have B2 := Lib.hid (B1.out.trans (hb2.mono B1.out.size))
      obtain ⟨pb, cb, rfl, hcb, hRb, _⟩ := hown.rd
      have hnb := Lib.hid hown.nil_cap
      have HRb := Lib.hid hRb
      clear hb2 hRb
      by_cases h120 : R.length = 120
      · have hp2 := HP.out
        rw [if_pos h120] at hp2
        subst hp2
        have h120i : (R.length : Int) = 120 := by omega
        go_wp2
        refine bodyPost_ret (v := .tuple #[_, _]) (by simp [results, Try.results10, go_sem]; exact ⟨rfl, rfl⟩) rfl ?_
        exact ⟨_, rfl, Own.nil _ _, B2.out⟩
      · have hp2 := HP.out
        rw [if_neg h120] at hp2
        subst hp2
        have h120i : ¬ (R.length : Int) = 120 := by omega
        have h120d : decide ((R.length : Int) = 120) = false := by simpa using h120i
        have hk := goesL_le R (a, id)
        have hR130 : R.length ≤ 130 := by omega
        have P := Lib.hid (fun w' (Tb : BoxT w2.heap.size w2 w' (a, id)) => place_any R pb cb (a, id) w' hR130 (HRb.out.lift Tb.below))
        have Wt := Lib.hid (fun w' (Tb : BoxT w2.heap.size w2 w' (a, id)) => with_any R pb cb (goesL R (a, id)) (a, id) w' hR130 hcb hk (HRb.out.lift Tb.below) hnb.out)
        have hfin : ∀ w3 w4 v, BoxT w2.heap.size w2 w3 (a, id) → Own w4 w3.heap.size v (putL R (a, id)) → Below w3.heap.size w3 w4 → Own w4 w.heap.size v (putL R (a, id)) ∧ Below w.heap.size w w4 := fun w3 w4 v Tb ho hb => by
          have h1 := B2.out.size
          have h2 := Tb.below.size
          exact ⟨ho.mono (by omega), B2.out.trans ((Tb.below.trans (hb.mono h2)).mono h1)⟩
        have Fin := Lib.hid hfin
        have hput : R.take (goesL R (a, id)) ++ (a, id) :: R.drop (goesL R (a, id)) = putL R (a, id) := rfl
        rw [hput] at Wt
        have T0 : BoxT w2.heap.size w2 (w2.alloc (.cells #[.int .i64 a, .int .u64 id] 38)) (a, id) := by
          refine ⟨by simp [go_sem], by simp [go_sem], by simp, (Below.refl _ _).alloc (Nat.le_refl _) _⟩
        clear hput hfin hk hown
        generalize putL R (a, id) = L at *
        generalize goesL R (a, id) = q at *
        go_wp2_with fail
        generalize w2.alloc (.cells #[.int .i64 a, .int .u64 id] 38) = W at *
        generalize hB : w2.heap.size = B at *
        have c0 := T0.c0
        have c1 := T0.c1
        simp only at c0 c1
        have Td := T0.drew
        go_region_held3 (fun w' => w'.cell? ⟨B, 0, none⟩ = some (.int .i64 a) ∧ w'.cell? ⟨B, 1, none⟩ = some (.int .u64 id) ∧ BoxT B w2 w' (a, id)) (first | (exact ⟨c0, c1, Td⟩) | (go_split_ands; first | (exact ⟨by assumption, by assumption, by assumption⟩) | (exact keepB (by first | assumption | (refine heldB (v0 := .int .i64 a) (v1 := .int .u64 id) ?_; assumption)) (by assumption)))) (first | (go_at_call 26; refine (P.out _ (by first | assumption | (refine heldB (v0 := .int .i64 a) (v1 := .int .u64 id) ?_; assumption))).mono ?_; rintro e w3 ⟨rfl, hb3⟩) | (go_at_call 25; refine (Wt.out _ (by first | assumption | (refine heldB (v0 := .int .i64 a) (v1 := .int .u64 id) ?_; assumption))).mono ?_; rintro e w4 ⟨v, rfl, hown, hb4⟩; have fz := Lib.hid (Fin.out _ _ _ (by first | assumption | (refine heldB (v0 := .int .i64 a) (v1 := .int .u64 id) ?_; assumption)) hown hb4)))
        all_goals go_wp2
        all_goals refine bodyPost_ret (v := .tuple #[_, _]) (by simp [results, Try.results10, go_sem]; exact ⟨rfl, rfl⟩) rfl ?_
        all_goals exact ⟨_, rfl, fz.out.1, fz.out.2⟩
end Go.Proofs.Ytgipohicgbppaaa
