/- Layer 11: the contracts of the document's At and Set. -/
import Derived.Test.YtgipohicgbppaaaWhU
import Derived.Test.YtgipohicgbppaaaWhV
namespace Go.Proofs.Ytgipohicgbppaaa
open Go.RowKit Go.Shelf
theorem plL_at (p : Tm → Bool) : ∀ (X : List Tm) (k : Nat) (hk : k < X.length), k ≤ plL p X → (p X[k] = true → plL p X = k) ∧ (p X[k] = false → k + 1 ≤ plL p X)
  | x :: r, 0, _, _ => by
    unfold plL
    simp only [List.getElem_cons_zero]
    cases p x <;> simp
  | x :: r, k + 1, hk, h => by
    unfold plL at h ⊢
    simp only [List.getElem_cons_succ]
    cases hx : p x
    · rw [hx] at h
      simp only [Bool.false_eq_true, if_false] at h ⊢
      have ih := plL_at p r k (by simpa using hk) (by omega)
      constructor
      · intro e; have := ih.1 e; omega
      · intro e; have := ih.2 e; omega
    · rw [hx] at h
      simp at h
theorem ahead_take (t : Tm) : ∀ R : List Tm, Ups R → (∀ x ∈ R, x.2 ≠ t.2) → R.filter (fun x => aheadB x t) = R.take (goesL R t)
  | [], _, _ => by simp
  | x :: r, h, hn => by
    have h' := List.pairwise_cons.1 h
    by_cases hx : ltT t x
    · have e : goesL (x :: r) t = 0 := by unfold goesL plL; rw [if_pos (by rw [decide_eq_true_eq, ordT_gt]; exact hx)]
      rw [e, List.take_zero, List.filter_eq_nil_iff]
      intro y hy hy2
      rw [aheadB_iff] at hy2
      rcases List.mem_cons.1 hy with rfl | hy
      · exact ltT_irrefl _ (ltT_trans hx hy2)
      · exact ltT_irrefl _ (ltT_trans hx (ltT_trans (h'.1 y hy) hy2))
    · have e : goesL (x :: r) t = goesL r t + 1 := by unfold goesL; conv => lhs; unfold plL; rw [if_neg (by rw [decide_eq_true_eq, ordT_gt]; exact hx)]
      have hl : ltT x t := by
        rcases ltT_total (hn x (by simp)) with h1 | h1
        · exact h1
        · exact absurd h1 hx
      rw [e, List.take_succ_cons, List.filter_cons_of_pos (p := fun x => aheadB x t) ((aheadB_iff _ _).2 hl), ahead_take t r h'.2 (fun y hy => hn y (by simp [hy]))]
set_option maxHeartbeats 4000000 in
set_option maxRecDepth 100000 in
theorem rat_any (X : List Tm) (pa : Option Addr) (cap : Nat) (id : Int) (w : World) (hX : X.length ≤ 130) (hR : Rd w pa X) :
    Calls Try.prog 13 #[.slice pa X.length cap, .int .u64 id] w fun e w' => e = .returned (.tuple #[.int .i64 (atP X id).1, .bool (atP X id).2]) ∧ Below w.heap.size w w' := by
  have M := Lib.hid (fun w hR => may_any X pa cap w hX hR)
  have HR := Lib.hid hR
  have hV : ∀ r, atP X id = r → r = if mayT X then atR X id else (0, false) := fun r hr => by rw [← hr]; rfl
  generalize atP X id = r at *
  have HV := Lib.hid (hV r rfl)
  have hXi : (X.length : Int) ≤ 130 := by omega
  clear hR hV
  cases hm : mayT X
  · have hr : r = (0, false) := by rw [HV.out, hm]; rfl
    subst hr
    rw [hm] at M
    clear HV hm
    go_enter Try.func13, Try.ntmps13
    go_wp2_with fail
    go_loopw [6] (fun i wx => i = .int .i64 0 ∧ Below w.heap.size w wx) (fun _ _ => 0)
    case atStart => exact ⟨rfl, Below.refl _ _⟩
    case round =>
      obtain ⟨rfl, kk⟩ := hrel
      by_cases h0 : X.length = 0
      · have h0i : (X.length : Int) = 0 := by omega
        clear M
        go_wp2
        refine bodyPost_ret (v := .tuple #[_, _]) (by simp [results, Try.results13, go_sem]; exact ⟨rfl, rfl⟩) rfl ?_
        exact ⟨rfl, kk⟩
      · have h0i : (0 : Int) < X.length := by omega
        have M1 := Lib.hid (M.out wr (HR.out.lift kk))
        clear M
        go_wp2_with fail
        refine M1.out.mono ?_
        rintro e w1 ⟨rfl, hb1⟩
        have K1 := Lib.hid (kk.trans (hb1.mono kk.size))
        clear hb1 M1
        go_wp2
        refine bodyPost_ret (v := .tuple #[_, _]) (by simp [results, Try.results13, go_sem]; exact ⟨rfl, rfl⟩) rfl ?_
        exact ⟨rfl, K1.out⟩
  · rw [hm] at M
    have HV2 := Lib.hid (show r = atR X id by rw [HV.out, hm]; rfl)
    clear HV hm
    go_enter Try.func13, Try.ntmps13
    go_wp2_with fail
    go_loopw [6] (fun i wx => ∃ k : Nat, i = .int .i64 k ∧ k ≤ X.length ∧ k ≤ posL X id ∧ Below w.heap.size w wx) (fun i _ => X.length - (intOf i).toNat)
    case atStart => exact ⟨0, rfl, Nat.zero_le _, Nat.zero_le _, Below.refl _ _⟩
    case round =>
      obtain ⟨k, rfl, hk, hp, kk⟩ := hrel
      by_cases hlt : k < X.length
      · have hlt' : (k : Int) < X.length := by omega
        have M1 := Lib.hid (M.out wr (HR.out.lift kk))
        have hat := plL_at (fun x => x.2 == id) X k hlt hp
        have hr2 : posL X id = k → r = (X[k].1, true) := fun e => by rw [HV2.out]; unfold atR; rw [e, List.getElem?_eq_getElem hlt]
        have Hat := Lib.hid hat
        have Hr2 := Lib.hid hr2
        have Hp := Lib.hid hp
        clear M hat hr2 hp
        go_wp2_with fail
        refine M1.out.mono ?_
        rintro e w1 ⟨rfl, hb1⟩
        have K1 := Lib.hid (kk.trans (hb1.mono kk.size))
        obtain ⟨b, o, rfl, hbz, c0, c1⟩ := (HR.out.lift K1.out).at k hlt
        clear hb1 M1
        generalize X[k] = x at *
        obtain ⟨x1, x2⟩ := x
        simp only at c0 c1
        by_cases he : x2 = id
        · have hr : r = (x1, true) := Hr2.out (Hat.out.1 (by simpa using he))
          subst hr
          clear Hat Hr2
          go_wp2
          refine bodyPost_ret (v := .tuple #[_, _]) (by simp [results, Try.results13, go_sem]; exact ⟨rfl, rfl⟩) rfl ?_
          exact ⟨rfl, K1.out⟩
        · have hp2 := Lib.hid (Hat.out.2 (by simpa using he))
          clear Hat Hr2
          go_wp2
          go_roundw
          case rel => exact ⟨k + 1, by go_num, by omega, hp2.out, K1.out⟩
          case measure => simp [intOf]; omega
      · have hge : (X.length : Int) ≤ k := by omega
        have hr : r = (0, false) := by
          rw [HV2.out]; unfold atR
          rw [List.getElem?_eq_none (by omega)]
        subst hr
        clear M hp
        go_wp2
        refine bodyPost_ret (v := .tuple #[_, _]) (by simp [results, Try.results13, go_sem]; exact ⟨rfl, rfl⟩) rfl ?_
        exact ⟨rfl, kk⟩
end Go.Proofs.Ytgipohicgbppaaa
