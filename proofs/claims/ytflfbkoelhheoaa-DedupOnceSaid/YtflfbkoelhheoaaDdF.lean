/- Layer 13: the document's May. -/
import Derived.Test.YtflfbkoelhheoaaDdD
import Derived.Test.YtflfbkoelhheoaaLsReg
namespace Go.Proofs.Ytflfbkoelhheoaa.Dd
open Go.RowKit Go.Shelf Go.Proofs.Ytflfbkoelhheoaa Go.Proofs.Ytflfbkoelhheoaa.La
set_option linter.unusedVariables false
set_option linter.unusedSimpArgs false
def sufD (X : List El) (k : Nat) : Bool := (X.drop k).all okB && lsRises ordE (X.drop (k - 1))
theorem sufD_zero (X : List El) : sufD X 0 = (X.all okB && lsRises ordE X) := by unfold sufD; simp
theorem sufD_one (X : List El) (h : 0 < X.length) : sufD X 0 = (okB X[0] && sufD X 1) := by
  unfold sufD
  rw [List.drop_eq_getElem_cons h, List.all_cons, Bool.and_assoc]
theorem sufD_succ (X : List El) (m : Nat) (h : m + 1 < X.length) : sufD X (m + 1) = (okB X[m + 1] && (decide (ordE X[m] X[m + 1] < 0) && sufD X (m + 1 + 1))) := by
  unfold sufD
  have e1 : X.drop m = X[m] :: X[m + 1] :: X.drop (m + 1 + 1) := by rw [List.drop_eq_getElem_cons (by omega : m < X.length), List.drop_eq_getElem_cons h]
  have e2 : X.drop (m + 1) = X[m + 1] :: X.drop (m + 1 + 1) := List.drop_eq_getElem_cons h
  rw [show m + 1 - 1 = m by omega, show m + 1 + 1 - 1 = m + 1 by omega, e1, e2, List.all_cons, lsRises]
  cases okB X[m + 1] <;> cases decide (ordE X[m] X[m + 1] < 0) <;> cases (X.drop (m + 1 + 1)).all okB <;> rfl
theorem sufD_end (X : List El) : sufD X X.length = true := by
  unfold sufD
  rw [List.drop_length]
  cases e : X.drop (X.length - 1) with
  | nil => rfl
  | cons x r =>
    have := congrArg List.length e
    rw [List.length_drop] at this
    have h2 : r = [] := List.eq_nil_of_length_eq_zero (by simp at this; omega)
    rw [h2]; rfl
set_option maxRecDepth 100000 in
set_option maxHeartbeats 40000000 in
theorem rmay_any (X : List El) (pa : Option Addr) (cap : Nat) (w : World) (hX : X.length ≤ 100) (hR : Rd w pa X) (hO : Oks X) :
    Calls Try.prog 18 #[.slice pa X.length cap] w fun e w' => e = .returned (.bool (mayD X)) ∧ Below w.heap.size w w' := by
  obtain ⟨V, hV⟩ : ∃ V, V = mayD X := ⟨_, rfl⟩
  rw [← hV]
  have hv : V = (decide (X.length ≤ 50) && sufD X 0) := by rw [hV, sufD_zero]; rfl
  have HV := Lib.hid hv
  have HR := Lib.hid hR
  have HO := Lib.hid hO
  have hXi : (X.length : Int) ≤ 100 := by omega
  clear hV hR hv hO
  go_enter Try.func18, Try.ntmps18
  go_wp2_with fail
  go_loopw [3] (fun i wx => ∃ k : Nat, i = .int .i64 k ∧ k ≤ X.length ∧ Hid (sufD X 0 = sufD X k) ∧ Below w.heap.size w wx) (fun i _ => X.length - (intOf i).toNat)
  case atStart => exact ⟨0, rfl, Nat.zero_le _, Lib.hid rfl, Below.refl _ _⟩
  case round =>
    obtain ⟨k, rfl, hk, hp, kk⟩ := hrel
    by_cases hlt : k < X.length
    · have hlt' : (k : Int) < X.length := by omega
      obtain ⟨b, o, rfl, hbz, c0, c1, c2⟩ := (HR.out.lift kk).at k hlt
      have kd := kk.drew
      have hbz' : b < wr.drew.heap.size := hbz
      have hok := HO.out _ (List.getElem_mem hlt)
      have F := Lib.hid (fun w => rfield_any X[k].1 w hok.sz)
      have hbad : okB X[k] = false → V = false := fun h => by
        rw [HV.out, hp.out]
        cases k with
        | zero => rw [sufD_one X hlt, h]; simp
        | succ m => rw [sufD_succ X m hlt, h]; simp
      unfold okB at hbad
      have k0 : (0 : Int) ≤ k := by omega
      have k1 : (k : Int) < X.length := by omega
      generalize hx : X[k] = x at *
      obtain ⟨x1, x2, x3⟩ := x
      simp only at c0 c1 c2 hbad
      have hs0 := hok.s0
      simp only at hs0
      cases hf : fieldB x1
      · obtain rfl : V = false := hbad (by rw [hf]; rfl)
        rw [hf] at F
        clear hbad hx hf HV hp HR HO hok
        go_wp2_with fail
        refine wp_region_held_drew (S := fun w' => w'.cell? ⟨b, o + k * 3, none⟩ = some (.string x1)) (by kernel_rfl) (c0) (fun hHeld => ?_)
        refine rgTake (i := 0) (v := ?_) rfl rfl (by kernel_rfl) (by kernel_rfl) (by kernel_rfl) (fun _ _ _ h => h) (Or.inl ⟨by kernel_rfl, ?_⟩) hHeld ?_
        rotate_left
        · intro w hSw
          try dsimp only at hSw
          go_simp
          try with_reducible rfl
        simp only [List.set_cons_zero, List.set_cons_succ]
        refine rgTake (i := 1) (v := ?_) rfl rfl (by kernel_rfl) (by kernel_rfl) (by kernel_rfl) (fun _ _ _ h => h) (Or.inl ⟨by kernel_rfl, ?_⟩) hHeld ?_
        rotate_left
        · intro w hSw
          try dsimp only at hSw
          go_simp
          try with_reducible rfl
        simp only [List.set_cons_zero, List.set_cons_succ]
        refine rgTake (i := 2) (v := ?_) rfl rfl (by kernel_rfl) (by kernel_rfl) (by kernel_rfl) (fun _ _ _ h => h) (Or.inl ⟨by kernel_rfl, ?_⟩) hHeld ?_
        rotate_left
        · intro w hSw
          try dsimp only at hSw
          go_simp
          try with_reducible rfl
        simp only [List.set_cons_zero, List.set_cons_succ]
        refine rgTake (i := 3) (v := ?_) rfl rfl (by kernel_rfl) (by kernel_rfl) (by kernel_rfl) (fun _ _ _ h => h) (Or.inl ⟨by kernel_rfl, ?_⟩) hHeld ?_
        rotate_left
        · intro w hSw
          try dsimp only at hSw
          go_simp
          try with_reducible rfl
        simp only [List.set_cons_zero, List.set_cons_succ]
        refine rgTake (i := 4) (v := ?_) rfl rfl (by kernel_rfl) (by kernel_rfl) (by kernel_rfl) (fun _ _ _ h => h) (Or.inl ⟨by kernel_rfl, ?_⟩) hHeld ?_
        rotate_left
        · intro w hSw
          try dsimp only at hSw
          go_simp
          try with_reducible rfl
        simp only [List.set_cons_zero, List.set_cons_succ]
        refine wpAnyH_ready (rs := [5]) (by kernel_rfl) (by simp) ?_
        refine AllReadyH.cons rfl (fun KK hK => ?_) AllReadyH.nil
        go_simp
        refine (F.out _).mono ?_
        rintro e w1 ⟨rfl, hb1⟩
        show KK _ w1
        refine hK.out _ _ ((hb1.cell (p := ⟨b, o + k * 3, none⟩) hbz').trans c0) (fun hHeld => ?_)
        clear hK KK
        try simp only [Act.put, List.setIfInBounds_toArray, List.set_cons_zero, List.set_cons_succ]
        refine rgTake (i := 6) (v := ?_) rfl rfl (by kernel_rfl) (by kernel_rfl) (by kernel_rfl) (fun _ _ _ h => h) (Or.inl ⟨by kernel_rfl, ?_⟩) hHeld ?_
        rotate_left
        · intro w hSw
          try dsimp only at hSw
          go_simp
          try with_reducible rfl
        simp only [List.set_cons_zero, List.set_cons_succ]
        refine rgTake (i := 7) (v := ?_) rfl rfl (by kernel_rfl) (by kernel_rfl) (by kernel_rfl) (fun _ _ _ h => h) (Or.inl ⟨by kernel_rfl, ?_⟩) hHeld ?_
        rotate_left
        · intro w hSw
          try dsimp only at hSw
          go_simp
          try with_reducible rfl
        simp only [List.set_cons_zero, List.set_cons_succ]
        refine rgTake (i := 8) (v := undef) rfl rfl (by kernel_rfl) (by kernel_rfl) (by kernel_rfl) (fun _ _ _ h => h) (Or.inr ⟨by kernel_rfl, rfl⟩) hHeld ?_
        simp only [List.set_cons_zero, List.set_cons_succ]
        refine rgTake (i := 9) (v := undef) rfl rfl (by kernel_rfl) (by kernel_rfl) (by kernel_rfl) (fun _ _ _ h => h) (Or.inr ⟨by kernel_rfl, rfl⟩) hHeld ?_
        simp only [List.set_cons_zero, List.set_cons_succ]
        refine rgTake (i := 10) (v := undef) rfl rfl (by kernel_rfl) (by kernel_rfl) (by kernel_rfl) (fun _ _ _ h => h) (Or.inr ⟨by kernel_rfl, rfl⟩) hHeld ?_
        simp only [List.set_cons_zero, List.set_cons_succ]
        refine rgTake (i := 11) (v := undef) rfl rfl (by kernel_rfl) (by kernel_rfl) (by kernel_rfl) (fun _ _ _ h => h) (Or.inr ⟨by kernel_rfl, rfl⟩) hHeld ?_
        simp only [List.set_cons_zero, List.set_cons_succ]
        refine rgTake (i := 12) (v := undef) rfl rfl (by kernel_rfl) (by kernel_rfl) (by kernel_rfl) (fun _ _ _ h => h) (Or.inr ⟨by kernel_rfl, rfl⟩) hHeld ?_
        simp only [List.set_cons_zero, List.set_cons_succ]
        refine rgTake (i := 13) (v := undef) rfl rfl (by kernel_rfl) (by kernel_rfl) (by kernel_rfl) (fun _ _ _ h => h) (Or.inr ⟨by kernel_rfl, rfl⟩) hHeld ?_
        simp only [List.set_cons_zero, List.set_cons_succ]
        refine rgTake (i := 14) (v := ?_) rfl rfl (by kernel_rfl) (by kernel_rfl) (by kernel_rfl) (fun _ _ _ h => h) (Or.inl ⟨by kernel_rfl, ?_⟩) hHeld ?_
        rotate_left
        · intro w hSw
          try dsimp only at hSw
          go_simp
          try with_reducible rfl
        simp only [List.set_cons_zero, List.set_cons_succ]
        refine rgTake (i := 15) (v := ?_) rfl rfl (by kernel_rfl) (by kernel_rfl) (by kernel_rfl) (fun _ _ _ h => h) (Or.inl ⟨by kernel_rfl, ?_⟩) hHeld ?_
        rotate_left
        · intro w hSw
          try dsimp only at hSw
          go_simp
          try with_reducible rfl
        simp only [List.set_cons_zero, List.set_cons_succ]
        refine rgTake (i := 16) (v := undef) rfl rfl (by kernel_rfl) (by kernel_rfl) (by kernel_rfl) (fun _ _ _ h => h) (Or.inr ⟨by kernel_rfl, rfl⟩) hHeld ?_
        simp only [List.set_cons_zero, List.set_cons_succ]
        refine rgTake (i := 17) (v := undef) rfl rfl (by kernel_rfl) (by kernel_rfl) (by kernel_rfl) (fun _ _ _ h => h) (Or.inr ⟨by kernel_rfl, rfl⟩) hHeld ?_
        simp only [List.set_cons_zero, List.set_cons_succ]
        refine rgTake (i := 18) (v := undef) rfl rfl (by kernel_rfl) (by kernel_rfl) (by kernel_rfl) (fun _ _ _ h => h) (Or.inr ⟨by kernel_rfl, rfl⟩) hHeld ?_
        simp only [List.set_cons_zero, List.set_cons_succ]
        refine rgTake (i := 19) (v := undef) rfl rfl (by kernel_rfl) (by kernel_rfl) (by kernel_rfl) (fun _ _ _ h => h) (Or.inr ⟨by kernel_rfl, rfl⟩) hHeld ?_
        simp only [List.set_cons_zero, List.set_cons_succ]
        refine rgTake (i := 20) (v := undef) rfl rfl (by kernel_rfl) (by kernel_rfl) (by kernel_rfl) (fun _ _ _ h => h) (Or.inr ⟨by kernel_rfl, rfl⟩) hHeld ?_
        simp only [List.set_cons_zero, List.set_cons_succ]
        refine rgTake (i := 21) (v := undef) rfl rfl (by kernel_rfl) (by kernel_rfl) (by kernel_rfl) (fun _ _ _ h => h) (Or.inr ⟨by kernel_rfl, rfl⟩) hHeld ?_
        simp only [List.set_cons_zero, List.set_cons_succ]
        refine rgTake (i := 22) (v := ?_) rfl rfl (by kernel_rfl) (by kernel_rfl) (by kernel_rfl) (fun _ _ _ h => h) (Or.inl ⟨by kernel_rfl, ?_⟩) hHeld ?_
        rotate_left
        · intro w hSw
          try dsimp only at hSw
          go_simp
          try with_reducible rfl
        simp only [List.set_cons_zero, List.set_cons_succ]
        refine rgTake (i := 23) (v := ?_) rfl rfl (by kernel_rfl) (by kernel_rfl) (by kernel_rfl) (fun _ _ _ h => h) (Or.inl ⟨by kernel_rfl, ?_⟩) hHeld ?_
        rotate_left
        · intro w hSw
          try dsimp only at hSw
          go_simp
          try with_reducible rfl
        simp only [List.set_cons_zero, List.set_cons_succ]
        refine rgTake (i := 24) (v := undef) rfl rfl (by kernel_rfl) (by kernel_rfl) (by kernel_rfl) (fun _ _ _ h => h) (Or.inr ⟨by kernel_rfl, rfl⟩) hHeld ?_
        simp only [List.set_cons_zero, List.set_cons_succ]
        refine rgTake (i := 25) (v := undef) rfl rfl (by kernel_rfl) (by kernel_rfl) (by kernel_rfl) (fun _ _ _ h => h) (Or.inr ⟨by kernel_rfl, rfl⟩) hHeld ?_
        simp only [List.set_cons_zero, List.set_cons_succ]
        refine rgTake (i := 26) (v := undef) rfl rfl (by kernel_rfl) (by kernel_rfl) (by kernel_rfl) (fun _ _ _ h => h) (Or.inr ⟨by kernel_rfl, rfl⟩) hHeld ?_
        simp only [List.set_cons_zero, List.set_cons_succ]
        refine rgTake (i := 27) (v := undef) rfl rfl (by kernel_rfl) (by kernel_rfl) (by kernel_rfl) (fun _ _ _ h => h) (Or.inr ⟨by kernel_rfl, rfl⟩) hHeld ?_
        simp only [List.set_cons_zero, List.set_cons_succ]
        refine rgTake (i := 28) (v := undef) rfl rfl (by kernel_rfl) (by kernel_rfl) (by kernel_rfl) (fun _ _ _ h => h) (Or.inr ⟨by kernel_rfl, rfl⟩) hHeld ?_
        simp only [List.set_cons_zero, List.set_cons_succ]
        refine rgTake (i := 29) (v := undef) rfl rfl (by kernel_rfl) (by kernel_rfl) (by kernel_rfl) (fun _ _ _ h => h) (Or.inr ⟨by kernel_rfl, rfl⟩) hHeld ?_
        simp only [List.set_cons_zero, List.set_cons_succ]
        refine rgTake (i := 30) (v := undef) rfl rfl (by kernel_rfl) (by kernel_rfl) (by kernel_rfl) (fun _ _ _ h => h) (Or.inr ⟨by kernel_rfl, rfl⟩) hHeld ?_
        simp only [List.set_cons_zero, List.set_cons_succ]
        refine rgTake (i := 31) (v := undef) rfl rfl (by kernel_rfl) (by kernel_rfl) (by kernel_rfl) (fun _ _ _ h => h) (Or.inr ⟨by kernel_rfl, rfl⟩) hHeld ?_
        simp only [List.set_cons_zero, List.set_cons_succ]
        refine rgTake (i := 32) (v := undef) rfl rfl (by kernel_rfl) (by kernel_rfl) (by kernel_rfl) (fun _ _ _ h => h) (Or.inr ⟨by kernel_rfl, rfl⟩) hHeld ?_
        simp only [List.set_cons_zero, List.set_cons_succ]
        refine rgTake (i := 33) (v := undef) rfl rfl (by kernel_rfl) (by kernel_rfl) (by kernel_rfl) (fun _ _ _ h => h) (Or.inr ⟨by kernel_rfl, rfl⟩) hHeld ?_
        simp only [List.set_cons_zero, List.set_cons_succ]
        refine rgTake (i := 34) (v := undef) rfl rfl (by kernel_rfl) (by kernel_rfl) (by kernel_rfl) (fun _ _ _ h => h) (Or.inr ⟨by kernel_rfl, rfl⟩) hHeld ?_
        simp only [List.set_cons_zero, List.set_cons_succ]
        refine rgTake (i := 35) (v := undef) rfl rfl (by kernel_rfl) (by kernel_rfl) (by kernel_rfl) (fun _ _ _ h => h) (Or.inr ⟨by kernel_rfl, rfl⟩) hHeld ?_
        simp only [List.set_cons_zero, List.set_cons_succ]
        refine rgTake (i := 36) (v := undef) rfl rfl (by kernel_rfl) (by kernel_rfl) (by kernel_rfl) (fun _ _ _ h => h) (Or.inr ⟨by kernel_rfl, rfl⟩) hHeld ?_
        simp only [List.set_cons_zero, List.set_cons_succ]
        refine rgTake (i := 37) (v := undef) rfl rfl (by kernel_rfl) (by kernel_rfl) (by kernel_rfl) (fun _ _ _ h => h) (Or.inr ⟨by kernel_rfl, rfl⟩) hHeld ?_
        simp only [List.set_cons_zero, List.set_cons_succ]
        refine rgTake (i := 38) (v := undef) rfl rfl (by kernel_rfl) (by kernel_rfl) (by kernel_rfl) (fun _ _ _ h => h) (Or.inr ⟨by kernel_rfl, rfl⟩) hHeld ?_
        simp only [List.set_cons_zero, List.set_cons_succ]
        refine rgTake (i := 39) (v := undef) rfl rfl (by kernel_rfl) (by kernel_rfl) (by kernel_rfl) (fun _ _ _ h => h) (Or.inr ⟨by kernel_rfl, rfl⟩) hHeld ?_
        simp only [List.set_cons_zero, List.set_cons_succ]
        refine rgTake (i := 40) (v := ?_) rfl rfl (by kernel_rfl) (by kernel_rfl) (by kernel_rfl) (fun _ _ _ h => h) (Or.inl ⟨by kernel_rfl, ?_⟩) hHeld ?_
        rotate_left
        · intro w hSw
          try dsimp only at hSw
          go_simp
          try with_reducible rfl
        simp only [List.set_cons_zero, List.set_cons_succ]
        refine wpAnyH_done (by kernel_rfl) ?_ _
        have kw := kd.trans (hb1.mono kd.size)
        clear hb1
        go_wp2
        go_ret
        exact ⟨rfl, kw⟩
      · rw [hf] at F
        by_cases h2 : x2 = 0
        · obtain rfl : V = false := hbad (by rw [hf, show decide (1 ≤ x2) = false by simp; omega]; rfl)
          subst h2
          clear hbad hx hf HV hp HR HO hok hs0
          go_wp2_with fail
          refine wp_region_held_drew (S := fun w' => w'.cell? ⟨b, o + k * 3, none⟩ = some (.string x1) ∧ w'.cell? ⟨b, o + k * 3 + 1, none⟩ = some (.int .u64 0)) (by kernel_rfl) ⟨c0, c1⟩ (fun hHeld => ?_)
          refine rgTake (i := 0) (v := ?_) rfl rfl (by kernel_rfl) (by kernel_rfl) (by kernel_rfl) (fun _ _ _ h => h) (Or.inl ⟨by kernel_rfl, ?_⟩) hHeld ?_
          rotate_left
          · intro w hSw
            obtain ⟨hSw0, hSw1⟩ := hSw
            go_simp
            try with_reducible rfl
          simp only [List.set_cons_zero, List.set_cons_succ]
          refine rgTake (i := 1) (v := ?_) rfl rfl (by kernel_rfl) (by kernel_rfl) (by kernel_rfl) (fun _ _ _ h => h) (Or.inl ⟨by kernel_rfl, ?_⟩) hHeld ?_
          rotate_left
          · intro w hSw
            obtain ⟨hSw0, hSw1⟩ := hSw
            go_simp
            try with_reducible rfl
          simp only [List.set_cons_zero, List.set_cons_succ]
          refine rgTake (i := 2) (v := ?_) rfl rfl (by kernel_rfl) (by kernel_rfl) (by kernel_rfl) (fun _ _ _ h => h) (Or.inl ⟨by kernel_rfl, ?_⟩) hHeld ?_
          rotate_left
          · intro w hSw
            obtain ⟨hSw0, hSw1⟩ := hSw
            go_simp
            try with_reducible rfl
          simp only [List.set_cons_zero, List.set_cons_succ]
          refine rgTake (i := 3) (v := ?_) rfl rfl (by kernel_rfl) (by kernel_rfl) (by kernel_rfl) (fun _ _ _ h => h) (Or.inl ⟨by kernel_rfl, ?_⟩) hHeld ?_
          rotate_left
          · intro w hSw
            obtain ⟨hSw0, hSw1⟩ := hSw
            go_simp
            try with_reducible rfl
          simp only [List.set_cons_zero, List.set_cons_succ]
          refine rgTake (i := 4) (v := ?_) rfl rfl (by kernel_rfl) (by kernel_rfl) (by kernel_rfl) (fun _ _ _ h => h) (Or.inl ⟨by kernel_rfl, ?_⟩) hHeld ?_
          rotate_left
          · intro w hSw
            obtain ⟨hSw0, hSw1⟩ := hSw
            go_simp
            try with_reducible rfl
          simp only [List.set_cons_zero, List.set_cons_succ]
          refine wpAnyH_ready (rs := [5]) (by kernel_rfl) (by simp) ?_
          refine AllReadyH.cons rfl (fun KK hK => ?_) AllReadyH.nil
          go_simp
          refine (F.out _).mono ?_
          rintro e w2 ⟨rfl, hb1⟩
          show KK _ w2
          refine hK.out _ _ ⟨(hb1.cell (p := ⟨b, o + k * 3, none⟩) hbz').trans c0, (hb1.cell (p := ⟨b, o + k * 3 + 1, none⟩) hbz').trans c1⟩ (fun hHeld => ?_)
          clear hK KK
          try simp only [Act.put, List.setIfInBounds_toArray, List.set_cons_zero, List.set_cons_succ]
          refine rgTake (i := 6) (v := ?_) rfl rfl (by kernel_rfl) (by kernel_rfl) (by kernel_rfl) (fun _ _ _ h => h) (Or.inl ⟨by kernel_rfl, ?_⟩) hHeld ?_
          rotate_left
          · intro w hSw
            obtain ⟨hSw0, hSw1⟩ := hSw
            go_simp
            try with_reducible rfl
          simp only [List.set_cons_zero, List.set_cons_succ]
          refine rgTake (i := 7) (v := ?_) rfl rfl (by kernel_rfl) (by kernel_rfl) (by kernel_rfl) (fun _ _ _ h => h) (Or.inl ⟨by kernel_rfl, ?_⟩) hHeld ?_
          rotate_left
          · intro w hSw
            obtain ⟨hSw0, hSw1⟩ := hSw
            go_simp
            try with_reducible rfl
          simp only [List.set_cons_zero, List.set_cons_succ]
          refine rgTake (i := 8) (v := ?_) rfl rfl (by kernel_rfl) (by kernel_rfl) (by kernel_rfl) (fun _ _ _ h => h) (Or.inl ⟨by kernel_rfl, ?_⟩) hHeld ?_
          rotate_left
          · intro w hSw
            obtain ⟨hSw0, hSw1⟩ := hSw
            go_simp
            try with_reducible rfl
          simp only [List.set_cons_zero, List.set_cons_succ]
          refine rgTake (i := 9) (v := ?_) rfl rfl (by kernel_rfl) (by kernel_rfl) (by kernel_rfl) (fun _ _ _ h => h) (Or.inl ⟨by kernel_rfl, ?_⟩) hHeld ?_
          rotate_left
          · intro w hSw
            obtain ⟨hSw0, hSw1⟩ := hSw
            go_simp
            try with_reducible rfl
          simp only [List.set_cons_zero, List.set_cons_succ]
          refine rgTake (i := 10) (v := ?_) rfl rfl (by kernel_rfl) (by kernel_rfl) (by kernel_rfl) (fun _ _ _ h => h) (Or.inl ⟨by kernel_rfl, ?_⟩) hHeld ?_
          rotate_left
          · intro w hSw
            obtain ⟨hSw0, hSw1⟩ := hSw
            go_simp
            try with_reducible rfl
          simp only [List.set_cons_zero, List.set_cons_succ]
          refine rgTake (i := 11) (v := ?_) rfl rfl (by kernel_rfl) (by kernel_rfl) (by kernel_rfl) (fun _ _ _ h => h) (Or.inl ⟨by kernel_rfl, ?_⟩) hHeld ?_
          rotate_left
          · intro w hSw
            obtain ⟨hSw0, hSw1⟩ := hSw
            go_simp
            try with_reducible rfl
          simp only [List.set_cons_zero, List.set_cons_succ]
          refine rgTake (i := 12) (v := ?_) rfl rfl (by kernel_rfl) (by kernel_rfl) (by kernel_rfl) (fun _ _ _ h => h) (Or.inl ⟨by kernel_rfl, ?_⟩) hHeld ?_
          rotate_left
          · intro w hSw
            obtain ⟨hSw0, hSw1⟩ := hSw
            go_simp
            try with_reducible rfl
          simp only [List.set_cons_zero, List.set_cons_succ]
          refine rgTake (i := 13) (v := ?_) rfl rfl (by kernel_rfl) (by kernel_rfl) (by kernel_rfl) (fun _ _ _ h => h) (Or.inl ⟨by kernel_rfl, ?_⟩) hHeld ?_
          rotate_left
          · intro w hSw
            obtain ⟨hSw0, hSw1⟩ := hSw
            go_simp
            try with_reducible rfl
          simp only [List.set_cons_zero, List.set_cons_succ]
          refine rgTake (i := 14) (v := ?_) rfl rfl (by kernel_rfl) (by kernel_rfl) (by kernel_rfl) (fun _ _ _ h => h) (Or.inl ⟨by kernel_rfl, ?_⟩) hHeld ?_
          rotate_left
          · intro w hSw
            obtain ⟨hSw0, hSw1⟩ := hSw
            go_simp
            try with_reducible rfl
          simp only [List.set_cons_zero, List.set_cons_succ]
          refine rgTake (i := 15) (v := ?_) rfl rfl (by kernel_rfl) (by kernel_rfl) (by kernel_rfl) (fun _ _ _ h => h) (Or.inl ⟨by kernel_rfl, ?_⟩) hHeld ?_
          rotate_left
          · intro w hSw
            obtain ⟨hSw0, hSw1⟩ := hSw
            go_simp
            try with_reducible rfl
          simp only [List.set_cons_zero, List.set_cons_succ]
          refine rgTake (i := 16) (v := undef) rfl rfl (by kernel_rfl) (by kernel_rfl) (by kernel_rfl) (fun _ _ _ h => h) (Or.inr ⟨by kernel_rfl, rfl⟩) hHeld ?_
          simp only [List.set_cons_zero, List.set_cons_succ]
          refine rgTake (i := 17) (v := undef) rfl rfl (by kernel_rfl) (by kernel_rfl) (by kernel_rfl) (fun _ _ _ h => h) (Or.inr ⟨by kernel_rfl, rfl⟩) hHeld ?_
          simp only [List.set_cons_zero, List.set_cons_succ]
          refine rgTake (i := 18) (v := undef) rfl rfl (by kernel_rfl) (by kernel_rfl) (by kernel_rfl) (fun _ _ _ h => h) (Or.inr ⟨by kernel_rfl, rfl⟩) hHeld ?_
          simp only [List.set_cons_zero, List.set_cons_succ]
          refine rgTake (i := 19) (v := undef) rfl rfl (by kernel_rfl) (by kernel_rfl) (by kernel_rfl) (fun _ _ _ h => h) (Or.inr ⟨by kernel_rfl, rfl⟩) hHeld ?_
          simp only [List.set_cons_zero, List.set_cons_succ]
          refine rgTake (i := 20) (v := undef) rfl rfl (by kernel_rfl) (by kernel_rfl) (by kernel_rfl) (fun _ _ _ h => h) (Or.inr ⟨by kernel_rfl, rfl⟩) hHeld ?_
          simp only [List.set_cons_zero, List.set_cons_succ]
          refine rgTake (i := 21) (v := undef) rfl rfl (by kernel_rfl) (by kernel_rfl) (by kernel_rfl) (fun _ _ _ h => h) (Or.inr ⟨by kernel_rfl, rfl⟩) hHeld ?_
          simp only [List.set_cons_zero, List.set_cons_succ]
          refine rgTake (i := 22) (v := ?_) rfl rfl (by kernel_rfl) (by kernel_rfl) (by kernel_rfl) (fun _ _ _ h => h) (Or.inl ⟨by kernel_rfl, ?_⟩) hHeld ?_
          rotate_left
          · intro w hSw
            obtain ⟨hSw0, hSw1⟩ := hSw
            go_simp
            try with_reducible rfl
          simp only [List.set_cons_zero, List.set_cons_succ]
          refine rgTake (i := 23) (v := ?_) rfl rfl (by kernel_rfl) (by kernel_rfl) (by kernel_rfl) (fun _ _ _ h => h) (Or.inl ⟨by kernel_rfl, ?_⟩) hHeld ?_
          rotate_left
          · intro w hSw
            obtain ⟨hSw0, hSw1⟩ := hSw
            go_simp
            try with_reducible rfl
          simp only [List.set_cons_zero, List.set_cons_succ]
          refine rgTake (i := 24) (v := undef) rfl rfl (by kernel_rfl) (by kernel_rfl) (by kernel_rfl) (fun _ _ _ h => h) (Or.inr ⟨by kernel_rfl, rfl⟩) hHeld ?_
          simp only [List.set_cons_zero, List.set_cons_succ]
          refine rgTake (i := 25) (v := undef) rfl rfl (by kernel_rfl) (by kernel_rfl) (by kernel_rfl) (fun _ _ _ h => h) (Or.inr ⟨by kernel_rfl, rfl⟩) hHeld ?_
          simp only [List.set_cons_zero, List.set_cons_succ]
          refine rgTake (i := 26) (v := undef) rfl rfl (by kernel_rfl) (by kernel_rfl) (by kernel_rfl) (fun _ _ _ h => h) (Or.inr ⟨by kernel_rfl, rfl⟩) hHeld ?_
          simp only [List.set_cons_zero, List.set_cons_succ]
          refine rgTake (i := 27) (v := undef) rfl rfl (by kernel_rfl) (by kernel_rfl) (by kernel_rfl) (fun _ _ _ h => h) (Or.inr ⟨by kernel_rfl, rfl⟩) hHeld ?_
          simp only [List.set_cons_zero, List.set_cons_succ]
          refine rgTake (i := 28) (v := undef) rfl rfl (by kernel_rfl) (by kernel_rfl) (by kernel_rfl) (fun _ _ _ h => h) (Or.inr ⟨by kernel_rfl, rfl⟩) hHeld ?_
          simp only [List.set_cons_zero, List.set_cons_succ]
          refine rgTake (i := 29) (v := undef) rfl rfl (by kernel_rfl) (by kernel_rfl) (by kernel_rfl) (fun _ _ _ h => h) (Or.inr ⟨by kernel_rfl, rfl⟩) hHeld ?_
          simp only [List.set_cons_zero, List.set_cons_succ]
          refine rgTake (i := 30) (v := undef) rfl rfl (by kernel_rfl) (by kernel_rfl) (by kernel_rfl) (fun _ _ _ h => h) (Or.inr ⟨by kernel_rfl, rfl⟩) hHeld ?_
          simp only [List.set_cons_zero, List.set_cons_succ]
          refine rgTake (i := 31) (v := undef) rfl rfl (by kernel_rfl) (by kernel_rfl) (by kernel_rfl) (fun _ _ _ h => h) (Or.inr ⟨by kernel_rfl, rfl⟩) hHeld ?_
          simp only [List.set_cons_zero, List.set_cons_succ]
          refine rgTake (i := 32) (v := undef) rfl rfl (by kernel_rfl) (by kernel_rfl) (by kernel_rfl) (fun _ _ _ h => h) (Or.inr ⟨by kernel_rfl, rfl⟩) hHeld ?_
          simp only [List.set_cons_zero, List.set_cons_succ]
          refine rgTake (i := 33) (v := undef) rfl rfl (by kernel_rfl) (by kernel_rfl) (by kernel_rfl) (fun _ _ _ h => h) (Or.inr ⟨by kernel_rfl, rfl⟩) hHeld ?_
          simp only [List.set_cons_zero, List.set_cons_succ]
          refine rgTake (i := 34) (v := undef) rfl rfl (by kernel_rfl) (by kernel_rfl) (by kernel_rfl) (fun _ _ _ h => h) (Or.inr ⟨by kernel_rfl, rfl⟩) hHeld ?_
          simp only [List.set_cons_zero, List.set_cons_succ]
          refine rgTake (i := 35) (v := undef) rfl rfl (by kernel_rfl) (by kernel_rfl) (by kernel_rfl) (fun _ _ _ h => h) (Or.inr ⟨by kernel_rfl, rfl⟩) hHeld ?_
          simp only [List.set_cons_zero, List.set_cons_succ]
          refine rgTake (i := 36) (v := undef) rfl rfl (by kernel_rfl) (by kernel_rfl) (by kernel_rfl) (fun _ _ _ h => h) (Or.inr ⟨by kernel_rfl, rfl⟩) hHeld ?_
          simp only [List.set_cons_zero, List.set_cons_succ]
          refine rgTake (i := 37) (v := undef) rfl rfl (by kernel_rfl) (by kernel_rfl) (by kernel_rfl) (fun _ _ _ h => h) (Or.inr ⟨by kernel_rfl, rfl⟩) hHeld ?_
          simp only [List.set_cons_zero, List.set_cons_succ]
          refine rgTake (i := 38) (v := undef) rfl rfl (by kernel_rfl) (by kernel_rfl) (by kernel_rfl) (fun _ _ _ h => h) (Or.inr ⟨by kernel_rfl, rfl⟩) hHeld ?_
          simp only [List.set_cons_zero, List.set_cons_succ]
          refine rgTake (i := 39) (v := undef) rfl rfl (by kernel_rfl) (by kernel_rfl) (by kernel_rfl) (fun _ _ _ h => h) (Or.inr ⟨by kernel_rfl, rfl⟩) hHeld ?_
          simp only [List.set_cons_zero, List.set_cons_succ]
          refine rgTake (i := 40) (v := ?_) rfl rfl (by kernel_rfl) (by kernel_rfl) (by kernel_rfl) (fun _ _ _ h => h) (Or.inl ⟨by kernel_rfl, ?_⟩) hHeld ?_
          rotate_left
          · intro w hSw
            obtain ⟨hSw0, hSw1⟩ := hSw
            go_simp
            try with_reducible rfl
          simp only [List.set_cons_zero, List.set_cons_succ]
          refine wpAnyH_done (by kernel_rfl) ?_ _
          have kw := kd.trans (hb1.mono kd.size)
          clear hb1
          go_wp2
          go_ret
          exact ⟨rfl, kw⟩
        · have h2d : (x2 == 0) = false := by simpa using h2
          have h2p : decide (1 ≤ x2) = true := by simp; omega
          by_cases h3 : x3 < 0
          · obtain rfl : V = false := hbad (by rw [hf, show decide (0 ≤ x3) = false by simp; omega]; simp)
            have h3d : decide (x3 < 0) = true := by simpa using h3
            clear hbad hx hf HV hp HR HO hok hs0 h2p
            go_wp2_with fail
            refine wp_region_held_drew (S := fun w' => w'.cell? ⟨b, o + k * 3, none⟩ = some (.string x1) ∧ w'.cell? ⟨b, o + k * 3 + 1, none⟩ = some (.int .u64 x2) ∧ w'.cell? ⟨b, o + k * 3 + 2, none⟩ = some (.int .i64 x3)) (by kernel_rfl) ⟨c0, c1, c2⟩ (fun hHeld => ?_)
            refine rgTake (i := 0) (v := ?_) rfl rfl (by kernel_rfl) (by kernel_rfl) (by kernel_rfl) (fun _ _ _ h => h) (Or.inl ⟨by kernel_rfl, ?_⟩) hHeld ?_
            rotate_left
            · intro w hSw
              obtain ⟨hSw0, hSw1, hSw2⟩ := hSw
              go_simp
              try with_reducible rfl
            simp only [List.set_cons_zero, List.set_cons_succ]
            refine rgTake (i := 1) (v := ?_) rfl rfl (by kernel_rfl) (by kernel_rfl) (by kernel_rfl) (fun _ _ _ h => h) (Or.inl ⟨by kernel_rfl, ?_⟩) hHeld ?_
            rotate_left
            · intro w hSw
              obtain ⟨hSw0, hSw1, hSw2⟩ := hSw
              go_simp
              try with_reducible rfl
            simp only [List.set_cons_zero, List.set_cons_succ]
            refine rgTake (i := 2) (v := ?_) rfl rfl (by kernel_rfl) (by kernel_rfl) (by kernel_rfl) (fun _ _ _ h => h) (Or.inl ⟨by kernel_rfl, ?_⟩) hHeld ?_
            rotate_left
            · intro w hSw
              obtain ⟨hSw0, hSw1, hSw2⟩ := hSw
              go_simp
              try with_reducible rfl
            simp only [List.set_cons_zero, List.set_cons_succ]
            refine rgTake (i := 3) (v := ?_) rfl rfl (by kernel_rfl) (by kernel_rfl) (by kernel_rfl) (fun _ _ _ h => h) (Or.inl ⟨by kernel_rfl, ?_⟩) hHeld ?_
            rotate_left
            · intro w hSw
              obtain ⟨hSw0, hSw1, hSw2⟩ := hSw
              go_simp
              try with_reducible rfl
            simp only [List.set_cons_zero, List.set_cons_succ]
            refine rgTake (i := 4) (v := ?_) rfl rfl (by kernel_rfl) (by kernel_rfl) (by kernel_rfl) (fun _ _ _ h => h) (Or.inl ⟨by kernel_rfl, ?_⟩) hHeld ?_
            rotate_left
            · intro w hSw
              obtain ⟨hSw0, hSw1, hSw2⟩ := hSw
              go_simp
              try with_reducible rfl
            simp only [List.set_cons_zero, List.set_cons_succ]
            refine wpAnyH_ready (rs := [5]) (by kernel_rfl) (by simp) ?_
            refine AllReadyH.cons rfl (fun KK hK => ?_) AllReadyH.nil
            go_simp
            refine (F.out _).mono ?_
            rintro e w3 ⟨rfl, hb1⟩
            show KK _ w3
            refine hK.out _ _ ⟨(hb1.cell (p := ⟨b, o + k * 3, none⟩) hbz').trans c0, (hb1.cell (p := ⟨b, o + k * 3 + 1, none⟩) hbz').trans c1, (hb1.cell (p := ⟨b, o + k * 3 + 2, none⟩) hbz').trans c2⟩ (fun hHeld => ?_)
            clear hK KK
            try simp only [Act.put, List.setIfInBounds_toArray, List.set_cons_zero, List.set_cons_succ]
            refine rgTake (i := 6) (v := ?_) rfl rfl (by kernel_rfl) (by kernel_rfl) (by kernel_rfl) (fun _ _ _ h => h) (Or.inl ⟨by kernel_rfl, ?_⟩) hHeld ?_
            rotate_left
            · intro w hSw
              obtain ⟨hSw0, hSw1, hSw2⟩ := hSw
              go_simp
              try with_reducible rfl
            simp only [List.set_cons_zero, List.set_cons_succ]
            refine rgTake (i := 7) (v := ?_) rfl rfl (by kernel_rfl) (by kernel_rfl) (by kernel_rfl) (fun _ _ _ h => h) (Or.inl ⟨by kernel_rfl, ?_⟩) hHeld ?_
            rotate_left
            · intro w hSw
              obtain ⟨hSw0, hSw1, hSw2⟩ := hSw
              go_simp
              try with_reducible rfl
            simp only [List.set_cons_zero, List.set_cons_succ]
            refine rgTake (i := 8) (v := ?_) rfl rfl (by kernel_rfl) (by kernel_rfl) (by kernel_rfl) (fun _ _ _ h => h) (Or.inl ⟨by kernel_rfl, ?_⟩) hHeld ?_
            rotate_left
            · intro w hSw
              obtain ⟨hSw0, hSw1, hSw2⟩ := hSw
              go_simp
              try with_reducible rfl
            simp only [List.set_cons_zero, List.set_cons_succ]
            refine rgTake (i := 9) (v := ?_) rfl rfl (by kernel_rfl) (by kernel_rfl) (by kernel_rfl) (fun _ _ _ h => h) (Or.inl ⟨by kernel_rfl, ?_⟩) hHeld ?_
            rotate_left
            · intro w hSw
              obtain ⟨hSw0, hSw1, hSw2⟩ := hSw
              go_simp
              try with_reducible rfl
            simp only [List.set_cons_zero, List.set_cons_succ]
            refine rgTake (i := 10) (v := ?_) rfl rfl (by kernel_rfl) (by kernel_rfl) (by kernel_rfl) (fun _ _ _ h => h) (Or.inl ⟨by kernel_rfl, ?_⟩) hHeld ?_
            rotate_left
            · intro w hSw
              obtain ⟨hSw0, hSw1, hSw2⟩ := hSw
              go_simp
              try with_reducible rfl
            simp only [List.set_cons_zero, List.set_cons_succ]
            refine rgTake (i := 11) (v := ?_) rfl rfl (by kernel_rfl) (by kernel_rfl) (by kernel_rfl) (fun _ _ _ h => h) (Or.inl ⟨by kernel_rfl, ?_⟩) hHeld ?_
            rotate_left
            · intro w hSw
              obtain ⟨hSw0, hSw1, hSw2⟩ := hSw
              go_simp
              try with_reducible rfl
            simp only [List.set_cons_zero, List.set_cons_succ]
            refine rgTake (i := 12) (v := ?_) rfl rfl (by kernel_rfl) (by kernel_rfl) (by kernel_rfl) (fun _ _ _ h => h) (Or.inl ⟨by kernel_rfl, ?_⟩) hHeld ?_
            rotate_left
            · intro w hSw
              obtain ⟨hSw0, hSw1, hSw2⟩ := hSw
              go_simp
              try with_reducible rfl
            simp only [List.set_cons_zero, List.set_cons_succ]
            refine rgTake (i := 13) (v := ?_) rfl rfl (by kernel_rfl) (by kernel_rfl) (by kernel_rfl) (fun _ _ _ h => h) (Or.inl ⟨by kernel_rfl, ?_⟩) hHeld ?_
            rotate_left
            · intro w hSw
              obtain ⟨hSw0, hSw1, hSw2⟩ := hSw
              go_simp
              try with_reducible rfl
            simp only [List.set_cons_zero, List.set_cons_succ]
            refine rgTake (i := 14) (v := ?_) rfl rfl (by kernel_rfl) (by kernel_rfl) (by kernel_rfl) (fun _ _ _ h => h) (Or.inl ⟨by kernel_rfl, ?_⟩) hHeld ?_
            rotate_left
            · intro w hSw
              obtain ⟨hSw0, hSw1, hSw2⟩ := hSw
              go_simp
              try with_reducible rfl
            simp only [List.set_cons_zero, List.set_cons_succ]
            refine rgTake (i := 15) (v := ?_) rfl rfl (by kernel_rfl) (by kernel_rfl) (by kernel_rfl) (fun _ _ _ h => h) (Or.inl ⟨by kernel_rfl, ?_⟩) hHeld ?_
            rotate_left
            · intro w hSw
              obtain ⟨hSw0, hSw1, hSw2⟩ := hSw
              go_simp
              try with_reducible rfl
            simp only [List.set_cons_zero, List.set_cons_succ]
            refine rgTake (i := 16) (v := ?_) rfl rfl (by kernel_rfl) (by kernel_rfl) (by kernel_rfl) (fun _ _ _ h => h) (Or.inl ⟨by kernel_rfl, ?_⟩) hHeld ?_
            rotate_left
            · intro w hSw
              obtain ⟨hSw0, hSw1, hSw2⟩ := hSw
              go_simp
              try with_reducible rfl
            simp only [List.set_cons_zero, List.set_cons_succ]
            refine rgTake (i := 17) (v := ?_) rfl rfl (by kernel_rfl) (by kernel_rfl) (by kernel_rfl) (fun _ _ _ h => h) (Or.inl ⟨by kernel_rfl, ?_⟩) hHeld ?_
            rotate_left
            · intro w hSw
              obtain ⟨hSw0, hSw1, hSw2⟩ := hSw
              go_simp
              try with_reducible rfl
            simp only [List.set_cons_zero, List.set_cons_succ]
            refine rgTake (i := 18) (v := ?_) rfl rfl (by kernel_rfl) (by kernel_rfl) (by kernel_rfl) (fun _ _ _ h => h) (Or.inl ⟨by kernel_rfl, ?_⟩) hHeld ?_
            rotate_left
            · intro w hSw
              obtain ⟨hSw0, hSw1, hSw2⟩ := hSw
              go_simp
              try with_reducible rfl
            simp only [List.set_cons_zero, List.set_cons_succ]
            refine rgTake (i := 19) (v := ?_) rfl rfl (by kernel_rfl) (by kernel_rfl) (by kernel_rfl) (fun _ _ _ h => h) (Or.inl ⟨by kernel_rfl, ?_⟩) hHeld ?_
            rotate_left
            · intro w hSw
              obtain ⟨hSw0, hSw1, hSw2⟩ := hSw
              go_simp
              try with_reducible rfl
            simp only [List.set_cons_zero, List.set_cons_succ]
            refine rgTake (i := 20) (v := ?_) rfl rfl (by kernel_rfl) (by kernel_rfl) (by kernel_rfl) (fun _ _ _ h => h) (Or.inl ⟨by kernel_rfl, ?_⟩) hHeld ?_
            rotate_left
            · intro w hSw
              obtain ⟨hSw0, hSw1, hSw2⟩ := hSw
              go_simp
              try with_reducible rfl
            simp only [List.set_cons_zero, List.set_cons_succ]
            refine rgTake (i := 21) (v := ?_) rfl rfl (by kernel_rfl) (by kernel_rfl) (by kernel_rfl) (fun _ _ _ h => h) (Or.inl ⟨by kernel_rfl, ?_⟩) hHeld ?_
            rotate_left
            · intro w hSw
              obtain ⟨hSw0, hSw1, hSw2⟩ := hSw
              go_simp
              try with_reducible rfl
            simp only [List.set_cons_zero, List.set_cons_succ]
            refine rgTake (i := 22) (v := ?_) rfl rfl (by kernel_rfl) (by kernel_rfl) (by kernel_rfl) (fun _ _ _ h => h) (Or.inl ⟨by kernel_rfl, ?_⟩) hHeld ?_
            rotate_left
            · intro w hSw
              obtain ⟨hSw0, hSw1, hSw2⟩ := hSw
              go_simp
              try with_reducible rfl
            simp only [List.set_cons_zero, List.set_cons_succ]
            refine rgTake (i := 23) (v := ?_) rfl rfl (by kernel_rfl) (by kernel_rfl) (by kernel_rfl) (fun _ _ _ h => h) (Or.inl ⟨by kernel_rfl, ?_⟩) hHeld ?_
            rotate_left
            · intro w hSw
              obtain ⟨hSw0, hSw1, hSw2⟩ := hSw
              go_simp
              try with_reducible rfl
            simp only [List.set_cons_zero, List.set_cons_succ]
            refine rgTake (i := 24) (v := undef) rfl rfl (by kernel_rfl) (by kernel_rfl) (by kernel_rfl) (fun _ _ _ h => h) (Or.inr ⟨by kernel_rfl, rfl⟩) hHeld ?_
            simp only [List.set_cons_zero, List.set_cons_succ]
            refine rgTake (i := 25) (v := undef) rfl rfl (by kernel_rfl) (by kernel_rfl) (by kernel_rfl) (fun _ _ _ h => h) (Or.inr ⟨by kernel_rfl, rfl⟩) hHeld ?_
            simp only [List.set_cons_zero, List.set_cons_succ]
            refine rgTake (i := 26) (v := undef) rfl rfl (by kernel_rfl) (by kernel_rfl) (by kernel_rfl) (fun _ _ _ h => h) (Or.inr ⟨by kernel_rfl, rfl⟩) hHeld ?_
            simp only [List.set_cons_zero, List.set_cons_succ]
            refine rgTake (i := 27) (v := undef) rfl rfl (by kernel_rfl) (by kernel_rfl) (by kernel_rfl) (fun _ _ _ h => h) (Or.inr ⟨by kernel_rfl, rfl⟩) hHeld ?_
            simp only [List.set_cons_zero, List.set_cons_succ]
            refine rgTake (i := 28) (v := undef) rfl rfl (by kernel_rfl) (by kernel_rfl) (by kernel_rfl) (fun _ _ _ h => h) (Or.inr ⟨by kernel_rfl, rfl⟩) hHeld ?_
            simp only [List.set_cons_zero, List.set_cons_succ]
            refine rgTake (i := 29) (v := undef) rfl rfl (by kernel_rfl) (by kernel_rfl) (by kernel_rfl) (fun _ _ _ h => h) (Or.inr ⟨by kernel_rfl, rfl⟩) hHeld ?_
            simp only [List.set_cons_zero, List.set_cons_succ]
            refine rgTake (i := 30) (v := undef) rfl rfl (by kernel_rfl) (by kernel_rfl) (by kernel_rfl) (fun _ _ _ h => h) (Or.inr ⟨by kernel_rfl, rfl⟩) hHeld ?_
            simp only [List.set_cons_zero, List.set_cons_succ]
            refine rgTake (i := 31) (v := undef) rfl rfl (by kernel_rfl) (by kernel_rfl) (by kernel_rfl) (fun _ _ _ h => h) (Or.inr ⟨by kernel_rfl, rfl⟩) hHeld ?_
            simp only [List.set_cons_zero, List.set_cons_succ]
            refine rgTake (i := 32) (v := undef) rfl rfl (by kernel_rfl) (by kernel_rfl) (by kernel_rfl) (fun _ _ _ h => h) (Or.inr ⟨by kernel_rfl, rfl⟩) hHeld ?_
            simp only [List.set_cons_zero, List.set_cons_succ]
            refine rgTake (i := 33) (v := undef) rfl rfl (by kernel_rfl) (by kernel_rfl) (by kernel_rfl) (fun _ _ _ h => h) (Or.inr ⟨by kernel_rfl, rfl⟩) hHeld ?_
            simp only [List.set_cons_zero, List.set_cons_succ]
            refine rgTake (i := 34) (v := undef) rfl rfl (by kernel_rfl) (by kernel_rfl) (by kernel_rfl) (fun _ _ _ h => h) (Or.inr ⟨by kernel_rfl, rfl⟩) hHeld ?_
            simp only [List.set_cons_zero, List.set_cons_succ]
            refine rgTake (i := 35) (v := undef) rfl rfl (by kernel_rfl) (by kernel_rfl) (by kernel_rfl) (fun _ _ _ h => h) (Or.inr ⟨by kernel_rfl, rfl⟩) hHeld ?_
            simp only [List.set_cons_zero, List.set_cons_succ]
            refine rgTake (i := 36) (v := undef) rfl rfl (by kernel_rfl) (by kernel_rfl) (by kernel_rfl) (fun _ _ _ h => h) (Or.inr ⟨by kernel_rfl, rfl⟩) hHeld ?_
            simp only [List.set_cons_zero, List.set_cons_succ]
            refine rgTake (i := 37) (v := undef) rfl rfl (by kernel_rfl) (by kernel_rfl) (by kernel_rfl) (fun _ _ _ h => h) (Or.inr ⟨by kernel_rfl, rfl⟩) hHeld ?_
            simp only [List.set_cons_zero, List.set_cons_succ]
            refine rgTake (i := 38) (v := undef) rfl rfl (by kernel_rfl) (by kernel_rfl) (by kernel_rfl) (fun _ _ _ h => h) (Or.inr ⟨by kernel_rfl, rfl⟩) hHeld ?_
            simp only [List.set_cons_zero, List.set_cons_succ]
            refine rgTake (i := 39) (v := undef) rfl rfl (by kernel_rfl) (by kernel_rfl) (by kernel_rfl) (fun _ _ _ h => h) (Or.inr ⟨by kernel_rfl, rfl⟩) hHeld ?_
            simp only [List.set_cons_zero, List.set_cons_succ]
            refine rgTake (i := 40) (v := ?_) rfl rfl (by kernel_rfl) (by kernel_rfl) (by kernel_rfl) (fun _ _ _ h => h) (Or.inl ⟨by kernel_rfl, ?_⟩) hHeld ?_
            rotate_left
            · intro w hSw
              obtain ⟨hSw0, hSw1, hSw2⟩ := hSw
              go_simp
              try with_reducible rfl
            simp only [List.set_cons_zero, List.set_cons_succ]
            refine wpAnyH_done (by kernel_rfl) ?_ _
            have kw := kd.trans (hb1.mono kd.size)
            clear hb1
            go_wp2
            go_ret
            exact ⟨rfl, kw⟩
          · have h3d : decide (x3 < 0) = false := by simpa using h3
            have hgood : okB X[k] = true := by rw [hx]; unfold okB; simp only; rw [hf, h2p, show decide (0 ≤ x3) = true by simp; omega]; rfl
            clear hbad hs0 h2p
            cases k with
            | zero =>
              have Hp := Lib.hid (show sufD X 0 = sufD X 1 by rw [sufD_one X hlt, hgood, Bool.true_and])
              have c0' : wr.cell? ⟨b, o, none⟩ = some (.string x1) := by simpa using c0
              have c1' : wr.cell? ⟨b, o + 1, none⟩ = some (.int .u64 x2) := by simpa using c1
              have c2' : wr.cell? ⟨b, o + 2, none⟩ = some (.int .i64 x3) := by simpa using c2
              have hlt0 : 0 < X.length := hlt
              clear hx hf hp hok hgood c0 c1 c2 hlt
              go_wp2_with fail
              refine wp_region_held_drew (S := fun w' => w'.cell? ⟨b, o, none⟩ = some (.string x1) ∧ w'.cell? ⟨b, o + 1, none⟩ = some (.int .u64 x2) ∧ w'.cell? ⟨b, o + 2, none⟩ = some (.int .i64 x3)) (by kernel_rfl) ⟨c0', c1', c2'⟩ (fun hHeld => ?_)
              refine rgTake (i := 0) (v := ?_) rfl rfl (by kernel_rfl) (by kernel_rfl) (by kernel_rfl) (fun _ _ _ h => h) (Or.inl ⟨by kernel_rfl, ?_⟩) hHeld ?_
              rotate_left
              · intro w hSw
                obtain ⟨hSw0, hSw1, hSw2⟩ := hSw
                go_simp
                try with_reducible rfl
              simp only [List.set_cons_zero, List.set_cons_succ]
              refine rgTake (i := 1) (v := ?_) rfl rfl (by kernel_rfl) (by kernel_rfl) (by kernel_rfl) (fun _ _ _ h => h) (Or.inl ⟨by kernel_rfl, ?_⟩) hHeld ?_
              rotate_left
              · intro w hSw
                obtain ⟨hSw0, hSw1, hSw2⟩ := hSw
                go_simp
                try with_reducible rfl
              simp only [List.set_cons_zero, List.set_cons_succ]
              refine rgTake (i := 2) (v := ?_) rfl rfl (by kernel_rfl) (by kernel_rfl) (by kernel_rfl) (fun _ _ _ h => h) (Or.inl ⟨by kernel_rfl, ?_⟩) hHeld ?_
              rotate_left
              · intro w hSw
                obtain ⟨hSw0, hSw1, hSw2⟩ := hSw
                go_simp
                try with_reducible rfl
              simp only [List.set_cons_zero, List.set_cons_succ]
              refine rgTake (i := 3) (v := ?_) rfl rfl (by kernel_rfl) (by kernel_rfl) (by kernel_rfl) (fun _ _ _ h => h) (Or.inl ⟨by kernel_rfl, ?_⟩) hHeld ?_
              rotate_left
              · intro w hSw
                obtain ⟨hSw0, hSw1, hSw2⟩ := hSw
                go_simp
                try with_reducible rfl
              simp only [List.set_cons_zero, List.set_cons_succ]
              refine rgTake (i := 4) (v := ?_) rfl rfl (by kernel_rfl) (by kernel_rfl) (by kernel_rfl) (fun _ _ _ h => h) (Or.inl ⟨by kernel_rfl, ?_⟩) hHeld ?_
              rotate_left
              · intro w hSw
                obtain ⟨hSw0, hSw1, hSw2⟩ := hSw
                go_simp
                try with_reducible rfl
              simp only [List.set_cons_zero, List.set_cons_succ]
              refine wpAnyH_ready (rs := [5]) (by kernel_rfl) (by simp) ?_
              refine AllReadyH.cons rfl (fun KK hK => ?_) AllReadyH.nil
              go_simp
              refine (F.out _).mono ?_
              rintro e w4 ⟨rfl, hb1⟩
              show KK _ w4
              refine hK.out _ _ ⟨(hb1.cell (p := ⟨b, o, none⟩) hbz').trans c0', (hb1.cell (p := ⟨b, o + 1, none⟩) hbz').trans c1', (hb1.cell (p := ⟨b, o + 2, none⟩) hbz').trans c2'⟩ (fun hHeld => ?_)
              clear hK KK
              try simp only [Act.put, List.setIfInBounds_toArray, List.set_cons_zero, List.set_cons_succ]
              refine rgTake (i := 6) (v := ?_) rfl rfl (by kernel_rfl) (by kernel_rfl) (by kernel_rfl) (fun _ _ _ h => h) (Or.inl ⟨by kernel_rfl, ?_⟩) hHeld ?_
              rotate_left
              · intro w hSw
                obtain ⟨hSw0, hSw1, hSw2⟩ := hSw
                go_simp
                try with_reducible rfl
              simp only [List.set_cons_zero, List.set_cons_succ]
              refine rgTake (i := 7) (v := ?_) rfl rfl (by kernel_rfl) (by kernel_rfl) (by kernel_rfl) (fun _ _ _ h => h) (Or.inl ⟨by kernel_rfl, ?_⟩) hHeld ?_
              rotate_left
              · intro w hSw
                obtain ⟨hSw0, hSw1, hSw2⟩ := hSw
                go_simp
                try with_reducible rfl
              simp only [List.set_cons_zero, List.set_cons_succ]
              refine rgTake (i := 8) (v := ?_) rfl rfl (by kernel_rfl) (by kernel_rfl) (by kernel_rfl) (fun _ _ _ h => h) (Or.inl ⟨by kernel_rfl, ?_⟩) hHeld ?_
              rotate_left
              · intro w hSw
                obtain ⟨hSw0, hSw1, hSw2⟩ := hSw
                go_simp
                try with_reducible rfl
              simp only [List.set_cons_zero, List.set_cons_succ]
              refine rgTake (i := 9) (v := ?_) rfl rfl (by kernel_rfl) (by kernel_rfl) (by kernel_rfl) (fun _ _ _ h => h) (Or.inl ⟨by kernel_rfl, ?_⟩) hHeld ?_
              rotate_left
              · intro w hSw
                obtain ⟨hSw0, hSw1, hSw2⟩ := hSw
                go_simp
                try with_reducible rfl
              simp only [List.set_cons_zero, List.set_cons_succ]
              refine rgTake (i := 10) (v := ?_) rfl rfl (by kernel_rfl) (by kernel_rfl) (by kernel_rfl) (fun _ _ _ h => h) (Or.inl ⟨by kernel_rfl, ?_⟩) hHeld ?_
              rotate_left
              · intro w hSw
                obtain ⟨hSw0, hSw1, hSw2⟩ := hSw
                go_simp
                try with_reducible rfl
              simp only [List.set_cons_zero, List.set_cons_succ]
              refine rgTake (i := 11) (v := ?_) rfl rfl (by kernel_rfl) (by kernel_rfl) (by kernel_rfl) (fun _ _ _ h => h) (Or.inl ⟨by kernel_rfl, ?_⟩) hHeld ?_
              rotate_left
              · intro w hSw
                obtain ⟨hSw0, hSw1, hSw2⟩ := hSw
                go_simp
                try with_reducible rfl
              simp only [List.set_cons_zero, List.set_cons_succ]
              refine rgTake (i := 12) (v := ?_) rfl rfl (by kernel_rfl) (by kernel_rfl) (by kernel_rfl) (fun _ _ _ h => h) (Or.inl ⟨by kernel_rfl, ?_⟩) hHeld ?_
              rotate_left
              · intro w hSw
                obtain ⟨hSw0, hSw1, hSw2⟩ := hSw
                go_simp
                try with_reducible rfl
              simp only [List.set_cons_zero, List.set_cons_succ]
              refine rgTake (i := 13) (v := ?_) rfl rfl (by kernel_rfl) (by kernel_rfl) (by kernel_rfl) (fun _ _ _ h => h) (Or.inl ⟨by kernel_rfl, ?_⟩) hHeld ?_
              rotate_left
              · intro w hSw
                obtain ⟨hSw0, hSw1, hSw2⟩ := hSw
                go_simp
                try with_reducible rfl
              simp only [List.set_cons_zero, List.set_cons_succ]
              refine rgTake (i := 14) (v := ?_) rfl rfl (by kernel_rfl) (by kernel_rfl) (by kernel_rfl) (fun _ _ _ h => h) (Or.inl ⟨by kernel_rfl, ?_⟩) hHeld ?_
              rotate_left
              · intro w hSw
                obtain ⟨hSw0, hSw1, hSw2⟩ := hSw
                go_simp
                try with_reducible rfl
              simp only [List.set_cons_zero, List.set_cons_succ]
              refine rgTake (i := 15) (v := ?_) rfl rfl (by kernel_rfl) (by kernel_rfl) (by kernel_rfl) (fun _ _ _ h => h) (Or.inl ⟨by kernel_rfl, ?_⟩) hHeld ?_
              rotate_left
              · intro w hSw
                obtain ⟨hSw0, hSw1, hSw2⟩ := hSw
                go_simp
                try with_reducible rfl
              simp only [List.set_cons_zero, List.set_cons_succ]
              refine rgTake (i := 16) (v := ?_) rfl rfl (by kernel_rfl) (by kernel_rfl) (by kernel_rfl) (fun _ _ _ h => h) (Or.inl ⟨by kernel_rfl, ?_⟩) hHeld ?_
              rotate_left
              · intro w hSw
                obtain ⟨hSw0, hSw1, hSw2⟩ := hSw
                go_simp
                try with_reducible rfl
              simp only [List.set_cons_zero, List.set_cons_succ]
              refine rgTake (i := 17) (v := ?_) rfl rfl (by kernel_rfl) (by kernel_rfl) (by kernel_rfl) (fun _ _ _ h => h) (Or.inl ⟨by kernel_rfl, ?_⟩) hHeld ?_
              rotate_left
              · intro w hSw
                obtain ⟨hSw0, hSw1, hSw2⟩ := hSw
                go_simp
                try with_reducible rfl
              simp only [List.set_cons_zero, List.set_cons_succ]
              refine rgTake (i := 18) (v := ?_) rfl rfl (by kernel_rfl) (by kernel_rfl) (by kernel_rfl) (fun _ _ _ h => h) (Or.inl ⟨by kernel_rfl, ?_⟩) hHeld ?_
              rotate_left
              · intro w hSw
                obtain ⟨hSw0, hSw1, hSw2⟩ := hSw
                go_simp
                try with_reducible rfl
              simp only [List.set_cons_zero, List.set_cons_succ]
              refine rgTake (i := 19) (v := ?_) rfl rfl (by kernel_rfl) (by kernel_rfl) (by kernel_rfl) (fun _ _ _ h => h) (Or.inl ⟨by kernel_rfl, ?_⟩) hHeld ?_
              rotate_left
              · intro w hSw
                obtain ⟨hSw0, hSw1, hSw2⟩ := hSw
                go_simp
                try with_reducible rfl
              simp only [List.set_cons_zero, List.set_cons_succ]
              refine rgTake (i := 20) (v := ?_) rfl rfl (by kernel_rfl) (by kernel_rfl) (by kernel_rfl) (fun _ _ _ h => h) (Or.inl ⟨by kernel_rfl, ?_⟩) hHeld ?_
              rotate_left
              · intro w hSw
                obtain ⟨hSw0, hSw1, hSw2⟩ := hSw
                go_simp
                try with_reducible rfl
              simp only [List.set_cons_zero, List.set_cons_succ]
              refine rgTake (i := 21) (v := ?_) rfl rfl (by kernel_rfl) (by kernel_rfl) (by kernel_rfl) (fun _ _ _ h => h) (Or.inl ⟨by kernel_rfl, ?_⟩) hHeld ?_
              rotate_left
              · intro w hSw
                obtain ⟨hSw0, hSw1, hSw2⟩ := hSw
                go_simp
                try with_reducible rfl
              simp only [List.set_cons_zero, List.set_cons_succ]
              refine rgTake (i := 22) (v := ?_) rfl rfl (by kernel_rfl) (by kernel_rfl) (by kernel_rfl) (fun _ _ _ h => h) (Or.inl ⟨by kernel_rfl, ?_⟩) hHeld ?_
              rotate_left
              · intro w hSw
                obtain ⟨hSw0, hSw1, hSw2⟩ := hSw
                go_simp
                try with_reducible rfl
              simp only [List.set_cons_zero, List.set_cons_succ]
              refine rgTake (i := 23) (v := ?_) rfl rfl (by kernel_rfl) (by kernel_rfl) (by kernel_rfl) (fun _ _ _ h => h) (Or.inl ⟨by kernel_rfl, ?_⟩) hHeld ?_
              rotate_left
              · intro w hSw
                obtain ⟨hSw0, hSw1, hSw2⟩ := hSw
                go_simp
                try with_reducible rfl
              simp only [List.set_cons_zero, List.set_cons_succ]
              refine rgTake (i := 24) (v := ?_) rfl rfl (by kernel_rfl) (by kernel_rfl) (by kernel_rfl) (fun _ _ _ h => h) (Or.inl ⟨by kernel_rfl, ?_⟩) hHeld ?_
              rotate_left
              · intro w hSw
                obtain ⟨hSw0, hSw1, hSw2⟩ := hSw
                go_simp
                try with_reducible rfl
              simp only [List.set_cons_zero, List.set_cons_succ]
              refine rgTake (i := 25) (v := ?_) rfl rfl (by kernel_rfl) (by kernel_rfl) (by kernel_rfl) (fun _ _ _ h => h) (Or.inl ⟨by kernel_rfl, ?_⟩) hHeld ?_
              rotate_left
              · intro w hSw
                obtain ⟨hSw0, hSw1, hSw2⟩ := hSw
                go_simp
                try with_reducible rfl
              simp only [List.set_cons_zero, List.set_cons_succ]
              refine rgTake (i := 26) (v := ?_) rfl rfl (by kernel_rfl) (by kernel_rfl) (by kernel_rfl) (fun _ _ _ h => h) (Or.inl ⟨by kernel_rfl, ?_⟩) hHeld ?_
              rotate_left
              · intro w hSw
                obtain ⟨hSw0, hSw1, hSw2⟩ := hSw
                go_simp
                try with_reducible rfl
              simp only [List.set_cons_zero, List.set_cons_succ]
              refine rgTake (i := 27) (v := undef) rfl rfl (by kernel_rfl) (by kernel_rfl) (by kernel_rfl) (fun _ _ _ h => h) (Or.inr ⟨by kernel_rfl, rfl⟩) hHeld ?_
              simp only [List.set_cons_zero, List.set_cons_succ]
              refine rgTake (i := 28) (v := undef) rfl rfl (by kernel_rfl) (by kernel_rfl) (by kernel_rfl) (fun _ _ _ h => h) (Or.inr ⟨by kernel_rfl, rfl⟩) hHeld ?_
              simp only [List.set_cons_zero, List.set_cons_succ]
              refine rgTake (i := 29) (v := undef) rfl rfl (by kernel_rfl) (by kernel_rfl) (by kernel_rfl) (fun _ _ _ h => h) (Or.inr ⟨by kernel_rfl, rfl⟩) hHeld ?_
              simp only [List.set_cons_zero, List.set_cons_succ]
              refine rgTake (i := 30) (v := undef) rfl rfl (by kernel_rfl) (by kernel_rfl) (by kernel_rfl) (fun _ _ _ h => h) (Or.inr ⟨by kernel_rfl, rfl⟩) hHeld ?_
              simp only [List.set_cons_zero, List.set_cons_succ]
              refine rgTake (i := 31) (v := undef) rfl rfl (by kernel_rfl) (by kernel_rfl) (by kernel_rfl) (fun _ _ _ h => h) (Or.inr ⟨by kernel_rfl, rfl⟩) hHeld ?_
              simp only [List.set_cons_zero, List.set_cons_succ]
              refine rgTake (i := 32) (v := undef) rfl rfl (by kernel_rfl) (by kernel_rfl) (by kernel_rfl) (fun _ _ _ h => h) (Or.inr ⟨by kernel_rfl, rfl⟩) hHeld ?_
              simp only [List.set_cons_zero, List.set_cons_succ]
              refine rgTake (i := 33) (v := undef) rfl rfl (by kernel_rfl) (by kernel_rfl) (by kernel_rfl) (fun _ _ _ h => h) (Or.inr ⟨by kernel_rfl, rfl⟩) hHeld ?_
              simp only [List.set_cons_zero, List.set_cons_succ]
              refine rgTake (i := 34) (v := undef) rfl rfl (by kernel_rfl) (by kernel_rfl) (by kernel_rfl) (fun _ _ _ h => h) (Or.inr ⟨by kernel_rfl, rfl⟩) hHeld ?_
              simp only [List.set_cons_zero, List.set_cons_succ]
              refine rgTake (i := 35) (v := undef) rfl rfl (by kernel_rfl) (by kernel_rfl) (by kernel_rfl) (fun _ _ _ h => h) (Or.inr ⟨by kernel_rfl, rfl⟩) hHeld ?_
              simp only [List.set_cons_zero, List.set_cons_succ]
              refine rgTake (i := 36) (v := undef) rfl rfl (by kernel_rfl) (by kernel_rfl) (by kernel_rfl) (fun _ _ _ h => h) (Or.inr ⟨by kernel_rfl, rfl⟩) hHeld ?_
              simp only [List.set_cons_zero, List.set_cons_succ]
              refine rgTake (i := 37) (v := undef) rfl rfl (by kernel_rfl) (by kernel_rfl) (by kernel_rfl) (fun _ _ _ h => h) (Or.inr ⟨by kernel_rfl, rfl⟩) hHeld ?_
              simp only [List.set_cons_zero, List.set_cons_succ]
              refine rgTake (i := 38) (v := undef) rfl rfl (by kernel_rfl) (by kernel_rfl) (by kernel_rfl) (fun _ _ _ h => h) (Or.inr ⟨by kernel_rfl, rfl⟩) hHeld ?_
              simp only [List.set_cons_zero, List.set_cons_succ]
              refine rgTake (i := 39) (v := ?_) rfl rfl (by kernel_rfl) (by kernel_rfl) (by kernel_rfl) (fun _ _ _ h => h) (Or.inl ⟨by kernel_rfl, ?_⟩) hHeld ?_
              rotate_left
              · intro w hSw
                obtain ⟨hSw0, hSw1, hSw2⟩ := hSw
                go_simp
                try with_reducible rfl
              simp only [List.set_cons_zero, List.set_cons_succ]
              refine rgTake (i := 40) (v := ?_) rfl rfl (by kernel_rfl) (by kernel_rfl) (by kernel_rfl) (fun _ _ _ h => h) (Or.inl ⟨by kernel_rfl, ?_⟩) hHeld ?_
              rotate_left
              · intro w hSw
                obtain ⟨hSw0, hSw1, hSw2⟩ := hSw
                go_simp
                try with_reducible rfl
              simp only [List.set_cons_zero, List.set_cons_succ]
              refine wpAnyH_done (by kernel_rfl) ?_ _
              have kw := kd.trans (hb1.mono kd.size)
              clear hb1
              go_wp2
              go_roundw
              case rel => exact ⟨1, by go_num, by omega, Hp, kw⟩
              case measure => simp [intOf]; omega
            | succ m =>
              have hkm : m < X.length := by omega
              obtain ⟨b', o', e', hbz2, q0, q1, q2⟩ := (HR.out.lift kk).at m hkm
              obtain ⟨rfl, rfl⟩ : b = b' ∧ o = o' := by cases e'; exact ⟨rfl, rfl⟩
              clear e' hbz2 q1 q2
              have hsd := sufD_succ X m hlt
              rw [hgood, Bool.true_and] at hsd
              have hor : ordE X[m] X[m + 1] = ordS X[m].1 x1 := by rw [hx]; rfl
              rw [hor] at hsd
              have hl := less_cmp X[m].1 x1
              rw [← hl] at hsd
              have HSD := Lib.hid hsd
              clear hsd hor hl hx hf hok hgood
              generalize hy : X[m].1 = y1 at *
              have k0' : (0 : Int) ≤ m := by omega
              have k1' : (m : Int) < X.length := by omega
              have k5 : (m : Int) + 1 < X.length := by omega
              have k6 : (0 : Int) ≤ (m : Int) + 1 := by omega
              have k8 : (0 : Int) < (m : Int) + 1 := by omega
              have k9 : decide ((0 : Int) < (m : Int) + 1) = true := by simp
              have w3 : wrap64 (m : Int) = m := by unfold wrap64; omega
              have w4 : IntKind.i64.wrap (m : Int) = m := IntWalk.i64_in _ (by omega)
              have k7 : ((m : Int) + 1).toNat = m + 1 := by omega
              have w1 : wrap64 ((m : Int) + 1 - 1) = m := by unfold wrap64; omega
              have w2 : IntKind.i64.wrap ((m : Int) + 1 - 1) = m := by rw [show (m : Int) + 1 - 1 = m by omega]; exact IntWalk.i64_in _ (by omega)
              have HY := Lib.hid hy
              clear hy
              cases hless : Op.bytesLess y1.toList x1.toList
              · obtain rfl : V = false := by rw [HV.out, hp.out, HSD.out, hless]; simp
                clear HSD HV hp HR HO
                go_wp2_with fail
                refine wp_region_held_drew (S := fun w' => w'.cell? ⟨b, o + (m + 1) * 3, none⟩ = some (.string x1) ∧ w'.cell? ⟨b, o + (m + 1) * 3 + 1, none⟩ = some (.int .u64 x2) ∧ w'.cell? ⟨b, o + (m + 1) * 3 + 2, none⟩ = some (.int .i64 x3) ∧ w'.cell? ⟨b, o + m * 3, none⟩ = some (.string y1)) (by kernel_rfl) ⟨c0, c1, c2, q0⟩ (fun hHeld => ?_)
                refine rgTake (i := 0) (v := ?_) rfl rfl (by kernel_rfl) (by kernel_rfl) (by kernel_rfl) (fun _ _ _ h => h) (Or.inl ⟨by kernel_rfl, ?_⟩) hHeld ?_
                rotate_left
                · intro w hSw
                  obtain ⟨hSw0, hSw1, hSw2, hSw3⟩ := hSw
                  go_simp
                  try with_reducible rfl
                simp only [List.set_cons_zero, List.set_cons_succ]
                refine rgTake (i := 1) (v := ?_) rfl rfl (by kernel_rfl) (by kernel_rfl) (by kernel_rfl) (fun _ _ _ h => h) (Or.inl ⟨by kernel_rfl, ?_⟩) hHeld ?_
                rotate_left
                · intro w hSw
                  obtain ⟨hSw0, hSw1, hSw2, hSw3⟩ := hSw
                  go_simp
                  try with_reducible rfl
                simp only [List.set_cons_zero, List.set_cons_succ]
                refine rgTake (i := 2) (v := ?_) rfl rfl (by kernel_rfl) (by kernel_rfl) (by kernel_rfl) (fun _ _ _ h => h) (Or.inl ⟨by kernel_rfl, ?_⟩) hHeld ?_
                rotate_left
                · intro w hSw
                  obtain ⟨hSw0, hSw1, hSw2, hSw3⟩ := hSw
                  go_simp
                  try with_reducible rfl
                simp only [List.set_cons_zero, List.set_cons_succ]
                refine rgTake (i := 3) (v := ?_) rfl rfl (by kernel_rfl) (by kernel_rfl) (by kernel_rfl) (fun _ _ _ h => h) (Or.inl ⟨by kernel_rfl, ?_⟩) hHeld ?_
                rotate_left
                · intro w hSw
                  obtain ⟨hSw0, hSw1, hSw2, hSw3⟩ := hSw
                  go_simp
                  try with_reducible rfl
                simp only [List.set_cons_zero, List.set_cons_succ]
                refine rgTake (i := 4) (v := ?_) rfl rfl (by kernel_rfl) (by kernel_rfl) (by kernel_rfl) (fun _ _ _ h => h) (Or.inl ⟨by kernel_rfl, ?_⟩) hHeld ?_
                rotate_left
                · intro w hSw
                  obtain ⟨hSw0, hSw1, hSw2, hSw3⟩ := hSw
                  go_simp
                  try with_reducible rfl
                simp only [List.set_cons_zero, List.set_cons_succ]
                refine wpAnyH_ready (rs := [5]) (by kernel_rfl) (by simp) ?_
                refine AllReadyH.cons rfl (fun KK hK => ?_) AllReadyH.nil
                go_simp
                refine (F.out _).mono ?_
                rintro e w5 ⟨rfl, hb1⟩
                show KK _ w5
                refine hK.out _ _ ⟨(hb1.cell (p := ⟨b, o + (m + 1) * 3, none⟩) hbz').trans c0, (hb1.cell (p := ⟨b, o + (m + 1) * 3 + 1, none⟩) hbz').trans c1, (hb1.cell (p := ⟨b, o + (m + 1) * 3 + 2, none⟩) hbz').trans c2, (hb1.cell (p := ⟨b, o + m * 3, none⟩) hbz').trans q0⟩ (fun hHeld => ?_)
                clear hK KK
                try simp only [Act.put, List.setIfInBounds_toArray, List.set_cons_zero, List.set_cons_succ]
                refine rgTake (i := 6) (v := ?_) rfl rfl (by kernel_rfl) (by kernel_rfl) (by kernel_rfl) (fun _ _ _ h => h) (Or.inl ⟨by kernel_rfl, ?_⟩) hHeld ?_
                rotate_left
                · intro w hSw
                  obtain ⟨hSw0, hSw1, hSw2, hSw3⟩ := hSw
                  go_simp
                  try with_reducible rfl
                simp only [List.set_cons_zero, List.set_cons_succ]
                refine rgTake (i := 7) (v := ?_) rfl rfl (by kernel_rfl) (by kernel_rfl) (by kernel_rfl) (fun _ _ _ h => h) (Or.inl ⟨by kernel_rfl, ?_⟩) hHeld ?_
                rotate_left
                · intro w hSw
                  obtain ⟨hSw0, hSw1, hSw2, hSw3⟩ := hSw
                  go_simp
                  try with_reducible rfl
                simp only [List.set_cons_zero, List.set_cons_succ]
                refine rgTake (i := 8) (v := ?_) rfl rfl (by kernel_rfl) (by kernel_rfl) (by kernel_rfl) (fun _ _ _ h => h) (Or.inl ⟨by kernel_rfl, ?_⟩) hHeld ?_
                rotate_left
                · intro w hSw
                  obtain ⟨hSw0, hSw1, hSw2, hSw3⟩ := hSw
                  go_simp
                  try with_reducible rfl
                simp only [List.set_cons_zero, List.set_cons_succ]
                refine rgTake (i := 9) (v := ?_) rfl rfl (by kernel_rfl) (by kernel_rfl) (by kernel_rfl) (fun _ _ _ h => h) (Or.inl ⟨by kernel_rfl, ?_⟩) hHeld ?_
                rotate_left
                · intro w hSw
                  obtain ⟨hSw0, hSw1, hSw2, hSw3⟩ := hSw
                  go_simp
                  try with_reducible rfl
                simp only [List.set_cons_zero, List.set_cons_succ]
                refine rgTake (i := 10) (v := ?_) rfl rfl (by kernel_rfl) (by kernel_rfl) (by kernel_rfl) (fun _ _ _ h => h) (Or.inl ⟨by kernel_rfl, ?_⟩) hHeld ?_
                rotate_left
                · intro w hSw
                  obtain ⟨hSw0, hSw1, hSw2, hSw3⟩ := hSw
                  go_simp
                  try with_reducible rfl
                simp only [List.set_cons_zero, List.set_cons_succ]
                refine rgTake (i := 11) (v := ?_) rfl rfl (by kernel_rfl) (by kernel_rfl) (by kernel_rfl) (fun _ _ _ h => h) (Or.inl ⟨by kernel_rfl, ?_⟩) hHeld ?_
                rotate_left
                · intro w hSw
                  obtain ⟨hSw0, hSw1, hSw2, hSw3⟩ := hSw
                  go_simp
                  try with_reducible rfl
                simp only [List.set_cons_zero, List.set_cons_succ]
                refine rgTake (i := 12) (v := ?_) rfl rfl (by kernel_rfl) (by kernel_rfl) (by kernel_rfl) (fun _ _ _ h => h) (Or.inl ⟨by kernel_rfl, ?_⟩) hHeld ?_
                rotate_left
                · intro w hSw
                  obtain ⟨hSw0, hSw1, hSw2, hSw3⟩ := hSw
                  go_simp
                  try with_reducible rfl
                simp only [List.set_cons_zero, List.set_cons_succ]
                refine rgTake (i := 13) (v := ?_) rfl rfl (by kernel_rfl) (by kernel_rfl) (by kernel_rfl) (fun _ _ _ h => h) (Or.inl ⟨by kernel_rfl, ?_⟩) hHeld ?_
                rotate_left
                · intro w hSw
                  obtain ⟨hSw0, hSw1, hSw2, hSw3⟩ := hSw
                  go_simp
                  try with_reducible rfl
                simp only [List.set_cons_zero, List.set_cons_succ]
                refine rgTake (i := 14) (v := ?_) rfl rfl (by kernel_rfl) (by kernel_rfl) (by kernel_rfl) (fun _ _ _ h => h) (Or.inl ⟨by kernel_rfl, ?_⟩) hHeld ?_
                rotate_left
                · intro w hSw
                  obtain ⟨hSw0, hSw1, hSw2, hSw3⟩ := hSw
                  go_simp
                  try with_reducible rfl
                simp only [List.set_cons_zero, List.set_cons_succ]
                refine rgTake (i := 15) (v := ?_) rfl rfl (by kernel_rfl) (by kernel_rfl) (by kernel_rfl) (fun _ _ _ h => h) (Or.inl ⟨by kernel_rfl, ?_⟩) hHeld ?_
                rotate_left
                · intro w hSw
                  obtain ⟨hSw0, hSw1, hSw2, hSw3⟩ := hSw
                  go_simp
                  try with_reducible rfl
                simp only [List.set_cons_zero, List.set_cons_succ]
                refine rgTake (i := 16) (v := ?_) rfl rfl (by kernel_rfl) (by kernel_rfl) (by kernel_rfl) (fun _ _ _ h => h) (Or.inl ⟨by kernel_rfl, ?_⟩) hHeld ?_
                rotate_left
                · intro w hSw
                  obtain ⟨hSw0, hSw1, hSw2, hSw3⟩ := hSw
                  go_simp
                  try with_reducible rfl
                simp only [List.set_cons_zero, List.set_cons_succ]
                refine rgTake (i := 17) (v := ?_) rfl rfl (by kernel_rfl) (by kernel_rfl) (by kernel_rfl) (fun _ _ _ h => h) (Or.inl ⟨by kernel_rfl, ?_⟩) hHeld ?_
                rotate_left
                · intro w hSw
                  obtain ⟨hSw0, hSw1, hSw2, hSw3⟩ := hSw
                  go_simp
                  try with_reducible rfl
                simp only [List.set_cons_zero, List.set_cons_succ]
                refine rgTake (i := 18) (v := ?_) rfl rfl (by kernel_rfl) (by kernel_rfl) (by kernel_rfl) (fun _ _ _ h => h) (Or.inl ⟨by kernel_rfl, ?_⟩) hHeld ?_
                rotate_left
                · intro w hSw
                  obtain ⟨hSw0, hSw1, hSw2, hSw3⟩ := hSw
                  go_simp
                  try with_reducible rfl
                simp only [List.set_cons_zero, List.set_cons_succ]
                refine rgTake (i := 19) (v := ?_) rfl rfl (by kernel_rfl) (by kernel_rfl) (by kernel_rfl) (fun _ _ _ h => h) (Or.inl ⟨by kernel_rfl, ?_⟩) hHeld ?_
                rotate_left
                · intro w hSw
                  obtain ⟨hSw0, hSw1, hSw2, hSw3⟩ := hSw
                  go_simp
                  try with_reducible rfl
                simp only [List.set_cons_zero, List.set_cons_succ]
                refine rgTake (i := 20) (v := ?_) rfl rfl (by kernel_rfl) (by kernel_rfl) (by kernel_rfl) (fun _ _ _ h => h) (Or.inl ⟨by kernel_rfl, ?_⟩) hHeld ?_
                rotate_left
                · intro w hSw
                  obtain ⟨hSw0, hSw1, hSw2, hSw3⟩ := hSw
                  go_simp
                  try with_reducible rfl
                simp only [List.set_cons_zero, List.set_cons_succ]
                refine rgTake (i := 21) (v := ?_) rfl rfl (by kernel_rfl) (by kernel_rfl) (by kernel_rfl) (fun _ _ _ h => h) (Or.inl ⟨by kernel_rfl, ?_⟩) hHeld ?_
                rotate_left
                · intro w hSw
                  obtain ⟨hSw0, hSw1, hSw2, hSw3⟩ := hSw
                  go_simp
                  try with_reducible rfl
                simp only [List.set_cons_zero, List.set_cons_succ]
                refine rgTake (i := 22) (v := ?_) rfl rfl (by kernel_rfl) (by kernel_rfl) (by kernel_rfl) (fun _ _ _ h => h) (Or.inl ⟨by kernel_rfl, ?_⟩) hHeld ?_
                rotate_left
                · intro w hSw
                  obtain ⟨hSw0, hSw1, hSw2, hSw3⟩ := hSw
                  go_simp
                  try with_reducible rfl
                simp only [List.set_cons_zero, List.set_cons_succ]
                refine rgTake (i := 23) (v := ?_) rfl rfl (by kernel_rfl) (by kernel_rfl) (by kernel_rfl) (fun _ _ _ h => h) (Or.inl ⟨by kernel_rfl, ?_⟩) hHeld ?_
                rotate_left
                · intro w hSw
                  obtain ⟨hSw0, hSw1, hSw2, hSw3⟩ := hSw
                  go_simp
                  try with_reducible rfl
                simp only [List.set_cons_zero, List.set_cons_succ]
                refine rgTake (i := 24) (v := ?_) rfl rfl (by kernel_rfl) (by kernel_rfl) (by kernel_rfl) (fun _ _ _ h => h) (Or.inl ⟨by kernel_rfl, ?_⟩) hHeld ?_
                rotate_left
                · intro w hSw
                  obtain ⟨hSw0, hSw1, hSw2, hSw3⟩ := hSw
                  go_simp
                  try with_reducible rfl
                simp only [List.set_cons_zero, List.set_cons_succ]
                refine rgTake (i := 25) (v := ?_) rfl rfl (by kernel_rfl) (by kernel_rfl) (by kernel_rfl) (fun _ _ _ h => h) (Or.inl ⟨by kernel_rfl, ?_⟩) hHeld ?_
                rotate_left
                · intro w hSw
                  obtain ⟨hSw0, hSw1, hSw2, hSw3⟩ := hSw
                  go_simp
                  try with_reducible rfl
                simp only [List.set_cons_zero, List.set_cons_succ]
                refine rgTake (i := 26) (v := ?_) rfl rfl (by kernel_rfl) (by kernel_rfl) (by kernel_rfl) (fun _ _ _ h => h) (Or.inl ⟨by kernel_rfl, ?_⟩) hHeld ?_
                rotate_left
                · intro w hSw
                  obtain ⟨hSw0, hSw1, hSw2, hSw3⟩ := hSw
                  go_simp
                  try with_reducible rfl
                simp only [List.set_cons_zero, List.set_cons_succ]
                refine rgTake (i := 27) (v := ?_) rfl rfl (by kernel_rfl) (by kernel_rfl) (by kernel_rfl) (fun _ _ _ h => h) (Or.inl ⟨by kernel_rfl, ?_⟩) hHeld ?_
                rotate_left
                · intro w hSw
                  obtain ⟨hSw0, hSw1, hSw2, hSw3⟩ := hSw
                  go_simp
                  try with_reducible rfl
                simp only [List.set_cons_zero, List.set_cons_succ]
                refine rgTake (i := 28) (v := ?_) rfl rfl (by kernel_rfl) (by kernel_rfl) (by kernel_rfl) (fun _ _ _ h => h) (Or.inl ⟨by kernel_rfl, ?_⟩) hHeld ?_
                rotate_left
                · intro w hSw
                  obtain ⟨hSw0, hSw1, hSw2, hSw3⟩ := hSw
                  go_simp
                  try with_reducible rfl
                simp only [List.set_cons_zero, List.set_cons_succ]
                refine rgTake (i := 29) (v := ?_) rfl rfl (by kernel_rfl) (by kernel_rfl) (by kernel_rfl) (fun _ _ _ h => h) (Or.inl ⟨by kernel_rfl, ?_⟩) hHeld ?_
                rotate_left
                · intro w hSw
                  obtain ⟨hSw0, hSw1, hSw2, hSw3⟩ := hSw
                  go_simp
                  try with_reducible rfl
                simp only [List.set_cons_zero, List.set_cons_succ]
                refine rgTake (i := 30) (v := ?_) rfl rfl (by kernel_rfl) (by kernel_rfl) (by kernel_rfl) (fun _ _ _ h => h) (Or.inl ⟨by kernel_rfl, ?_⟩) hHeld ?_
                rotate_left
                · intro w hSw
                  obtain ⟨hSw0, hSw1, hSw2, hSw3⟩ := hSw
                  go_simp
                  try with_reducible rfl
                simp only [List.set_cons_zero, List.set_cons_succ]
                refine rgTake (i := 31) (v := ?_) rfl rfl (by kernel_rfl) (by kernel_rfl) (by kernel_rfl) (fun _ _ _ h => h) (Or.inl ⟨by kernel_rfl, ?_⟩) hHeld ?_
                rotate_left
                · intro w hSw
                  obtain ⟨hSw0, hSw1, hSw2, hSw3⟩ := hSw
                  go_simp
                  try with_reducible rfl
                simp only [List.set_cons_zero, List.set_cons_succ]
                refine rgTake (i := 32) (v := ?_) rfl rfl (by kernel_rfl) (by kernel_rfl) (by kernel_rfl) (fun _ _ _ h => h) (Or.inl ⟨by kernel_rfl, ?_⟩) hHeld ?_
                rotate_left
                · intro w hSw
                  obtain ⟨hSw0, hSw1, hSw2, hSw3⟩ := hSw
                  go_simp
                  try with_reducible rfl
                simp only [List.set_cons_zero, List.set_cons_succ]
                refine rgTake (i := 33) (v := ?_) rfl rfl (by kernel_rfl) (by kernel_rfl) (by kernel_rfl) (fun _ _ _ h => h) (Or.inl ⟨by kernel_rfl, ?_⟩) hHeld ?_
                rotate_left
                · intro w hSw
                  obtain ⟨hSw0, hSw1, hSw2, hSw3⟩ := hSw
                  go_simp
                  try with_reducible rfl
                simp only [List.set_cons_zero, List.set_cons_succ]
                refine rgTake (i := 34) (v := ?_) rfl rfl (by kernel_rfl) (by kernel_rfl) (by kernel_rfl) (fun _ _ _ h => h) (Or.inl ⟨by kernel_rfl, ?_⟩) hHeld ?_
                rotate_left
                · intro w hSw
                  obtain ⟨hSw0, hSw1, hSw2, hSw3⟩ := hSw
                  go_simp
                  try with_reducible rfl
                simp only [List.set_cons_zero, List.set_cons_succ]
                refine rgTake (i := 35) (v := ?_) rfl rfl (by kernel_rfl) (by kernel_rfl) (by kernel_rfl) (fun _ _ _ h => h) (Or.inl ⟨by kernel_rfl, ?_⟩) hHeld ?_
                rotate_left
                · intro w hSw
                  obtain ⟨hSw0, hSw1, hSw2, hSw3⟩ := hSw
                  go_simp
                  try with_reducible rfl
                simp only [List.set_cons_zero, List.set_cons_succ]
                refine rgTake (i := 36) (v := ?_) rfl rfl (by kernel_rfl) (by kernel_rfl) (by kernel_rfl) (fun _ _ _ h => h) (Or.inl ⟨by kernel_rfl, ?_⟩) hHeld ?_
                rotate_left
                · intro w hSw
                  obtain ⟨hSw0, hSw1, hSw2, hSw3⟩ := hSw
                  go_simp
                  try with_reducible rfl
                simp only [List.set_cons_zero, List.set_cons_succ]
                refine rgTake (i := 37) (v := ?_) rfl rfl (by kernel_rfl) (by kernel_rfl) (by kernel_rfl) (fun _ _ _ h => h) (Or.inl ⟨by kernel_rfl, ?_⟩) hHeld ?_
                rotate_left
                · intro w hSw
                  obtain ⟨hSw0, hSw1, hSw2, hSw3⟩ := hSw
                  go_simp
                  try with_reducible rfl
                simp only [List.set_cons_zero, List.set_cons_succ]
                refine rgTake (i := 38) (v := ?_) rfl rfl (by kernel_rfl) (by kernel_rfl) (by kernel_rfl) (fun _ _ _ h => h) (Or.inl ⟨by kernel_rfl, ?_⟩) hHeld ?_
                rotate_left
                · intro w hSw
                  obtain ⟨hSw0, hSw1, hSw2, hSw3⟩ := hSw
                  go_simp
                  try with_reducible rfl
                simp only [List.set_cons_zero, List.set_cons_succ]
                refine rgTake (i := 39) (v := ?_) rfl rfl (by kernel_rfl) (by kernel_rfl) (by kernel_rfl) (fun _ _ _ h => h) (Or.inl ⟨by kernel_rfl, ?_⟩) hHeld ?_
                rotate_left
                · intro w hSw
                  obtain ⟨hSw0, hSw1, hSw2, hSw3⟩ := hSw
                  go_simp
                  try with_reducible rfl
                simp only [List.set_cons_zero, List.set_cons_succ]
                refine rgTake (i := 40) (v := ?_) rfl rfl (by kernel_rfl) (by kernel_rfl) (by kernel_rfl) (fun _ _ _ h => h) (Or.inl ⟨by kernel_rfl, ?_⟩) hHeld ?_
                rotate_left
                · intro w hSw
                  obtain ⟨hSw0, hSw1, hSw2, hSw3⟩ := hSw
                  go_simp
                  try with_reducible rfl
                simp only [List.set_cons_zero, List.set_cons_succ]
                refine wpAnyH_done (by kernel_rfl) ?_ _
                have kw := kd.trans (hb1.mono kd.size)
                clear hb1
                go_wp2
                go_ret
                exact ⟨rfl, kw⟩
              · have Hp := Lib.hid (show sufD X 0 = sufD X (m + 1 + 1) by rw [hp.out, HSD.out, hless, Bool.true_and])
                clear HSD hp
                go_wp2_with fail
                refine wp_region_held_drew (S := fun w' => w'.cell? ⟨b, o + (m + 1) * 3, none⟩ = some (.string x1) ∧ w'.cell? ⟨b, o + (m + 1) * 3 + 1, none⟩ = some (.int .u64 x2) ∧ w'.cell? ⟨b, o + (m + 1) * 3 + 2, none⟩ = some (.int .i64 x3) ∧ w'.cell? ⟨b, o + m * 3, none⟩ = some (.string y1)) (by kernel_rfl) ⟨c0, c1, c2, q0⟩ (fun hHeld => ?_)
                refine rgTake (i := 0) (v := ?_) rfl rfl (by kernel_rfl) (by kernel_rfl) (by kernel_rfl) (fun _ _ _ h => h) (Or.inl ⟨by kernel_rfl, ?_⟩) hHeld ?_
                rotate_left
                · intro w hSw
                  obtain ⟨hSw0, hSw1, hSw2, hSw3⟩ := hSw
                  go_simp
                  try with_reducible rfl
                simp only [List.set_cons_zero, List.set_cons_succ]
                refine rgTake (i := 1) (v := ?_) rfl rfl (by kernel_rfl) (by kernel_rfl) (by kernel_rfl) (fun _ _ _ h => h) (Or.inl ⟨by kernel_rfl, ?_⟩) hHeld ?_
                rotate_left
                · intro w hSw
                  obtain ⟨hSw0, hSw1, hSw2, hSw3⟩ := hSw
                  go_simp
                  try with_reducible rfl
                simp only [List.set_cons_zero, List.set_cons_succ]
                refine rgTake (i := 2) (v := ?_) rfl rfl (by kernel_rfl) (by kernel_rfl) (by kernel_rfl) (fun _ _ _ h => h) (Or.inl ⟨by kernel_rfl, ?_⟩) hHeld ?_
                rotate_left
                · intro w hSw
                  obtain ⟨hSw0, hSw1, hSw2, hSw3⟩ := hSw
                  go_simp
                  try with_reducible rfl
                simp only [List.set_cons_zero, List.set_cons_succ]
                refine rgTake (i := 3) (v := ?_) rfl rfl (by kernel_rfl) (by kernel_rfl) (by kernel_rfl) (fun _ _ _ h => h) (Or.inl ⟨by kernel_rfl, ?_⟩) hHeld ?_
                rotate_left
                · intro w hSw
                  obtain ⟨hSw0, hSw1, hSw2, hSw3⟩ := hSw
                  go_simp
                  try with_reducible rfl
                simp only [List.set_cons_zero, List.set_cons_succ]
                refine rgTake (i := 4) (v := ?_) rfl rfl (by kernel_rfl) (by kernel_rfl) (by kernel_rfl) (fun _ _ _ h => h) (Or.inl ⟨by kernel_rfl, ?_⟩) hHeld ?_
                rotate_left
                · intro w hSw
                  obtain ⟨hSw0, hSw1, hSw2, hSw3⟩ := hSw
                  go_simp
                  try with_reducible rfl
                simp only [List.set_cons_zero, List.set_cons_succ]
                refine wpAnyH_ready (rs := [5]) (by kernel_rfl) (by simp) ?_
                refine AllReadyH.cons rfl (fun KK hK => ?_) AllReadyH.nil
                go_simp
                refine (F.out _).mono ?_
                rintro e w6 ⟨rfl, hb1⟩
                show KK _ w6
                refine hK.out _ _ ⟨(hb1.cell (p := ⟨b, o + (m + 1) * 3, none⟩) hbz').trans c0, (hb1.cell (p := ⟨b, o + (m + 1) * 3 + 1, none⟩) hbz').trans c1, (hb1.cell (p := ⟨b, o + (m + 1) * 3 + 2, none⟩) hbz').trans c2, (hb1.cell (p := ⟨b, o + m * 3, none⟩) hbz').trans q0⟩ (fun hHeld => ?_)
                clear hK KK
                try simp only [Act.put, List.setIfInBounds_toArray, List.set_cons_zero, List.set_cons_succ]
                refine rgTake (i := 6) (v := ?_) rfl rfl (by kernel_rfl) (by kernel_rfl) (by kernel_rfl) (fun _ _ _ h => h) (Or.inl ⟨by kernel_rfl, ?_⟩) hHeld ?_
                rotate_left
                · intro w hSw
                  obtain ⟨hSw0, hSw1, hSw2, hSw3⟩ := hSw
                  go_simp
                  try with_reducible rfl
                simp only [List.set_cons_zero, List.set_cons_succ]
                refine rgTake (i := 7) (v := ?_) rfl rfl (by kernel_rfl) (by kernel_rfl) (by kernel_rfl) (fun _ _ _ h => h) (Or.inl ⟨by kernel_rfl, ?_⟩) hHeld ?_
                rotate_left
                · intro w hSw
                  obtain ⟨hSw0, hSw1, hSw2, hSw3⟩ := hSw
                  go_simp
                  try with_reducible rfl
                simp only [List.set_cons_zero, List.set_cons_succ]
                refine rgTake (i := 8) (v := ?_) rfl rfl (by kernel_rfl) (by kernel_rfl) (by kernel_rfl) (fun _ _ _ h => h) (Or.inl ⟨by kernel_rfl, ?_⟩) hHeld ?_
                rotate_left
                · intro w hSw
                  obtain ⟨hSw0, hSw1, hSw2, hSw3⟩ := hSw
                  go_simp
                  try with_reducible rfl
                simp only [List.set_cons_zero, List.set_cons_succ]
                refine rgTake (i := 9) (v := ?_) rfl rfl (by kernel_rfl) (by kernel_rfl) (by kernel_rfl) (fun _ _ _ h => h) (Or.inl ⟨by kernel_rfl, ?_⟩) hHeld ?_
                rotate_left
                · intro w hSw
                  obtain ⟨hSw0, hSw1, hSw2, hSw3⟩ := hSw
                  go_simp
                  try with_reducible rfl
                simp only [List.set_cons_zero, List.set_cons_succ]
                refine rgTake (i := 10) (v := ?_) rfl rfl (by kernel_rfl) (by kernel_rfl) (by kernel_rfl) (fun _ _ _ h => h) (Or.inl ⟨by kernel_rfl, ?_⟩) hHeld ?_
                rotate_left
                · intro w hSw
                  obtain ⟨hSw0, hSw1, hSw2, hSw3⟩ := hSw
                  go_simp
                  try with_reducible rfl
                simp only [List.set_cons_zero, List.set_cons_succ]
                refine rgTake (i := 11) (v := ?_) rfl rfl (by kernel_rfl) (by kernel_rfl) (by kernel_rfl) (fun _ _ _ h => h) (Or.inl ⟨by kernel_rfl, ?_⟩) hHeld ?_
                rotate_left
                · intro w hSw
                  obtain ⟨hSw0, hSw1, hSw2, hSw3⟩ := hSw
                  go_simp
                  try with_reducible rfl
                simp only [List.set_cons_zero, List.set_cons_succ]
                refine rgTake (i := 12) (v := ?_) rfl rfl (by kernel_rfl) (by kernel_rfl) (by kernel_rfl) (fun _ _ _ h => h) (Or.inl ⟨by kernel_rfl, ?_⟩) hHeld ?_
                rotate_left
                · intro w hSw
                  obtain ⟨hSw0, hSw1, hSw2, hSw3⟩ := hSw
                  go_simp
                  try with_reducible rfl
                simp only [List.set_cons_zero, List.set_cons_succ]
                refine rgTake (i := 13) (v := ?_) rfl rfl (by kernel_rfl) (by kernel_rfl) (by kernel_rfl) (fun _ _ _ h => h) (Or.inl ⟨by kernel_rfl, ?_⟩) hHeld ?_
                rotate_left
                · intro w hSw
                  obtain ⟨hSw0, hSw1, hSw2, hSw3⟩ := hSw
                  go_simp
                  try with_reducible rfl
                simp only [List.set_cons_zero, List.set_cons_succ]
                refine rgTake (i := 14) (v := ?_) rfl rfl (by kernel_rfl) (by kernel_rfl) (by kernel_rfl) (fun _ _ _ h => h) (Or.inl ⟨by kernel_rfl, ?_⟩) hHeld ?_
                rotate_left
                · intro w hSw
                  obtain ⟨hSw0, hSw1, hSw2, hSw3⟩ := hSw
                  go_simp
                  try with_reducible rfl
                simp only [List.set_cons_zero, List.set_cons_succ]
                refine rgTake (i := 15) (v := ?_) rfl rfl (by kernel_rfl) (by kernel_rfl) (by kernel_rfl) (fun _ _ _ h => h) (Or.inl ⟨by kernel_rfl, ?_⟩) hHeld ?_
                rotate_left
                · intro w hSw
                  obtain ⟨hSw0, hSw1, hSw2, hSw3⟩ := hSw
                  go_simp
                  try with_reducible rfl
                simp only [List.set_cons_zero, List.set_cons_succ]
                refine rgTake (i := 16) (v := ?_) rfl rfl (by kernel_rfl) (by kernel_rfl) (by kernel_rfl) (fun _ _ _ h => h) (Or.inl ⟨by kernel_rfl, ?_⟩) hHeld ?_
                rotate_left
                · intro w hSw
                  obtain ⟨hSw0, hSw1, hSw2, hSw3⟩ := hSw
                  go_simp
                  try with_reducible rfl
                simp only [List.set_cons_zero, List.set_cons_succ]
                refine rgTake (i := 17) (v := ?_) rfl rfl (by kernel_rfl) (by kernel_rfl) (by kernel_rfl) (fun _ _ _ h => h) (Or.inl ⟨by kernel_rfl, ?_⟩) hHeld ?_
                rotate_left
                · intro w hSw
                  obtain ⟨hSw0, hSw1, hSw2, hSw3⟩ := hSw
                  go_simp
                  try with_reducible rfl
                simp only [List.set_cons_zero, List.set_cons_succ]
                refine rgTake (i := 18) (v := ?_) rfl rfl (by kernel_rfl) (by kernel_rfl) (by kernel_rfl) (fun _ _ _ h => h) (Or.inl ⟨by kernel_rfl, ?_⟩) hHeld ?_
                rotate_left
                · intro w hSw
                  obtain ⟨hSw0, hSw1, hSw2, hSw3⟩ := hSw
                  go_simp
                  try with_reducible rfl
                simp only [List.set_cons_zero, List.set_cons_succ]
                refine rgTake (i := 19) (v := ?_) rfl rfl (by kernel_rfl) (by kernel_rfl) (by kernel_rfl) (fun _ _ _ h => h) (Or.inl ⟨by kernel_rfl, ?_⟩) hHeld ?_
                rotate_left
                · intro w hSw
                  obtain ⟨hSw0, hSw1, hSw2, hSw3⟩ := hSw
                  go_simp
                  try with_reducible rfl
                simp only [List.set_cons_zero, List.set_cons_succ]
                refine rgTake (i := 20) (v := ?_) rfl rfl (by kernel_rfl) (by kernel_rfl) (by kernel_rfl) (fun _ _ _ h => h) (Or.inl ⟨by kernel_rfl, ?_⟩) hHeld ?_
                rotate_left
                · intro w hSw
                  obtain ⟨hSw0, hSw1, hSw2, hSw3⟩ := hSw
                  go_simp
                  try with_reducible rfl
                simp only [List.set_cons_zero, List.set_cons_succ]
                refine rgTake (i := 21) (v := ?_) rfl rfl (by kernel_rfl) (by kernel_rfl) (by kernel_rfl) (fun _ _ _ h => h) (Or.inl ⟨by kernel_rfl, ?_⟩) hHeld ?_
                rotate_left
                · intro w hSw
                  obtain ⟨hSw0, hSw1, hSw2, hSw3⟩ := hSw
                  go_simp
                  try with_reducible rfl
                simp only [List.set_cons_zero, List.set_cons_succ]
                refine rgTake (i := 22) (v := ?_) rfl rfl (by kernel_rfl) (by kernel_rfl) (by kernel_rfl) (fun _ _ _ h => h) (Or.inl ⟨by kernel_rfl, ?_⟩) hHeld ?_
                rotate_left
                · intro w hSw
                  obtain ⟨hSw0, hSw1, hSw2, hSw3⟩ := hSw
                  go_simp
                  try with_reducible rfl
                simp only [List.set_cons_zero, List.set_cons_succ]
                refine rgTake (i := 23) (v := ?_) rfl rfl (by kernel_rfl) (by kernel_rfl) (by kernel_rfl) (fun _ _ _ h => h) (Or.inl ⟨by kernel_rfl, ?_⟩) hHeld ?_
                rotate_left
                · intro w hSw
                  obtain ⟨hSw0, hSw1, hSw2, hSw3⟩ := hSw
                  go_simp
                  try with_reducible rfl
                simp only [List.set_cons_zero, List.set_cons_succ]
                refine rgTake (i := 24) (v := ?_) rfl rfl (by kernel_rfl) (by kernel_rfl) (by kernel_rfl) (fun _ _ _ h => h) (Or.inl ⟨by kernel_rfl, ?_⟩) hHeld ?_
                rotate_left
                · intro w hSw
                  obtain ⟨hSw0, hSw1, hSw2, hSw3⟩ := hSw
                  go_simp
                  try with_reducible rfl
                simp only [List.set_cons_zero, List.set_cons_succ]
                refine rgTake (i := 25) (v := ?_) rfl rfl (by kernel_rfl) (by kernel_rfl) (by kernel_rfl) (fun _ _ _ h => h) (Or.inl ⟨by kernel_rfl, ?_⟩) hHeld ?_
                rotate_left
                · intro w hSw
                  obtain ⟨hSw0, hSw1, hSw2, hSw3⟩ := hSw
                  go_simp
                  try with_reducible rfl
                simp only [List.set_cons_zero, List.set_cons_succ]
                refine rgTake (i := 26) (v := ?_) rfl rfl (by kernel_rfl) (by kernel_rfl) (by kernel_rfl) (fun _ _ _ h => h) (Or.inl ⟨by kernel_rfl, ?_⟩) hHeld ?_
                rotate_left
                · intro w hSw
                  obtain ⟨hSw0, hSw1, hSw2, hSw3⟩ := hSw
                  go_simp
                  try with_reducible rfl
                simp only [List.set_cons_zero, List.set_cons_succ]
                refine rgTake (i := 27) (v := ?_) rfl rfl (by kernel_rfl) (by kernel_rfl) (by kernel_rfl) (fun _ _ _ h => h) (Or.inl ⟨by kernel_rfl, ?_⟩) hHeld ?_
                rotate_left
                · intro w hSw
                  obtain ⟨hSw0, hSw1, hSw2, hSw3⟩ := hSw
                  go_simp
                  try with_reducible rfl
                simp only [List.set_cons_zero, List.set_cons_succ]
                refine rgTake (i := 28) (v := ?_) rfl rfl (by kernel_rfl) (by kernel_rfl) (by kernel_rfl) (fun _ _ _ h => h) (Or.inl ⟨by kernel_rfl, ?_⟩) hHeld ?_
                rotate_left
                · intro w hSw
                  obtain ⟨hSw0, hSw1, hSw2, hSw3⟩ := hSw
                  go_simp
                  try with_reducible rfl
                simp only [List.set_cons_zero, List.set_cons_succ]
                refine rgTake (i := 29) (v := ?_) rfl rfl (by kernel_rfl) (by kernel_rfl) (by kernel_rfl) (fun _ _ _ h => h) (Or.inl ⟨by kernel_rfl, ?_⟩) hHeld ?_
                rotate_left
                · intro w hSw
                  obtain ⟨hSw0, hSw1, hSw2, hSw3⟩ := hSw
                  go_simp
                  try with_reducible rfl
                simp only [List.set_cons_zero, List.set_cons_succ]
                refine rgTake (i := 30) (v := ?_) rfl rfl (by kernel_rfl) (by kernel_rfl) (by kernel_rfl) (fun _ _ _ h => h) (Or.inl ⟨by kernel_rfl, ?_⟩) hHeld ?_
                rotate_left
                · intro w hSw
                  obtain ⟨hSw0, hSw1, hSw2, hSw3⟩ := hSw
                  go_simp
                  try with_reducible rfl
                simp only [List.set_cons_zero, List.set_cons_succ]
                refine rgTake (i := 31) (v := ?_) rfl rfl (by kernel_rfl) (by kernel_rfl) (by kernel_rfl) (fun _ _ _ h => h) (Or.inl ⟨by kernel_rfl, ?_⟩) hHeld ?_
                rotate_left
                · intro w hSw
                  obtain ⟨hSw0, hSw1, hSw2, hSw3⟩ := hSw
                  go_simp
                  try with_reducible rfl
                simp only [List.set_cons_zero, List.set_cons_succ]
                refine rgTake (i := 32) (v := ?_) rfl rfl (by kernel_rfl) (by kernel_rfl) (by kernel_rfl) (fun _ _ _ h => h) (Or.inl ⟨by kernel_rfl, ?_⟩) hHeld ?_
                rotate_left
                · intro w hSw
                  obtain ⟨hSw0, hSw1, hSw2, hSw3⟩ := hSw
                  go_simp
                  try with_reducible rfl
                simp only [List.set_cons_zero, List.set_cons_succ]
                refine rgTake (i := 33) (v := ?_) rfl rfl (by kernel_rfl) (by kernel_rfl) (by kernel_rfl) (fun _ _ _ h => h) (Or.inl ⟨by kernel_rfl, ?_⟩) hHeld ?_
                rotate_left
                · intro w hSw
                  obtain ⟨hSw0, hSw1, hSw2, hSw3⟩ := hSw
                  go_simp
                  try with_reducible rfl
                simp only [List.set_cons_zero, List.set_cons_succ]
                refine rgTake (i := 34) (v := ?_) rfl rfl (by kernel_rfl) (by kernel_rfl) (by kernel_rfl) (fun _ _ _ h => h) (Or.inl ⟨by kernel_rfl, ?_⟩) hHeld ?_
                rotate_left
                · intro w hSw
                  obtain ⟨hSw0, hSw1, hSw2, hSw3⟩ := hSw
                  go_simp
                  try with_reducible rfl
                simp only [List.set_cons_zero, List.set_cons_succ]
                refine rgTake (i := 35) (v := ?_) rfl rfl (by kernel_rfl) (by kernel_rfl) (by kernel_rfl) (fun _ _ _ h => h) (Or.inl ⟨by kernel_rfl, ?_⟩) hHeld ?_
                rotate_left
                · intro w hSw
                  obtain ⟨hSw0, hSw1, hSw2, hSw3⟩ := hSw
                  go_simp
                  try with_reducible rfl
                simp only [List.set_cons_zero, List.set_cons_succ]
                refine rgTake (i := 36) (v := ?_) rfl rfl (by kernel_rfl) (by kernel_rfl) (by kernel_rfl) (fun _ _ _ h => h) (Or.inl ⟨by kernel_rfl, ?_⟩) hHeld ?_
                rotate_left
                · intro w hSw
                  obtain ⟨hSw0, hSw1, hSw2, hSw3⟩ := hSw
                  go_simp
                  try with_reducible rfl
                simp only [List.set_cons_zero, List.set_cons_succ]
                refine rgTake (i := 37) (v := ?_) rfl rfl (by kernel_rfl) (by kernel_rfl) (by kernel_rfl) (fun _ _ _ h => h) (Or.inl ⟨by kernel_rfl, ?_⟩) hHeld ?_
                rotate_left
                · intro w hSw
                  obtain ⟨hSw0, hSw1, hSw2, hSw3⟩ := hSw
                  go_simp
                  try with_reducible rfl
                simp only [List.set_cons_zero, List.set_cons_succ]
                refine rgTake (i := 38) (v := ?_) rfl rfl (by kernel_rfl) (by kernel_rfl) (by kernel_rfl) (fun _ _ _ h => h) (Or.inl ⟨by kernel_rfl, ?_⟩) hHeld ?_
                rotate_left
                · intro w hSw
                  obtain ⟨hSw0, hSw1, hSw2, hSw3⟩ := hSw
                  go_simp
                  try with_reducible rfl
                simp only [List.set_cons_zero, List.set_cons_succ]
                refine rgTake (i := 39) (v := ?_) rfl rfl (by kernel_rfl) (by kernel_rfl) (by kernel_rfl) (fun _ _ _ h => h) (Or.inl ⟨by kernel_rfl, ?_⟩) hHeld ?_
                rotate_left
                · intro w hSw
                  obtain ⟨hSw0, hSw1, hSw2, hSw3⟩ := hSw
                  go_simp
                  try with_reducible rfl
                simp only [List.set_cons_zero, List.set_cons_succ]
                refine rgTake (i := 40) (v := ?_) rfl rfl (by kernel_rfl) (by kernel_rfl) (by kernel_rfl) (fun _ _ _ h => h) (Or.inl ⟨by kernel_rfl, ?_⟩) hHeld ?_
                rotate_left
                · intro w hSw
                  obtain ⟨hSw0, hSw1, hSw2, hSw3⟩ := hSw
                  go_simp
                  try with_reducible rfl
                simp only [List.set_cons_zero, List.set_cons_succ]
                refine wpAnyH_done (by kernel_rfl) ?_ _
                have kw := kd.trans (hb1.mono kd.size)
                clear hb1
                go_wp2
                go_roundw
                case rel => exact ⟨m + 1 + 1, by go_num, by omega, Hp, kw⟩
                case measure => simp [intOf]; omega
    · have hge : (X.length : Int) ≤ k := by omega
      obtain rfl : k = X.length := by omega
      have hv : V = decide (X.length ≤ 50) := by rw [HV.out, hp.out, sufD_end, Bool.and_true]
      clear HR HO hp HV
      by_cases h : X.length ≤ 50
      · have hi : (X.length : Int) ≤ 50 := by omega
        obtain rfl : V = true := by rw [hv]; simpa using h
        clear hv
        go_wp2
        go_ret
        exact ⟨rfl, kk⟩
      · have hi : ¬ (X.length : Int) ≤ 50 := by omega
        obtain rfl : V = false := by rw [hv]; simpa using h
        clear hv
        go_wp2
        go_ret
        exact ⟨rfl, kk⟩
end Go.Proofs.Ytflfbkoelhheoaa.Dd
