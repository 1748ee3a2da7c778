/- Layer 11: the contract of Check. -/
import Derived.Test.YtgipohicgbppaaaWhF
namespace Go.Proofs.Ytgipohicgbppaaa
open Go.RowKit Go.Shelf
def timeB (a : Int) : Bool := decide (0 ≤ a) && decide (a ≤ 1099511627775)
/-- The Ids of the first ones, each once. -/
def idsL (X : List Tm) : List Int := X.foldl (fun K x => addK K x.2) []
theorem idsL_snoc (X : List Tm) (x : Tm) : idsL (X ++ [x]) = addK (idsL X) x.2 := by unfold idsL; rw [List.foldl_append]; rfl
theorem addK_len (K : List Int) (k : Int) : (addK K k).length ≤ K.length + 1 := by unfold addK; split <;> simp
theorem idsL_len : ∀ (X : List Tm) (K : List Int), (X.foldl (fun K x => addK K x.2) K).length ≤ K.length + X.length
  | [], K => Nat.le_refl _
  | x :: X, K => by
    have := idsL_len X (addK K x.2)
    have h2 := addK_len K x.2
    simp only [List.foldl_cons, List.length_cons]
    omega
/-- May timers be? -/
def mayT (X : List Tm) : Bool := decide (X.length ≤ 120) && risesL X && X.all (fun x => timeB x.1) && decide ((idsL X).length = X.length)
theorem mapU_len (w : World) (M : Nat) (K : List Int) (hM : MapU w M K) : ∃ es clock, w.heap[M]? = some (.map es clock) ∧ es.size = K.length := by
  obtain ⟨es, clock, h1, h2⟩ := hM.out
  refine ⟨es, clock, h1, ?_⟩
  have := congrArg List.length h2
  simpa using this
theorem mapLen_run (w : World) (M : Nat) (es : Array MapEntry) (clock : Nat) (h : w.heap[M]? = some (.map es clock)) :
    (Builtin.len_ #[63] 3 #[.map (some M)]).run Try.prog w = .ok (.int .i64 es.size) w := by
  simp [Builtin.len_, run_underlying Try.underlying63, getObj, h, Sem.run, goInt]
set_option maxHeartbeats 1000000 in
theorem check_any (X : List Tm) (pa : Option Addr) (cap : Nat) (w : World) (hX : X.length ≤ 130) (hR : Rd w pa X) :
    Calls Try.prog 15 #[.slice pa X.length cap] w fun e w' => e = .returned (.int .i64 (if mayT X then 0 else 1)) ∧ Below w.heap.size w w' := by
  have hXi : (X.length : Int) ≤ 130 := by omega
  have C := Lib.hid (fun w hR => inOrder_any X pa cap w hX hR)
  have T := Lib.hid isTime_any
  have HR := Lib.hid hR
  by_cases h120 : X.length ≤ 120
  · have h120' : (X.length : Int) ≤ 120 := by omega
    have h120n : decide ((120 : Int) < X.length) = false := by simp; omega
    cases hr : risesL X
    · have hm : mayT X = false := by unfold mayT; rw [hr]; simp
      rw [hm]
      have C2 := Lib.hid (C.out w hR)
      rw [hr] at C2
      clear hr hm C hR
      go_enter Try.func15, Try.ntmps15
      go_wp2_with fail
      refine C2.out.mono ?_
      rintro e w1 ⟨rfl, hb1⟩
      go_wp2
      go_ret
      exact ⟨rfl, hb1⟩
    · have C2 := Lib.hid (C.out w hR)
      rw [hr] at C2
      have hm : mayT X = (X.all (fun x => timeB x.1) && decide ((idsL X).length = X.length)) := by unfold mayT; rw [hr]; simp [h120]
      obtain ⟨V, hV⟩ : ∃ V : Int, V = if mayT X then 0 else 1 := ⟨_, rfl⟩
      rw [← hV]
      rw [hm] at hV
      have HV := Lib.hid hV
      clear hr hm C hR hV
      have hmk : ∀ W : World, (Instr.makeMap 63 none).run Try.prog W = .ok (.map (some W.heap.size)) (W.alloc (.map #[] 0)) := fun W => by
        simp [Instr.makeMap]
      go_enter Try.func15, Try.ntmps15
      go_wp2_with fail
      refine C2.out.mono ?_
      rintro e w1 ⟨rfl, hb1⟩
      go_wp2_with fail
      have M0 : MapU (w1.alloc (.map #[] 0)) w1.heap.size [] := ⟨#[], 0, by show (w1.heap.push _)[w1.heap.size]? = _; simp, rfl⟩
      have k0 := hb1.alloc hb1.size (.map #[] 0)
      have hMz := hb1.size
      clear hb1
      go_loopw [17] (fun i wx => ∃ k : Nat, i = .int .i64 k ∧ k ≤ X.length ∧ MapU wx w1.heap.size (idsL (X.take k)) ∧ (X.take k).all (fun x => timeB x.1) = true ∧ Below w.heap.size w wx) (fun i _ => X.length - (intOf i).toNat)
      case atStart => exact ⟨0, rfl, Nat.zero_le _, M0, rfl, k0⟩
      case round =>
        clear M0 k0
        obtain ⟨k, rfl, hk, hM, hall, kk⟩ := hrel
        by_cases hlt : k < X.length
        · have hlt' : (k : Int) < X.length := by omega
          obtain ⟨b, o, rfl, hbz, c0, c1⟩ := (HR.out.lift kk).at k hlt
          have htk : X.take (k + 1) = X.take k ++ [X[k]] := List.take_succ_eq_append_getElem hlt
          have hids : idsL (X.take (k + 1)) = addK (idsL (X.take k)) X[k].2 := by rw [htk, idsL_snoc]
          have hall2 : (X.take (k + 1)).all (fun x => timeB x.1) = timeB X[k].1 := by rw [htk, List.all_append, hall]; simp
          have hbad : timeB X[k].1 = false → X.all (fun x => timeB x.1) = false := fun h => by
            rw [List.all_eq_false]
            exact ⟨X[k], List.getElem_mem hlt, by rw [h]; simp⟩
          have hMlt := hM.lt
          generalize X[k] = x at *
          obtain ⟨x1, x2⟩ := x
          simp only at c0 c1 hids hall2 hbad
          have hM2 : MapU (wr.alloc (.cells #[.int .i64 x1, .int .u64 x2] 38)) w1.heap.size (idsL (X.take k)) := hM.keep (Below.heap_alloc _ _ _ hMlt)
          obtain ⟨es, clock, hup, hM3⟩ := update_u x2 _ _ _ hM2
          rw [← hids] at hM3
          have kw : Below w.heap.size w (setMap (wr.alloc (.cells #[.int .i64 x1, .int .u64 x2] 38)) w1.heap.size es clock) :=
            (kk.alloc kk.size _).trans ((setMap_below _ _ _ _).mono hMz)
          have d0 : (setMap (wr.alloc (.cells #[.int .i64 x1, .int .u64 x2] 38)) w1.heap.size es clock).cell? ⟨wr.heap.size, 0, none⟩ = some (.int .i64 x1) := by
            rw [World.cell?_of_block (w := wr.alloc (.cells #[.int .i64 x1, .int .u64 x2] 38)) (setMap_block _ _ _ _ _ (by show wr.heap.size ≠ w1.heap.size; omega))]; simp [go_sem]
          generalize setMap (wr.alloc (.cells #[.int .i64 x1, .int .u64 x2] 38)) w1.heap.size es clock = W3 at *
          have TT := Lib.hid (fun w => T.out x1 w)
          have hT : (decide (0 ≤ x1) && decide (x1 ≤ 1099511627775)) = timeB x1 := rfl
          rw [hT] at TT
          clear hT hids htk hM hM2 hMlt
          cases ht : timeB x1
          · have hv : V = 1 := by rw [HV.out, hbad ht]; rfl
            subst hv
            rw [ht] at TT
            clear hall hall2 hbad ht
            go_wp2_with fail
            refine (TT.out _).mono ?_
            rintro e w4 ⟨rfl, rfl⟩
            go_wp2
            go_ret
            exact ⟨rfl, kw⟩
          · have Hall := Lib.hid (show (X.take (k + 1)).all (fun x => timeB x.1) = true by rw [hall2, ht])
            rw [ht] at TT
            clear hall hall2 hbad ht
            go_wp2_with fail
            refine (TT.out _).mono ?_
            rintro e w4 ⟨rfl, rfl⟩
            go_wp2
            go_roundw
            case rel => exact ⟨k + 1, by go_num, by omega, hM3, Hall.out, kw⟩
            case measure => simp [intOf]; omega
        · have hge : (X.length : Int) ≤ k := by omega
          rw [List.take_of_length_le (by omega)] at hM hall
          obtain ⟨es, clock, hes, hsz⟩ := mapU_len _ _ _ hM
          have hle := idsL_len X []
          have hle2 : (idsL X).length ≤ X.length := by simpa [idsL] using hle
          have hvv : V = if (idsL X).length = X.length then 0 else 1 := by rw [HV.out, hall]; simp
          generalize (idsL X).length = q at *
          have Hsz := Lib.hid hsz
          have hlen := mapLen_run _ _ _ _ hes
          have hes2 : (es.size : Int) ≤ 130 := by omega
          clear hM hall hle hsz HR
          by_cases hq : q = X.length
          · have hv : V = 0 := by rw [hvv, if_pos hq]
            subst hv
            have s1 : ¬ (es.size : Int) < X.length := by have := Hsz.out; omega
            have s2 : decide ((es.size : Int) < X.length) = false := by simpa using s1
            clear hvv hq
            go_wp2
            go_ret
            exact ⟨rfl, kk⟩
          · have hv : V = 1 := by rw [hvv, if_neg hq]
            subst hv
            have s1 : (es.size : Int) < X.length := by have := Hsz.out; omega
            clear hvv hq
            go_wp2
            go_ret
            exact ⟨rfl, kk⟩
  · have h120' : (120 : Int) < X.length := by omega
    have hm : mayT X = false := by unfold mayT; simp [h120]
    rw [hm]
    clear C hR
    go_enter Try.func15, Try.ntmps15
    go_wp2
    go_ret
    exact ⟨rfl, Below.refl _ _⟩
end Go.Proofs.Ytgipohicgbppaaa
