/- Layer 9: what is taken from a list at its places; the program's Feed. -/
import Derived.Test.YtllojkdacinhfaaJnE
namespace Go.Proofs.Ytllojkdacinhfaa.Jn
open Go.RowKit Go.Shelf Go.Proofs.Ytllojkdacinhfaa Go.Proofs.Ytllojkdacinhfaa.Ke
set_option linter.unusedVariables false
set_option linter.unusedSimpArgs false
/-- What is left, and what is taken, of a list at places that rise. -/
def tk : List El → Nat → List Int → List El × List El
  | [], _, _ => ([], [])
  | x :: r, i, [] => (x :: (tk r (i + 1) []).1, (tk r (i + 1) []).2)
  | x :: r, i, q :: qs => if q = (i : Int) then ((tk r (i + 1) qs).1, x :: (tk r (i + 1) qs).2) else (x :: (tk r (i + 1) (q :: qs)).1, (tk r (i + 1) (q :: qs)).2)
theorem tk_end (X : List El) (k : Nat) (Q : List Int) (h : X.length ≤ k) : tk (X.drop k) k Q = ([], []) := by rw [List.drop_eq_nil_of_le h]; rfl
theorem tk_nil (X : List El) (k : Nat) (h : k < X.length) : tk (X.drop k) k [] = (X[k] :: (tk (X.drop (k + 1)) (k + 1) []).1, (tk (X.drop (k + 1)) (k + 1) []).2) := by
  rw [List.drop_eq_getElem_cons h]; rfl
theorem tk_hit (X : List El) (k : Nat) (q : Int) (Q : List Int) (h : k < X.length) (e : q = (k : Int)) : tk (X.drop k) k (q :: Q) = ((tk (X.drop (k + 1)) (k + 1) Q).1, X[k] :: (tk (X.drop (k + 1)) (k + 1) Q).2) := by
  rw [List.drop_eq_getElem_cons h, tk, if_pos e]
theorem tk_miss (X : List El) (k : Nat) (q : Int) (Q : List Int) (h : k < X.length) (e : ¬ q = (k : Int)) : tk (X.drop k) k (q :: Q) = (X[k] :: (tk (X.drop (k + 1)) (k + 1) (q :: Q)).1, (tk (X.drop (k + 1)) (k + 1) (q :: Q)).2) := by
  rw [List.drop_eq_getElem_cons h, tk, if_neg e]
structure TkInv (X : List El) (P : List Int) (k : Nat) (L O : List El) (Q : List Int) : Prop where
  eq : tk X 0 P = (L ++ (tk (X.drop k) k Q).1, O ++ (tk (X.drop k) k Q).2)
  l : L.length ≤ k
  o : O.length ≤ k
theorem TkInv.start (X : List El) (P : List Int) : TkInv X P 0 [] [] P := ⟨by simp, Nat.le_refl _, Nat.le_refl _⟩
theorem TkInv.nil {X : List El} {P : List Int} {k : Nat} {L O : List El} (h : TkInv X P k L O []) (hk : k < X.length) : TkInv X P (k + 1) (L ++ [X[k]]) O [] :=
  ⟨by rw [h.eq, tk_nil X k hk]; simp, by have := h.l; simp; omega, by have := h.o; omega⟩
theorem TkInv.hit {X : List El} {P Q : List Int} {k : Nat} {q : Int} {L O : List El} (h : TkInv X P k L O (q :: Q)) (hk : k < X.length) (e : q = (k : Int)) : TkInv X P (k + 1) L (O ++ [X[k]]) Q :=
  ⟨by rw [h.eq, tk_hit X k q Q hk e]; simp, by have := h.l; omega, by have := h.o; simp; omega⟩
theorem TkInv.miss {X : List El} {P Q : List Int} {k : Nat} {q : Int} {L O : List El} (h : TkInv X P k L O (q :: Q)) (hk : k < X.length) (e : ¬ q = (k : Int)) : TkInv X P (k + 1) (L ++ [X[k]]) O (q :: Q) :=
  ⟨by rw [h.eq, tk_miss X k q Q hk e]; simp, by have := h.l; simp; omega, by have := h.o; omega⟩
structure TwoPost (A B : List El) (w : World) (e : Ending) (w' : World) : Prop where
  out : ∃ u v, e = .returned (.tuple #[u, v]) ∧ Two w' w.heap.size u v A B ∧ Below w.heap.size w w'
set_option maxHeartbeats 8000000 in
set_option maxRecDepth 100000 in
theorem taken_any (X : List El) (pa : Option Addr) (cap : Nat) (P : List Int) (pp : Option Addr) (cp : Nat) (w : World) (hX : X.length ≤ 7000) (hR : Rd w pa X) (hP : Pl.Rd w pp P) (hcp : P.length ≤ cp) :
    Calls Try.prog 27 #[.slice pa X.length cap, .slice pp P.length cp] w (TwoPost (tk X 0 P).1 (tk X 0 P).2 w) := by
  have HR := Lib.hid hR
  obtain ⟨V, hV⟩ : ∃ V, V = tk X 0 P := ⟨_, rfl⟩
  rw [← hV]
  have HV := Lib.hid hV
  clear hR hV
  go_enter Try.func27, Try.ntmps27
  go_wp2_with fail
  go_loopw [1, 4, 5, 10] (fun vp vl vo i wx => ∃ (k : Nat) (L O : List El) (Q : List Int) (pq : Option Addr) (cq : Nat), i = .int .i64 k ∧ k ≤ X.length ∧ vp = .slice pq Q.length cq ∧ Q.length ≤ cq ∧ Hid (Pl.Rd w pq Q) ∧ Hid (Two wx w.heap.size vl vo L O) ∧ Hid (TkInv X P k L O Q) ∧ Below w.heap.size w wx) (fun _ _ _ i _ => X.length - (intOf i).toNat)
  case atStart => exact ⟨0, [], [], P, pp, cp, rfl, Nat.zero_le _, rfl, hcp, Lib.hid hP, Lib.hid (two_nil _ _), Lib.hid (TkInv.start X P), Below.refl _ _⟩
  case round =>
    obtain ⟨k, L, O, Q, pq, cq, rfl, hk, rfl, hcq, hrq, htw, hiv, kk⟩ := hrel
    by_cases hlt : k < X.length
    · have hlt' : (k : Int) < X.length := by omega
      obtain ⟨b, o, rfl, hbz, c0, c1, c2⟩ := (HR.out.lift kk).at k hlt
      have hl7 : L.length ≤ 7999 := by have := hiv.out.l; omega
      have ho7 : O.length ≤ 7999 := by have := hiv.out.o; omega
      have hnil := fun (h : TkInv X P k L O []) => Lib.hid (h.nil hlt)
      have hhit := fun q Q (h : TkInv X P k L O (q :: Q)) e => Lib.hid (h.hit hlt e)
      have hmiss := fun q Q (h : TkInv X P k L O (q :: Q)) e => Lib.hid (h.miss hlt e)
      generalize X[k] = x at *
      obtain ⟨x1, x2, x3⟩ := x
      simp only at c0 c1 c2
      have hb2 : Below wr.heap.size wr ((wr.alloc (.cells #[.int .i64 x1, .int .u64 x2, .int .i64 x3] 27)).alloc (.cells #[.int .i64 x1, .int .u64 x2, .int .i64 x3] 27)) := ((Below.refl _ _).alloc (Nat.le_refl _) _).alloc (by simp) _
      have TW := Lib.hid (htw.out.lift hb2)
      have RQ := hrq
      have KB := Lib.hid (kk.trans (hb2.mono kk.size))
      have R1 := one_rd (x1, x2, x3) (wr.alloc (.cells #[.int .i64 x1, .int .u64 x2, .int .i64 x3] 27))
      have hsz : (wr.alloc (.cells #[.int .i64 x1, .int .u64 x2, .int .i64 x3] 27)).heap.size = wr.heap.size + 1 := by simp
      rw [hsz] at R1
      have RR := Lib.hid R1
      have hkb := KB.out.size
      cases Q with
      | nil =>
        have IV := hnil hiv.out
        clear hnil hhit hmiss hiv hsz R1 hb2 htw hrq
        go_wp2_with (first | (at_builtin; refine wpList_app2 rfl (.tmp 31) (.tmp 33) rfl w.heap.size _ _ L O (x1, x2, x3) rfl TW.out ⟨wr.heap.size + 1, 0, none⟩ 1 rfl RR.out hl7 hkb ?_))
        intro u2 w2 t2 hb2
        have T2 := Lib.hid t2
        have K2 := Lib.hid (KB.out.trans hb2)
        have RQ2 := Lib.hid (Pl.Rd.nil w pq)
        clear t2 hb2 TW RR
        go_wp2
        go_roundw
        case rel => exact ⟨k + 1, _, _, [], pq, cq, by go_num, by omega, rfl, hcq, RQ2, T2, IV, K2.out⟩
        case measure => simp [intOf]; omega
      | cons q Q =>
        obtain ⟨b2, o2, rfl, hbz2, d0⟩ := (hrq.out.lift kk).at 0 (by simp)
        simp only [List.getElem_cons_zero, Nat.zero_mul, Nat.add_zero] at d0
        have hb1 : Below wr.heap.size wr (wr.alloc (.cells #[.int .i64 x1, .int .u64 x2, .int .i64 x3] 27)) := (Below.refl _ _).alloc (Nat.le_refl _) _
        have d1 : (wr.alloc (.cells #[.int .i64 x1, .int .u64 x2, .int .i64 x3] 27)).cell? ⟨b2, o2, none⟩ = some (.int .i64 q) := (hb1.cell (p := ⟨b2, o2, none⟩) hbz2).trans d0
        have hlq : (q :: Q).length = Q.length + 1 := rfl
        rw [hlq] at hcq ⊢
        have z1 : (1 : Int) ≤ cq := by omega
        have z2 : (0 : Int) < (Q.length : Int) + 1 := by omega
        have z3 : (1 : Int) ≤ (Q.length : Int) + 1 := by omega
        have z4 : (Q.length : Int) + 1 ≤ cq := by omega
        clear d0 hlq
        have rqd := RQ.out.drop 1 cq hcq
        by_cases e : q = (k : Int)
        · have IV := hhit q Q hiv.out e
          have eb : (q == (k : Int)) = true := by simpa using e
          clear e
          by_cases e1 : cq = 1
          · obtain rfl : Q = [] := List.eq_nil_of_length_eq_zero (by omega)
            subst e1
            clear rqd
            clear hnil hhit hmiss hiv hsz R1 hb2 htw hrq hb1
            go_wp2_with (first | (at_builtin; refine wpList_app2 rfl (.tmp 27) (.tmp 29) rfl w.heap.size _ _ O L (x1, x2, x3) rfl TW.out.swap ⟨wr.heap.size + 1, 0, none⟩ 1 rfl RR.out ho7 hkb ?_))
            intro u2 w2 t2 hb2
            have T2 := Lib.hid t2.swap
            have K2 := Lib.hid (KB.out.trans hb2)
            have RQ2 := Lib.hid (Pl.Rd.nil w (some ⟨b2, o2, none⟩))
            clear t2 hb2 TW RR
            go_wp2
            go_roundw
            case rel => exact ⟨k + 1, _, _, [], some ⟨b2, o2, none⟩, 0, by go_num, by omega, rfl, Nat.le_refl _, RQ2, T2, IV, K2.out⟩
            case measure => simp [intOf]; omega
          · have e1i : ¬ ((cq : Int) = 1) := by omega
            have hc2 : lsCut 1 (some ⟨b2, o2, none⟩) cq 1 = some ⟨b2, o2 + 1, none⟩ := by unfold lsCut; rw [if_neg e1]; simp [lsAdd]
            rw [hc2] at rqd
            have RD := Lib.hid rqd
            clear rqd hc2
            clear hnil hhit hmiss hiv hsz R1 hb2 htw hrq hb1
            go_wp2_with (first | (at_builtin; refine wpList_app2 rfl (.tmp 27) (.tmp 29) rfl w.heap.size _ _ O L (x1, x2, x3) rfl TW.out.swap ⟨wr.heap.size + 1, 0, none⟩ 1 rfl RR.out ho7 hkb ?_))
            intro u2 w2 t2 hb2
            have T2 := Lib.hid t2.swap
            have K2 := Lib.hid (KB.out.trans hb2)
            have RQ2 := RD
            clear t2 hb2 TW RR
            go_wp2
            go_roundw
            case rel => exact ⟨k + 1, _, _, Q, some ⟨b2, o2 + 1, none⟩, cq - 1, by go_num, by omega, rfl, by omega, RQ2, T2, IV, K2.out⟩
            case measure => simp [intOf]; omega
        · have IV := hmiss q Q hiv.out e
          have eb : (q == (k : Int)) = false := by simpa using e
          clear e rqd
          clear hnil hhit hmiss hiv hsz R1 hb2 htw hrq hb1
          go_wp2_with (first | (at_builtin; refine wpList_app2 rfl (.tmp 31) (.tmp 33) rfl w.heap.size _ _ L O (x1, x2, x3) rfl TW.out ⟨wr.heap.size + 1, 0, none⟩ 1 rfl RR.out hl7 hkb ?_))
          intro u2 w2 t2 hb2
          have T2 := Lib.hid t2
          have K2 := Lib.hid (KB.out.trans hb2)
          have RQ2 := RQ
          clear t2 hb2 TW RR
          go_wp2
          go_roundw
          case rel => exact ⟨k + 1, _, _, q :: Q, _, cq, by go_num, by omega, rfl, hcq, RQ2, T2, IV, K2.out⟩
          case measure => simp [intOf]; omega
    · have hge : ¬ (k : Int) < X.length := by omega
      obtain rfl : k = X.length := by omega
      have he := hiv.out.eq
      rw [tk_end X _ Q (Nat.le_refl _)] at he
      simp only [List.append_nil] at he
      have HE := Lib.hid (HV.out.trans he)
      clear he hiv hrq
      go_wp2
      refine bodyPost_ret (v := .tuple #[_, _]) (by simp [results, Try.results27, go_sem]; exact ⟨rfl, rfl⟩) rfl ?_
      rw [HE.out]
      exact ⟨_, _, rfl, htw.out, kk⟩
def feedT (k : ByteArray) (p n : Int) (A O : List El) : List El × List El × List El × Int :=
  if (meetL k p n A).isEmpty && A.length == 30 then ([], [], [], 6) else ((tk A 0 (meetL k p n A)).1, (tk A 0 (meetL k p n A)).2, O, 0)
/-- What is left, what fired, what was over, and the error. -/
def feedD (k : ByteArray) (p n v : Int) (X : List El) (x : El) : List El × List El × List El × Int :=
  if checkB k p n v X && keptB p x then
    if lateB X x.2.2 then ([], [], [], 8) else if hasB X x.2.1 then ([], [], [], 5)
    else feedT k p n (X.drop (lsPl (stillB v x.2.2) X) ++ [x]) (X.take (lsPl (stillB v x.2.2) X))
  else ([], [], [], 1)
structure FeedPost (t : List El × List El × List El × Int) (w : World) (e : Ending) (w' : World) : Prop where
  out : ∃ a b c, e = .returned (.tuple #[a, b, c, .int .i64 t.2.2.2]) ∧ Own w' w.heap.size a t.1 ∧ Own w' w.heap.size b t.2.1 ∧ Own w' w.heap.size c t.2.2.1 ∧ Below w.heap.size w w'
set_option maxHeartbeats 8000000 in
set_option maxRecDepth 100000 in
theorem feed_any (X : List El) (pa : Option Addr) (cap : Nat) (k : ByteArray) (p n v : Int) (x1 x2 x3 : Int) (w : World) (hX : X.length ≤ 6000) (hcap : X.length ≤ cap) (hR : Rd w pa X) :
    Calls Try.prog 13 #[jV (k, p, n, v), .slice pa X.length cap, eV (x1, x2, x3)] w (FeedPost (feedD k p n v X (x1, x2, x3)) w) := by
  obtain ⟨W0, hW0⟩ : ∃ W0, W0 = ((jBox w k p n v).alloc (.cells #[.int .i64 x1, .int .u64 x2, .int .i64 x3] 27)) := ⟨_, rfl⟩
  have hsz : W0.heap.size = w.heap.size + 2 := by rw [hW0]; simp
  have hb0 : Below w.heap.size w W0 := by rw [hW0]; exact (jBelow w k p n v).alloc (by simp) _
  have J0 := Lib.hid (fun w' (h : Below (w.heap.size + 2) W0 w') => show Jx w' w.heap.size k p n v ∧ Bx (w.heap.size + 1) w' (x1, x2, x3) from by
    rw [hW0] at h
    have hj : Jx ((jBox w k p n v).alloc (.cells #[.int .i64 x1, .int .u64 x2, .int .i64 x3] 27)) w.heap.size k p n v := (Jx.new w k p n v).lift ((Below.refl _ _).alloc (Nat.le_refl _) _)
    have hx := Bx.new (x1, x2, x3) (jBox w k p n v)
    rw [show (jBox w k p n v).heap.size = w.heap.size + 1 by simp] at hx
    exact ⟨hj.lift (by simpa using h), hx.lift (by simpa using h)⟩)
  have HB := Lib.hid hb0
  have HR := Lib.hid (hR.lift hb0)
  have C := Lib.hid (check_any X pa cap k p n v W0 (by omega) hcap (hR.lift hb0))
  have KP := Lib.hid (fun w => kept_any k p n v x1 x2 x3 w)
  have LA := Lib.hid (fun w hr => late_any X pa cap x3 w (by omega) hr)
  have HI := Lib.hid (fun w hr => hasId_any X pa cap x2 w (by omega) hr)
  have EX := Lib.hid (fun w hr => expire_any X pa cap k p n v x3 w (by omega) hcap hr)
  obtain ⟨c0, c1, c2, c3, _⟩ := (J0.out _ (Below.refl _ _)).1
  obtain ⟨⟨d0, d1, d2⟩, _, _⟩ := (J0.out _ (Below.refl _ _)).2
  clear hb0 hR
  cases e1 : checkB k p n v X
  · rw [e1] at C
    have E1 := Lib.hid e1
    clear e1 LA HI EX KP
    go_enter Try.func13, Try.ntmps13
    go_wp2_with (rw [← hW0])
    refine C.out.mono ?_
    rintro e w1 ⟨rfl, hb1⟩
    have K1 := Lib.hid (HB.out.trans (hb1.mono (by omega)))
    clear hb1 hW0
    go_wp2
    refine bodyPost_ret (v := .tuple #[_, _, _, _]) (by simp [results, Try.results13, go_sem]; exact ⟨rfl, rfl, rfl, rfl⟩) rfl ?_
    rw [show feedD k p n v X (x1, x2, x3) = ([], [], [], 1) from by unfold feedD; simp [E1.out]]
    exact ⟨_, _, _, rfl, Own.nil _ _, Own.nil _ _, Own.nil _ _, K1.out⟩
  · rw [e1] at C
    have E1 := Lib.hid e1
    clear e1
    go_enter Try.func13, Try.ntmps13
    go_wp2_with (rw [← hW0])
    refine C.out.mono ?_
    rintro e w1 ⟨rfl, hb1⟩
    have K1 := Lib.hid (HB.out.trans (hb1.mono (by omega)))
    have R1 := Lib.hid (HR.out.lift hb1)
    rw [hsz] at hb1
    have B1 := Lib.hid hb1
    clear c0 c1 c2 c3 d0 d1 d2 hb1 C
    obtain ⟨c0, c1, c2, c3, _⟩ := (J0.out _ B1.out).1
    obtain ⟨⟨d0, d1, d2⟩, _, _⟩ := (J0.out _ B1.out).2
    go_wp2_with fail
    refine (KP.out _).mono ?_
    rintro e w2 ⟨rfl, hb2⟩
    have K2 := Lib.hid (K1.out.trans (hb2.mono K1.out.size))
    have R2 := Lib.hid (R1.out.lift hb2)
    have B2 := Lib.hid (B1.out.trans (hb2.mono (by have := B1.out.size; omega)))
    clear c0 c1 c2 c3 d0 d1 d2 hb2 K1 R1 B1 KP
    obtain ⟨c0, c1, c2, c3, _⟩ := (J0.out _ B2.out).1
    obtain ⟨⟨d0, d1, d2⟩, _, _⟩ := (J0.out _ B2.out).2
    cases e2 : keptB p (x1, x2, x3)
    · have E2 := Lib.hid e2
      clear e2 LA HI EX
      go_wp2
      refine bodyPost_ret (v := .tuple #[_, _, _, _]) (by simp [results, Try.results13, go_sem]; exact ⟨rfl, rfl, rfl, rfl⟩) rfl ?_
      rw [show feedD k p n v X (x1, x2, x3) = ([], [], [], 1) from by unfold feedD; simp [E1.out, E2.out]]
      exact ⟨_, _, _, rfl, Own.nil _ _, Own.nil _ _, Own.nil _ _, K2.out⟩
    · have E2 := Lib.hid e2
      clear e2
      go_wp2_with fail
      refine (LA.out _ R2.out).mono ?_
      rintro e w3 ⟨rfl, rfl⟩
      clear LA
      cases e3 : lateB X x3
      · have E3 := Lib.hid e3
        clear e3
        go_wp2_with fail
        refine (HI.out _ R2.out).mono ?_
        rintro e w3 ⟨rfl, hb3⟩
        have K3 := Lib.hid (K2.out.trans (hb3.mono K2.out.size))
        have R3 := Lib.hid (R2.out.lift hb3)
        have B3 := Lib.hid (B2.out.trans (hb3.mono (by have := B2.out.size; omega)))
        clear c0 c1 c2 c3 d0 d1 d2 hb3 K2 R2 B2 HI
        obtain ⟨c0, c1, c2, c3, _⟩ := (J0.out _ B3.out).1
        obtain ⟨⟨d0, d1, d2⟩, _, _⟩ := (J0.out _ B3.out).2
        cases e4 : hasB X x2
        · have E4 := Lib.hid e4
          clear e4
          have EE := EX.out w3 R3.out
          have hee : expD k p n v X x3 = (X.drop (lsPl (stillB v x3) X), X.take (lsPl (stillB v x3) X), 0) := by
            have h2 := E2.out
            unfold keptB at h2
            simp only [Bool.and_eq_true] at h2
            unfold expD
            simp [E1.out, E3.out, h2.2.2]
          rw [hee] at EE
          have hFD : feedD k p n v X (x1, x2, x3) = feedT k p n (X.drop (lsPl (stillB v x3) X) ++ [(x1, x2, x3)]) (X.take (lsPl (stillB v x3) X)) := by unfold feedD; simp [E1.out, E2.out, E3.out, E4.out]
          have hm := (check_kept E1.out).2.1
          have hdl : (X.drop (lsPl (stillB v x3) X)).length ≤ 6000 := by rw [List.length_drop]; omega
          generalize X.drop (lsPl (stillB v x3) X) = A at *
          generalize X.take (lsPl (stillB v x3) X) = O at *
          have HFD := Lib.hid hFD
          have HEE := Lib.hid EE
          clear hFD EE hee EX E2 E3 E4 R3
          go_wp2_with fail
          refine HEE.out.mono ?_
          rintro e w4 ⟨va, vo, rfl, ht, hb4⟩
          have K4 := Lib.hid (K3.out.trans (hb4.mono K3.out.size))
          have B4 := Lib.hid (B3.out.trans (hb4.mono (by have := B3.out.size; omega)))
          have T4 := Lib.hid (ht.lift ((Below.refl _ _).alloc (Nat.le_refl _) (.cells #[.int .i64 x1, .int .u64 x2, .int .i64 x3] 27)))
          have hws := K3.out.size
          have hws4 := hb4.size
          have hws3 : w.heap.size + 2 ≤ w3.heap.size := by have := B3.out.size; omega
          clear c0 c1 c2 c3 d0 d1 d2 hb4 K3 B3 HEE ht
          obtain ⟨c0, c1, c2, c3, _⟩ := (J0.out _ B4.out).1
          obtain ⟨⟨d0, d1, d2⟩, _, _⟩ := (J0.out _ B4.out).2
          have RR := Lib.hid (one_rd (x1, x2, x3) w4)
          have hl2 : A.length ≤ 7999 := by omega
          have hb5 : w3.heap.size ≤ (w4.alloc (.cells #[.int .i64 x1, .int .u64 x2, .int .i64 x3] 27)).heap.size := by simp; omega
          have K5 := Lib.hid (K4.out.alloc K4.out.size (.cells #[.int .i64 x1, .int .u64 x2, .int .i64 x3] 27))
          have B5 := Lib.hid (B4.out.alloc (by have := B4.out.size; omega) (.cells #[.int .i64 x1, .int .u64 x2, .int .i64 x3] 27))
          go_wp2_with (first | (at_builtin; refine wpList_app2 rfl (.tmp 45) (.tmp 47) rfl w3.heap.size _ _ A O (x1, x2, x3) rfl T4.out ⟨w4.heap.size, 0, none⟩ 1 rfl RR.out hl2 hb5 ?_))
          intro u6 w6 t6 hb6
          have T6 := t6
          have K6 := Lib.hid (K5.out.trans (hb6.mono hws))
          have B6 := Lib.hid (B5.out.trans (hb6.mono hws3))
          clear c0 c1 c2 c3 d0 d1 d2 t6 hb6 hb5 hl2 RR T4 K4 K5 B4 B5
          have hal : (A ++ [(x1, x2, x3)]).length = A.length + 1 := by simp
          generalize A ++ [(x1, x2, x3)] = AA at *
          obtain ⟨pl, cl, rfl, hcl, hrl, _⟩ := T6.a.args
          have O6 := Lib.hid (T6.b.mono hws)
          clear T6
          obtain ⟨c0, c1, c2, c3, _⟩ := (J0.out _ B6.out).1
          obtain ⟨⟨d0, d1, d2⟩, _, _⟩ := (J0.out _ B6.out).2
          have M := Lib.hid (meeting_any AA pl cl k p n v w6 hm (by omega) hrl)
          have R6 := Lib.hid hrl
          have HP := Lib.hid (rfl : meetL k p n AA = meetL k p n AA)
          clear hrl
          obtain ⟨P, hP⟩ : ∃ P, P = meetL k p n AA := ⟨_, rfl⟩
          rw [← hP] at M
          have HP := Lib.hid hP.symm
          clear hP
          have hA1 : AA.length ≤ 6001 := by omega
          clear hal
          go_wp2_with fail
          refine M.out.mono ?_
          rintro e w7 ⟨vp, rfl, hop, hb7⟩
          obtain ⟨pp, cp, rfl, hcp, hrp⟩ := hop.rd
          have RP := Lib.hid hrp
          have R7 := Lib.hid (R6.out.lift hb7)
          have O7 := Lib.hid (O6.out.lift hb7)
          have K7 := Lib.hid (K6.out.trans (hb7.mono K6.out.size))
          clear c0 c1 c2 c3 d0 d1 d2 hb7 hop hrp M R6 O6 K6 B6 J0
          cases P with
          | nil =>
            by_cases h30 : AA.length = 30
            · have HR8 := Lib.hid (show feedD k p n v X (x1, x2, x3) = ([], [], [], 6) from by rw [HFD.out]; unfold feedT; rw [HP.out]; simp [h30])
              have h30i : (AA.length : Int) = 30 := by omega
              clear h30
              go_wp2
              refine bodyPost_ret (v := .tuple #[_, _, _, _]) (by simp [results, Try.results13, go_sem]; exact ⟨rfl, rfl, rfl, rfl⟩) rfl ?_
              rw [HR8.out]
              exact ⟨_, _, _, rfl, Own.nil _ _, Own.nil _ _, Own.nil _ _, K7.out⟩
            · have h30i : ((AA.length : Int) == 30) = false := by simp; omega
              have hc : ¬ AA.length = 30 := h30
              clear h30
              have TK := Lib.hid (taken_any AA pl cl [] pp cp w7 (by omega) R7.out RP.out hcp)
              have HR8 := Lib.hid (show feedD k p n v X (x1, x2, x3) = ((tk AA 0 []).1, (tk AA 0 []).2, O, 0) from by rw [HFD.out]; unfold feedT; rw [HP.out]; simp [hc])
              generalize tk AA 0 [] = t at *
              clear hc
              go_wp2_with fail
              refine TK.out.mono ?_
              rintro e w8 ⟨ua, ub, rfl, ht8, hb8⟩
              have K8 := Lib.hid (K7.out.trans (hb8.mono K7.out.size))
              have T8 := Lib.hid (ht8.mono K7.out.size)
              have O8 := Lib.hid (O7.out.lift hb8)
              clear ht8 hb8 TK
              go_wp2
              refine bodyPost_ret (v := .tuple #[_, _, _, _]) (by simp [results, Try.results13, go_sem]; exact ⟨rfl, rfl, rfl, rfl⟩) rfl ?_
              rw [HR8.out]
              exact ⟨_, _, _, rfl, T8.out.a, T8.out.b, O8.out, K8.out⟩
          | cons q P =>
            have hpi : ((P.length : Int) + 1 == 0) = false := by simp; omega
            have hc : True := trivial
            have TK := Lib.hid (taken_any AA pl cl (q :: P) pp cp w7 (by omega) R7.out RP.out hcp)
            have HR8 := Lib.hid (show feedD k p n v X (x1, x2, x3) = ((tk AA 0 (q :: P)).1, (tk AA 0 (q :: P)).2, O, 0) from by rw [HFD.out]; unfold feedT; rw [HP.out]; simp [hc])
            generalize tk AA 0 (q :: P) = t at *
            clear hc
            go_wp2_with fail
            refine TK.out.mono ?_
            rintro e w8 ⟨ua, ub, rfl, ht8, hb8⟩
            have K8 := Lib.hid (K7.out.trans (hb8.mono K7.out.size))
            have T8 := Lib.hid (ht8.mono K7.out.size)
            have O8 := Lib.hid (O7.out.lift hb8)
            clear ht8 hb8 TK
            go_wp2
            refine bodyPost_ret (v := .tuple #[_, _, _, _]) (by simp [results, Try.results13, go_sem]; exact ⟨rfl, rfl, rfl, rfl⟩) rfl ?_
            rw [HR8.out]
            exact ⟨_, _, _, rfl, T8.out.a, T8.out.b, O8.out, K8.out⟩
        · have E4 := Lib.hid e4
          clear e4 EX
          go_wp2
          refine bodyPost_ret (v := .tuple #[_, _, _, _]) (by simp [results, Try.results13, go_sem]; exact ⟨rfl, rfl, rfl, rfl⟩) rfl ?_
          rw [show feedD k p n v X (x1, x2, x3) = ([], [], [], 5) from by unfold feedD; simp [E1.out, E2.out, E3.out, E4.out]]
          exact ⟨_, _, _, rfl, Own.nil _ _, Own.nil _ _, Own.nil _ _, K3.out⟩
      · have E3 := Lib.hid e3
        clear e3 HI EX
        go_wp2
        refine bodyPost_ret (v := .tuple #[_, _, _, _]) (by simp [results, Try.results13, go_sem]; exact ⟨rfl, rfl, rfl, rfl⟩) rfl ?_
        rw [show feedD k p n v X (x1, x2, x3) = ([], [], [], 8) from by unfold feedD; simp [E1.out, E2.out, E3.out]]
        exact ⟨_, _, _, rfl, Own.nil _ _, Own.nil _ _, Own.nil _ _, K2.out⟩
end Go.Proofs.Ytllojkdacinhfaa.Jn
