/- Layer 9: two lists of the call's own; the program's Check and Expire. -/
import Derived.Test.YtllojkdacinhfaaJnD
import Derived.Test.YtllojkdacinhfaaLsTwo
namespace Go.Proofs.Ytllojkdacinhfaa.Jn
open Go.RowKit Go.Shelf Go.Proofs.Ytllojkdacinhfaa Go.Proofs.Ytllojkdacinhfaa.Ke
set_option linter.unusedVariables false
set_option linter.unusedSimpArgs false
/-- Two lists of the call's own, in blocks apart. -/
structure Two (w : World) (base : Nat) (u v : Value) (A B : List El) : Prop where
  a : Own w base u A
  b : Own w base v B
  apart : ∀ g, u.ownBlock = some g → v.ownBlock ≠ some g
theorem Two.lift {w w' : World} {base : Nat} {u v : Value} {A B : List El} (h : Two w base u v A B) (hb : Below w.heap.size w w') : Two w' base u v A B := ⟨h.a.lift hb, h.b.lift hb, h.apart⟩
theorem Two.mono {w : World} {base b2 : Nat} {u v : Value} {A B : List El} (h : Two w base u v A B) (hb : b2 ≤ base) : Two w b2 u v A B := ⟨h.a.mono hb, h.b.mono hb, h.apart⟩
theorem Two.swap {w : World} {base : Nat} {u v : Value} {A B : List El} (h : Two w base u v A B) : Two w base v u B A := ⟨h.b, h.a, fun g e1 e2 => h.apart g e2 e1⟩
theorem two_grown {w w' : World} {base : Nat} {u v u' : Value} {A B A' : List El} (h : Two w base u v A B) (hg : w.grownBy w' u.ownBlock) (hw : u'.ownBlock = u.ownBlock ∨ u'.ownBlock = some w.heap.size) (ho : Own w' base u' A') : Two w' base u' v A' B :=
  ⟨ho, ⟨h.b.own.kept hg (by
    cases e : v.ownBlock with
    | none => exact .inl rfl
    | some g => exact .inr fun e2 => h.apart g e2.symm e)⟩, fun g e1 e2 => by
    rcases hw with e3 | e3
    · exact h.apart g (by rw [← e3]; exact e1) e2
    · rw [e3] at e1
      injection e1 with e1
      have := (h.b.own.lt g e2).2
      omega⟩
/-- An append of one to one of two lists. -/
theorem wpList_app2 {w : World} {ops : Array Oper} {rest : List Oper} {o : Oper} {a : Act} {Q : Exit → Act → World → Prop} (hw : Region.wanted o (yielded ops a.tmps) = true) (s x : Operand)
    (ho : o.op = .call { callee := .builtin .append, args := #[s, x], argTypes := #[24, 24] }) (base : Nat) (u v : Value) (A B : List El) (y : El) (hs : a.eval s = u) (hown : Two w base u v A B)
    (ad : Addr) (cap : Nat) (hx : a.eval x = .slice (some ad) 1 cap) (hr : Rd w (some ad) [y]) (hl : A.length ≤ 7999) (hbase : base ≤ w.heap.size)
    (h : ∀ u' w', Two w' base u' v (A ++ [y]) B → Below base w w' → wpList Try.prog ops Q rest (a.put o.dst u') w') : wpList Try.prog ops Q (o :: rest) a w := by
  obtain ⟨i0, hi, hz0, hz1, hz2⟩ := info_parts info
  refine BigFrame.wpList_want hw fun K hK => ?_
  obtain ⟨u', w', hrun, h2, h3, _⟩ := run_append_own (P := Try.prog) w base 24 o.type 27 i0 (.agg #[.int .i64 0, .int .u64 0, .int .i64 0]) 3 24 Try.underlying24 hi hz0 hz1 hz2 rfl (by decide) u _ _ hown.a.own ad 1 cap (flat [y]) (flat_len [y]) hr.cells (flat_one [y]) (by unfold maxLen; omega) (by omega) hbase
  have hwh := lsApp_where (P := Try.prog) (w := w) (ty := o.type) (m := 1) Try.underlying24 hi hz0 hz1 hz2 hown.a.own (flat_len [y]) (by decide) hr.cells (flat_one [y]) (by unfold maxLen; omega) (by omega) hrun
  unfold Oper.wp execOp
  simp only [ho, resolve, invoke, builtin, Sem.run_bind, Sem.run_pure, Result.andThen_ok, List.map_toArray, List.map_cons, List.map_nil, hs, hx, hrun]
  refine hK _ _ (h u' w' (two_grown hown h3 hwh ⟨by rw [List.length_append, flat_append]; exact h2⟩) ((Below.refl _ _).grown h3 hbase (lsOwn_base hown.a.own)))
def checkB (k : ByteArray) (p n v : Int) (X : List El) : Bool := mayB (k, p, n, v) && waitB k p n X
set_option maxHeartbeats 1000000 in
theorem check_any (X : List El) (pa : Option Addr) (cap : Nat) (k : ByteArray) (p n v : Int) (w : World) (hX : X.length ≤ 7000) (hcap : X.length ≤ cap) (hR : Rd w pa X) :
    Calls Try.prog 18 #[jV (k, p, n, v), .slice pa X.length cap] w fun e w' => e = .returned (.int .i64 (if checkB k p n v X then 0 else 1)) ∧ Below w.heap.size w w' := by
  have HB := Lib.hid (jBelow w k p n v)
  have HR := Lib.hid (hR.lift HB.out)
  have M := Lib.hid (may_any k p n v (jBox w k p n v))
  have J0 := Lib.hid (fun w' (h : Below (w.heap.size + 1) (jBox w k p n v) w') => (Jx.new w k p n v).lift (w' := w') (by simpa using h))
  have hsz : (jBox w k p n v).heap.size = w.heap.size + 1 := by simp
  have WT := Lib.hid (fun hm W hr => wait_any X pa cap k p n v W hm hX hcap hr)
  clear hR
  unfold checkB
  cases hm : mayB (k, p, n, v)
  · rw [hm] at M
    clear WT J0
    go_enter Try.func18, Try.ntmps18
    go_wp2_with fail
    refine M.out.mono ?_
    rintro e w1 ⟨rfl, hb1⟩
    have K1 := Lib.hid (HB.out.trans (hb1.mono (by simp)))
    clear hb1
    go_wp2
    go_ret
    exact ⟨rfl, K1.out⟩
  · rw [hm] at M
    have W2 := Lib.hid (WT.out hm)
    clear WT
    generalize waitB k p n X = b at *
    go_enter Try.func18, Try.ntmps18
    go_wp2_with fail
    refine M.out.mono ?_
    rintro e w1 ⟨rfl, hb1⟩
    have K1 := Lib.hid (HB.out.trans (hb1.mono (by simp)))
    have R1 := Lib.hid (HR.out.lift hb1)
    rw [hsz] at hb1
    obtain ⟨c0, c1, c2, c3, _⟩ := J0.out _ hb1
    clear hb1
    go_wp2_with fail
    refine (W2.out _ R1.out).mono ?_
    rintro e w2 ⟨rfl, hb2⟩
    have K2 := Lib.hid (K1.out.trans (hb2.mono K1.out.size))
    clear hb2 c0 c1 c2 c3 W2
    cases b
    · go_wp2
      go_ret
      exact ⟨rfl, K2.out⟩
    · go_wp2
      go_ret
      exact ⟨rfl, K2.out⟩
def stillB (v now : Int) (x : El) : Bool := decide (now ≤ x.2.2 + v)
theorem exp1_any (x : El) (b c : Nat) (k : ByteArray) (p n v now : Int) (w : World) (h : Jx w b k p n v) (hc : w.cell? ⟨c, 0, none⟩ = some (.int .i64 now)) (hcl : c < w.heap.size) (hx : keptB p x = true) (hv0 : 0 ≤ v) (hv1 : v ≤ 1073741824) :
    Calls Try.prog 33 #[eV x, .pointer (some ⟨b, 0, none⟩), .pointer (some ⟨c, 0, none⟩)] w fun e w' => e = .returned (.bool (stillB v now x)) ∧ Below w.heap.size w w' := by
  obtain ⟨x1, x2, x3⟩ := x
  unfold keptB timeB at hx
  simp only [Bool.and_eq_true, decide_eq_true_eq] at hx
  obtain ⟨_, _, h0, h1⟩ := hx
  have hb : Below w.heap.size w (w.alloc (.cells #[.int .i64 x1, .int .u64 x2, .int .i64 x3] 27)) := (Below.refl _ _).alloc (Nat.le_refl _) _
  obtain ⟨_, _, _, c3, _⟩ := h.lift hb
  have cn := (hb.cell (p := ⟨c, 0, none⟩) hcl).trans hc
  have HB := Lib.hid hb
  have w1 : wrap64 (x3 + v) = x3 + v := by unfold wrap64; omega
  have w2 : IntKind.i64.wrap (x3 + v) = x3 + v := IntWalk.i64_in _ (by omega)
  clear hb h hc
  go_enter Try.func33, Try.ntmps33
  go_wp2
  go_ret
  exact ⟨rfl, HB.out⟩
/-- What is left, what is over, and the error. -/
def expD (k : ByteArray) (p n v : Int) (X : List El) (now : Int) : List El × List El × Int :=
  if checkB k p n v X && (timeB now && !lateB X now) then (X.drop (lsPl (stillB v now) X), X.take (lsPl (stillB v now) X), 0) else ([], [], 1)
structure ExpPost (t : List El × List El × Int) (w : World) (e : Ending) (w' : World) : Prop where
  out : ∃ u v, e = .returned (.tuple #[u, v, .int .i64 t.2.2]) ∧ Two w' w.heap.size u v t.1 t.2.1 ∧ Below w.heap.size w w'
theorem two_nil (w : World) (b : Nat) : Two w b (.slice none 0 0) (.slice none 0 0) [] [] := ⟨Own.nil _ _, Own.nil _ _, fun g e => by simp [Value.ownBlock] at e⟩
theorem check_kept {k : ByteArray} {p n v : Int} {X : List El} (h : checkB k p n v X = true) : (∀ x ∈ X, keptB p x = true) ∧ mayB (k, p, n, v) = true ∧ 0 ≤ v ∧ v ≤ 1073741824 ∧ 1 ≤ p ∧ p ≤ 6 ∧ X.length < 30 := by
  unfold checkB waitB at h
  simp only [Bool.and_eq_true] at h
  obtain ⟨hm, h1, h2, _⟩ := h
  have hm2 := hm
  unfold mayB at hm2
  simp only [Bool.and_eq_true, decide_eq_true_eq] at hm2 h1
  obtain ⟨_, a, b, c, d⟩ := hm2
  exact ⟨List.all_eq_true.1 h2, hm, c, d, a, b, h1⟩
set_option maxHeartbeats 4000000 in
set_option maxRecDepth 100000 in
theorem expire_any (X : List El) (pa : Option Addr) (cap : Nat) (k : ByteArray) (p n v now : Int) (w : World) (hX : X.length ≤ 7000) (hcap : X.length ≤ cap) (hR : Rd w pa X) :
    Calls Try.prog 21 #[jV (k, p, n, v), .slice pa X.length cap, .int .i64 now] w (ExpPost (expD k p n v X now) w) := by
  obtain ⟨W0, hW0⟩ : ∃ W0, W0 = (jBox w k p n v).alloc (.cells #[.int .i64 now] 3) := ⟨_, rfl⟩
  have hsz : W0.heap.size = w.heap.size + 2 := by rw [hW0]; simp
  have hb0 : Below w.heap.size w W0 := by rw [hW0]; exact (jBelow w k p n v).alloc (by simp) _
  have J0 := Lib.hid (fun w' (h : Below (w.heap.size + 2) W0 w') => show Jx w' w.heap.size k p n v ∧ w'.cell? ⟨w.heap.size + 1, 0, none⟩ = some (.int .i64 now) from by
    rw [hW0] at h
    have hj : Jx ((jBox w k p n v).alloc (.cells #[.int .i64 now] 3)) w.heap.size k p n v := (Jx.new w k p n v).lift ((Below.refl _ _).alloc (Nat.le_refl _) _)
    refine ⟨hj.lift (by simpa using h), (h.cell (p := ⟨w.heap.size + 1, 0, none⟩) (by simp)).trans (by simp [go_sem])⟩)
  have HB := Lib.hid hb0
  have HR := Lib.hid (hR.lift hb0)
  have C := Lib.hid (check_any X pa cap k p n v W0 hX hcap (hR.lift hb0))
  have T := Lib.hid (fun w => time_any now w)
  have L := Lib.hid (fun w hr => late_any X pa cap now w hX hr)
  obtain ⟨c0, c1, c2, c3, _⟩ := (J0.out _ (Below.refl _ _)).1
  have cn := (J0.out _ (Below.refl _ _)).2
  have HE := Lib.hid (show ∀ b1 b2 b3, checkB k p n v X = b1 → timeB now = b2 → lateB X now = b3 → expD k p n v X now = if b1 && (b2 && !b3) then (X.drop (lsPl (stillB v now) X), X.take (lsPl (stillB v now) X), 0) else ([], [], 1) from fun b1 b2 b3 e1 e2 e3 => by unfold expD; rw [e1, e2, e3])
  have HK := Lib.hid (@check_kept k p n v X)
  clear hb0 hR
  cases e1 : checkB k p n v X
  · rw [e1] at C
    have hE := HE.out _ _ _ e1 rfl rfl
    rw [hE]
    clear HE HK hE L T e1
    go_enter Try.func21, Try.ntmps21
    go_wp2_with (rw [← hW0])
    refine C.out.mono ?_
    rintro e w1 ⟨rfl, hb1⟩
    have K1 := Lib.hid (HB.out.trans (hb1.mono (by omega)))
    clear hb1 hW0
    go_wp2
    refine bodyPost_ret (v := .tuple #[_, _, _]) (by simp [results, Try.results21, go_sem]; exact ⟨rfl, rfl, rfl⟩) rfl ?_
    exact ⟨_, _, rfl, two_nil _ _, K1.out⟩
  · rw [e1] at C
    obtain ⟨hkept, _, hv0, hv1, _⟩ := HK.out e1
    have HKP := Lib.hid hkept
    clear HK hkept
    cases e2 : timeB now
    · rw [e2] at T
      have hE := HE.out _ _ _ e1 e2 rfl
      rw [hE]
      clear HE hE L e1 e2
      go_enter Try.func21, Try.ntmps21
      go_wp2_with (rw [← hW0])
      refine C.out.mono ?_
      rintro e w1 ⟨rfl, hb1⟩
      have K1 := Lib.hid (HB.out.trans (hb1.mono (by omega)))
      rw [hsz] at hb1
      obtain ⟨_, cn1⟩ := J0.out _ hb1
      clear hb1 hW0 c0 c1 c2 c3 cn
      go_wp2_with fail
      refine (T.out _).mono ?_
      rintro e w2 ⟨rfl, rfl⟩
      go_wp2
      refine bodyPost_ret (v := .tuple #[_, _, _]) (by simp [results, Try.results21, go_sem]; exact ⟨rfl, rfl, rfl⟩) rfl ?_
      exact ⟨_, _, rfl, two_nil _ _, K1.out⟩
    · rw [e2] at T
      cases e3 : lateB X now
      · rw [e3] at L
        have hE := HE.out _ _ _ e1 e2 e3
        have hql := lsPl_le (stillB v now) X
        generalize hq : lsPl (stillB v now) X = q at *
        have HE2 := Lib.hid hE
        have HQ := Lib.hid hq
        clear HE hE e1 e2 e3 hq
        go_enter Try.func21, Try.ntmps21
        go_wp2_with (rw [← hW0])
        refine C.out.mono ?_
        rintro e w1 ⟨rfl, hb1⟩
        have K1 := Lib.hid (HB.out.trans (hb1.mono (by omega)))
        have R1 := Lib.hid (HR.out.lift hb1)
        rw [hsz] at hb1
        obtain ⟨_, cn1⟩ := J0.out _ hb1
        have HB1 := Lib.hid hb1
        clear hb1 hW0 c0 c1 c2 c3 cn
        go_wp2_with fail
        refine (T.out _).mono ?_
        rintro e w2 ⟨rfl, rfl⟩
        go_wp2_with fail
        refine (L.out _ R1.out).mono ?_
        rintro e w2 ⟨rfl, rfl⟩
        clear cn1
        have hP : Pred 33 #[.pointer (some ⟨w.heap.size, 0, none⟩), .pointer (some ⟨w.heap.size + 1, 0, none⟩)] (stillB v now) X w1 :=
          ⟨fun args W => by simp [go_sem], fun x hx W hW => by
            have hw1 := HB1.out.size
            have hj := J0.out W (HB1.out.trans (hW.mono (by omega)))
            exact exp1_any x w.heap.size (w.heap.size + 1) k p n v now W hj.1 hj.2 (by have := hW.size; omega) (HKP.out x hx) hv0 hv1⟩
        have HP := Lib.hid hP
        clear hP
        go_wp2_with fail
        have P := place_any X pa cap 33 #[.pointer (some ⟨w.heap.size, 0, none⟩), .pointer (some ⟨w.heap.size + 1, 0, none⟩)] (stillB v now) w1 hX R1.out HP.out
        rw [HQ.out] at P
        refine P.mono ?_
        rintro e wq ⟨rfl, hb2⟩
        have K2 := Lib.hid (K1.out.trans (hb2.mono K1.out.size)).drew
        have R2 := Lib.hid (R1.out.lift hb2.drew)
        clear hb2 P HP HB1 K1 R1 HKP J0 HQ
        have q0 : (0 : Int) ≤ q := by omega
        have q1 : (q : Int) ≤ X.length := by omega
        have q2 : (q : Int) ≤ cap := by omega
        have q3 : (X.length : Int) ≤ cap := by omega
        have CB := Lib.hid (fun W (hr : Rd W pa (X.take q)) => clone_any (X.take q) pa cap W (by rw [List.length_take]; omega) hr)
        have hlt : (X.take q).length = q := by rw [List.length_take]; omega
        rw [hlt] at CB
        by_cases he : cap = q
        · have hXq : X.length = q := by omega
          have hrd := R2.out.drop q cap hcap
          have hcut : lsCut 3 pa cap q = pa := by unfold lsCut; rw [if_pos he]
          rw [hcut] at hrd
          have CA := clone_any (X.drop q) _ 0 wq.drew (by rw [List.length_drop]; omega) hrd
          have hd0 : (X.drop q).length = 0 := by rw [List.length_drop]; omega
          rw [hd0] at CA
          have HCA := Lib.hid CA
          clear CA hrd hcut hd0
          subst he
          rw [hXq]
          go_wp2_with fail
          refine wp_region_held_drew (S := fun w' => True) (by kernel_rfl) (trivial) (fun hHeld => ?_)
          refine rgTake (i := 0) (v := ?_) rfl rfl (by kernel_rfl) (by kernel_rfl) (by kernel_rfl) (fun _ _ _ h => h) (Or.inl ⟨by kernel_rfl, ?_⟩) hHeld ?_
          rotate_left
          · intro w hSw
            try dsimp only at hSw
            go_simp
            try with_reducible rfl
          simp only [List.set_cons_zero, List.set_cons_succ]
          refine rgTake (i := 1) (v := ?_) rfl rfl (by kernel_rfl) (by kernel_rfl) (by kernel_rfl) (fun _ _ _ h => h) (Or.inl ⟨by kernel_rfl, ?_⟩) hHeld ?_
          rotate_left
          · intro w hSw
            try dsimp only at hSw
            go_simp
            try with_reducible rfl
          simp only [List.set_cons_zero, List.set_cons_succ]
          refine rgTake (i := 2) (v := ?_) rfl rfl (by kernel_rfl) (by kernel_rfl) (by kernel_rfl) (fun _ _ _ h => h) (Or.inl ⟨by kernel_rfl, ?_⟩) hHeld ?_
          rotate_left
          · intro w hSw
            try dsimp only at hSw
            go_simp
            try with_reducible rfl
          simp only [List.set_cons_zero, List.set_cons_succ]
          refine rgTake (i := 4) (v := ?_) rfl rfl (by kernel_rfl) (by kernel_rfl) (by kernel_rfl) (fun _ _ _ h => h) (Or.inl ⟨by kernel_rfl, ?_⟩) hHeld ?_
          rotate_left
          · intro w hSw
            try dsimp only at hSw
            go_simp
            try with_reducible rfl
          simp only [List.set_cons_zero, List.set_cons_succ]
          refine rgTake (i := 5) (v := ?_) rfl rfl (by kernel_rfl) (by kernel_rfl) (by kernel_rfl) (fun _ _ _ h => h) (Or.inl ⟨by kernel_rfl, ?_⟩) hHeld ?_
          rotate_left
          · intro w hSw
            try dsimp only at hSw
            go_simp
            try with_reducible rfl
          simp only [List.set_cons_zero, List.set_cons_succ]
          refine rgTake (i := 6) (v := ?_) rfl rfl (by kernel_rfl) (by kernel_rfl) (by kernel_rfl) (fun _ _ _ h => h) (Or.inl ⟨by kernel_rfl, ?_⟩) hHeld ?_
          rotate_left
          · intro w hSw
            try dsimp only at hSw
            go_simp
            try with_reducible rfl
          simp only [List.set_cons_zero, List.set_cons_succ]
          refine wpAnyH_ready (rs := [3]) (by kernel_rfl) (by simp) ?_
          refine AllReadyH.cons rfl (fun KK hK => ?_) AllReadyH.nil
          go_simp
          refine (HCA.out).mono ?_
          rintro e w1 ⟨va, rfl, ho1, hb1⟩
          show KK _ w1
          refine hK.out _ _ (trivial) (fun hHeld => ?_)
          clear hK KK
          try simp only [Act.put, List.setIfInBounds_toArray, List.set_cons_zero, List.set_cons_succ]
          refine wpAnyH_ready (rs := [7]) (by kernel_rfl) (by simp) ?_
          refine AllReadyH.cons rfl (fun KK hK => ?_) AllReadyH.nil
          go_simp
          refine (CB.out _ ((R2.out.lift hb1).take cap)).mono ?_
          rintro e w2 ⟨vb, rfl, ho2, hb2⟩
          show KK _ w2
          refine hK.out _ _ (trivial) (fun hHeld => ?_)
          clear hK KK
          try simp only [Act.put, List.setIfInBounds_toArray, List.set_cons_zero, List.set_cons_succ]
          refine rgTake (i := 8) (v := ?_) rfl rfl (by kernel_rfl) (by kernel_rfl) (by kernel_rfl) (fun _ _ _ h => h) (Or.inl ⟨by kernel_rfl, ?_⟩) hHeld ?_
          rotate_left
          · intro w hSw
            try dsimp only at hSw
            go_simp
            try with_reducible rfl
          simp only [List.set_cons_zero, List.set_cons_succ]
          refine rgTake (i := 9) (v := ?_) rfl rfl (by kernel_rfl) (by kernel_rfl) (by kernel_rfl) (fun _ _ _ h => h) (Or.inl ⟨by kernel_rfl, ?_⟩) hHeld ?_
          rotate_left
          · intro w hSw
            try dsimp only at hSw
            go_simp
            try with_reducible rfl
          simp only [List.set_cons_zero, List.set_cons_succ]
          refine rgTake (i := 10) (v := ?_) rfl rfl (by kernel_rfl) (by kernel_rfl) (by kernel_rfl) (fun _ _ _ h => h) (Or.inl ⟨by kernel_rfl, ?_⟩) hHeld ?_
          rotate_left
          · intro w hSw
            try dsimp only at hSw
            go_simp
            try with_reducible rfl
          simp only [List.set_cons_zero, List.set_cons_succ]
          refine wpAnyH_done (by kernel_rfl) ?_ _
          have T2 : Two w2 w.heap.size va vb (X.drop cap) (X.take cap) := ⟨(ho1.lift hb2).mono K2.out.size, ho2.mono (Nat.le_trans K2.out.size hb1.size), fun g e1 e2 => by have a1 := (ho1.own.lt g e1).2; have a2 := (ho2.own.lt g e2).1; omega⟩
          have KF := Lib.hid ((K2.out.trans (hb1.mono K2.out.size)).trans (hb2.mono (Nat.le_trans K2.out.size hb1.size)))
          have HT2 := Lib.hid T2
          have hE3 := HE2.out
          simp only [Bool.not_false, Bool.and_true, if_true] at hE3
          have HE3 := Lib.hid hE3
          clear ho1 ho2 hb1 hb2 T2 hE3 HE2
          go_wp2
          refine bodyPost_ret (v := .tuple #[_, _, _]) (by simp [results, Try.results21, go_sem]; exact ⟨rfl, rfl, rfl⟩) rfl ?_
          rw [HE3.out]
          exact ⟨_, _, rfl, HT2.out, KF.out⟩
        · have qn : ¬ ((cap : Int) = q) := by omega
          have hrd := R2.out.drop q cap hcap
          have hcut : lsCut 3 pa cap q = pa.map (fun x => x.add (q * 3)) := by unfold lsCut; rw [if_neg he]
          rw [hcut] at hrd
          have CA := clone_any (X.drop q) _ (cap - q) wq.drew (by rw [List.length_drop]; omega) hrd
          rw [List.length_drop] at CA
          have HCA := Lib.hid CA
          clear CA hrd hcut
          go_wp2_with fail
          refine wp_region_held_drew (S := fun w' => True) (by kernel_rfl) (trivial) (fun hHeld => ?_)
          refine rgTake (i := 0) (v := ?_) rfl rfl (by kernel_rfl) (by kernel_rfl) (by kernel_rfl) (fun _ _ _ h => h) (Or.inl ⟨by kernel_rfl, ?_⟩) hHeld ?_
          rotate_left
          · intro w hSw
            try dsimp only at hSw
            go_simp
            try with_reducible rfl
          simp only [List.set_cons_zero, List.set_cons_succ]
          refine rgTake (i := 1) (v := ?_) rfl rfl (by kernel_rfl) (by kernel_rfl) (by kernel_rfl) (fun _ _ _ h => h) (Or.inl ⟨by kernel_rfl, ?_⟩) hHeld ?_
          rotate_left
          · intro w hSw
            try dsimp only at hSw
            go_simp
            try with_reducible rfl
          simp only [List.set_cons_zero, List.set_cons_succ]
          refine rgTake (i := 2) (v := ?_) rfl rfl (by kernel_rfl) (by kernel_rfl) (by kernel_rfl) (fun _ _ _ h => h) (Or.inl ⟨by kernel_rfl, ?_⟩) hHeld ?_
          rotate_left
          · intro w hSw
            try dsimp only at hSw
            go_simp
            try with_reducible rfl
          simp only [List.set_cons_zero, List.set_cons_succ]
          refine rgTake (i := 4) (v := ?_) rfl rfl (by kernel_rfl) (by kernel_rfl) (by kernel_rfl) (fun _ _ _ h => h) (Or.inl ⟨by kernel_rfl, ?_⟩) hHeld ?_
          rotate_left
          · intro w hSw
            try dsimp only at hSw
            go_simp
            try with_reducible rfl
          simp only [List.set_cons_zero, List.set_cons_succ]
          refine rgTake (i := 5) (v := ?_) rfl rfl (by kernel_rfl) (by kernel_rfl) (by kernel_rfl) (fun _ _ _ h => h) (Or.inl ⟨by kernel_rfl, ?_⟩) hHeld ?_
          rotate_left
          · intro w hSw
            try dsimp only at hSw
            go_simp
            try with_reducible rfl
          simp only [List.set_cons_zero, List.set_cons_succ]
          refine rgTake (i := 6) (v := ?_) rfl rfl (by kernel_rfl) (by kernel_rfl) (by kernel_rfl) (fun _ _ _ h => h) (Or.inl ⟨by kernel_rfl, ?_⟩) hHeld ?_
          rotate_left
          · intro w hSw
            try dsimp only at hSw
            go_simp
            try with_reducible rfl
          simp only [List.set_cons_zero, List.set_cons_succ]
          refine wpAnyH_ready (rs := [3]) (by kernel_rfl) (by simp) ?_
          refine AllReadyH.cons rfl (fun KK hK => ?_) AllReadyH.nil
          go_simp
          refine (HCA.out).mono ?_
          rintro e w3 ⟨va, rfl, ho1, hb1⟩
          show KK _ w3
          refine hK.out _ _ (trivial) (fun hHeld => ?_)
          clear hK KK
          try simp only [Act.put, List.setIfInBounds_toArray, List.set_cons_zero, List.set_cons_succ]
          refine wpAnyH_ready (rs := [7]) (by kernel_rfl) (by simp) ?_
          refine AllReadyH.cons rfl (fun KK hK => ?_) AllReadyH.nil
          go_simp
          refine (CB.out _ ((R2.out.lift hb1).take q)).mono ?_
          rintro e w4 ⟨vb, rfl, ho2, hb2⟩
          show KK _ w4
          refine hK.out _ _ (trivial) (fun hHeld => ?_)
          clear hK KK
          try simp only [Act.put, List.setIfInBounds_toArray, List.set_cons_zero, List.set_cons_succ]
          refine rgTake (i := 8) (v := ?_) rfl rfl (by kernel_rfl) (by kernel_rfl) (by kernel_rfl) (fun _ _ _ h => h) (Or.inl ⟨by kernel_rfl, ?_⟩) hHeld ?_
          rotate_left
          · intro w hSw
            try dsimp only at hSw
            go_simp
            try with_reducible rfl
          simp only [List.set_cons_zero, List.set_cons_succ]
          refine rgTake (i := 9) (v := ?_) rfl rfl (by kernel_rfl) (by kernel_rfl) (by kernel_rfl) (fun _ _ _ h => h) (Or.inl ⟨by kernel_rfl, ?_⟩) hHeld ?_
          rotate_left
          · intro w hSw
            try dsimp only at hSw
            go_simp
            try with_reducible rfl
          simp only [List.set_cons_zero, List.set_cons_succ]
          refine rgTake (i := 10) (v := ?_) rfl rfl (by kernel_rfl) (by kernel_rfl) (by kernel_rfl) (fun _ _ _ h => h) (Or.inl ⟨by kernel_rfl, ?_⟩) hHeld ?_
          rotate_left
          · intro w hSw
            try dsimp only at hSw
            go_simp
            try with_reducible rfl
          simp only [List.set_cons_zero, List.set_cons_succ]
          refine wpAnyH_done (by kernel_rfl) ?_ _
          have T2 : Two w4 w.heap.size va vb (X.drop q) (X.take q) := ⟨(ho1.lift hb2).mono K2.out.size, ho2.mono (Nat.le_trans K2.out.size hb1.size), fun g e1 e2 => by have a1 := (ho1.own.lt g e1).2; have a2 := (ho2.own.lt g e2).1; omega⟩
          have KF := Lib.hid ((K2.out.trans (hb1.mono K2.out.size)).trans (hb2.mono (Nat.le_trans K2.out.size hb1.size)))
          have HT2 := Lib.hid T2
          have hE3 := HE2.out
          simp only [Bool.not_false, Bool.and_true, if_true] at hE3
          have HE3 := Lib.hid hE3
          clear ho1 ho2 hb1 hb2 T2 hE3 HE2
          go_wp2
          refine bodyPost_ret (v := .tuple #[_, _, _]) (by simp [results, Try.results21, go_sem]; exact ⟨rfl, rfl, rfl⟩) rfl ?_
          rw [HE3.out]
          exact ⟨_, _, rfl, HT2.out, KF.out⟩
      · rw [e3] at L
        have hE := HE.out _ _ _ e1 e2 e3
        rw [hE]
        clear HE hE e1 e2 e3
        go_enter Try.func21, Try.ntmps21
        go_wp2_with (rw [← hW0])
        refine C.out.mono ?_
        rintro e w1 ⟨rfl, hb1⟩
        have K1 := Lib.hid (HB.out.trans (hb1.mono (by omega)))
        have R1 := Lib.hid (HR.out.lift hb1)
        rw [hsz] at hb1
        obtain ⟨_, cn1⟩ := J0.out _ hb1
        clear hb1 hW0 c0 c1 c2 c3 cn
        go_wp2_with fail
        refine (T.out _).mono ?_
        rintro e w2 ⟨rfl, rfl⟩
        go_wp2_with fail
        refine (L.out _ R1.out).mono ?_
        rintro e w2 ⟨rfl, rfl⟩
        go_wp2
        refine bodyPost_ret (v := .tuple #[_, _, _]) (by simp [results, Try.results21, go_sem]; exact ⟨rfl, rfl, rfl⟩) rfl ?_
        exact ⟨_, _, rfl, two_nil _ _, K1.out⟩
end Go.Proofs.Ytllojkdacinhfaa.Jn
