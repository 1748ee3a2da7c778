/- A part of a way to reckon what a Go program does without its memory (AvDu). -/
import Derived.Test.YtllojkdacinhfaaAvDt
namespace Go.Av
open Go Go.RowKit
set_option autoImplicit false
set_option linter.all false
section
variable {P : Program}
theorem cOps_get {ops : Array Oper} : ∀ {l : List Oper} {aos : List AO} {i : Nat} {o : Oper}, cOps P ops l = some aos → l[i]? = some o → ∃ ao g, aos[i]? = some ⟨o.dst, ao, g⟩ ∧ cOp P o = some ao ∧ cGuard ops o.guard = some g
  | [], _, _, _, _, h => by simp at h
  | x :: l, aos, 0, o, h, hi => by
    obtain ⟨ao, g, r, h1, h2, h3, rfl⟩ := cOps_cons h
    simp at hi; subst hi
    exact ⟨ao, g, rfl, h1, h2⟩
  | x :: l, aos, i + 1, o, h, hi => by
    obtain ⟨ao, g, r, h1, h2, h3, rfl⟩ := cOps_cons h
    obtain ⟨ao', g', k1, k2, k3⟩ := cOps_get h3 (by simpa using hi)
    exact ⟨ao', g', by simpa using k1, k2, k3⟩
theorem opK_dr {o : AO} {e : List V} {H : List Entry} {K : KV} (h : opK P o.dr K e H) : opK P o K e H := by
  unfold opK at h ⊢
  rw [dr_guard] at h
  split at h
  · exact step_dr h
  · rename_i t b hg
    split at h
    · rename_i c hv
      cases hcb : (c == b) with
      | true => rw [hcb] at h; exact step_dr h
      | false => rw [hcb] at h; exact h
    · exact h
    · exact h.elim
theorem agree_pre {A B s t F : List Entry} (h : A ++ s = F) (k : B ++ t = F) : Agree A B := by
  intro g x y hx hy
  have h1 : F[g]? = some x := by
    rw [← h, List.getElem?_append_left (by
      rcases Nat.lt_or_ge g A.length with h | h
      · exact h
      · simp [List.getElem?_eq_none h] at hx)]
    exact hx
  have h2 : F[g]? = some y := by
    rw [← k, List.getElem?_append_left (by
      rcases Nat.lt_or_ge g B.length with h | h
      · exact h
      · simp [List.getElem?_eq_none h] at hy)]
    exact hy
  rw [h1] at h2
  exact (Option.some.inj h2).symm
/-- What changes memory is a pusher, or writes. -/
theorem opOk_eff {o : AO} {e : List V} {H : List Entry} {v : V} {f : Eff} (h : OpOk P o e H v f) (hf : f ≠ .rows []) : (o.op.cls = 2 ∧ ∃ r, f = .rows r) ∨ o.op.cls = 4 := by
  rcases h with ⟨_, h, _⟩ | ⟨_, h, _⟩ | ⟨h, _⟩
  · exact absurd h hf
  · exact absurd h hf
  · exact h
theorem hcl_eff {a b : Nat} (ha : a = 2 ∨ a = 4) (hb : b = 2 ∨ b = 4) : hcl a b = true := by
  rcases ha with rfl | rfl <;> rcases hb with rfl | rfl <;> rfl
theorem opK_mono {o : AO} {e : List V} {H : List Entry} {K K' : KV} (h : opK P o K e H) (hs : step P o.op e H K → step P o.op e H K') (hk : ∀ v H, K v H → K' v H) : opK P o K' e H := by
  unfold opK at h ⊢
  split at h
  · exact hs h
  · rename_i t b hg
    split at h
    · rename_i c hv
      cases hcb : (c == b) with
      | true => rw [hcb] at h; exact hs h
      | false => rw [hcb] at h; exact hk _ _ h
    · exact hk _ _ h
    · exact h.elim
section draw
variable {w : List (List Nat)} {l : List AO} {rs : List Res} {e : List V} {H : List Entry} {os : List Oper}
/-- Whatever is done, what it waited for is done. -/
def Closed (w : List (List Nat)) (S : Nat → Bool) : Prop := ∀ i, S i = true → ∀ j ∈ (w[i]?).getD [], S j = true
/-- Where one stands, those that it clashes with are done just if they stand before. -/
theorem clash_done {S : Nat → Bool} {i k : Nat} {x y : AO} (F : DrawFacts w os l) (hcl : Closed w S) (hrd : ∀ j ∈ (w[i]?).getD [], S j = true) (hi : S i = false) (hx : l[i]? = some x) (hy : l[k]? = some y) (h1 : y.clash x = true) (h2 : x.clash y = true) : S k = decide (k < i) := by
  rcases Nat.lt_trichotomy k i with h | h | h
  · rw [hrd k (F.pair k i y x h hy hx h1)]; simp [h]
  · subst h; rw [hi]; simp
  · cases hk : S k with
    | false => simp; omega
    | true =>
      have := hcl k hk i (F.pair i k x y h hx hy h2)
      rw [hi] at this; cases this
theorem clash_comm {x y : AO} (h : x.clash y = true) : y.clash x = true := by
  unfold AO.clash at h ⊢
  simp only [Bool.or_eq_true, Bool.and_eq_true, Nat.beq_eq] at h ⊢
  rcases h with (h | h) | h
  · split at h
    · rename_i d hd
      simp only [Bool.or_eq_true] at h
      rcases h with h | h
      · exact .inl (.inr (by simpa [hd] using h))
      · split at h
        · rename_i d' hd'
          refine .inl (.inl ?_)
          simp only [Bool.or_eq_true, Nat.beq_eq] at h ⊢
          exact .inr h.symm
        · cases h
    · cases h
  · split at h
    · rename_i d hd
      exact .inl (.inl (by simp only [Bool.or_eq_true]; exact .inl h))
    · cases h
  · exact .inr (hcl_comm h)
theorem eff_cls (hR : Run P l e H rs) {k : Nat} {v : V} {f : Eff} (hk : rs[k]? = some (v, f)) (hf : f ≠ .rows []) : ∃ y, l[k]? = some y ∧ ((y.op.cls = 2 ∧ ∃ r, f = .rows r) ∨ y.op.cls = 4) := by
  have hlt : k < l.length := by
    rw [← hR.length]
    exact (List.getElem?_eq_some_iff.1 hk).1
  have hy : l[k]? = some l[k] := List.getElem?_eq_getElem hlt
  obtain ⟨v', r', h1, h2⟩ := run_at 0 k hR hy
  rw [hk] at h1
  cases h1
  exact ⟨_, hy, opOk_eff h2 hf⟩
theorem two_four {y : AO} {f : Eff} (h : (y.op.cls = 2 ∧ ∃ r, f = .rows r) ∨ y.op.cls = 4) : y.op.cls = 2 ∨ y.op.cls = 4 := h.imp (·.1) id
/-- What changes memory is done in order. -/
theorem closed_eff {S : Nat → Bool} (F : DrawFacts w os l) (hR : Run P l e H rs) (hcl : Closed w S) {j k : Nat} {v v' : V} {f f' : Eff} (hjk : j < k) (hj : rs[j]? = some (v, f)) (hk : rs[k]? = some (v', f')) (hf : f ≠ .rows []) (hf' : f' ≠ .rows []) (hS : S k = true) : S j = true := by
  obtain ⟨y, hy, cy⟩ := eff_cls hR hj hf
  obtain ⟨z, hz, cz⟩ := eff_cls hR hk hf'
  exact hcl k hS j (F.pair j k y z hjk hy hz (clash_cls (hcl_eff (two_four cy) (two_four cz))))
/-- What is ready gives what it gives in its place. -/
theorem draw_step {S : Nat → Bool} {i : Nat} {x : AO} {C : Ctx} {ts : List Value} (F : DrawFacts w os l) (hR : Run P l e H rs) (hcl : Closed w S) (hrd : ∀ j ∈ (w[i]?).getD [], S j = true) (hi : S i = false) (hx : l[i]? = some x)
    (hH : C.H = selH S 0 rs H) (hE : CRep C.R (selE S 0 l rs e) ts) : ∃ v r, rs[i]? = some (v, r) ∧ opK P x (fun v' H' => v' = v ∧ H' = r.app C.H) (selE S 0 l rs e) C.H := by
  obtain ⟨v, r, h1, h2⟩ := run_at 0 i hR hx
  simp only [Nat.zero_add] at h2
  refine ⟨v, r, h1, ?_⟩
  have hxm : x ∈ l := List.mem_of_getElem? hx
  have hen : ∀ t ∈ x.rds, nth (selE (fun j => decide (j < i)) 0 l rs e) t = nth (selE S 0 l rs e) t := fun t ht =>
    selE_nth l rs 0 e e rfl rfl fun k o hk ho => by
      simp only [Nat.zero_add]
      exact (clash_done F hcl hrd hi hx hk (clash_read ho ht) (clash_comm (clash_read ho ht))).symm
  rcases h2 with ⟨hc, hr, h2⟩ | ⟨hc, hr, h2⟩ | ⟨hc, h2⟩
  · subst hr
    simp only [Eff.app, List.append_nil]
    rw [← opK_reads (F.cls x hxm) hen]
    exact h2 C.H
  · subst hr
    simp only [Eff.app, List.append_nil]
    rw [← opK_reads (F.cls x hxm) hen]
    refine h2 C.H ?_ ?_
    · rw [hH]
      rcases selH_two (S := fun j => decide (j < i)) (T := S) rs 0 H (fun k v' f' hk hf => by
          obtain ⟨y, hy, cy⟩ := eff_cls hR hk hf
          rcases cy with ⟨_, cy⟩ | cy
          · exact .inr cy
          · refine .inl ?_
            have hcl2 : Av.hcl y.op.cls x.op.cls = true := by rw [cy, hc]; rfl
            simp only [Nat.zero_add]
            exact (clash_done F hcl hrd hi hx hy (clash_cls hcl2) (clash_cls (hcl_comm hcl2))).symm)
        (fun j k _ _ _ _ hjk _ _ _ _ hk => by simp at hk ⊢; omega)
        (fun j k v f v' f' hjk hj hk hf hf' hS => by
          simp only [Nat.zero_add] at hS ⊢
          exact closed_eff F hR hcl hjk hj hk hf hf' hS) with ⟨s, hs⟩ | ⟨s, hs⟩
      · exact agree_pre (s := s) (t := []) hs (by simp)
      · exact agree_pre (s := []) (t := s) (by simp) hs
    · intro y hy g hg
      obtain ⟨p, hp, rfl⟩ := List.mem_map.1 hy
      cases p with
      | c u =>
        have := constOk_spec (F.cst x hxm) hp
        simp only [ev] at hg
        rw [this] at hg; cases hg
      | t tt =>
        simp only [ev] at hg
        have ht : tt ∈ x.rds := by
          have := tmpsOf_mem hp
          unfold AO.rds; split <;> simp [this]
        rw [hen tt ht] at hg
        have hrep := CRep_nth tt hE
        have := ev_gid hrep hg
        rcases Nat.lt_or_ge g C.H.length with h | h
        · exact h
        · exact absurd (by simp [Ctx.R, Ctx.sh, List.getElem?_eq_none h]) this
  · have hcx : x.op.cls = 2 ∨ x.op.cls = 4 := two_four hc
    have hHe : selH (fun j => decide (j < i)) 0 rs H = C.H := by
      rw [hH]
      refine selH_congr rs 0 H fun k v' r' hk hr' => ?_
      obtain ⟨y, hy, cy⟩ := eff_cls hR hk hr'
      simp only [Nat.zero_add]
      exact (clash_done F hcl hrd hi hx hy (clash_cls (hcl_eff (two_four cy) hcx)) (clash_cls (hcl_eff hcx (two_four cy)))).symm
    rw [hHe, opK_reads (F.cls x hxm) hen] at h2
    exact h2
theorem draw_put {S S' : Nat → Bool} {i : Nat} {x : AO} {v : V} {r : Eff} (F : DrawFacts w os l) (hcl : Closed w S) (hi : S i = false) (hx : l[i]? = some x) (hr : rs[i]? = some (v, r)) (h1 : S' i = true) (h2 : ∀ j, j ≠ i → S' j = S j) :
    selE S' 0 l rs e = putD (selE S 0 l rs e) x.dst v := by
  refine nth_ext (by rw [putD_length, selE_length, selE_length]) fun t => ?_
  by_cases hd : x.dst = some t
  · rw [hd]
    simp only [putD]
    by_cases ht : t < e.length
    · rw [nth_setAt_eq (by rw [selE_length]; exact ht)]
      refine selE_last l rs 0 i e hx hr hd (by simpa using h1) ht fun j o hj ho hod => ?_
      simp only [Nat.zero_add]
      rw [h2 j (by omega)]
      cases hS : S j with
      | false => rfl
      | true =>
        have := hcl j hS i (F.pair i j x o hj hx ho (clash_write hd hod))
        rw [hi] at this; cases this
    · rw [nth_out (by rw [selE_length]; omega), nth_out (by rw [setAt_length, selE_length]; omega)]
  · have : nth (putD (selE S 0 l rs e) x.dst v) t = nth (selE S 0 l rs e) t := by
      cases hdd : x.dst with
      | none => rfl
      | some d => exact nth_setAt_ne fun heq => hd (by rw [hdd, heq])
    rw [this]
    refine selE_nth l rs 0 e e rfl rfl fun k o hk ho => ?_
    simp only [Nat.zero_add]
    refine h2 k fun heq => ?_
    subst heq
    rw [hx] at hk; cases hk
    exact hd ho
end draw
theorem draw_sound {ops : Array Oper} {Q : Exit → Act → World → Prop} {K : K1} {id : Nat} {aos : List AO} (hm : P.follows .mixedOrders = true) (h : cOps P ops ops.toList = some aos) (hd : drawOk ops.toList (aos.map AO.dr) = true)
    (C : Ctx) (a : Act) (e : List V) (hC : HRep C) (hE : CRep C.R e a.tmps.toList) (hk : Av.ops P (aos.map AO.dr) K e C.H)
    (hn : ∀ (C' : Ctx) (a' : Act) (e' : List V), Tr C C' → HRep C' → CRep C'.R e' a'.tmps.toList → a'.defers = a.defers → K e' C'.H → Q .normal a' C'.w) : (Code.region id ops true).wp P Q a C.w := by
  have F := drawOk_spec hd
  obtain ⟨rs, hR, hfin⟩ := ops_run 0 F.cls hk
  generalize hw : waitA [] ops.toList = w at F
  generalize hl : aos.map AO.dr = l at *
  apply wp_region_any hm
  have main : ∀ (fuel : Nat) (listed : Array Bool) (C' : Ctx) (a' : Act), listed.size = ops.size → unl listed.toList = fuel → Closed w (fun i => listed.getD i false) → Tr C C' → HRep C' → C'.H = selH (fun i => listed.getD i false) 0 rs C.H →
      CRep C'.R (selE (fun i => listed.getD i false) 0 l rs e) a'.tmps.toList → a'.defers = a.defers → wpAny P .any ops Q fuel listed a' C'.w := by
    intro fuel
    induction fuel with
    | zero =>
      intro listed C' a' hsz hu hcl ht hC' hH hE' hdf
      have all : ∀ i, i < ops.size → listed.getD i false = true := fun i hi => by
        have := unl_zero hu i (by simpa [hsz] using hi)
        simp at this
        simp [this]
      refine ⟨?_, ?_⟩
      · rw [List.eq_nil_iff_forall_not_mem]
        intro j hj
        obtain ⟨h1, o, ho, _⟩ := mem_ready.1 hj
        have hj' : j < ops.size := (Array.getElem?_eq_some_iff.1 ho).1
        have := all j hj'
        have hjl : j < listed.size := by omega
        simp [hjl] at this h1
        rw [h1] at this; cases this
      · refine hn C' a' _ ht hC' hE' hdf ?_
        rw [hH]
        have e1 : selE (fun i => listed.getD i false) 0 l rs e = selE (fun _ => true) 0 l rs e := nth_ext (by rw [selE_length, selE_length]) fun t => selE_nth l rs 0 e e rfl rfl fun k o hk' _ => by
          simp only [Nat.zero_add]
          refine all k ?_
          have h1 := (List.getElem?_eq_some_iff.1 hk').1
          have h2 := F.len
          simp at h2; omega
        have e2 : selH (fun i => listed.getD i false) 0 rs C.H = selH (fun _ => true) 0 rs C.H := selH_congr rs 0 C.H fun k v r hk' _ => by
          simp only [Nat.zero_add]
          refine all k ?_
          have h1 := (List.getElem?_eq_some_iff.1 hk').1
          rw [hR.length] at h1
          have h2 := F.len
          simp at h2; omega
        rw [e1, e2]
        exact hfin
    | succ fuel ih =>
      intro listed C' a' hsz hu hcl ht hC' hH hE' hdf
      refine ⟨fun hr0 => ?_, fun i hi => ?_⟩
      · exfalso
        have all : ∀ n i, i < n → i < ops.size → listed.getD i false = true := by
          intro n
          induction n with
          | zero => intro i hi; omega
          | succ n ihn =>
            intro i hin hi
            cases hli : listed.getD i false with
            | true => rfl
            | false =>
              have hmem : i ∈ Region.ready .any ops listed := mem_ready.2 ⟨by
                have hil : i < listed.size := by omega
                simp [hil] at hli ⊢; exact hli, ops[i], by simp [hi], fun ed hed hb => by
                have h1 := F.edge i ops[i] (by simp [hi]) ed hed hb
                exact ihn ed.on (by omega) (by omega)⟩
              rw [hr0] at hmem; cases hmem
        have : unl listed.toList = 0 := by
          have key : ∀ l : List Bool, (∀ i, i < l.length → l[i]? = some true) → unl l = 0 := by
            intro l
            induction l with
            | nil => intro _; rfl
            | cons b l ihl =>
              intro h
              have := h 0 (by simp)
              simp at this; subst this
              simp only [unl, cond_true, Nat.zero_add]
              exact ihl fun i hi => by simpa using h (i + 1) (by simpa using hi)
          refine key _ fun i hi => ?_
          have hi' : i < listed.size := by simpa using hi
          have := all (i + 1) i (by omega) (by omega)
          simp [hi'] at this
          simp [hi', this]
        omega
      · obtain ⟨h1, o, ho, hed⟩ := mem_ready.1 hi
        have hilt : i < ops.size := (Array.getElem?_eq_some_iff.1 ho).1
        have hil : i < listed.size := by omega
        have hfalse : listed[i]? = some false := by simp [hil] at h1 ⊢; exact h1
        have hSi : listed.getD i false = false := by simp [hil] at h1 ⊢; exact h1
        have ho' : ops.toList[i]? = some o := by simpa using ho
        obtain ⟨ao, g, k1, k2, k3⟩ := cOps_get h ho'
        have hx : l[i]? = some (AO.dr ⟨o.dst, ao, g⟩) := by rw [← hl]; simp [k1]
        have hrd : ∀ j ∈ (w[i]?).getD [], listed.getD j false = true := by
          intro j hj
          obtain ⟨ed, he1, he2, he3⟩ := F.wait i o ho' j hj
          have := hed ed he1 he2
          rcases he3 with rfl | he3
          · exact this
          · exact hcl ed.on this j he3
        obtain ⟨v, r, hrs, hop⟩ := draw_step F hR hcl hrd hSi hx hH hE'
        refine opK_sound ho k2 k3 hC' hE' (opK_dr hop) fun C2 x u t2 r2 vr hK => ?_
        obtain ⟨rfl, hH2⟩ := hK
        have hset : ∀ j, j ≠ i → (listed.setIfInBounds i true).getD j false = listed.getD j false := fun j hj => getD_set_ne false (Ne.symm hj)
        have hset1 : (listed.setIfInBounds i true).getD i false = true := by simp [hil]
        refine ih (listed.setIfInBounds i true) C2 (a'.put o.dst u) (by simpa using hsz) ?_ ?_ (ht.trans t2) r2 ?_ ?_ (put_defers.trans hdf)
        · have := unl_set (l := listed.toList) (i := i) (by simpa using hfalse)
          simp only [Array.toList_setIfInBounds]; omega
        · intro j hj k hk'
          by_cases hji : j = i
          · subst hji
            exact getD_set_true (hrd k hk')
          · simp only [hset j hji] at hj
            exact getD_set_true (hcl j hj k hk')
        · rw [hH2, hH]
          exact (selH_add rs 0 i C.H hrs (by simpa using hSi) (by simpa using hset1) (fun j hj => hset j (by omega)) fun j v' r' hj hrs' hr' hr => by
            simp only [Nat.zero_add]
            cases hS : listed.getD j false with
            | false => rfl
            | true =>
              have := closed_eff F hR hcl hj hrs hrs' hr hr' hS
              simp only [hSi] at this
              cases this).symm
        · have := draw_put (e := e) (S' := fun i_1 => (listed.setIfInBounds i true).getD i_1 false) F hcl hSi hx hrs hset1 hset
          rw [this, dr_dst]
          exact put_rep (CRep_tr t2.R _ _ hE') vr
  have hS0 : (fun i => (Array.replicate ops.size false).getD i false) = fun _ => false := by
    funext i
    simp [Array.getElem?_replicate]
    split <;> rfl
  have e1 : selE (fun _ => false) 0 l rs e = e := selE_none _ _ _ _ fun _ _ => rfl
  have e2 : selH (fun _ => false) 0 rs C.H = C.H := selH_none _ _ _ fun _ _ => rfl
  refine main ops.size (Array.replicate ops.size false) C.drew a (by simp) (by simp [unl_rep]) ?_ (drew_tr C) (drew_rep hC) ?_ ?_ rfl
  · rw [hS0]
    intro i hi
    cases hi
  · rw [hS0, e2]; rfl
  · rw [hS0, e1]
    exact CRep_tr (drew_tr C).R _ _ hE
end
end Go.Av
