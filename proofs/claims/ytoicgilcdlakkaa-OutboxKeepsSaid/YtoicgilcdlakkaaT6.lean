/- A part of a way to reckon what a Go program does without its memory (T6). -/
import Derived.Test.YtoicgilcdlakkaaT5
import Derived.Test.YtoicgilcdlakkaaMp
import Derived.Test.YtoicgilcdlakkaaFit
namespace Go.Av
open Go
set_option autoImplicit false
set_option linter.all false
/-! ### Each is there till it is taken -/
def oI (j : Int) : Ot := (j, [115], [100 + j], 0, 0)
def upto (i : Nat) : List Ot := (List.range i).map fun (k : Nat) => oI ((k : Int) + 1)
theorem upto_succ (i : Nat) : upto (i + 1) = upto i ++ [oI ((i : Int) + 1)] := by simp [upto, List.range_succ]
theorem f115 : fieldB [115] = true := by decide +kernel
theorem own_oI {j : Int} (h : 1 ≤ j) : ownB (oI j) = true := by
  unfold ownB oI
  simp only [f115, timeB]
  simp
  exact h
theorem upto_mem {i : Nat} {x : Ot} (h : x ∈ upto i) : ∃ j : Int, x = oI j ∧ 1 ≤ j ∧ j ≤ i := by
  simp only [upto, List.mem_map, List.mem_range] at h
  obtain ⟨k, hk, rfl⟩ := h
  exact ⟨(k : Int) + 1, rfl, by omega, by omega⟩
theorem upto_chk {i : Nat} (h : i ≤ 100) : chkO (upto i) = true := by
  refine chk_iff.2 ⟨by simpa [upto] using h, fun x hx => ?_, ?_⟩
  · obtain ⟨j, rfl, h1, _⟩ := upto_mem hx
    exact own_oI h1
  · unfold Asc upto
    rw [List.pairwise_map]
    refine List.Pairwise.imp ?_ List.pairwise_lt_range
    intro a b hab
    simp only [oI]
    omega
theorem otB_oI {j : Int} (h1 : 1 ≤ j) (h2 : j ≤ 1000) : otB (oI j) := ⟨by simp [oI], by simp [oI], by simp only [oI]; omega⟩
theorem upto_osB {i : Nat} (h : i ≤ 100) : osB (upto i) := ⟨by simp [upto]; omega, fun x hx => by
  obtain ⟨j, rfl, h1, h2⟩ := upto_mem hx
  exact otB_oI h1 (by omega)⟩
theorem add_upto {i : Nat} (h : i < 100) : addO (upto i) (oI ((i : Int) + 1)) = (upto (i + 1), 0) := by
  have hl : (upto i).length = i := by simp [upto]
  unfold addO
  rw [if_pos ⟨upto_chk (by omega), own_oI (by omega)⟩, if_neg ?_, if_neg (by omega), upto_succ]
  rintro ⟨h1, h2⟩
  obtain ⟨j, hj, _, h4⟩ := upto_mem (getD_mem (X := upto i) (i := (upto i).length - 1) (by omega))
  rw [hj] at h2
  simp only [oI] at h2
  omega
def gG (G : List (Int × Bool)) (k : Int) : Bool := (getM G k).getD false
def gT (T : List (Int × Int)) (k : Int) : Int := (getM T k).getD 0
theorem mgG {G : List (Int × Bool)} {k : Int} : orM V.bool (.bool false) (getM G k) = V.bool (gG G k) := by
  unfold gG
  cases getM G k <;> rfl
theorem mgT {T : List (Int × Int)} {k : Int} : orM (V.int .i64) (.int .i64 0) (getM T k) = V.int .i64 (gT T k) := by
  unfold gT
  cases getM T k <;> rfl
theorem gG_put {G : List (Int × Bool)} {k m : Int} {b : Bool} : gG (putM G k b) m = if m = k then b else gG G m := by
  unfold gG
  rw [get_put]
  split <;> rfl
theorem gT_put {T : List (Int × Int)} {k m : Int} {b : Int} : gT (putM T k b) m = if m = k then b else gT T m := by
  unfold gT
  rw [get_put]
  split <;> rfl
structure St (n : Nat) (X : List Ot) (T : List (Int × Int)) (G : List (Int × Bool)) : Prop where
  os : osB X
  ck : chkO X = true
  el : ∀ x ∈ X, (1 ≤ x.1 ∧ x.1 ≤ n) ∧ x.2.2.1 = [100 + x.1] ∧ gG G x.1 = false ∧ gT T x.1 = x.2.2.2.1
  out : ∀ k : Int, 1 ≤ k → k ≤ n → hasI X k = false → gG G k = true
theorem st_init {n : Nat} (h : n ≤ 12) : St n (upto n) [] [] := by
  refine ⟨upto_osB (by omega), upto_chk (by omega), fun x hx => ?_, fun k h1 h2 hk => ?_⟩
  · obtain ⟨j, rfl, h1, h2⟩ := upto_mem hx
    exact ⟨⟨h1, h2⟩, rfl, rfl, rfl⟩
  · exfalso
    have : oI k ∈ upto n := by
      simp only [upto, List.mem_map, List.mem_range]
      exact ⟨(k - 1).toNat, by omega, by congr 1; omega⟩
    have h2 : hasI (upto n) k = true := by
      simp only [hasI, List.any_eq_true]
      exact ⟨_, this, by simp [isI, oI]⟩
    rw [h2] at hk; cases hk
theorem st_out {n : Nat} {X : List Ot} {T T' : List (Int × Int)} {G : List (Int × Bool)} {a : Int} (h : St n X T G) (hT : ∀ m, m ≠ a → gT T' m = gT T m) : St n (outI X a) T' (putM G a true) := by
  refine ⟨osB_filter h.os, chk_filter h.ck, fun x hx => ?_, fun k h1 h2 hk => ?_⟩
  · obtain ⟨hx1, hx2⟩ := List.mem_filter.1 hx
    have hne : x.1 ≠ a := by simpa [isI] using hx2
    obtain ⟨e1, e2, e3, e4⟩ := h.el x hx1
    refine ⟨e1, e2, ?_, ?_⟩
    · rw [gG_put, if_neg hne]; exact e3
    · rw [hT _ hne]; exact e4
  · rw [gG_put]
    split
    · rfl
    · rename_i hne
      rw [has_out] at hk
      refine h.out k h1 h2 ?_
      have : decide (a ≠ k) = true := by simpa using fun k' => hne k'.symm
      rw [this, Bool.and_true] at hk
      exact hk
theorem st_set {n : Nat} {X : List Ot} {T : List (Int × Int)} {G : List (Int × Bool)} {p : Nat} {now : Int} (h : St n X T G) (hp : p < X.length) (hn : timeB now = true) (h5 : (X.getD p default).2.2.2.1 + 1 ≠ 5) :
    St n (X.set p (nackX (X.getD p default) now)) (putM T (X.getD p default).1 ((X.getD p default).2.2.2.1 + 1)) (putM G (X.getD p default).1 false) := by
  have hm := getD_mem (X := X) hp
  have ha := (chk_iff.1 h.ck).2.2
  have ho := (chk_iff.1 h.ck).2.1
  have htr := own_tries (ho _ hm)
  have hwb := wait_bd ((X.getD p default).2.2.2.1 + 1)
  have hmem : ∀ y, y ∈ X.set p (nackX (X.getD p default) now) → y = nackX (X.getD p default) now ∨ (y ∈ X ∧ y.1 ≠ (X.getD p default).1) := fun y hy => by
    obtain ⟨j, hj, rfl⟩ := List.mem_iff_getElem.1 hy
    rw [List.length_set] at hj
    by_cases hjp : p = j
    · left; subst hjp; simp
    · right
      rw [List.getElem_set_ne hjp]
      refine ⟨List.getElem_mem hj, ?_⟩
      rcases Nat.lt_or_ge j p with hlt | hge
      · have := asc_lt ha (i := j) (j := p) hlt hp
        simp [hj] at this ⊢
        omega
      · have := asc_lt ha (i := p) (j := j) (by omega) hj
        simp [hj] at this ⊢
        omega
  have hown : ownB (nackX (X.getD p default) now) = true := by
    have := own_like (t := (X.getD p default).2.2.2.1 + 1) (d := (nackX (X.getD p default) now).2.2.2.2) (ho _ hm) (by omega) (by omega) (by
      unfold timeB at hn
      simp only [Bool.and_eq_true, decide_eq_true_eq] at hn
      by_cases hq : 1099511627775 < now + waitZ ((X.getD p default).2.2.2.1 + 1)
      · have e : (nackX (X.getD p default) now).2.2.2.2 = 1099511627775 := by unfold nackX; rw [if_pos hq]
        rw [e]; decide
      · have e : (nackX (X.getD p default) now).2.2.2.2 = now + waitZ ((X.getD p default).2.2.2.1 + 1) := by unfold nackX; rw [if_neg hq]
        rw [e]; unfold timeB; simp only [Bool.and_eq_true, decide_eq_true_eq]; omega)
    exact this
  refine ⟨⟨by simpa using h.os.1, fun y hy => ?_⟩, chk_iff.2 ⟨by simpa using (chk_iff.1 h.ck).1, fun y hy => ?_, ?_⟩, fun y hy => ?_, fun k h1 h2 hk => ?_⟩
  · rcases hmem y hy with rfl | ⟨hy, _⟩
    · have := h.os.2 _ hm
      exact ⟨by simpa [nackX] using this.1, by simpa [nackX] using this.2.1, by simpa [nackX] using this.2.2⟩
    · exact h.os.2 y hy
  · rcases hmem y hy with rfl | ⟨hy, _⟩
    · exact hown
    · exact ho y hy
  · rw [← with_set ha hp (by simp [nackX]), with_set ha hp (by simp [nackX])]
    unfold Asc
    rw [List.pairwise_iff_getElem]
    intro i j hi hj hij
    rw [List.length_set] at hi hj
    have hlt := asc_lt ha hij hj
    simp only [List.getElem_set]
    have gi : X.getD i default = X[i] := by simp [hi]
    have gj : X.getD j default = X[j] := by simp [hj]
    rw [gi, gj] at hlt
    split
    · rename_i e; subst e
      split
      · omega
      · simp only [nackX, gi]; exact hlt
    · split
      · rename_i e; subst e
        simp only [nackX, gj]; exact hlt
      · exact hlt
  · rcases hmem y hy with rfl | ⟨hy, hne⟩
    · obtain ⟨e1, e2, e3, e4⟩ := h.el _ hm
      refine ⟨e1, e2, ?_, ?_⟩
      · simp only [nackX]; rw [gG_put, if_pos rfl]
      · simp only [nackX]; rw [gT_put, if_pos rfl]
    · obtain ⟨e1, e2, e3, e4⟩ := h.el _ hy
      refine ⟨e1, e2, ?_, ?_⟩
      · rw [gG_put, if_neg hne]; exact e3
      · rw [gT_put, if_neg hne]; exact e4
  · have hh : hasI X k = false ∧ k ≠ (X.getD p default).1 := by
      constructor
      · rw [← Bool.not_eq_true]
        intro hx
        simp only [hasI, List.any_eq_true] at hx
        obtain ⟨y, hy, hy2⟩ := hx
        rw [← Bool.not_eq_true] at hk
        refine hk ?_
        simp only [hasI, List.any_eq_true]
        by_cases hyp : y.1 = (X.getD p default).1
        · refine ⟨_, List.mem_set hp (nackX (X.getD p default) now), ?_⟩
          simp only [isI, decide_eq_true_eq] at hy2 ⊢
          simp only [nackX]
          omega
        · obtain ⟨j, hj, rfl⟩ := List.mem_iff_getElem.1 hy
          refine ⟨X[j], ?_, hy2⟩
          have hpj : p ≠ j := fun e => hyp (by subst e; simp [hj])
          rw [List.mem_iff_getElem]
          exact ⟨j, by simpa using hj, by rw [List.getElem_set_ne hpj]⟩
      · rintro rfl
        rw [← Bool.not_eq_true] at hk
        refine hk ?_
        simp only [hasI, List.any_eq_true]
        exact ⟨_, List.mem_set hp (nackX (X.getD p default) now), by simp [isI, nackX]⟩
    rw [gG_put, if_neg hh.2]
    exact h.out k h1 h2 hh.1
/-- How many are there. -/
theorem cnt_step : ∀ {X : List Ot} {k : Int}, Asc X → (X.filter (befI (k + 1))).length = (X.filter (befI k)).length + if hasI X k = true then 1 else 0
  | [], k, _ => by simp [hasI]
  | y :: X, k, ha => by
    obtain ⟨h1, h2⟩ := List.pairwise_cons.1 ha
    have ih := cnt_step (k := k) h2
    rcases Int.lt_trichotomy y.1 k with h | h | h
    · rw [List.filter_cons_of_pos (by simp [befI]; omega), List.filter_cons_of_pos (by simp [befI]; omega)]
      have : hasI (y :: X) k = hasI X k := by
        have : isI k y = false := by simp [isI]; omega
        simp [hasI, this]
      rw [this, List.length_cons, List.length_cons, ih]
      omega
    · rw [List.filter_cons_of_pos (by simp [befI]; omega), List.filter_cons_of_neg (by simp [befI]; omega), fil_none (p := befI (k + 1)), fil_none (p := befI k)]
      · have : hasI (y :: X) k = true := by
          have : isI k y = true := by simp [isI]; omega
          simp [hasI, this]
        rw [this]
        simp
      · intro z hz; have := h1 z hz; simp [befI]; omega
      · intro z hz; have := h1 z hz; simp [befI]; omega
    · rw [List.filter_cons_of_neg (by simp [befI]; omega), List.filter_cons_of_neg (by simp [befI]; omega), ih]
      have : hasI (y :: X) k = hasI X k := by
        have : isI k y = false := by simp [isI]; omega
        simp [hasI, this]
      rw [this]
end Go.Av
namespace Go.Av
open Go
set_option autoImplicit false
set_option linter.all false
theorem uniq {X : List Ot} {x : Ot} {p : Nat} (ha : Asc X) (hp : p < X.length) (hx : x ∈ X) (h : (X.getD p default).1 = x.1) : X.getD p default = x := by
  obtain ⟨j, hj, rfl⟩ := List.mem_iff_getElem.1 hx
  rcases Nat.lt_trichotomy p j with k | k | k
  · have := asc_lt ha k hj
    simp [hj] at this h
    simp [hp] at this h
    omega
  · subst k; simp [hp]
  · have := asc_lt ha k hp
    simp [hj] at this h
    simp [hp] at this h
    omega
set_option maxHeartbeats 4000000 in
set_option maxRecDepth 100000 in
theorem law_keeps {a : Int} {Z : List Int} {H : List Entry} (ha : 0 ≤ a ∧ a ≤ 255) (hZ : Z.length ≤ 9223372036854775807) (hz : ∀ z ∈ Z, 0 ≤ z ∧ z ≤ 255) : Pure AP n_trystlaw15_OutboxKeeps [.int .u8 a, .sl 1 (Z.map uV)] H (.bool true) := by
  intro K hK
  refine a_trystlaw15_OutboxKeeps fun hw => ?_
  obtain ⟨n, hn, hn1, hn2⟩ : ∃ n : Nat, 1 + a % 12 = (n : Int) ∧ 1 ≤ n ∧ n ≤ 12 := ⟨(1 + a % 12).toNat, by omega, by omega, by omega⟩
  simp (disch := first | omega | (simp only [go_sem, push_cast, and_true] <;> omega) | fail) only [go_sem, c_trystlaw15_OutboxKeeps, hn]
  refine loop_nil 5 5 rfl ?_
  simp (disch := first | omega | (simp only [go_sem, push_cast, and_true] <;> omega) | fail) only [go_sem, setAt]
  refine loop_in (fun m e' H' => ∃ i : Nat, m = n - i ∧ e' = slots 0 183 [(1, .sl 1 (Z.map uV)), (4, .bool false), (5, .sl 5 ((upto i).map otV)), (6, .int .i64 (n : Int)), (7, .int .i64 ((i : Int) + 1))] ∧ H' = H ∧ i ≤ n) (n := n) ⟨0, rfl, rfl, rfl, by omega⟩ (by first | omega | (simp only [go_sem, push_cast] <;> omega)) ?_ (hLe_drop hw) ?_
  · have h0 : upto 0 = [] := rfl
    simp (disch := first | (simp only [go_sem, h0, List.map_nil] <;> omega) | fail) only [go_sem, x_eLeS, x_hLeS, Int.natCast_zero, Int.natCast_add, Int.natCast_one, h0, List.map_nil]
  · rintro J hJ m e' H' ⟨i, rfl, rfl, rfl, hi1⟩
    by_cases h : (i : Int) + 1 ≤ n
    · have hA := add_upto (i := i) (by omega)
      simp (disch := first | omega | (simp only [go_sem, push_cast, and_true] <;> omega) | fail) only [go_sem]
      refine bcall_less (b := [.sl 5 ((upto i).map otV), otV (oI ((i : Int) + 1))]) (s_Add (upto_osB (by omega)) (otB_oI (by omega) (by omega)) _ ?_) (by
        refine .cons (.refl _) (.cons ?_ .nil)
        exact .agg (.cons (.refl _) (.cons (.refl _) (.cons (.slx _ _) (.cons (.refl _) (.cons (.refl _) .nil))))))
      rw [hA]
      simp (disch := first | omega | (simp only [go_sem, push_cast, and_true] <;> omega) | fail) only [go_sem, decide_true, Bool.not_true]
      refine round_end (hJ _ _ _ ⟨i + 1, rfl, rfl, rfl, by omega⟩) (by omega) (by first | omega | (simp only [go_sem, push_cast] <;> omega)) ?_ hw
      simp (disch := first | (simp only [go_sem] <;> omega) | fail) only [go_sem, x_eLeS, x_hLeS, Int.natCast_zero, Int.natCast_add, Int.natCast_one]
    · have hi : i = n := by omega
      subst hi
      simp (disch := first | omega | (simp only [go_sem, push_cast, and_true] <;> omega) | fail) only [go_sem]
      have hM1 : ∀ (m : Nat) (T : List (Int × Int)), idsLtE m (.map (mpV .u64 (V.int .i64) T)) = true := fun m T => ids_mp (fun v => rfl)
      have hM2 : ∀ (m : Nat) (G : List (Int × Bool)), idsLtE m (.map (mpV .u64 V.bool G)) = true := fun m G => ids_mp (fun v => rfl)
      have e1 : Entry.map [] = .map (mpV .u64 (V.int .i64) ([] : List (Int × Int))) := rfl
      have e2 : [Entry.map []] = [.map (mpV .u64 V.bool ([] : List (Int × Bool)))] := rfl
      rw [e2, e1]
      refine loop_in (fun m e' H'' => ∃ (c : Nat) (X : List Ot) (T : List (Int × Int)) (G : List (Int × Bool)) (now : Int), m = 120 - c ∧ e' = slots 0 183 [(1, .sl 1 (Z.map uV)), (4, .bool false), (5, .sl 5 (X.map otV)), (6, .int .i64 (i : Int)), (10, .map H'.length), (11, .map (H'.length + 1)), (12, .int .i64 now), (13, .int .i64 (c : Int))] ∧ H'' = H' ++ [.map (mpV .u64 (V.int .i64) T), .map (mpV .u64 V.bool G)] ∧ St i X T G ∧ (0 ≤ now ∧ now ≤ 23 * (c : Int)) ∧ c ≤ Z.length ∧ c ≤ 120) (n := 120) ⟨0, upto i, [], [], 0, rfl, rfl, rfl, st_init hn2, by omega, by omega, by omega⟩ (by first | omega | (simp only [go_sem, push_cast] <;> omega)) ?_ ?_ ?_
      · simp (disch := first | (simp only [go_sem] <;> omega) | fail) only [go_sem, x_eLeS, x_hLeS, Int.natCast_zero, Int.natCast_add, Int.natCast_one]
      · refine hLe_app hw (by simp) ?_
        simp (disch := first | (simp only [go_sem, hM1, hM2] <;> omega) | fail) only [go_sem, x_eLeS, x_hLeS, Int.natCast_zero, Int.natCast_add, Int.natCast_one, hM1, hM2]
      · rintro J2 hJ2 m e' H'' ⟨c, X, T, G, now, rfl, rfl, rfl, hS, ⟨hn3, hn4⟩, hc1, hc2⟩
        clear hJ
        by_cases hlt : (c : Int) < Z.length
        rotate_left
        · simp (disch := first | omega | (simp only [go_sem, push_cast, and_true] <;> omega) | fail) only [go_sem]
          refine awake_ok _ _ ?_
          simp (disch := first | omega | (simp only [go_sem, push_cast, and_true] <;> omega) | fail) only [go_sem]
          refine fin_tmp hw ?_ (fin_eq hK ?_)
          · simp (disch := first | omega | (simp only [go_sem, push_cast, and_true] <;> omega) | fail) only [go_sem]
          · simp (disch := first | omega | (simp only [go_sem, push_cast, and_true] <;> omega) | fail) only [go_sem]
        by_cases h120 : (c : Int) < 120
        rotate_left
        · simp (disch := first | omega | (simp only [go_sem, push_cast, and_true] <;> omega) | fail) only [go_sem]
          refine awake_ok _ _ ?_
          simp (disch := first | omega | (simp only [go_sem, push_cast, and_true] <;> omega) | fail) only [go_sem]
          refine fin_tmp hw ?_ (fin_eq hK ?_)
          · simp (disch := first | omega | (simp only [go_sem, push_cast, and_true] <;> omega) | fail) only [go_sem]
          · simp (disch := first | omega | (simp only [go_sem, push_cast, and_true] <;> omega) | fail) only [go_sem]
        have hzz := hz _ (getD_mem (X := Z) (i := c) (by omega))
        obtain ⟨w, hw1, hw2, hw3⟩ : ∃ w : Int, w = Z.getD c default / 64 ∧ 0 ≤ w ∧ w ≤ 3 := ⟨_, rfl, by omega, by omega⟩
        have hl := hS.os.1
        have hl100 := (chk_iff.1 hS.ck).1
        simp (disch := first | omega | (simp only [go_sem, push_cast, and_true] <;> omega) | fail) only [go_sem, ← hw1]
        refine s_Next hS.os _ ?_
        have hnx : nextO X (now + w) = (z0, 4) ∨ ∃ x, nextO X (now + w) = (x, 0) ∧ x ∈ X ∧ x.2.2.2.2 ≤ now + w := by
          unfold nextO
          rw [if_pos hS.ck]
          cases hb : bestO X with
          | none => exact .inl rfl
          | some x =>
            simp only
            by_cases hd : now + w < x.2.2.2.2
            · rw [if_pos hd]; exact .inl rfl
            · rw [if_neg hd]; exact .inr ⟨x, rfl, bestO_mem hb, by omega⟩
        rcases hnx with hnx | ⟨x, hnx, hxm, hxd⟩
        · rw [hnx]
          have hnext := hJ2 (120 - (c + 1)) _ _ ⟨c + 1, X, T, G, now + w + 20, rfl, rfl, rfl, hS, by omega, by omega, by omega⟩
          simp (disch := first | omega | (simp only [go_sem, push_cast, and_true] <;> omega) | fail) only [go_sem, decide_false, Bool.not_false]
          refine round_end hnext (by omega) (by first | omega | (simp only [go_sem, push_cast] <;> omega)) ?_ ?_
          · simp (disch := first | (simp only [go_sem] <;> omega) | fail) only [go_sem, x_eLeS, x_hLeS, Int.natCast_zero, Int.natCast_add, Int.natCast_one]
          · refine hLe_app hw (by simp) ?_
            simp (disch := first | (simp only [go_sem, hM1, hM2] <;> omega) | fail) only [go_sem, x_eLeS, x_hLeS, Int.natCast_zero, Int.natCast_add, Int.natCast_one, hM1, hM2]
        rw [hnx]
        obtain ⟨⟨hx1, hx2⟩, hxi, hxg, hxt⟩ := hS.el x hxm
        have hxa : ∃ A : List Int, A = x.2.2.1 ∧ A = [100 + x.1] := ⟨_, rfl, hxi⟩
        simp (disch := first | omega | (simp only [go_sem, push_cast, and_true] <;> omega) | fail) only [go_sem, decide_true, Bool.not_true, beq_self_eq_true, kpos_I, mget_I, mgG, mgT, hxg, hxi, List.map_cons, List.map_nil]
        have hhas : hasI X x.1 = true := by
          simp only [hasI, List.any_eq_true]
          exact ⟨x, hxm, by simp [isI]⟩
        have ha := (chk_iff.1 hS.ck).2.2
        obtain ⟨p, hp⟩ : ∃ p : Nat, idx (isI x.1) X = (p : Int) := ⟨(idx (isI x.1) X).toNat, by have := has_iff.1 hhas; omega⟩
        obtain ⟨hdel, hplt, hpid⟩ := del_filter ha hp
        have hpx : X.getD p default = x := uniq ha hplt hxm hpid
        have htq : timeB (now + w) = true := by simp [timeB]; omega
        have htr := own_tries ((chk_iff.1 hS.ck).2.1 _ hxm)
        by_cases h3 : Z.getD c default % 3 = 0
        · have hS' : St i (outI X x.1) T (putM G x.1 true) := st_out hS fun _ _ => rfl
          simp (disch := first | omega | (simp only [go_sem, push_cast, and_true] <;> omega) | fail) only [go_sem, h3, decide_true]
          refine s_Ack hS.os _ ?_
          rw [ack_eq, if_pos hS.ck, if_pos hhas]
          simp (disch := first | omega | (simp only [go_sem, push_cast, and_true] <;> omega) | fail) only [go_sem, decide_true, Bool.not_true, beq_self_eq_true, kpos_I, mput_I]
          generalize outI X x.1 = X' at *
          generalize putM G x.1 true = G' at *
          generalize hTT : T = T' at *
          have hl' := (chk_iff.1 hS'.ck).1
          have ha' := (chk_iff.1 hS'.ck).2.2
          have hnext := hJ2 (120 - (c + 1)) _ _ ⟨c + 1, X', T', G', now + w, rfl, rfl, rfl, hS', by omega, by omega, by omega⟩
          clear hJ2
          have hcf : ∀ k : Int, (X'.filter (befI k)).length ≤ 100 := fun k => Nat.le_trans (List.length_filter_le _ _) hl'
          have h00 : (X'.filter (befI 1)).length = 0 := by
            rw [fil_none]
            · rfl
            · intro y hy
              have := (hS'.el y hy).1.1
              simp [befI]; omega
          have hall : (X'.filter (befI ((i : Int) + 1))).length = X'.length := by
            rw [fil_all]
            intro y hy
            have := (hS'.el y hy).1.2
            simp [befI]; omega
          refine loop_in (fun m e' H'' => ∃ k : Nat, m = i - k ∧ e' = slots 0 183 [(1, .sl 1 (Z.map uV)), (4, .bool false), (5, .sl 5 (X'.map otV)), (6, .int .i64 (i : Int)), (10, .map H'.length), (11, .map (H'.length + 1)), (12, .int .i64 (now + w)), (13, .int .i64 (c : Int)), (21, .int .i64 ((X'.filter (befI ((k : Int) + 1))).length : Int)), (22, .int .i64 ((k : Int) + 1))] ∧ H'' = H' ++ [.map (mpV .u64 (V.int .i64) T'), .map (mpV .u64 V.bool G')] ∧ k ≤ i) (n := i) ⟨0, rfl, rfl, rfl, by omega⟩ (by first | omega | (simp only [go_sem, push_cast] <;> omega)) ?_ ?_ ?_
          · simp (disch := first | (simp only [go_sem, h00] <;> omega) | fail) only [go_sem, x_eLeS, x_hLeS, Int.natCast_zero, Int.natCast_add, Int.natCast_one, h00]
          · refine hLe_app hw (by simp) ?_
            simp (disch := first | (simp only [go_sem, hM1, hM2] <;> omega) | fail) only [go_sem, x_eLeS, x_hLeS, Int.natCast_zero, Int.natCast_add, Int.natCast_one, hM1, hM2]
          · rintro J3 hJ3 m e' H'' ⟨k, rfl, rfl, rfl, hk⟩
            by_cases hki : (k : Int) + 1 ≤ i
            · have hg : gG G' ((k : Int) + 1) = !hasI X' ((k : Int) + 1) := by
                cases hh : hasI X' ((k : Int) + 1)
                · exact hS'.out _ (by omega) hki hh
                · simp only [hasI, List.any_eq_true] at hh
                  obtain ⟨y, hy, hy2⟩ := hh
                  have := (hS'.el y hy).2.2.1
                  simp only [isI, decide_eq_true_eq] at hy2
                  rw [← hy2, this]; rfl
              have hstep := cnt_step (k := (k : Int) + 1) ha'
              have hnx3 := hJ3 (i - (k + 1)) _ _ ⟨k + 1, rfl, rfl, rfl, by omega⟩
              have hck := hcf ((k : Int) + 1)
              clear hJ3
              cases hh : hasI X' ((k : Int) + 1)
              · rw [hh] at hstep hg
                simp only [Bool.false_eq_true, if_false, Nat.add_zero, Bool.not_false] at hstep hg
                simp (disch := first | omega | (simp only [go_sem, push_cast, and_true] <;> omega) | fail) only [go_sem, decide_true, Bool.not_true, beq_self_eq_true, kpos_I, mget_I, mgG, hg]
                refine round_end hnx3 (by omega) (by first | omega | (simp only [go_sem, push_cast] <;> omega)) ?_ ?_
                · simp (disch := first | (simp only [go_sem, hstep] <;> omega) | fail) only [go_sem, x_eLeS, x_hLeS, Int.natCast_zero, Int.natCast_add, Int.natCast_one, hstep]
                · refine hLe_app hw (by simp) ?_
                  simp (disch := first | (simp only [go_sem, hM1, hM2] <;> omega) | fail) only [go_sem, x_eLeS, x_hLeS, Int.natCast_zero, Int.natCast_add, Int.natCast_one, hM1, hM2]
              · rw [hh] at hstep hg
                simp only [if_true, Bool.not_true] at hstep hg
                simp (disch := first | omega | (simp only [go_sem, push_cast, and_true] <;> omega) | fail) only [go_sem, decide_true, Bool.not_false, beq_self_eq_true, kpos_I, mget_I, mgG, hg]
                refine round_end hnx3 (by omega) (by first | omega | (simp only [go_sem, push_cast] <;> omega)) ?_ ?_
                · simp (disch := first | (simp only [go_sem, hstep] <;> omega) | fail) only [go_sem, x_eLeS, x_hLeS, Int.natCast_zero, Int.natCast_add, Int.natCast_one, hstep]
                · refine hLe_app hw (by simp) ?_
                  simp (disch := first | (simp only [go_sem, hM1, hM2] <;> omega) | fail) only [go_sem, x_eLeS, x_hLeS, Int.natCast_zero, Int.natCast_add, Int.natCast_one, hM1, hM2]
            · have hk' : k = i := by omega
              subst hk'
              simp (disch := first | omega | (simp only [go_sem, push_cast, and_true] <;> omega) | fail) only [go_sem, hall, decide_true, Bool.not_true]
              refine s_Check hS'.os _ ?_
              rw [if_pos hS'.ck]
              simp (disch := first | omega | (simp only [go_sem, push_cast, and_true] <;> omega) | fail) only [go_sem, decide_true, Bool.not_true]
              refine round_end hnext (by omega) (by first | omega | (simp only [go_sem, push_cast] <;> omega)) ?_ ?_
              · simp (disch := first | (simp only [go_sem] <;> omega) | fail) only [go_sem, x_eLeS, x_hLeS, Int.natCast_zero, Int.natCast_add, Int.natCast_one]
              · refine hLe_app hw (by simp) ?_
                simp (disch := first | (simp only [go_sem, hM1, hM2] <;> omega) | fail) only [go_sem, x_eLeS, x_hLeS, Int.natCast_zero, Int.natCast_add, Int.natCast_one, hM1, hM2]
        have hf : findO X x.1 = ((p : Int), 0) := by
          unfold findO
          rw [if_pos hS.ck, hp, if_pos (by omega)]
        have hgt : gT (putM T x.1 (x.2.2.2.1 + 1)) x.1 = x.2.2.2.1 + 1 := by rw [gT_put, if_pos rfl]
        simp (disch := first | omega | (simp only [go_sem, push_cast, and_true] <;> omega) | fail) only [go_sem, h3, decide_false]
        refine s_Nack hS.os _ ?_
        by_cases h5 : x.2.2.2.1 + 1 = 5
        · have hN : nackO X x.1 (now + w) = (delO X p, true, 0) := by
            unfold nackO
            rw [if_pos htq, hf, if_pos rfl, Int.toNat_natCast, hpx, if_pos h5]
          have hS' : St i (outI X x.1) (putM T x.1 5) (putM G x.1 true) := st_out hS fun m hm => by rw [gT_put, if_neg hm]
          rw [h5] at hgt
          rw [hN, hdel, show X.filter (fun y => !isI x.1 y) = outI X x.1 from rfl]
          simp (disch := first | omega | (simp only [go_sem, push_cast, and_true] <;> omega) | fail) only [go_sem, decide_true, Bool.not_true, beq_self_eq_true, kpos_I, mput_I, mget_I, mgT, hxt, h5, hgt, bne_self_eq_false]
          generalize outI X x.1 = X' at *
          generalize putM G x.1 true = G' at *
          generalize putM T x.1 5 = T' at *
          have hl' := (chk_iff.1 hS'.ck).1
          have ha' := (chk_iff.1 hS'.ck).2.2
          have hnext := hJ2 (120 - (c + 1)) _ _ ⟨c + 1, X', T', G', now + w, rfl, rfl, rfl, hS', by omega, by omega, by omega⟩
          clear hJ2
          have hcf : ∀ k : Int, (X'.filter (befI k)).length ≤ 100 := fun k => Nat.le_trans (List.length_filter_le _ _) hl'
          have h00 : (X'.filter (befI 1)).length = 0 := by
            rw [fil_none]
            · rfl
            · intro y hy
              have := (hS'.el y hy).1.1
              simp [befI]; omega
          have hall : (X'.filter (befI ((i : Int) + 1))).length = X'.length := by
            rw [fil_all]
            intro y hy
            have := (hS'.el y hy).1.2
            simp [befI]; omega
          refine loop_in (fun m e' H'' => ∃ k : Nat, m = i - k ∧ e' = slots 0 183 [(1, .sl 1 (Z.map uV)), (4, .bool false), (5, .sl 5 (X'.map otV)), (6, .int .i64 (i : Int)), (10, .map H'.length), (11, .map (H'.length + 1)), (12, .int .i64 (now + w)), (13, .int .i64 (c : Int)), (21, .int .i64 ((X'.filter (befI ((k : Int) + 1))).length : Int)), (22, .int .i64 ((k : Int) + 1))] ∧ H'' = H' ++ [.map (mpV .u64 (V.int .i64) T'), .map (mpV .u64 V.bool G')] ∧ k ≤ i) (n := i) ⟨0, rfl, rfl, rfl, by omega⟩ (by first | omega | (simp only [go_sem, push_cast] <;> omega)) ?_ ?_ ?_
          · simp (disch := first | (simp only [go_sem, h00] <;> omega) | fail) only [go_sem, x_eLeS, x_hLeS, Int.natCast_zero, Int.natCast_add, Int.natCast_one, h00]
          · refine hLe_app hw (by simp) ?_
            simp (disch := first | (simp only [go_sem, hM1, hM2] <;> omega) | fail) only [go_sem, x_eLeS, x_hLeS, Int.natCast_zero, Int.natCast_add, Int.natCast_one, hM1, hM2]
          · rintro J3 hJ3 m e' H'' ⟨k, rfl, rfl, rfl, hk⟩
            by_cases hki : (k : Int) + 1 ≤ i
            · have hg : gG G' ((k : Int) + 1) = !hasI X' ((k : Int) + 1) := by
                cases hh : hasI X' ((k : Int) + 1)
                · exact hS'.out _ (by omega) hki hh
                · simp only [hasI, List.any_eq_true] at hh
                  obtain ⟨y, hy, hy2⟩ := hh
                  have := (hS'.el y hy).2.2.1
                  simp only [isI, decide_eq_true_eq] at hy2
                  rw [← hy2, this]; rfl
              have hstep := cnt_step (k := (k : Int) + 1) ha'
              have hnx3 := hJ3 (i - (k + 1)) _ _ ⟨k + 1, rfl, rfl, rfl, by omega⟩
              have hck := hcf ((k : Int) + 1)
              clear hJ3
              cases hh : hasI X' ((k : Int) + 1)
              · rw [hh] at hstep hg
                simp only [Bool.false_eq_true, if_false, Nat.add_zero, Bool.not_false] at hstep hg
                simp (disch := first | omega | (simp only [go_sem, push_cast, and_true] <;> omega) | fail) only [go_sem, decide_true, Bool.not_true, beq_self_eq_true, kpos_I, mget_I, mgG, hg]
                refine round_end hnx3 (by omega) (by first | omega | (simp only [go_sem, push_cast] <;> omega)) ?_ ?_
                · simp (disch := first | (simp only [go_sem, hstep] <;> omega) | fail) only [go_sem, x_eLeS, x_hLeS, Int.natCast_zero, Int.natCast_add, Int.natCast_one, hstep]
                · refine hLe_app hw (by simp) ?_
                  simp (disch := first | (simp only [go_sem, hM1, hM2] <;> omega) | fail) only [go_sem, x_eLeS, x_hLeS, Int.natCast_zero, Int.natCast_add, Int.natCast_one, hM1, hM2]
              · rw [hh] at hstep hg
                simp only [if_true, Bool.not_true] at hstep hg
                simp (disch := first | omega | (simp only [go_sem, push_cast, and_true] <;> omega) | fail) only [go_sem, decide_true, Bool.not_false, beq_self_eq_true, kpos_I, mget_I, mgG, hg]
                refine round_end hnx3 (by omega) (by first | omega | (simp only [go_sem, push_cast] <;> omega)) ?_ ?_
                · simp (disch := first | (simp only [go_sem, hstep] <;> omega) | fail) only [go_sem, x_eLeS, x_hLeS, Int.natCast_zero, Int.natCast_add, Int.natCast_one, hstep]
                · refine hLe_app hw (by simp) ?_
                  simp (disch := first | (simp only [go_sem, hM1, hM2] <;> omega) | fail) only [go_sem, x_eLeS, x_hLeS, Int.natCast_zero, Int.natCast_add, Int.natCast_one, hM1, hM2]
            · have hk' : k = i := by omega
              subst hk'
              simp (disch := first | omega | (simp only [go_sem, push_cast, and_true] <;> omega) | fail) only [go_sem, hall, decide_true, Bool.not_true]
              refine s_Check hS'.os _ ?_
              rw [if_pos hS'.ck]
              simp (disch := first | omega | (simp only [go_sem, push_cast, and_true] <;> omega) | fail) only [go_sem, decide_true, Bool.not_true]
              refine round_end hnext (by omega) (by first | omega | (simp only [go_sem, push_cast] <;> omega)) ?_ ?_
              · simp (disch := first | (simp only [go_sem] <;> omega) | fail) only [go_sem, x_eLeS, x_hLeS, Int.natCast_zero, Int.natCast_add, Int.natCast_one]
              · refine hLe_app hw (by simp) ?_
                simp (disch := first | (simp only [go_sem, hM1, hM2] <;> omega) | fail) only [go_sem, x_eLeS, x_hLeS, Int.natCast_zero, Int.natCast_add, Int.natCast_one, hM1, hM2]
        · have hN : nackO X x.1 (now + w) = (X.set p (nackX x (now + w)), false, 0) := by
            unfold nackO
            rw [if_pos htq, hf, if_pos rfl, Int.toNat_natCast, hpx, if_neg h5]
          have hS' := st_set (now := now + w) hS hplt htq (by rw [hpx]; exact h5)
          rw [hpx] at hS'
          rw [hN]
          simp (disch := first | omega | (simp only [go_sem, push_cast, and_true] <;> omega) | fail) only [go_sem, decide_true, decide_false, Bool.not_true, beq_self_eq_true, kpos_I, mput_I, mget_I, mgT, hxt, h5, hgt, bne_self_eq_false]
          generalize X.set p (nackX x (now + w)) = X' at *
          generalize putM G x.1 false = G' at *
          generalize putM T x.1 (x.2.2.2.1 + 1) = T' at *
          have hl' := (chk_iff.1 hS'.ck).1
          have ha' := (chk_iff.1 hS'.ck).2.2
          have hnext := hJ2 (120 - (c + 1)) _ _ ⟨c + 1, X', T', G', now + w, rfl, rfl, rfl, hS', by omega, by omega, by omega⟩
          clear hJ2
          have hcf : ∀ k : Int, (X'.filter (befI k)).length ≤ 100 := fun k => Nat.le_trans (List.length_filter_le _ _) hl'
          have h00 : (X'.filter (befI 1)).length = 0 := by
            rw [fil_none]
            · rfl
            · intro y hy
              have := (hS'.el y hy).1.1
              simp [befI]; omega
          have hall : (X'.filter (befI ((i : Int) + 1))).length = X'.length := by
            rw [fil_all]
            intro y hy
            have := (hS'.el y hy).1.2
            simp [befI]; omega
          refine loop_in (fun m e' H'' => ∃ k : Nat, m = i - k ∧ e' = slots 0 183 [(1, .sl 1 (Z.map uV)), (4, .bool false), (5, .sl 5 (X'.map otV)), (6, .int .i64 (i : Int)), (10, .map H'.length), (11, .map (H'.length + 1)), (12, .int .i64 (now + w)), (13, .int .i64 (c : Int)), (21, .int .i64 ((X'.filter (befI ((k : Int) + 1))).length : Int)), (22, .int .i64 ((k : Int) + 1))] ∧ H'' = H' ++ [.map (mpV .u64 (V.int .i64) T'), .map (mpV .u64 V.bool G')] ∧ k ≤ i) (n := i) ⟨0, rfl, rfl, rfl, by omega⟩ (by first | omega | (simp only [go_sem, push_cast] <;> omega)) ?_ ?_ ?_
          · simp (disch := first | (simp only [go_sem, h00] <;> omega) | fail) only [go_sem, x_eLeS, x_hLeS, Int.natCast_zero, Int.natCast_add, Int.natCast_one, h00]
          · refine hLe_app hw (by simp) ?_
            simp (disch := first | (simp only [go_sem, hM1, hM2] <;> omega) | fail) only [go_sem, x_eLeS, x_hLeS, Int.natCast_zero, Int.natCast_add, Int.natCast_one, hM1, hM2]
          · rintro J3 hJ3 m e' H'' ⟨k, rfl, rfl, rfl, hk⟩
            by_cases hki : (k : Int) + 1 ≤ i
            · have hg : gG G' ((k : Int) + 1) = !hasI X' ((k : Int) + 1) := by
                cases hh : hasI X' ((k : Int) + 1)
                · exact hS'.out _ (by omega) hki hh
                · simp only [hasI, List.any_eq_true] at hh
                  obtain ⟨y, hy, hy2⟩ := hh
                  have := (hS'.el y hy).2.2.1
                  simp only [isI, decide_eq_true_eq] at hy2
                  rw [← hy2, this]; rfl
              have hstep := cnt_step (k := (k : Int) + 1) ha'
              have hnx3 := hJ3 (i - (k + 1)) _ _ ⟨k + 1, rfl, rfl, rfl, by omega⟩
              have hck := hcf ((k : Int) + 1)
              clear hJ3
              cases hh : hasI X' ((k : Int) + 1)
              · rw [hh] at hstep hg
                simp only [Bool.false_eq_true, if_false, Nat.add_zero, Bool.not_false] at hstep hg
                simp (disch := first | omega | (simp only [go_sem, push_cast, and_true] <;> omega) | fail) only [go_sem, decide_true, Bool.not_true, beq_self_eq_true, kpos_I, mget_I, mgG, hg]
                refine round_end hnx3 (by omega) (by first | omega | (simp only [go_sem, push_cast] <;> omega)) ?_ ?_
                · simp (disch := first | (simp only [go_sem, hstep] <;> omega) | fail) only [go_sem, x_eLeS, x_hLeS, Int.natCast_zero, Int.natCast_add, Int.natCast_one, hstep]
                · refine hLe_app hw (by simp) ?_
                  simp (disch := first | (simp only [go_sem, hM1, hM2] <;> omega) | fail) only [go_sem, x_eLeS, x_hLeS, Int.natCast_zero, Int.natCast_add, Int.natCast_one, hM1, hM2]
              · rw [hh] at hstep hg
                simp only [if_true, Bool.not_true] at hstep hg
                simp (disch := first | omega | (simp only [go_sem, push_cast, and_true] <;> omega) | fail) only [go_sem, decide_true, Bool.not_false, beq_self_eq_true, kpos_I, mget_I, mgG, hg]
                refine round_end hnx3 (by omega) (by first | omega | (simp only [go_sem, push_cast] <;> omega)) ?_ ?_
                · simp (disch := first | (simp only [go_sem, hstep] <;> omega) | fail) only [go_sem, x_eLeS, x_hLeS, Int.natCast_zero, Int.natCast_add, Int.natCast_one, hstep]
                · refine hLe_app hw (by simp) ?_
                  simp (disch := first | (simp only [go_sem, hM1, hM2] <;> omega) | fail) only [go_sem, x_eLeS, x_hLeS, Int.natCast_zero, Int.natCast_add, Int.natCast_one, hM1, hM2]
            · have hk' : k = i := by omega
              subst hk'
              simp (disch := first | omega | (simp only [go_sem, push_cast, and_true] <;> omega) | fail) only [go_sem, hall, decide_true, Bool.not_true]
              refine s_Check hS'.os _ ?_
              rw [if_pos hS'.ck]
              simp (disch := first | omega | (simp only [go_sem, push_cast, and_true] <;> omega) | fail) only [go_sem, decide_true, Bool.not_true]
              refine round_end hnext (by omega) (by first | omega | (simp only [go_sem, push_cast] <;> omega)) ?_ ?_
              · simp (disch := first | (simp only [go_sem] <;> omega) | fail) only [go_sem, x_eLeS, x_hLeS, Int.natCast_zero, Int.natCast_add, Int.natCast_one]
              · refine hLe_app hw (by simp) ?_
                simp (disch := first | (simp only [go_sem, hM1, hM2] <;> omega) | fail) only [go_sem, x_eLeS, x_hLeS, Int.natCast_zero, Int.natCast_add, Int.natCast_one, hM1, hM2]
end Go.Av
