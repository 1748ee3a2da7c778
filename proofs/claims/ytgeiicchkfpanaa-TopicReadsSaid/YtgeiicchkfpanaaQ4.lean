/- A part of a way to reckon what a Go program does without its memory (Q4). -/
import Derived.Test.YtgeiicchkfpanaaQ3
import Derived.Test.YtgeiicchkfpanaaNumUnpack
namespace Go.Av
open Go Go.RowKit
set_option autoImplicit false
set_option linter.all false
/-! ### What is taken -/
def unp (s : List UInt8) : Int × Int × Int := ((Go.Proofs.Ytgeiicchkfpanaa.unpS s).1, (Go.Proofs.Ytgeiicchkfpanaa.unpS s).2.1, (Go.Proofs.Ytgeiicchkfpanaa.unpS s).2.2)
theorem s_Unpack {s : List UInt8} {H : List Entry} (hs : s.length ≤ 9223372036854775807) : Pure AP n_num_Unpack [.str s] H (.tup [.int .u64 (unp s).1, .int .i64 (unp s).2.1, .int .i64 (unp s).2.2]) := by
  refine pure_of (by kernel_rfl) fun C vals hH hC hv => ?_
  simp only [CRep, VRep] at hv
  obtain ⟨_, _, rfl, rfl, rfl⟩ := hv
  refine Calls.mono (Go.Proofs.Ytgeiicchkfpanaa.unpack_any ⟨s.toArray⟩ C.w (by show s.toArray.size ≤ _; simpa using hs)) ?_
  rintro e w' ⟨rfl, rfl⟩
  exact ⟨_, rfl, Below.refl _ _, fun C' _ => by simp [VRep, CRep, unp]⟩
theorem s_Unfold {a : Int} {H : List Entry} (h0 : 0 ≤ a) (h1 : a ≤ 18446744073709551615) : Pure AP n_num_Unfold [.int .u64 a] H (.int .i64 (Go.Proofs.Ytgeiicchkfpanaa.unfoldZ a)) := by
  refine pure_of (by kernel_rfl) fun C vals hH hC hv => ?_
  simp only [CRep, VRep] at hv
  obtain ⟨_, _, rfl, rfl, rfl⟩ := hv
  refine Calls.mono (Go.Proofs.Ytgeiicchkfpanaa.unfold_any a C.w h0 h1) ?_
  rintro e w' ⟨rfl, rfl⟩
  exact ⟨_, rfl, Below.refl _ _, fun C' _ => by simp only [VRep]⟩
/-- What is left, and the error. -/
abbrev Rs := List UInt8 × Int
def rsV (r : Rs) : Entry := .box [.str r.1, .int .i64 r.2]
theorem rsV_def (r : Rs) : rsV r = .box [.str r.1, .int .i64 r.2] := rfl
def numR (r : Rs) : Int × Rs := if r.2 = 0 then ((unp r.1).1, (r.1.drop (unp r.1).2.1.toNat, (unp r.1).2.2)) else (0, r)
theorem s_number {g : Nat} {r : Rs} {H : List Entry} {K : KV} (hg : H[g]? = some (.box [.str r.1, .int .i64 r.2])) (hl : r.1.length ≤ 9223372036854775807) (hu : 0 ≤ (unp r.1).2.1 ∧ (unp r.1).2.1 ≤ r.1.length) (hK : K (.int .u64 (numR r).1) (H.set g (.box [.str (numR r).2.1, .int .i64 (numR r).2.2]))) : BCall AP n_event_reader_number [.ptr g 0] H K := by
  have hs := set_same hg
  have hlt := (List.getElem?_eq_some_iff.1 hg).1
  refine a_event_reader_number fun hw => ?_
  by_cases h : r.2 = 0
  · rw [numR, if_pos h] at hK
    simp (disch := first | omega | (simp only [go_sem, push_cast, and_true] <;> omega) | fail) only [go_sem, c_event_reader_number, hg, h, decide_true, Bool.not_true]
    refine s_Unpack hl _ ?_
    simp (disch := first | omega | (simp only [go_sem, push_cast, and_true] <;> omega) | fail) only [go_sem, hg, List.getElem?_set_self hlt, List.set_set]
    refine fin_all ?_
    simp (disch := first | omega | (simp only [go_sem, push_cast, and_true] <;> omega) | fail) only [go_sem]
    exact hK
  · rw [numR, if_neg h, hs] at hK
    simp (disch := first | omega | (simp only [go_sem, push_cast, and_true] <;> omega) | fail) only [go_sem, c_event_reader_number, hg, h, decide_false, Bool.not_false]
    refine fin_all ?_
    simp (disch := first | omega | (simp only [go_sem, push_cast, and_true] <;> omega) | fail) only [go_sem]
    exact hK
open Go.Proofs.Ytgeiicchkfpanaa in
theorem leadN_len : ∀ (l : List UInt8) (f : Nat), leadN l f ≤ l.length
  | [], f => by cases f <;> simp [leadN]
  | b :: l, 0 => by simp [leadN]
  | b :: l, f + 1 => by
    have := leadN_len l f
    simp only [leadN]
    split <;> simp <;> omega
open Go.Proofs.Ytgeiicchkfpanaa in
theorem unp_le (s : List UInt8) : 0 ≤ (unp s).2.1 ∧ (unp s).2.1 ≤ s.length := by
  have h := leadN_len s 10
  unfold unp unpS
  split
  · simp
  · split
    · simp
    · split
      · simp; omega
      · simp
open Go.Proofs.Ytgeiicchkfpanaa in
theorem unp_err (s : List UInt8) : (unp s).2.2 = 0 ∨ (unp s).2.2 = 2 ∨ (unp s).2.2 = 3 := by
  unfold unp unpS
  split
  · simp
  · split
    · simp
    · split <;> simp
def sizeR (most : Int) (r : Rs) : Int × Rs := if most < (numR r).1 then ((numR r).1, ((numR r).2.1, 2)) else numR r
theorem s_size {g : Nat} {r : Rs} {most : Int} {H : List Entry} {K : KV} (hg : H[g]? = some (.box [.str r.1, .int .i64 r.2])) (hl : r.1.length ≤ 9223372036854775807) (hK : K (.int .u64 (sizeR most r).1) (H.set g (.box [.str (sizeR most r).2.1, .int .i64 (sizeR most r).2.2]))) : BCall AP n_event_reader_size [.ptr g 0, .int .u64 most] H K := by
  have hlt := (List.getElem?_eq_some_iff.1 hg).1
  refine a_event_reader_size fun hw => ?_
  simp (disch := first | omega | (simp only [go_sem, push_cast, and_true] <;> omega) | fail) only [go_sem, c_event_reader_size]
  refine s_number hg hl (unp_le _) ?_
  by_cases h : most < (numR r).1
  · rw [sizeR, if_pos h] at hK
    simp (disch := first | omega | (simp only [go_sem, push_cast, and_true] <;> omega) | fail) only [go_sem, List.getElem?_set_self hlt, List.set_set, h, decide_true]
    refine fin_all ?_
    simp (disch := first | omega | (simp only [go_sem, push_cast, and_true] <;> omega) | fail) only [go_sem]
    exact hK
  · rw [sizeR, if_neg h] at hK
    simp (disch := first | omega | (simp only [go_sem, push_cast, and_true] <;> omega) | fail) only [go_sem, List.getElem?_set_self hlt, List.set_set, h, decide_false]
    refine fin_all ?_
    simp (disch := first | omega | (simp only [go_sem, push_cast, and_true] <;> omega) | fail) only [go_sem]
    exact hK
def textR (most : Int) (r : Rs) : List UInt8 × Rs :=
  let z := sizeR most r
  if z.2.2 = 0 then (if (z.2.1.length : Int) < z.1 then ([], (z.2.1, 3)) else (z.2.1.take z.1.toNat, (z.2.1.drop z.1.toNat, 0))) else ([], z.2)
theorem sizeR_len (most : Int) (r : Rs) : (sizeR most r).2.1.length ≤ r.1.length := by
  unfold sizeR numR
  split <;> split <;> simp
theorem s_text {g : Nat} {r : Rs} {most : Int} {H : List Entry} {K : KV} (hg : H[g]? = some (.box [.str r.1, .int .i64 r.2])) (hl : r.1.length ≤ 1000000) (h0 : 0 ≤ (sizeR most r).1) (hK : K (.str (textR most r).1) (H.set g (.box [.str (textR most r).2.1, .int .i64 (textR most r).2.2]))) : BCall AP n_event_reader_text [.ptr g 0, .int .u64 most] H K := by
  have hlt := (List.getElem?_eq_some_iff.1 hg).1
  have hz := sizeR_len most r
  refine a_event_reader_text fun hw => ?_
  simp (disch := first | omega | (simp only [go_sem, push_cast, and_true] <;> omega) | fail) only [go_sem, c_event_reader_text]
  refine s_size hg (by omega) ?_
  unfold textR at hK
  generalize sizeR most r = z at *
  obtain ⟨n, l, e⟩ := z
  simp only at hK hz h0
  by_cases h : e = 0
  · subst h
    by_cases h2 : (l.length : Int) < n
    · simp only [if_true, if_pos h2] at hK
      simp (disch := first | omega | (simp only [go_sem, push_cast, and_true] <;> omega) | fail) only [go_sem, List.getElem?_set_self hlt, List.set_set, h2, decide_true]
      refine fin_all ?_
      simp (disch := first | omega | (simp only [go_sem, push_cast, and_true] <;> omega) | fail) only [go_sem]
      exact hK
    · simp only [if_true, if_neg h2] at hK
      simp (disch := first | omega | (simp only [go_sem, push_cast, and_true] <;> omega) | fail) only [go_sem, List.getElem?_set_self hlt, List.set_set, h2, decide_true, decide_false]
      refine fin_all ?_
      simp (disch := first | omega | (simp only [go_sem, push_cast, and_true] <;> omega) | fail) only [go_sem]
      exact hK
  · simp only [if_neg h] at hK
    simp (disch := first | omega | (simp only [go_sem, push_cast, and_true] <;> omega) | fail) only [go_sem, List.getElem?_set_self hlt, List.set_set, h, decide_false, Bool.not_false]
    refine fin_all ?_
    simp (disch := first | omega | (simp only [go_sem, push_cast, and_true] <;> omega) | fail) only [go_sem]
    exact hK
/-- The text of that length, that begins at a place. -/
def tkT (s : List UInt8) (b : Int) (n : Int) : Vl × Int × Int :=
  if 60 < n then ((false, 0, []), 0, 2) else if (s.length : Int) < b + n then ((false, 0, []), 0, 3) else ((false, 0, (s.take (b + n).toNat).drop b.toNat), b + n, 0)
theorem s_takeText {s : List UInt8} {b n : Int} {H : List Entry} (hs : s.length ≤ 1000000) (hb : 0 ≤ b ∧ b ≤ 1000000) (hn : 0 ≤ n) : Pure AP n_val_takeText [.str s, .int .i64 b, .int .u64 n] H (.tup [vlV (tkT s b n).1, .int .i64 (tkT s b n).2.1, .int .i64 (tkT s b n).2.2]) := by
  intro K hK
  refine a_val_takeText fun hw => ?_
  unfold tkT at hK
  by_cases h1 : 60 < n
  · simp only [if_pos h1] at hK
    simp (disch := first | omega | (simp only [go_sem, push_cast, and_true] <;> omega) | fail) only [go_sem, c_val_takeText, h1, decide_true]
    refine fin_res hw ?_ (fin_eq hK ?_)
    · simp (disch := first | omega | (simp only [go_sem, push_cast, and_true] <;> omega) | fail) only [go_sem]
    · simp [vlV, oneV]
  · simp only [if_neg h1] at hK
    by_cases h2 : (s.length : Int) < b + n
    · simp only [if_pos h2] at hK
      simp (disch := first | omega | (simp only [go_sem, push_cast, and_true] <;> omega) | fail) only [go_sem, c_val_takeText, h1, h2, decide_true, decide_false]
      refine fin_res hw ?_ (fin_eq hK ?_)
      · simp (disch := first | omega | (simp only [go_sem, push_cast, and_true] <;> omega) | fail) only [go_sem]
      · simp [vlV, oneV]
    · simp only [if_neg h2] at hK
      simp (disch := first | omega | (simp only [go_sem, push_cast, and_true] <;> omega) | fail) only [go_sem, c_val_takeText, h1, h2, decide_true, decide_false]
      refine fin_res hw ?_ (fin_eq hK ?_)
      · simp (disch := first | omega | (simp only [go_sem, push_cast, and_true] <;> omega) | fail) only [go_sem]
      · simp [vlV, oneV]
end Go.Av
namespace Go.Av
open Go Go.RowKit
set_option autoImplicit false
set_option linter.all false
def v0 : Vl := (false, 0, [])
def tkV (s : List UInt8) : Vl × Int × Int :=
  if s = [] then (v0, 0, 3) else if ¬ s.take 1 = [1] ∧ ¬ s.take 1 = [2] then (v0, 0, 2)
  else if ¬ (unp (s.drop 1)).2.2 = 0 then (v0, 0, (unp (s.drop 1)).2.2)
  else if s.take 1 = [1] then ((true, Go.Proofs.Ytgeiicchkfpanaa.unfoldZ (unp (s.drop 1)).1, []), 1 + (unp (s.drop 1)).2.1, 0)
  else tkT s (1 + (unp (s.drop 1)).2.1) (unp (s.drop 1)).1
theorem s_TakeV {s : List UInt8} {H : List Entry} (hs : s.length ≤ 900000) (hbd : 0 ≤ (unp (s.drop 1)).1 ∧ (unp (s.drop 1)).1 ≤ 18446744073709551615) : Pure AP n_val_Take [.str s] H (.tup [vlV (tkV s).1, .int .i64 (tkV s).2.1, .int .i64 (tkV s).2.2]) := by
  intro K hK
  refine a_val_Take fun hw => ?_
  unfold tkV at hK
  by_cases h0 : s = []
  · simp only [if_pos h0] at hK
    simp (disch := first | omega | (simp only [go_sem, push_cast, and_true] <;> omega) | fail) only [go_sem, c_val_Take, h0, decide_true]
    refine fin_res hw ?_ (fin_eq hK ?_)
    · simp (disch := first | omega | (simp only [go_sem, push_cast, and_true] <;> omega) | fail) only [go_sem]
    · simp [vlV, oneV, v0]
  simp only [if_neg h0] at hK
  have hl : 1 ≤ s.length := by
    have := List.length_pos_iff.2 h0
    omega
  have hu := unp_le (s.drop 1)
  have hdl : (s.drop 1).length ≤ 900000 := by simp; omega
  have hun : ∀ {H : List Entry}, Pure AP n_num_Unpack [.str (s.drop 1)] H (.tup [.int .u64 (unp (s.drop 1)).1, .int .i64 (unp (s.drop 1)).2.1, .int .i64 (unp (s.drop 1)).2.2]) := fun {H} => s_Unpack (by omega)
  generalize unp (s.drop 1) = u at *
  obtain ⟨n, k, er⟩ := u
  simp only at hK hu hun hbd
  have hne : ¬ ([2] : List UInt8) = [1] := by decide
  by_cases h1 : s.take 1 = [1]
  · have h1' : ¬ (¬ s.take 1 = [1] ∧ ¬ s.take 1 = [2]) := fun h => h.1 h1
    simp only [if_neg h1', if_pos h1] at hK
    simp (disch := first | omega | (simp only [go_sem, push_cast, and_true] <;> omega) | fail) only [go_sem, c_val_Take, h0, h1, decide_true, decide_false, Bool.not_true, Bool.not_false]
    refine hun _ ?_
    by_cases he : er = 0
    · subst he
      simp only [not_true, if_false] at hK
      simp (disch := first | omega | (simp only [go_sem, push_cast, and_true] <;> omega) | fail) only [go_sem, decide_true, Bool.not_true]
      refine s_Unfold hbd.1 hbd.2 _ ?_
      simp (disch := first | omega | (simp only [go_sem, push_cast, and_true] <;> omega) | fail) only [go_sem]
      refine fin_res hw ?_ (fin_eq hK ?_)
      · simp (disch := first | omega | (simp only [go_sem, push_cast, and_true] <;> omega) | fail) only [go_sem]
      · simp [vlV, oneV]
    · simp only [he, not_false_eq_true, if_true] at hK
      simp (disch := first | omega | (simp only [go_sem, push_cast, and_true] <;> omega) | fail) only [go_sem, he, decide_false, Bool.not_false]
      refine fin_res hw ?_ (fin_eq hK ?_)
      · simp (disch := first | omega | (simp only [go_sem, push_cast, and_true] <;> omega) | fail) only [go_sem]
      · simp [vlV, oneV, v0]
  · by_cases h2 : s.take 1 = [2]
    · have h1' : ¬ (¬ s.take 1 = [1] ∧ ¬ s.take 1 = [2]) := fun h => h.2 h2
      simp only [if_neg h1', if_neg h1] at hK
      simp (disch := first | omega | (simp only [go_sem, push_cast, and_true] <;> omega) | fail) only [go_sem, c_val_Take, h0, h2, hne, decide_true, decide_false, Bool.not_true, Bool.not_false]
      refine hun _ ?_
      by_cases he : er = 0
      · subst he
        simp only [not_true, if_false] at hK
        simp (disch := first | omega | (simp only [go_sem, push_cast, and_true] <;> omega) | fail) only [go_sem, decide_true, Bool.not_true, hne, decide_false]
        refine s_takeText (by omega) (by omega) hbd.1 _ ?_
        simp (disch := first | omega | (simp only [go_sem, push_cast, and_true] <;> omega) | fail) only [go_sem]
        refine fin_res hw ?_ (fin_eq hK ?_)
        · simp (disch := first | omega | (simp only [go_sem, push_cast, and_true] <;> omega) | fail) only [go_sem]
        · simp [vlV, oneV]
      · simp only [he, not_false_eq_true, if_true] at hK
        simp (disch := first | omega | (simp only [go_sem, push_cast, and_true] <;> omega) | fail) only [go_sem, he, decide_false, Bool.not_false]
        refine fin_res hw ?_ (fin_eq hK ?_)
        · simp (disch := first | omega | (simp only [go_sem, push_cast, and_true] <;> omega) | fail) only [go_sem]
        · simp [vlV, oneV, v0]
    · have h1' : ¬ s.take 1 = [1] ∧ ¬ s.take 1 = [2] := ⟨h1, h2⟩
      simp only [if_pos h1'] at hK
      simp (disch := first | omega | (simp only [go_sem, push_cast, and_true] <;> omega) | fail) only [go_sem, c_val_Take, h0, h1, h2, decide_true, decide_false, Bool.not_true, Bool.not_false]
      refine fin_res hw ?_ (fin_eq hK ?_)
      · simp (disch := first | omega | (simp only [go_sem, push_cast, and_true] <;> omega) | fail) only [go_sem]
      · simp [vlV, oneV, v0]
end Go.Av
namespace Go.Av
open Go Go.RowKit
set_option autoImplicit false
set_option linter.all false
theorem hLe_set {m : Nat} {x : Entry} (hx : idsLtE m x = true) : ∀ (l : List Entry) (g : Nat), hLe m l l → hLe m (l.set g x) (l.set g x)
  | [], _, h => by simpa using h
  | a :: l, 0, h => by
    simp only [hLe] at h
    simp only [List.set_cons_zero, hLe]
    exact ⟨.inr (by simp [hx]), h.2⟩
  | a :: l, g + 1, h => by
    simp only [hLe] at h
    simp only [List.set_cons_succ, hLe]
    exact ⟨h.1, hLe_set hx l g h.2⟩
theorem fin_res_set {K : KV} {e : List V} {H t : List Entry} {g : Nat} {x : Entry} (hw : Wf H) (hx : idsLtE H.length x = true) (hi : idsLts H.length e = true) (hk : K (oneV e) (H.set g x)) : endW H.length e K (H.set g x ++ t) := by
  have hw' : Wf (H.set g x) := by
    unfold Wf
    rw [List.length_set]
    exact hLe_set hx H g hw
  have := fin_res (H := H.set g x) (t := t) (K := K) (e := e) hw' (by rw [List.length_set]; exact hi) hk
  rwa [List.length_set] at this
def valR (r : Rs) : Vl × Rs := if r.2 = 0 then ((tkV r.1).1, (r.1.drop (tkV r.1).2.1.toNat, (tkV r.1).2.2)) else (v0, r)
theorem s_value {g : Nat} {r : Rs} {H : List Entry} {K : KV} (hg : H[g]? = some (.box [.str r.1, .int .i64 r.2])) (hl : r.1.length ≤ 900000) (hbd : 0 ≤ (unp (r.1.drop 1)).1 ∧ (unp (r.1.drop 1)).1 ≤ 18446744073709551615) (hle : 0 ≤ (tkV r.1).2.1 ∧ (tkV r.1).2.1 ≤ r.1.length) (hK : K (vlV (valR r).1) (H.set g (.box [.str (valR r).2.1, .int .i64 (valR r).2.2]))) : BCall AP n_event_reader_value [.ptr g 0] H K := by
  have hs := set_same hg
  have hlt := (List.getElem?_eq_some_iff.1 hg).1
  refine a_event_reader_value fun hw => ?_
  by_cases h : r.2 = 0
  · rw [valR, if_pos h] at hK
    simp (disch := first | omega | (simp only [go_sem, push_cast, and_true] <;> omega) | fail) only [go_sem, c_event_reader_value, hg, h, decide_true, Bool.not_true, List.getElem?_append_left hlt]
    refine s_TakeV hl hbd _ ?_
    have hl1 : ∀ (t : List Entry) (x : Entry), (H ++ t).set g x = H.set g x ++ t := fun t x => List.set_append_left _ _ hlt
    have hl2 : ∀ (t : List Entry) (x : Entry), (H.set g x ++ t)[g]? = some x := fun t x => by
      rw [List.getElem?_append_left (by simpa using hlt), List.getElem?_set_self hlt]
    have hl3 : ∀ (t : List Entry) (x y : Entry), (H.set g x ++ t).set g y = H.set g y ++ t := fun t x y => by
      rw [List.set_append_left _ _ (by simpa using hlt), List.set_set]
    have hl4 : ∀ (t : List Entry) (x : Entry) (j : Nat), (H.set g x ++ t)[H.length + j]? = t[j]? := fun t x j => by
      rw [List.getElem?_append_right (by simp), List.length_set, Nat.add_sub_cancel_left]
    have hl5 : ∀ (t : List Entry) (x : Entry), (H.set g x ++ t)[H.length]? = t[0]? := fun t x => hl4 t x 0
    have hl6 : ∀ (t : List Entry) (x y : Entry), (H.set g x ++ t).set H.length y = H.set g x ++ t.set 0 y := fun t x y => by
      rw [List.set_append_right _ _ (by simp), List.length_set, Nat.sub_self]
    simp (disch := first | omega | (simp only [go_sem, push_cast, and_true] <;> omega) | fail) only [go_sem, hg, List.getElem?_append_left hlt, hl1, hl2, hl3, hl4, hl5, hl6, List.getElem?_cons_zero, List.getElem?_cons_succ, List.set_cons_zero]
    refine fin_res_set hw ?_ ?_ (fin_eq hK ?_)
    · simp (disch := first | omega | (simp only [go_sem, push_cast, and_true] <;> omega) | fail) only [go_sem]
    · simp (disch := first | omega | (simp only [go_sem, push_cast, and_true] <;> omega) | fail) only [go_sem]
    · simp [vlV, oneV]
  · rw [valR, if_neg h, hs] at hK
    simp (disch := first | omega | (simp only [go_sem, push_cast, and_true] <;> omega) | fail) only [go_sem, c_event_reader_value, hg, h, decide_false, Bool.not_false, List.getElem?_append_left hlt]
    refine fin_res hw ?_ (fin_eq hK ?_)
    · simp (disch := first | omega | (simp only [go_sem, push_cast, and_true] <;> omega) | fail) only [go_sem]
    · simp [vlV, oneV, v0]
end Go.Av
namespace Go.Av
open Go Go.RowKit
set_option autoImplicit false
set_option linter.all false
section
open Go.Proofs.Ytgeiicchkfpanaa
theorem leadN_le : ∀ (l : List UInt8) (f : Nat), leadN l f ≤ f
  | [], f => by cases f <;> simp [leadN]
  | b :: l, 0 => by simp [leadN]
  | b :: l, f + 1 => by
    have := leadN_le l f
    simp only [leadN]
    split <;> omega
theorem leadN_big : ∀ (l : List UInt8) (f t : Nat), t < leadN l f → 128 ≤ gB l t
  | [], f, t, h => by cases f <;> simp [leadN] at h
  | b :: l, 0, t, h => by simp [leadN] at h
  | b :: l, f + 1, t, h => by
    simp only [leadN] at h
    split at h
    · rename_i hb
      cases t with
      | zero => simpa [gB] using hb
      | succ t => simpa [gB] using leadN_big l f t (by omega)
    · omega
theorem leadN_small : ∀ (l : List UInt8) (f : Nat), leadN l f < f → leadN l f < l.length → gB l (leadN l f) < 128
  | [], f, _, h => by cases f <;> simp [leadN] at h
  | b :: l, 0, h, _ => by omega
  | b :: l, f + 1, h, h2 => by
    simp only [leadN] at h h2 ⊢
    split
    · rename_i hb
      rw [if_pos hb] at h h2
      simpa [gB] using leadN_small l f (by omega) (by simpa using h2)
    · rename_i hb
      simp only [gB]
      simp
      omega
theorem unp_bd (s : List UInt8) : 0 ≤ (unp s).1 ∧ (unp s).1 ≤ 18446744073709551615 := by
  unfold unp
  refine ⟨by simp, ?_⟩
  have h1 := leadN_le s 10
  have h2 := leadN_len s 10
  unfold unpS
  split
  · simp
  · split
    · simp
    · split
      · rename_i ha hb hc
        simp only
        generalize leadN s 10 = k at *
        by_cases h9 : k = 9
        · subst h9
          have hv := val7_lt s 9
          have e : val7 s (9 + 1) = val7 s 9 + gB s 9 % 128 * 128 ^ 9 := rfl
          have e9 : (128 : Nat) ^ 9 = 9223372036854775808 := by decide
          have hb1 : gB s 9 = 1 := by simpa [mayEndB] using hc
          rw [e, hb1, e9]
          rw [e9] at hv
          omega
        · have hv := val7_lt s (k + 1)
          have hp : (128 : Nat) ^ (k + 1) ≤ 128 ^ 9 := Nat.pow_le_pow_right (by omega) (by omega)
          have e9 : (128 : Nat) ^ 9 = 9223372036854775808 := by decide
          rw [e9] at hp
          omega
      · simp
end
end Go.Av
namespace Go.Av
open Go Go.RowKit
set_option autoImplicit false
set_option linter.all false
theorem tkV_le (s : List UInt8) : 0 ≤ (tkV s).2.1 ∧ (tkV s).2.1 ≤ s.length := by
  have hu := unp_le (s.drop 1)
  have hb := unp_bd (s.drop 1)
  rw [List.length_drop] at hu
  unfold tkV
  by_cases h0 : s = []
  · simp [h0]
  have hl : 1 ≤ s.length := by
    have := List.length_pos_iff.2 h0
    omega
  rw [if_neg h0]
  split
  · simp
  · split
    · simp
    · split
      · simp only; omega
      · unfold tkT
        split
        · simp
        · split
          · simp
          · simp only; omega
/-- Behind a number, a text, a value there is no more left than there was. -/
theorem textR_len (most : Int) (r : Rs) : (textR most r).2.1.length ≤ r.1.length := by
  have := sizeR_len most r
  unfold textR
  simp only
  split
  · split
    · simpa using this
    · simp; omega
  · exact this
theorem valR_len (r : Rs) : (valR r).2.1.length ≤ r.1.length := by
  unfold valR
  split
  · simp
  · simp
theorem numR_pos (r : Rs) : 0 ≤ (numR r).1 := by
  unfold numR
  split
  · exact (unp_bd _).1
  · simp
theorem sizeR_pos (most : Int) (r : Rs) : 0 ≤ (sizeR most r).1 := by
  have := numR_pos r
  unfold sizeR
  split <;> exact this
end Go.Av
namespace Go.Av
open Go Go.RowKit
set_option autoImplicit false
set_option linter.all false
/-! ### The reader's event -/
def fdsR : Nat → Rs → List Fd × Rs
  | 0, r => ([], r)
  | n + 1, r => if r.2 = 0 then (((textR 16 r).1, (valR (textR 16 r).2).1) :: (fdsR n (valR (textR 16 r).2).2).1, (fdsR n (valR (textR 16 r).2).2).2) else ([], r)
def evR (r : Rs) : Ev × Rs :=
  let a := textR 40 r
  let b := textR 16 a.2
  let c := numR b.2
  let d := sizeR 8 c.2
  let f := fdsR d.1.toNat d.2
  ((a.1, b.1, c.1, f.1), f.2)
theorem numR_len (r : Rs) : (numR r).2.1.length ≤ r.1.length := by
  unfold numR
  split <;> simp
theorem numR_max (r : Rs) : (numR r).1 ≤ 18446744073709551615 := by
  unfold numR
  split
  · exact (unp_bd _).2
  · simp
theorem sizeR_max (most : Int) (r : Rs) : (sizeR most r).1 ≤ 18446744073709551615 := by
  have := numR_max r
  unfold sizeR
  split <;> exact this
/-- A count that is too great is an error. -/
theorem sizeR_err (most : Int) (r : Rs) (h : most < (sizeR most r).1) : (sizeR most r).2.2 = 2 := by
  unfold sizeR at h ⊢
  split
  · rfl
  · rename_i hn
    rw [if_neg hn] at h
    exact absurd h hn
theorem fdsR_add : ∀ (n m : Nat) (r : Rs), n ≤ m → (fdsR n r).2.2 ≠ 0 → fdsR m r = fdsR n r
  | 0, 0, r, _, _ => rfl
  | 0, m + 1, r, _, h => by
    have h : r.2 ≠ 0 := h
    simp [fdsR, h]
  | n + 1, 0, r, h, _ => by omega
  | n + 1, m + 1, r, hl, h => by
    simp only [fdsR] at h ⊢
    by_cases h0 : r.2 = 0
    · simp only [if_pos h0] at h ⊢
      rw [fdsR_add n m _ (by omega) h]
    · simp [h0]
theorem wf_box {P : List Entry} {b b' : Entry} (hw : Wf (P ++ [b])) (hb : idsLtE (P.length + 1) b' = true) : Wf (P ++ [b']) := by
  have e : P ++ [b'] = (P ++ [b]).set P.length b' := by rw [List.set_append_right _ _ (by omega)]; simp
  unfold Wf at hw ⊢
  rw [e, List.length_set]
  exact hLe_set (by simpa using hb) _ _ hw
theorem fin_box {K : KV} {e : List V} {P t : List Entry} {b b' : Entry} {m : Nat} (hm : m = P.length + 1) (hw : Wf (P ++ [b])) (hb : idsLtE (P.length + 1) b' = true) (hi : idsLts (P.length + 1) e = true) (hk : K (oneV e) (P ++ [b'])) : endW m e K (P ++ b' :: t) := by
  have hw' := wf_box hw hb
  have := fin_res (H := P ++ [b']) (t := t) (K := K) (e := e) hw' (by simpa using hi) hk
  subst hm
  simpa using this
theorem BCall.mcall {P : Program} {f : FuncId} {x : V} {args : List V} {H H' : List Entry} {K : KV} {v : V} (h : ∀ K' : KV, K' v H' → BCall P f args H K') (ho : Off x H H') (hk : K v H') : MCall P f x args H K := ⟨v, H', h _ ⟨rfl, rfl⟩, ho, hk⟩
theorem hLe_cut {m : Nat} : ∀ {A t : List Entry}, hLe m (A ++ t) (A ++ t) → hLe m A A
  | [], _, _ => by simp [hLe]
  | a :: A, t, h => by
    simp only [List.cons_append, hLe] at h ⊢
    exact ⟨h.1, hLe_cut h.2⟩
theorem hLe_app2 {m0 m : Nat} {H t t' : List Entry} (h : hLe m0 H H) (hm : m0 ≤ m) (ht : hLe m t t') : hLe m (H ++ t) (H ++ t') := by
  induction H with
  | nil => exact ht
  | cons e A ih =>
    simp only [List.cons_append, hLe] at h ⊢
    exact ⟨h.1.imp id fun k => ⟨k.1, idsLtE_mono hm k.2⟩, ih h.2⟩
theorem s_event {P : List Entry} {r : Rs} {K : KV} (hl : r.1.length ≤ 900000) (hK : K (evV (evR r).1) (P ++ [.box [.str (evR r).2.1, .int .i64 (evR r).2.2]])) : BCall AP n_event_reader_event [.ptr P.length 0] (P ++ [.box [.str r.1, .int .i64 r.2]]) K := by
  refine a_event_reader_event fun hw => ?_
  simp (disch := first | omega | (simp only [go_sem, push_cast, and_true] <;> omega) | fail) only [go_sem, c_event_reader_event]
  refine s_text (r := r) (by simp (disch := first | omega | (simp only [go_sem, push_cast, and_true] <;> omega) | fail) only [go_sem]) (by omega) (sizeR_pos _ _) ?_
  have hl1 := textR_len 40 r
  unfold evR at hK
  simp only at hK
  generalize textR 40 r = a at *
  simp (disch := first | omega | (simp only [go_sem, push_cast, and_true] <;> omega) | fail) only [go_sem]
  refine s_text (r := a.2) (by simp (disch := first | omega | (simp only [go_sem, push_cast, and_true] <;> omega) | fail) only [go_sem]) (by omega) (sizeR_pos _ _) ?_
  have hl2 := textR_len 16 a.2
  generalize textR 16 a.2 = b at *
  simp (disch := first | omega | (simp only [go_sem, push_cast, and_true] <;> omega) | fail) only [go_sem]
  refine s_number (r := b.2) (by simp (disch := first | omega | (simp only [go_sem, push_cast, and_true] <;> omega) | fail) only [go_sem]) (by omega) (unp_le _) ?_
  have hl3 := numR_len b.2
  generalize numR b.2 = c at *
  simp (disch := first | omega | (simp only [go_sem, push_cast, and_true] <;> omega) | fail) only [go_sem]
  refine s_size (r := c.2) (by simp (disch := first | omega | (simp only [go_sem, push_cast, and_true] <;> omega) | fail) only [go_sem]) (by omega) ?_
  have hl4 := sizeR_len 8 c.2
  have hp4 := sizeR_pos 8 c.2
  have hm4 := sizeR_max 8 c.2
  have he4 := sizeR_err 8 c.2
  generalize sizeR 8 c.2 = d at *
  simp (disch := first | omega | (simp only [go_sem, push_cast, and_true] <;> omega) | fail) only [go_sem]
  obtain ⟨a1, a2⟩ := a
  obtain ⟨b1, b2⟩ := b
  obtain ⟨c1, c2⟩ := c
  obtain ⟨d1, d2⟩ := d
  simp only at *
  obtain ⟨k0, rfl⟩ : ∃ k : Nat, d1 = (k : Int) := ⟨d1.toNat, by omega⟩
  rw [Int.toNat_natCast] at hK
  have hc : hLe (P.length + 1) P P := by
    have := hw
    unfold Wf at this
    exact hLe_cut (by simpa using this)
  refine loop_adoptB (H := P) (t := [_, _, _]) 2 3 66 4 rfl rfl ?_
  simp (disch := first | omega | (simp only [go_sem, push_cast, and_true] <;> omega) | fail) only [go_sem]
  refine loop_in (fun m e' H' => ∃ (k : Nat) (L : List Fd) (q : Rs), m = k + 1 ∧ e' = slots 0 40 [(0, .ptr P.length 0), (2, .ptr (P.length + 1) 0), (3, .ptr (P.length + 2) 0), (4, .int .u64 (k : Int))] ∧ H' = P ++ [.box [.str q.1, .int .i64 q.2], .box [.str [], .str [], .int .u64 0, .nilsl], .box [.str a1, .str b1, .int .u64 c1, .own (P.length + 3) L.length], .row 66 4 (L.map fdV)] ∧ q.1.length ≤ 900000 ∧ (k : Int) ≤ 18446744073709551615 ∧ L.length ≤ 8 ∧ (q.2 = 0 → L.length + k ≤ 8) ∧ fdsR k0 d2 = (L ++ (fdsR k q).1, (fdsR k q).2)) (n := k0 + 1) ⟨k0, [], d2, rfl, rfl, rfl, by omega, by omega, by simp, fun h => ?_, by simp⟩ (by first | omega | (simp only [go_sem, push_cast] <;> omega)) ?_ ?_ ?_
  · by_cases h8 : 8 < (k0 : Int)
    · rw [he4 h8] at h
      cases h
    · simp; omega
  · simp (disch := first | (simp only [go_sem] <;> omega) | fail) only [go_sem, x_eLeS, x_hLeS, Int.natCast_zero, Int.natCast_add, Int.natCast_one]
  · exact hLe_app2 hc (by first | omega | (simp only [go_sem, push_cast] <;> omega)) (by simp (disch := first | (simp only [go_sem] <;> omega) | fail) only [go_sem, x_eLeS, x_hLeS, Int.natCast_zero, Int.natCast_add, Int.natCast_one])
  · rintro J hJ m e' H' ⟨k, L, q, rfl, rfl, rfl, hq, hk, hL, hL2, hf⟩
    obtain ⟨q1, q2⟩ := q
    simp only at *
    by_cases hk0 : k = 0
    · subst hk0
      have h0 : fdsR 0 (q1, q2) = ([], (q1, q2)) := rfl
      rw [h0, List.append_nil] at hf
      rw [hf] at hK
      simp (disch := first | omega | (simp only [go_sem, push_cast, and_true] <;> omega) | fail) only [go_sem]
      refine end_frz 0 ?_
      simp (disch := first | omega | (simp only [go_sem, push_cast, and_true] <;> omega) | fail) only [go_sem, fz, fzsW, fzRow, List.length_map, if_true]
      refine fin_box (b' := .box [.str q1, .int .i64 q2]) rfl hw (by simp (disch := first | omega | (simp only [go_sem, push_cast, and_true] <;> omega) | fail) only [go_sem]) (by simp (disch := first | omega | (simp only [go_sem, push_cast, and_true] <;> omega) | fail) only [go_sem]) (fin_eq hK ?_)
      simp [evV, oneV]
    by_cases h0 : q2 = 0
    · subst h0
      obtain ⟨k, rfl⟩ : ∃ j, k = j + 1 := ⟨k - 1, by omega⟩
      have hL3 := hL2 rfl
      simp (disch := first | omega | (simp only [go_sem, push_cast, and_true] <;> omega) | fail) only [go_sem]
      refine s_text (r := (q1, 0)) (by simp (disch := first | omega | (simp only [go_sem, push_cast, and_true] <;> omega) | fail) only [go_sem]) (by simp only; omega) (sizeR_pos _ _) ?_
      have hg : fdsR (k + 1) (q1, 0) = ((((textR 16 (q1, 0)).1, (valR (textR 16 (q1, 0)).2).1) :: (fdsR k (valR (textR 16 (q1, 0)).2).2).1, (fdsR k (valR (textR 16 (q1, 0)).2).2).2)) := by simp [fdsR]
      rw [hg] at hf
      have hl5 := textR_len 16 (q1, 0)
      generalize textR 16 (q1, 0) = x at *
      simp (disch := first | omega | (simp only [go_sem, push_cast, and_true] <;> omega) | fail) only [go_sem]
      have hx1 : x.2.1.length ≤ 900000 := by simp only at hl5; omega
      refine BCall.mcall (fun K' hK' => s_value (r := x.2) (by simp (disch := first | omega | (simp only [go_sem, push_cast, and_true] <;> omega) | fail) only [go_sem]) hx1 (unp_bd _) (tkV_le _) hK') (off_set rfl) ?_
      have hl6 := valR_len x.2
      generalize valR x.2 = y at *
      simp (disch := first | omega | (simp only [go_sem, push_cast, and_true] <;> omega) | fail) only [go_sem, Int.add_sub_cancel]
      have e2 : L.map fdV ++ [.agg [.str x.1, .bool y.1.1, .int .i64 y.1.2.1, .str y.1.2.2]] = (L ++ [(x.1, y.1)]).map fdV := by simp [fdV]
      have e3 : L.length + 1 = (L ++ [(x.1, y.1)]).length := by simp
      rw [e2, e3]
      refine round_end (hJ _ _ _ ⟨k, L ++ [(x.1, y.1)], y.2, rfl, rfl, rfl, by omega, by omega, by simp; omega, fun _ => by simp; omega, by rw [hf]; simp⟩) (by omega) (by first | omega | (simp only [go_sem, push_cast] <;> omega)) ?_ ?_
      · simp (disch := first | (simp only [go_sem, Int.add_sub_cancel] <;> omega) | fail) only [go_sem, x_eLeS, x_hLeS, Int.natCast_zero, Int.natCast_add, Int.natCast_one, Int.add_sub_cancel]
      · exact hLe_app2 hc (by first | omega | (simp only [go_sem, push_cast] <;> omega)) (by simp (disch := first | (simp only [go_sem] <;> omega) | fail) only [go_sem, x_eLeS, x_hLeS, Int.natCast_zero, Int.natCast_add, Int.natCast_one])
    · have h0 : fdsR k (q1, q2) = ([], (q1, q2)) := by
        cases k with
        | zero => rfl
        | succ k => simp [fdsR, h0]
      rw [h0, List.append_nil] at hf
      rw [hf] at hK
      simp (disch := first | omega | (simp only [go_sem, push_cast, and_true] <;> omega) | fail) only [go_sem]
      refine end_frz 0 ?_
      simp (disch := first | omega | (simp only [go_sem, push_cast, and_true] <;> omega) | fail) only [go_sem, fz, fzsW, fzRow, List.length_map, if_true]
      refine fin_box (b' := .box [.str q1, .int .i64 q2]) rfl hw (by simp (disch := first | omega | (simp only [go_sem, push_cast, and_true] <;> omega) | fail) only [go_sem]) (by simp (disch := first | omega | (simp only [go_sem, push_cast, and_true] <;> omega) | fail) only [go_sem]) (fin_eq hK ?_)
      simp [evV, oneV]
end Go.Av
namespace Go.Av
open Go
set_option autoImplicit false
set_option linter.all false
/-! ### An event is taken -/
def z0 : Ev := ([], [], 0, [])
noncomputable def takE (s : List UInt8) : Ev × Int × Int :=
  let z := evR (s, 0)
  if z.2.2 = 0 then (if mayE z.1 = true ∧ (s.length : Int) - z.2.1.length ≤ 800 then (z.1, (s.length : Int) - z.2.1.length, 0) else (z0, 0, 2)) else (z0, 0, z.2.2)
theorem textR_fst (most : Int) (r : Rs) : (textR most r).1.length ≤ r.1.length := by
  have := sizeR_len most r
  unfold textR
  simp only
  split
  · split
    · simp
    · simp; omega
  · simp
theorem tkV_fst (s : List UInt8) : (tkV s).1.2.2.length ≤ s.length := by
  unfold tkV
  split
  · simp [v0]
  · split
    · simp [v0]
    · split
      · simp [v0]
      · split
        · simp
        · unfold tkT
          split
          · simp
          · split
            · simp
            · simp; omega
theorem valR_fst (r : Rs) : (valR r).1.2.2.length ≤ r.1.length := by
  unfold valR
  split
  · exact tkV_fst _
  · simp [v0]
theorem fdsR_ok {M : Nat} : ∀ (n : Nat) (r : Rs), r.1.length ≤ M → (fdsR n r).2.1.length ≤ r.1.length ∧ ∀ f ∈ (fdsR n r).1, f.1.length ≤ M ∧ f.2.2.2.length ≤ M
  | 0, r, h => by simp [fdsR]
  | n + 1, r, h => by
    unfold fdsR
    split
    · have h1 := textR_len 16 r
      have h2 := textR_fst 16 r
      have h3 := valR_len (textR 16 r).2
      have h4 := valR_fst (textR 16 r).2
      obtain ⟨k1, k2⟩ := fdsR_ok (M := M) n (valR (textR 16 r).2).2 (by omega)
      refine ⟨by simp only; omega, fun f hf => ?_⟩
      rcases List.mem_cons.1 hf with rfl | hf
      · exact ⟨by simp only; omega, by simp only; omega⟩
      · exact k2 f hf
    · simp
theorem fdsR_cnt : ∀ (n : Nat) (r : Rs), (fdsR n r).1.length ≤ n
  | 0, r => by simp [fdsR]
  | n + 1, r => by
    unfold fdsR
    split
    · have := fdsR_cnt n (valR (textR 16 r).2).2
      simp; omega
    · simp
theorem evR_ok (s : List UInt8) (hs : s.length ≤ 900000) : evOk (evR (s, 0)).1 ∧ (evR (s, 0)).1.2.2.2.length ≤ 8 ∧ (evR (s, 0)).2.1.length ≤ s.length := by
  unfold evR
  simp only
  have a1 := textR_fst 40 (s, 0)
  have a2 := textR_len 40 (s, 0)
  generalize textR 40 (s, 0) = a at *
  have b1 := textR_fst 16 a.2
  have b2 := textR_len 16 a.2
  generalize textR 16 a.2 = b at *
  have c2 := numR_len b.2
  generalize numR b.2 = c at *
  have d1 := sizeR_len 8 c.2
  have d2 := sizeR_err 8 c.2
  have d3 := sizeR_pos 8 c.2
  generalize sizeR 8 c.2 = d at *
  simp only at a1 a2
  obtain ⟨k1, k2⟩ := fdsR_ok (M := 900000) d.1.toNat d.2 (by omega)
  have k3 := fdsR_cnt d.1.toNat d.2
  have k4 : (fdsR d.1.toNat d.2).1.length ≤ 8 := by
    by_cases h : 8 < d.1
    · have h2 := d2 h
      cases hd : d.1.toNat with
      | zero => simp [fdsR]
      | succ n => simp [fdsR, h2]
    · omega
  refine ⟨⟨by simp only; omega, by simp only; omega, by simp only; omega, fun f hf => ?_⟩, k4, by omega⟩
  have := k2 f hf
  omega
theorem s_event2 {H : List Entry} {b0 : Entry} {r : Rs} {K : KV} (hl : r.1.length ≤ 900000) (hK : K (evV (evR r).1) (H ++ [b0, .box [.str (evR r).2.1, .int .i64 (evR r).2.2]])) : BCall AP n_event_reader_event [.ptr (H.length + 1) 0] (H ++ [b0, .box [.str r.1, .int .i64 r.2]]) K := by
  have := s_event (P := H ++ [b0]) (r := r) (K := K) hl (by simpa using hK)
  simpa using this
theorem s_Take {s : List UInt8} {H : List Entry} (hs : s.length ≤ 900000) : Pure AP n_event_Take [.str s] H (.tup [evV (takE s).1, .int .i64 (takE s).2.1, .int .i64 (takE s).2.2]) := by
  intro K hK
  refine a_event_Take fun hw => ?_
  obtain ⟨o1, o2, o3⟩ := evR_ok s hs
  unfold takE at hK
  simp (disch := first | omega | (simp only [go_sem, push_cast, and_true] <;> omega) | fail) only [go_sem, c_event_Take]
  refine s_event2 (r := (s, 0)) hs ?_
  simp only at hK
  generalize evR (s, 0) = z at *
  obtain ⟨e, q1, q2⟩ := z
  simp only at *
  simp (disch := first | omega | (simp only [go_sem, push_cast, and_true] <;> omega) | fail) only [go_sem]
  by_cases h : q2 = 0
  · subst h
    simp only [if_true] at hK
    simp (disch := first | omega | (simp only [go_sem, push_cast, and_true] <;> omega) | fail) only [go_sem]
    refine s_May (e := e) o1 (by omega) _ ?_
    cases hm : mayE e
    · simp only [hm, Bool.false_eq_true, false_and, if_false] at hK
      simp (disch := first | omega | (simp only [go_sem, push_cast, and_true] <;> omega) | fail) only [go_sem, Bool.not_false]
      refine end_less [.agg [.str [], .str [], .int .u64 0, .sl 4 []], .int .i64 0, .int .i64 2] (by repeat' (first | exact .nil _ | exact .slx _ _ | exact .refl _ | exact .nil | refine .cons ?_ ?_ | refine .agg ?_ | refine .tup ?_)) ?_
      refine fin_res hw ?_ (fin_eq hK ?_)
      · simp (disch := first | omega | (simp only [go_sem, push_cast, and_true] <;> omega) | fail) only [go_sem]
      · simp [oneV, evV, z0]
    · by_cases h8 : (s.length : Int) - q1.length ≤ 800
      · simp only [hm, true_and, if_pos h8] at hK
        simp (disch := first | omega | (simp only [go_sem, push_cast, and_true] <;> omega) | fail) only [go_sem, Bool.not_true, h8, decide_true, decide_false]
        refine fin_res hw ?_ (fin_eq hK ?_)
        · simp (disch := first | omega | (simp only [go_sem, push_cast, and_true] <;> omega) | fail) only [go_sem]
        · simp [oneV, evV]
      · simp only [hm, true_and, if_neg h8] at hK
        simp (disch := first | omega | (simp only [go_sem, push_cast, and_true] <;> omega) | fail) only [go_sem, Bool.not_true, h8, decide_true, decide_false]
        refine end_less [.agg [.str [], .str [], .int .u64 0, .sl 4 []], .int .i64 0, .int .i64 2] (by repeat' (first | exact .nil _ | exact .slx _ _ | exact .refl _ | exact .nil | refine .cons ?_ ?_ | refine .agg ?_ | refine .tup ?_)) ?_
        refine fin_res hw ?_ (fin_eq hK ?_)
        · simp (disch := first | omega | (simp only [go_sem, push_cast, and_true] <;> omega) | fail) only [go_sem]
        · simp [oneV, evV, z0]
  · simp only [if_neg h] at hK
    simp (disch := first | omega | (simp only [go_sem, push_cast, and_true] <;> omega) | fail) only [go_sem, h, decide_false]
    refine end_less [.agg [.str [], .str [], .int .u64 0, .sl 4 []], .int .i64 0, .int .i64 q2] (by repeat' (first | exact .nil _ | exact .slx _ _ | exact .refl _ | exact .nil | refine .cons ?_ ?_ | refine .agg ?_ | refine .tup ?_)) ?_
    refine fin_res hw ?_ (fin_eq hK ?_)
    · simp (disch := first | omega | (simp only [go_sem, push_cast, and_true] <;> omega) | fail) only [go_sem]
    · simp [oneV, evV, z0]
end Go.Av
