/- A part of a way to reckon what a Go program does without its memory (Q3). -/
import Derived.Test.YtgeiicchkfpanaaQ2
namespace Go.Av
open Go Go.RowKit
set_option autoImplicit false
set_option linter.all false
def mayV (v : Vl) : Bool := if v.1 then decide (v.2.2 = []) else decide (v.2.1 = 0) && decide ((v.2.2.length : Int) ≤ 60)
theorem s_MayV {v : Vl} {H : List Entry} (hs : v.2.2.length ≤ 9223372036854775807) : Pure AP n_val_May [vlV v] H (.bool (mayV v)) := by
  intro K hK
  refine a_val_May fun hw => ?_
  obtain ⟨b, z, s⟩ := v
  simp only at hs
  cases b
  · by_cases h : z = 0
    · simp (disch := first | omega | (simp only [go_sem, push_cast, and_true] <;> omega) | fail) only [go_sem, c_val_May, h, decide_true]
      refine fin_tmp hw ?_ (fin_eq hK ?_)
      · simp (disch := first | omega | (simp only [go_sem, push_cast, and_true] <;> omega) | fail) only [go_sem]
      · simp [oneV, nths, nth, mayV, h]
    · simp (disch := first | omega | (simp only [go_sem, push_cast, and_true] <;> omega) | fail) only [go_sem, c_val_May, h, decide_false]
      refine fin_tmp hw ?_ (fin_eq hK ?_)
      · simp (disch := first | omega | (simp only [go_sem, push_cast, and_true] <;> omega) | fail) only [go_sem]
      · simp [oneV, nths, nth, mayV, h]
  · simp (disch := first | omega | (simp only [go_sem, push_cast, and_true] <;> omega) | fail) only [go_sem, c_val_May]
    refine fin_tmp hw ?_ (fin_eq hK ?_)
    · simp (disch := first | omega | (simp only [go_sem, push_cast, and_true] <;> omega) | fail) only [go_sem]
    · simp [oneV, nths, nth, mayV]
theorem s_isNaN {s : List UInt8} {H : List Entry} : Pure AP n_cmp_isNaN_string [.str s] H (.bool false) := by
  intro K hK
  refine a_cmp_isNaN_string fun hw => ?_
  simp (disch := first | omega | (simp only [go_sem, push_cast, and_true] <;> omega) | fail) only [go_sem, c_cmp_isNaN_string, decide_true]
  refine fin_tmp0 hw ?_ (fin_eq hK ?_)
  · simp (disch := first | omega | (simp only [go_sem, push_cast, and_true] <;> omega) | fail) only [go_sem]
  · simp (disch := first | omega | (simp only [go_sem, push_cast, and_true] <;> omega) | fail) only [go_sem]
def cmpS (a b : List UInt8) : Int := if Op.bytesLess a b = true then -1 else if a = b then 0 else 1
theorem s_cmp {a b : List UInt8} {H : List Entry} : Pure AP n_cmp_Compare_string [.str a, .str b] H (.int .i64 (cmpS a b)) := by
  intro K hK
  refine a_cmp_Compare_string fun hw => ?_
  simp (disch := first | omega | (simp only [go_sem, push_cast, and_true] <;> omega) | fail) only [go_sem, c_cmp_Compare_string]
  refine s_isNaN _ ?_
  simp (disch := first | omega | (simp only [go_sem, push_cast, and_true] <;> omega) | fail) only [go_sem]
  refine s_isNaN _ ?_
  cases h : Op.bytesLess a b
  · by_cases h2 : a = b
    · simp (disch := first | omega | (simp only [go_sem, push_cast, and_true] <;> omega) | fail) only [go_sem, h, h2, decide_true, Bool.not_true, h2 ▸ h]
      refine fin_tmp0 hw ?_ (fin_eq hK ?_)
      · simp (disch := first | omega | (simp only [go_sem, push_cast, and_true] <;> omega) | fail) only [go_sem]
      · subst h2
        simp [oneV, nths, nth, cmpS, h]
    · simp (disch := first | omega | (simp only [go_sem, push_cast, and_true] <;> omega) | fail) only [go_sem, h, h2, decide_false, Bool.not_false]
      refine fin_tmp0 hw ?_ (fin_eq hK ?_)
      · simp (disch := first | omega | (simp only [go_sem, push_cast, and_true] <;> omega) | fail) only [go_sem]
      · simp [oneV, nths, nth, cmpS, h, h2]
  · simp (disch := first | omega | (simp only [go_sem, push_cast, and_true] <;> omega) | fail) only [go_sem, h]
    refine fin_tmp0 hw ?_ (fin_eq hK ?_)
    · simp (disch := first | omega | (simp only [go_sem, push_cast, and_true] <;> omega) | fail) only [go_sem]
    · simp [oneV, nths, nth, cmpS, h]
theorem s_wrong {f : Fd} {H : List Entry} (h1 : f.1.length ≤ 9223372036854775807) (h2 : f.2.2.2.length ≤ 9223372036854775807) : Pure AP n_event_mayFields_1 [fdV f] H (.bool (!fieldB f.1 || !mayV f.2)) := by
  intro K hK
  refine a_event_mayFields_1 fun hw => ?_
  simp (disch := first | omega | (simp only [go_sem, push_cast, and_true] <;> omega) | fail) only [go_sem, c_event_mayFields_1]
  refine s_Field h1 _ ?_
  cases hf : fieldB f.1
  · simp (disch := first | omega | (simp only [go_sem, push_cast, and_true] <;> omega) | fail) only [go_sem, Bool.not_false]
    refine fin_tmp hw ?_ (fin_eq hK ?_)
    · simp (disch := first | omega | (simp only [go_sem, push_cast, and_true] <;> omega) | fail) only [go_sem]
    · simp [oneV, nths, nth, hf]
  · simp (disch := first | omega | (simp only [go_sem, push_cast, and_true] <;> omega) | fail) only [go_sem, Bool.not_true]
    refine s_MayV (v := f.2) h2 _ ?_
    simp (disch := first | omega | (simp only [go_sem, push_cast, and_true] <;> omega) | fail) only [go_sem]
    refine fin_tmp hw ?_ (fin_eq hK ?_)
    · simp (disch := first | omega | (simp only [go_sem, push_cast, and_true] <;> omega) | fail) only [go_sem]
    · simp [oneV, nths, nth, hf]
theorem s_byName {f g : Fd} {H : List Entry} : Pure AP n_event_mayFields_2 [fdV f, fdV g] H (.int .i64 (cmpS f.1 g.1)) := by
  intro K hK
  refine a_event_mayFields_2 fun hw => ?_
  simp (disch := first | omega | (simp only [go_sem, push_cast, and_true] <;> omega) | fail) only [go_sem, c_event_mayFields_2]
  refine s_cmp _ ?_
  simp (disch := first | omega | (simp only [go_sem, push_cast, and_true] <;> omega) | fail) only [go_sem]
  refine fin_tmp hw ?_ (fin_eq hK ?_)
  · simp (disch := first | omega | (simp only [go_sem, push_cast, and_true] <;> omega) | fail) only [go_sem]
  · simp (disch := first | omega | (simp only [go_sem, push_cast, and_true] <;> omega) | fail) only [go_sem]
/-- Each one stands ahead of the next. -/
def Ris (X : List Fd) : Prop := ∀ i : Nat, i + 1 < X.length → cmpS (X.getD i default).1 (X.getD (i + 1) default).1 < 0
noncomputable def risB (X : List Fd) : Bool := @decide (Ris X) (Classical.propDecidable _)
theorem risB_true {X : List Fd} (h : Ris X) : risB X = true := by simp [risB, h]
theorem risB_false {X : List Fd} (h : ¬ Ris X) : risB X = false := by simp [risB, h]
theorem risB_of {X : List Fd} (h : risB X = true) : Ris X := by
  by_cases hr : Ris X
  · exact hr
  · rw [risB_false hr] at h; cases h
theorem s_Rises {X : List Fd} {H : List Entry} (hX : X.length ≤ 1000000) : Pure AP n_list_Rises_api_Field [.sl 4 (X.map fdV), .fn n_event_mayFields_2 [] []] H (.bool (risB X)) := by
  intro K hK
  refine a_list_Rises_api_Field fun hw => ?_
  simp (disch := first | omega | (simp only [go_sem, push_cast, and_true] <;> omega) | fail) only [go_sem, c_list_Rises_api_Field]
  refine loop_in (fun m e H' => ∃ i : Nat, m = X.length - i ∧ e = slots 0 24 [(0, .sl 4 (X.map fdV)), (1, .fn n_event_mayFields_2 [] []), (5, .int .i64 ((i : Int) + 1))] ∧ H' = H ∧ i ≤ X.length ∧ ∀ j < i, j + 1 < X.length → cmpS (X.getD j default).1 (X.getD (j + 1) default).1 < 0) (n := X.length) ⟨0, rfl, rfl, rfl, by omega, fun j hj => by omega⟩ (Nat.le_refl _) ?_ hw ?_
  · simp (disch := first | (simp only [go_sem] <;> omega) | fail) only [go_sem, x_eLeS, x_hLeS, Int.natCast_zero, Int.natCast_add, Int.natCast_one]
  · rintro J hJ m e H' ⟨i, rfl, rfl, rfl, hi1, hn⟩
    simp (disch := first | omega | (simp only [go_sem, push_cast, and_true] <;> omega) | fail) only [go_sem]
    by_cases h : (i : Int) + 1 < X.length
    · have e1 : ((i : Int) + 1).toNat = i + 1 := by omega
      have e2 : ((i : Int) + 1 - 1).toNat = i := by omega
      have hc : cmpS (X.getD i default).1 (X.getD (i + 1) default).1 < 0 ∨ ¬ cmpS (X.getD i default).1 (X.getD (i + 1) default).1 < 0 := by omega
      simp (disch := first | omega | (simp only [go_sem, push_cast, and_true] <;> omega) | fail) only [go_sem, e1, e2]
      refine (s_byName (f := X.getD i default) (g := X.getD (i + 1) default)).dcall ?_
      rcases hc with hc | hc
      · simp (disch := first | omega | (simp only [go_sem, push_cast, and_true] <;> omega) | fail) only [go_sem]
        refine round_end (hJ _ _ _ ⟨i + 1, rfl, rfl, rfl, by omega, fun j hj => ?_⟩) (by omega) (Nat.le_refl _) ?_ hw
        · rcases Nat.lt_succ_iff_lt_or_eq.1 hj with k | rfl
          · exact hn j k
          · exact fun _ => hc
        · simp (disch := first | (simp only [go_sem] <;> omega) | fail) only [go_sem, x_eLeS, x_hLeS, Int.natCast_zero, Int.natCast_add, Int.natCast_one]
      · have hr : risB X = false := risB_false fun hr => hc (hr i (by omega))
        simp (disch := first | omega | (simp only [go_sem, push_cast, and_true] <;> omega) | fail) only [go_sem]
        refine fin_tmp0 hw ?_ (fin_eq hK ?_)
        · simp (disch := first | omega | (simp only [go_sem, push_cast, and_true] <;> omega) | fail) only [go_sem]
        · simp (disch := first | omega | (simp only [go_sem, push_cast, and_true] <;> omega) | fail) only [go_sem, hr]
    · have hr : risB X = true := by
        exact risB_true fun j hj => hn j (by omega) hj
      simp (disch := first | omega | (simp only [go_sem, push_cast, and_true] <;> omega) | fail) only [go_sem]
      refine fin_tmp0 hw ?_ (fin_eq hK ?_)
      · simp (disch := first | omega | (simp only [go_sem, push_cast, and_true] <;> omega) | fail) only [go_sem]
      · simp (disch := first | omega | (simp only [go_sem, push_cast, and_true] <;> omega) | fail) only [go_sem, hr]
noncomputable def mayFs (X : List Fd) : Bool := decide (X.length ≤ 8) && (!X.any (fun f => !fieldB f.1 || !mayV f.2) && risB X)
theorem s_mayFields {X : List Fd} {H : List Entry} (hX : X.length ≤ 1000000) (hx : ∀ f ∈ X, f.1.length ≤ 9223372036854775807 ∧ f.2.2.2.length ≤ 9223372036854775807) : Pure AP n_event_mayFields [.sl 4 (X.map fdV)] H (.bool (mayFs X)) := by
  intro K hK
  refine a_event_mayFields fun hw => ?_
  by_cases h : 8 < X.length
  · simp (disch := first | omega | (simp only [go_sem, push_cast, and_true] <;> omega) | fail) only [go_sem, c_event_mayFields]
    refine fin_tmp0 hw ?_ (fin_eq hK ?_)
    · simp (disch := first | omega | (simp only [go_sem, push_cast, and_true] <;> omega) | fail) only [go_sem]
    · have : ¬ X.length ≤ 8 := by omega
      simp [oneV, nths, nth, mayFs, this]
  · have h8 : X.length ≤ 8 := by omega
    simp (disch := first | omega | (simp only [go_sem, push_cast, and_true] <;> omega) | fail) only [go_sem, c_event_mayFields]
    refine s_ContainsF (p := fun f => !fieldB f.1 || !mayV f.2) hX (fun f hf => s_wrong (hx f hf).1 (hx f hf).2) (by simp (disch := first | omega | (simp only [go_sem, push_cast, and_true] <;> omega) | fail) only [go_sem]) (by simp (disch := first | omega | (simp only [go_sem, push_cast, and_true] <;> omega) | fail) only [go_sem]) _ ?_
    cases ha : X.any (fun f => !fieldB f.1 || !mayV f.2)
    · simp (disch := first | omega | (simp only [go_sem, push_cast, and_true] <;> omega) | fail) only [go_sem, Bool.not_false]
      refine s_Rises hX _ ?_
      simp (disch := first | omega | (simp only [go_sem, push_cast, and_true] <;> omega) | fail) only [go_sem]
      refine fin_tmp0 hw ?_ (fin_eq hK ?_)
      · simp (disch := first | omega | (simp only [go_sem, push_cast, and_true] <;> omega) | fail) only [go_sem]
      · unfold mayFs
        rw [ha]
        simp [oneV, nths, nth, h8]
    · simp (disch := first | omega | (simp only [go_sem, push_cast, and_true] <;> omega) | fail) only [go_sem, Bool.not_true]
      refine fin_tmp0 hw ?_ (fin_eq hK ?_)
      · simp (disch := first | omega | (simp only [go_sem, push_cast, and_true] <;> omega) | fail) only [go_sem]
      · unfold mayFs
        rw [ha]
        simp [oneV, nths, nth]
noncomputable def mayE (e : Ev) : Bool := topicB e.1 && (fieldB e.2.1 && (decide (1 ≤ e.2.2.1) && mayFs e.2.2.2))
theorem s_May {e : Ev} {H : List Entry} (he : evOk e) (hX : e.2.2.2.length ≤ 1000000) : Pure AP n_event_May [evV e] H (.bool (mayE e)) := by
  intro K hK
  refine a_event_May fun hw => ?_
  simp (disch := first | omega | (simp only [go_sem, push_cast, and_true] <;> omega) | fail) only [go_sem, c_event_May]
  refine s_Topic _ ?_
  cases h1 : topicB e.1
  · simp (disch := first | omega | (simp only [go_sem, push_cast, and_true] <;> omega) | fail) only [go_sem]
    refine fin_tmp hw ?_ (fin_eq hK ?_)
    · simp (disch := first | omega | (simp only [go_sem, push_cast, and_true] <;> omega) | fail) only [go_sem]
    · simp [oneV, nths, nth, mayE, h1]
  simp (disch := first | omega | (simp only [go_sem, push_cast, and_true] <;> omega) | fail) only [go_sem]
  refine s_Field he.2.1 _ ?_
  cases h2 : fieldB e.2.1
  · simp (disch := first | omega | (simp only [go_sem, push_cast, and_true] <;> omega) | fail) only [go_sem]
    refine fin_tmp hw ?_ (fin_eq hK ?_)
    · simp (disch := first | omega | (simp only [go_sem, push_cast, and_true] <;> omega) | fail) only [go_sem]
    · simp [oneV, nths, nth, mayE, h1, h2]
  by_cases h3 : 1 ≤ e.2.2.1
  · simp (disch := first | omega | (simp only [go_sem, push_cast, and_true] <;> omega) | fail) only [go_sem, h3, decide_true]
    refine s_mayFields hX he.2.2.2 _ ?_
    simp (disch := first | omega | (simp only [go_sem, push_cast, and_true] <;> omega) | fail) only [go_sem]
    refine fin_tmp hw ?_ (fin_eq hK ?_)
    · simp (disch := first | omega | (simp only [go_sem, push_cast, and_true] <;> omega) | fail) only [go_sem]
    · simp [oneV, nths, nth, mayE, h1, h2, h3]
  · simp (disch := first | omega | (simp only [go_sem, push_cast, and_true] <;> omega) | fail) only [go_sem, h3, decide_false]
    refine fin_tmp hw ?_ (fin_eq hK ?_)
    · simp (disch := first | omega | (simp only [go_sem, push_cast, and_true] <;> omega) | fail) only [go_sem]
    · simp [oneV, nths, nth, mayE, h1, h2, h3]
end Go.Av
