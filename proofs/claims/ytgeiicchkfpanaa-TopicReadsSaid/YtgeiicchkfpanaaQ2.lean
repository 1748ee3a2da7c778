/- A part of a way to reckon what a Go program does without its memory (Q2). -/
import Derived.Test.YtgeiicchkfpanaaQ1
import Derived.Test.YtgeiicchkfpanaaAc
import Derived.Test.YtgeiicchkfpanaaGw
import Derived.Test.YtgeiicchkfpanaaShelf
import Derived.Test.YtgeiicchkfpanaaNmC
import Derived.Test.YtgeiicchkfpanaaNmRD
namespace Go.Av
open Go
set_option autoImplicit false
set_option linter.all false
theorem s_IndexF {X : List Fd} {f : FuncId} {a b : List V} {H : List Entry} {p : Fd → Bool} (hX : X.length ≤ 1000000) (hp : ∀ x ∈ X, Pure AP f (a ++ ([fdV x] ++ b)) H (.bool (p x))) (hi : idsLts H.length a = true) (hj : idsLts H.length b = true) :
    Pure AP n_slices_IndexFunc_api_Field_api_Field [.sl 4 (X.map fdV), .fn f a b] H (.int .i64 (idx p X)) := by
  intro K hK
  refine a_slices_IndexFunc_api_Field_api_Field fun hw => ?_
  simp (disch := first | omega | (simp only [go_sem, push_cast, and_true] <;> omega) | fail) only [go_sem, c_slices_IndexFunc_api_Field_api_Field]
  refine loop_in (fun n e H' => ∃ i : Nat, n = X.length - i ∧ e = slots 0 19 [(0, .sl 4 (X.map fdV)), (1, .fn f a b), (7, .int .i64 X.length), (8, .int .i64 i)] ∧ H' = H ∧ i ≤ X.length ∧ ∀ j < i, p (X.getD j default) = false) (n := X.length) ⟨0, by omega, rfl, rfl, by omega, fun j hj => by omega⟩ (Nat.le_refl _) ?_ hw ?_
  · simp (disch := first | (simp only [go_sem, hi, hj] <;> omega) | fail) only [go_sem, x_eLeS, x_hLeS, Int.natCast_zero, Int.natCast_add, Int.natCast_one, hi, hj]
  · rintro J hJ n e H' ⟨i, rfl, rfl, rfl, hi1, hn⟩
    simp (disch := first | omega | (simp only [go_sem, push_cast, and_true] <;> omega) | fail) only [go_sem]
    by_cases h : (i : Int) < X.length
    · simp (disch := first | omega | (simp only [go_sem, push_cast, and_true] <;> omega) | fail) only [go_sem]
      refine hp _ (getD_mem (by omega)) _ ?_
      simp (disch := first | omega | (simp only [go_sem, push_cast, and_true] <;> omega) | fail) only [go_sem]
      cases hpx : p (X.getD i default)
      · simp (disch := first | omega | (simp only [go_sem, push_cast, and_true] <;> omega) | fail) only [go_sem]
        refine round_end (hJ _ _ _ ⟨i + 1, rfl, rfl, rfl, by omega, fun j hj => ?_⟩) (by omega) (Nat.le_refl _) ?_ hw
        · rcases Nat.lt_succ_iff_lt_or_eq.1 hj with k | rfl
          · exact hn j k
          · exact hpx
        · simp (disch := first | (simp only [go_sem, hi, hj] <;> omega) | fail) only [go_sem, x_eLeS, x_hLeS, Int.natCast_zero, Int.natCast_add, Int.natCast_one, hi, hj]
      · simp (disch := first | omega | (simp only [go_sem, push_cast, and_true] <;> omega) | fail) only [go_sem]
        refine fin_tmp0 hw ?_ (fin_eq hK ?_)
        · simp (disch := first | omega | (simp only [go_sem, push_cast, and_true] <;> omega) | fail) only [go_sem]
        · simp (disch := first | omega | (simp only [go_sem, push_cast, and_true] <;> omega) | fail) only [go_sem]
          rw [← idx_some (by omega) hpx hn]
    · simp (disch := first | omega | (simp only [go_sem, push_cast, and_true] <;> omega) | fail) only [go_sem]
      refine fin_tmp0 hw ?_ (fin_eq hK ?_)
      · simp (disch := first | omega | (simp only [go_sem, push_cast, and_true] <;> omega) | fail) only [go_sem]
      · simp (disch := first | omega | (simp only [go_sem, push_cast, and_true] <;> omega) | fail) only [go_sem]
        rw [← idx_none (p := p) (fun j hj => hn j (by omega))]
theorem s_ContainsF {X : List Fd} {f : FuncId} {a b : List V} {H : List Entry} {p : Fd → Bool} (hX : X.length ≤ 1000000) (hp : ∀ x ∈ X, Pure AP f (a ++ ([fdV x] ++ b)) H (.bool (p x))) (hi : idsLts H.length a = true) (hj : idsLts H.length b = true) :
    Pure AP n_slices_ContainsFunc_api_Field_api_Field [.sl 4 (X.map fdV), .fn f a b] H (.bool (X.any p)) := by
  intro K hK
  refine a_slices_ContainsFunc_api_Field_api_Field fun hw => ?_
  simp (disch := first | omega | (simp only [go_sem, push_cast, and_true] <;> omega) | fail) only [go_sem, c_slices_ContainsFunc_api_Field_api_Field]
  refine s_IndexF hX hp hi hj _ ?_
  simp (disch := first | omega | (simp only [go_sem, push_cast, and_true] <;> omega) | fail) only [go_sem]
  refine fin_tmp0 hw ?_ (fin_eq hK ?_)
  · simp (disch := first | omega | (simp only [go_sem, push_cast, and_true] <;> omega) | fail) only [go_sem]
  · simp (disch := first | omega | (simp only [go_sem, push_cast, and_true] <;> omega) | fail) only [go_sem]
    rw [idx_any]

end Go.Av
namespace Go.Av
open Go Go.RowKit
set_option autoImplicit false
set_option linter.all false
def idxBy (s : List UInt8) (c : Int) : Int := Lib.indexByte s c.toNat.toUInt8
theorem s_IndexByte {s : List UInt8} {c : Int} {H : List Entry} : Pure AP n_internal_stringslite_IndexByte [.str s, .int .u8 c] H (.int .i64 (idxBy s c)) := by
  refine pure_of (by kernel_rfl) fun C vals hH hC hv => ?_
  simp only [CRep, VRep] at hv
  obtain ⟨_, _, rfl, rfl, _, _, rfl, rfl, rfl⟩ := hv
  refine Calls.mono (Go.Proofs.Try.stringslite_IndexByte ⟨s.toArray⟩ c C.w) ?_
  rintro e w' ⟨rfl, rfl⟩
  exact ⟨_, rfl, Below.refl _ _, fun C' _ => by simp only [VRep, idxBy]⟩
def primIB (args : List V) (H : List Entry) : R2 :=
  match args with
  | [.str s, .int .u8 c] => some (.int .i64 (idxBy s c), H)
  | _ => none
theorem primIB_ok : PrimOk AP n_internal_stringslite_IndexByte primIB := by
  intro args H v H' h K hK
  unfold primIB at h
  split at h
  · cases h
    exact s_IndexByte _ hK
  · cases h
theorem str_bool {P : Program} {f : FuncId} {s : List UInt8} {b : Bool} {H : List Entry} (hb : hasBody P f = true)
    (h : ∀ w : World, Calls P f #[.string ⟨s.toArray⟩] w fun e w' => e = .returned (.bool b) ∧ Below w.heap.size w w') : Pure P f [.str s] H (.bool b) := by
  refine pure_of hb fun C vals hH hC hv => ?_
  simp only [CRep, VRep] at hv
  obtain ⟨_, _, rfl, rfl, rfl⟩ := hv
  refine Calls.mono (h C.w) ?_
  rintro e w' ⟨rfl, hbel⟩
  exact ⟨_, rfl, hbel, fun C' _ => by simp only [VRep]⟩
/-! ### Has a text a dot? -/
theorem s_SIndex {s : List UInt8} {c : UInt8} {H : List Entry} (hs : s.length ≤ 9223372036854775807) : Pure AP n_internal_stringslite_Index [.str s, .str [c]] H (.int .i64 (idxBy s c.toNat)) := by
  intro K hK
  refine a_internal_stringslite_Index fun hw => ?_
  by_cases h : [c] = s
  · subst h
    simp (disch := first | omega | (simp only [go_sem, push_cast, and_true] <;> omega) | fail) only [go_sem, c_internal_stringslite_Index, decide_true]
    have h0 : idxBy [c] c.toNat = 0 := by simp [idxBy, Lib.indexByte]
    refine fin_tmp0 hw ?_ (fin_eq hK ?_)
    · simp (disch := first | omega | (simp only [go_sem, push_cast, and_true] <;> omega) | fail) only [go_sem]
    · simp (disch := first | omega | (simp only [go_sem, push_cast, and_true] <;> omega) | fail) only [go_sem, h0]
  · simp (disch := first | omega | (simp only [go_sem, push_cast, and_true] <;> omega) | fail) only [go_sem, c_internal_stringslite_Index, h, decide_false]
    rw [show octet [c] 0 = (c.toNat : Int) from rfl]
    refine s_IndexByte _ ?_
    simp (disch := first | omega | (simp only [go_sem, push_cast, and_true] <;> omega) | fail) only [go_sem]
    refine fin_tmp0 hw ?_ (fin_eq hK ?_)
    · simp (disch := first | omega | (simp only [go_sem, push_cast, and_true] <;> omega) | fail) only [go_sem]
    · simp (disch := first | omega | (simp only [go_sem, push_cast, and_true] <;> omega) | fail) only [go_sem]
theorem s_Index {s : List UInt8} {c : UInt8} {H : List Entry} (hs : s.length ≤ 9223372036854775807) : Pure AP n_strings_Index [.str s, .str [c]] H (.int .i64 (idxBy s c.toNat)) := by
  intro K hK
  refine a_strings_Index fun hw => ?_
  simp (disch := first | omega | (simp only [go_sem, push_cast, and_true] <;> omega) | fail) only [go_sem, c_strings_Index]
  refine s_SIndex hs _ ?_
  simp (disch := first | omega | (simp only [go_sem, push_cast, and_true] <;> omega) | fail) only [go_sem]
  refine fin_tmp0 hw ?_ (fin_eq hK ?_)
  · simp (disch := first | omega | (simp only [go_sem, push_cast, and_true] <;> omega) | fail) only [go_sem]
  · simp (disch := first | omega | (simp only [go_sem, push_cast, and_true] <;> omega) | fail) only [go_sem]
def hasC (s : List UInt8) (c : UInt8) : Bool := decide (0 ≤ idxBy s c.toNat)
theorem s_Contains {s : List UInt8} {c : UInt8} {H : List Entry} (hs : s.length ≤ 9223372036854775807) : Pure AP n_strings_Contains [.str s, .str [c]] H (.bool (hasC s c)) := by
  intro K hK
  refine a_strings_Contains fun hw => ?_
  simp (disch := first | omega | (simp only [go_sem, push_cast, and_true] <;> omega) | fail) only [go_sem, c_strings_Contains]
  refine s_Index hs _ ?_
  simp (disch := first | omega | (simp only [go_sem, push_cast, and_true] <;> omega) | fail) only [go_sem]
  refine fin_tmp0 hw ?_ (fin_eq hK ?_)
  · simp (disch := first | omega | (simp only [go_sem, push_cast, and_true] <;> omega) | fail) only [go_sem]
  · simp (disch := first | omega | (simp only [go_sem, push_cast, and_true] <;> omega) | fail) only [go_sem, hasC]
def topicB (s : List UInt8) : Bool := Go.Proofs.Ytgeiicchkfpanaa.topicL s
theorem s_Topic {s : List UInt8} {H : List Entry} : Pure AP n_name_Topic [.str s] H (.bool (topicB s)) :=
  str_bool (by kernel_rfl) fun w => Go.Proofs.Ytgeiicchkfpanaa.topic_any ⟨s.toArray⟩ w
def fieldB (s : List UInt8) : Bool := decide (s.length ≤ 16) && (!hasC s 46 && topicB s)
theorem s_Field {s : List UInt8} {H : List Entry} (hs : s.length ≤ 9223372036854775807) : Pure AP n_event_Field [.str s] H (.bool (fieldB s)) := by
  intro K hK
  refine a_event_Field fun hw => ?_
  by_cases h : s.length ≤ 16
  · simp (disch := first | omega | (simp only [go_sem, push_cast, and_true] <;> omega) | fail) only [go_sem, c_event_Field, h, decide_true]
    refine s_Contains hs _ ?_
    cases hc : hasC s 46
    · simp (disch := first | omega | (simp only [go_sem, push_cast, and_true] <;> omega) | fail) only [go_sem, Bool.not_false]
      refine s_Topic _ ?_
      simp (disch := first | omega | (simp only [go_sem, push_cast, and_true] <;> omega) | fail) only [go_sem]
      refine fin_tmp0 hw ?_ (fin_eq hK ?_)
      · simp (disch := first | omega | (simp only [go_sem, push_cast, and_true] <;> omega) | fail) only [go_sem]
      · simp [oneV, nths, nth, fieldB, h, hc]
    · simp (disch := first | omega | (simp only [go_sem, push_cast, and_true] <;> omega) | fail) only [go_sem, Bool.not_true]
      refine fin_tmp0 hw ?_ (fin_eq hK ?_)
      · simp (disch := first | omega | (simp only [go_sem, push_cast, and_true] <;> omega) | fail) only [go_sem]
      · simp [oneV, nths, nth, fieldB, h, hc]
  · simp (disch := first | omega | (simp only [go_sem, push_cast, and_true] <;> omega) | fail) only [go_sem, c_event_Field, h, decide_false]
    refine fin_tmp0 hw ?_ (fin_eq hK ?_)
    · simp (disch := first | omega | (simp only [go_sem, push_cast, and_true] <;> omega) | fail) only [go_sem]
    · simp [oneV, nths, nth, fieldB, h]
theorem r_Topic {s : List UInt8} {H : List Entry} (hs : s.length ≤ 60) : Pure AP n_trystref02_Topic [.str s] H (.bool (topicB s)) :=
  str_bool (by kernel_rfl) fun w => Go.Proofs.Ytgeiicchkfpanaa.rtopic_any ⟨s.toArray⟩ w (by show s.toArray.size ≤ 60; simpa using hs)
theorem idxB_none : ∀ (s : List UInt8) (c : UInt8), (∀ j < s.length, s.getD j 0 ≠ c) → Lib.indexByte s c = -1
  | [], _, _ => rfl
  | b :: s, c, h => by
    have h0 : ¬ b = c := by simpa using h 0 (by simp)
    have ih := idxB_none s c fun j hj => by simpa using h (j + 1) (by simpa using hj)
    simp [Lib.indexByte, h0, ih]
theorem idxB_some : ∀ (s : List UInt8) (c : UInt8) (j : Nat), j < s.length → s.getD j 0 = c → 0 ≤ Lib.indexByte s c
  | [], _, _, h, _ => by simp at h
  | b :: s, c, 0, _, h => by
    have : b = c := by simpa using h
    simp [Lib.indexByte, this]
  | b :: s, c, j + 1, h, e => by
    have ih := idxB_some s c j (by simpa using h) (by simpa using e)
    rw [Lib.indexByte]
    split
    · omega
    · split
      · rename_i k; rw [beq_iff_eq] at k; omega
      · omega
theorem r_Field {s : List UInt8} {H : List Entry} (hs : s.length ≤ 60) : Pure AP n_trystref04_Field [.str s] H (.bool (fieldB s)) := by
  intro K hK
  refine a_trystref04_Field fun hw => ?_
  simp (disch := first | omega | (simp only [go_sem, push_cast, and_true] <;> omega) | fail) only [go_sem, c_trystref04_Field]
  refine loop_in (fun m e' H' => ∃ i : Nat, m = s.length - i ∧ e' = slots 0 21 [(0, .str s), (3, .int .i64 (i : Int))] ∧ H' = H ∧ i ≤ s.length ∧ ∀ j < i, s.getD j 0 ≠ 46) (n := s.length) ⟨0, rfl, rfl, rfl, by omega, fun j hj => by omega⟩ (Nat.le_refl _) ?_ hw ?_
  · simp (disch := first | (simp only [go_sem] <;> omega) | fail) only [go_sem, x_eLeS, x_hLeS, Int.natCast_zero, Int.natCast_add, Int.natCast_one]
  · rintro J hJ m e' H' ⟨i, rfl, rfl, rfl, hi1, hn⟩
    simp (disch := first | omega | (simp only [go_sem, push_cast, and_true] <;> omega) | fail) only [go_sem]
    by_cases h : (i : Int) < s.length
    · by_cases hp : s.getD i 0 = 46
      · have ho : octet s i = 46 := by simp only [octet, hp]; rfl
        have hc : hasC s 46 = true := decide_eq_true (idxB_some s 46 i (by omega) hp)
        have hf : fieldB s = false := by unfold fieldB; rw [hc]; simp
        simp (disch := first | omega | (simp only [go_sem, push_cast, and_true] <;> omega) | fail) only [go_sem, ho, decide_true]
        refine fin_tmp0 hw ?_ (fin_eq hK ?_)
        · simp (disch := first | omega | (simp only [go_sem, push_cast, and_true] <;> omega) | fail) only [go_sem]
        · simp (disch := first | omega | (simp only [go_sem, push_cast, and_true] <;> omega) | fail) only [go_sem, hf]
      · have ho : ¬ octet s i = 46 := by
          intro k
          unfold octet at k
          refine hp (UInt8.toNat_inj.1 ?_)
          have : ((46 : UInt8).toNat : Int) = 46 := rfl
          omega
        simp (disch := first | omega | (simp only [go_sem, push_cast, and_true] <;> omega) | fail) only [go_sem, ho, decide_false]
        refine round_end (hJ _ _ _ ⟨i + 1, rfl, rfl, rfl, by omega, fun j hj => ?_⟩) (by omega) (Nat.le_refl _) ?_ hw
        · rcases Nat.lt_succ_iff_lt_or_eq.1 hj with k | rfl
          · exact hn j k
          · exact hp
        · simp (disch := first | (simp only [go_sem] <;> omega) | fail) only [go_sem, x_eLeS, x_hLeS, Int.natCast_zero, Int.natCast_add, Int.natCast_one]
    · have hc : hasC s 46 = false := by
        have : Lib.indexByte s 46 = -1 := idxB_none s 46 fun j hj => hn j (by omega)
        have h2 : idxBy s ((46 : UInt8).toNat : Int) = -1 := this
        unfold hasC
        rw [h2]
        rfl
      simp (disch := first | omega | (simp only [go_sem, push_cast, and_true] <;> omega) | fail) only [go_sem]
      refine r_Topic hs _ ?_
      cases ht : topicB s
      · have hf : fieldB s = false := by unfold fieldB; rw [ht]; simp
        simp (disch := first | omega | (simp only [go_sem, push_cast, and_true] <;> omega) | fail) only [go_sem]
        refine fin_tmp0 hw ?_ (fin_eq hK ?_)
        · simp (disch := first | omega | (simp only [go_sem, push_cast, and_true] <;> omega) | fail) only [go_sem]
        · simp (disch := first | omega | (simp only [go_sem, push_cast, and_true] <;> omega) | fail) only [go_sem, hf]
      · have hf : fieldB s = decide ((s.length : Int) ≤ 16) := by
          unfold fieldB
          rw [ht, hc]
          simp
          omega
        simp (disch := first | omega | (simp only [go_sem, push_cast, and_true] <;> omega) | fail) only [go_sem]
        refine fin_tmp0 hw ?_ (fin_eq hK ?_)
        · simp (disch := first | omega | (simp only [go_sem, push_cast, and_true] <;> omega) | fail) only [go_sem]
        · simp (disch := first | omega | (simp only [go_sem, push_cast, and_true] <;> omega) | fail) only [go_sem, hf]
end Go.Av
