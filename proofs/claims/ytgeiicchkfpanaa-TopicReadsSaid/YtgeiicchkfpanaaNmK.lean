/- Layer 2: the contract of Order. -/
import Derived.Test.YtgeiicchkfpanaaNmH
import Derived.Test.YtgeiicchkfpanaaNmJ
import Derived.WalkLawsBesides
import Derived.WalkSpells
namespace Go.Proofs.Ytgeiicchkfpanaa
open Go.RowKit Go.Shelf
theorem ret_intK' {n m : Int} (h : n = m) : Ending.returned (Value.int .i64 n) = Ending.returned (Value.int .i64 m) := by rw [h]
set_option maxHeartbeats 400000 in
theorem cmpStr_any (a b : ByteArray) (w : World) :
    Calls Try.prog 36 #[.string a, .string b] w fun e w' => e = .returned (.int .i64 (cmpL a.toList b.toList)) ∧ w = w' := by
  rcases less_total a.toList b.toList with h | h | h
  · have H := Lib.hid (show cmpL a.toList b.toList = -1 from if_pos h)
    go_enter Try.func36, Try.ntmps36
    go_wp2
    go_ret
    exact ⟨ret_intK' H.out.symm, rfl⟩
  · have e : a = b := by
      rw [ByteArray.toList_eq, ByteArray.toList_eq] at h; exact Go.WideShapes.bytes_inj h
    subst e
    have H := Lib.hid (show cmpL a.toList a.toList = 0 from (cmpL_zero _ _).2 rfl)
    have h1 := less_irrefl a.toList
    clear h
    go_enter Try.func36, Try.ntmps36
    go_wp2
    go_ret
    exact ⟨ret_intK' H.out.symm, rfl⟩
  · have h2 := less_asymm _ _ h
    have hne : ¬ a.toList = b.toList := fun e => by rw [e, less_irrefl] at h; cases h
    have H := Lib.hid (show cmpL a.toList b.toList = 1 by unfold cmpL; rw [h2, if_neg Bool.false_ne_true, if_neg hne])
    have hb : (a.toList == b.toList) = false := by simpa using hne
    clear h hne
    go_enter Try.func36, Try.ntmps36
    go_wp2
    go_ret
    exact ⟨ret_intK' H.out.symm, rfl⟩
theorem cmpStr_dl (a b : ByteArray) (w : World) :
    Calls Try.prog 36 #[.string a, .string b] w fun e w' => e = .returned (.int .i64 (cmpL (dl a) (dl b))) ∧ w = w' := by
  have := cmpStr_any a b w
  rwa [ByteArray.toList_eq, ByteArray.toList_eq] at this
/-- Which one is first. -/
def orderB (a b : ByteArray) : Int := cmpP (partsL a.data.toList) (partsL b.data.toList)
theorem Row.cells {w : World} {base : Nat} {pa : Option Addr} {X : List ByteArray} (h : Row w base pa X) : ∀ i (h : i < X.length), ∃ b, pa = some ⟨b, 0, none⟩ ∧ w.cell? ⟨b, i, none⟩ = some (.string X[i]) := fun i hi => by
  obtain ⟨b, e, _, hh⟩ := h.cons (by intro e; rw [e] at hi; exact absurd hi (by simp))
  exact ⟨b, e, hh.cell i hi⟩
end Go.Proofs.Ytgeiicchkfpanaa
