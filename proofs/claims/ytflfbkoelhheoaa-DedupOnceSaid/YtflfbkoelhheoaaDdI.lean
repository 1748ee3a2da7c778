/- Layer 13: the chapter's examples; facts for the laws. -/
import Derived.Test.YtflfbkoelhheoaaDdH
namespace Go.Proofs.Ytflfbkoelhheoaa.Dd
open Go.RowKit Go.Shelf Go.Proofs.Ytflfbkoelhheoaa Go.Proofs.Ytflfbkoelhheoaa.La
set_option linter.unusedVariables false
set_option linter.unusedSimpArgs false
theorem ex1 : askD [] ⟨#[112]⟩ 1 = (0, 0) := by decide +kernel
theorem ex2 : takeD [] (⟨#[112]⟩, 1, 7) = ([(⟨#[112]⟩, 1, 7)], 0) := by decide +kernel
theorem ex3 : askD [(⟨#[112]⟩, 1, 7)] ⟨#[112]⟩ 1 = (7, 5) := by decide +kernel
theorem ex4 : askD [(⟨#[112]⟩, 1, 7)] ⟨#[112]⟩ 3 = (0, 9) := by decide +kernel
theorem exOk : Oks [(⟨#[112]⟩, 1, 7)] := by
  intro x hx
  rw [List.mem_singleton] at hx
  subst hx
  exact ⟨by decide, by decide, by decide⟩
set_option maxHeartbeats 2000000 in
set_option maxRecDepth 100000 in
theorem awakeD_any (w : World) : Calls Try.prog 19 #[] w fun e w' => e = .returned (.bool true) ∧ Below w.heap.size w w' := by
  have S1 := Lib.hid (fun w => ask_any [] none 0 ⟨#[112]⟩ 1 w (by decide) (Rd.nil _ _) (fun x hx => by cases hx) (by decide) (by decide))
  have S2 := Lib.hid (fun w => take_any [] none 0 (⟨#[112]⟩, 1, 7) w (by decide) (by decide) (Rd.nil _ _) (fun _ => rfl) (fun x hx => by cases hx) (exOk _ (by simp)))
  have S3 := Lib.hid (fun pa cap w hR => ask_any [(⟨#[112]⟩, 1, 7)] pa cap ⟨#[112]⟩ 1 w (by decide) hR exOk (by decide) (by decide))
  have S4 := Lib.hid (fun pa cap w hR => ask_any [(⟨#[112]⟩, 1, 7)] pa cap ⟨#[112]⟩ 3 w (by decide) hR exOk (by decide) (by decide))
  rw [ex1] at S1
  rw [ex2] at S2
  rw [ex3] at S3
  rw [ex4] at S4
  go_enter Try.func19, Try.ntmps19
  have T1 := Lib.hid (S1.out w)
  go_wp2_with fail
  refine T1.out.mono ?_
  rintro e w1 ⟨rfl, hb1⟩
  have K1 := Lib.hid hb1
  clear T1 hb1
  have T2 := Lib.hid (S2.out w1)
  go_wp2_with fail
  refine T2.out.mono ?_
  rintro e w2 ⟨v, rfl, ho, hb2⟩
  have Ho2 := Lib.hid (ho.mono K1.out.size)
  have K2 := Lib.hid (K1.out.trans (hb2.mono K1.out.size))
  clear T2 hb2 ho K1
  obtain ⟨p2, k2, rfl, _, hr2, _⟩ := Ho2.out.args
  have R2 := Lib.hid hr2
  clear hr2
  have T3 := Lib.hid (S3.out p2 k2 w2 R2.out)
  go_wp2_with fail
  refine T3.out.mono ?_
  rintro e w3 ⟨rfl, hb3⟩
  have K3 := Lib.hid (K2.out.trans (hb3.mono K2.out.size))
  have Ho3_ := Lib.hid (Ho2.out.lift hb3)
  have R23_ := Lib.hid (R2.out.lift hb3)
  clear T3 hb3 K2 Ho2 R2
  have T4 := Lib.hid (S4.out p2 k2 w3 R23_.out)
  go_wp2_with fail
  refine T4.out.mono ?_
  rintro e w4 ⟨rfl, hb4⟩
  have K4 := Lib.hid (K3.out.trans (hb4.mono K3.out.size))
  have Ho4_ := Lib.hid (Ho3_.out.lift hb4)
  have R24_ := Lib.hid (R23_.out.lift hb4)
  clear T4 hb4 K3 Ho3_ R23_
  go_wp2
  go_ret
  exact ⟨rfl, K4.out⟩
theorem fw_id (s : ByteArray) (h : s.size ≤ 60) : fw s = s := by unfold fw; rw [if_neg (by omega)]
theorem fewD_id (Y : List El) (hl : Y.length ≤ 51) (h : Oks Y) : fewD Y = Y := by
  unfold fewD
  rw [List.take_of_length_le hl]
  apply List.ext_getElem?
  intro i
  rw [List.getElem?_map]
  cases e : Y[i]? with
  | none => rfl
  | some x =>
    have hx : x ∈ Y := List.mem_of_getElem? e
    show some (fewE x) = some x
    unfold fewE
    rw [fw_id _ (h x hx).sz]
theorem takeD_len (X : List El) (x : El) : (takeD X x).1.length ≤ X.length + 1 := by
  have hput : (putD X x).length ≤ X.length + 1 := by
    unfold putD
    split
    · simp
    · simp; omega
  unfold takeD
  split
  · split
    · simp
    · split
      · exact hput
      · split
        · simp
        · exact hput
  · simp
/-- What a list of a call is, behind what follows. -/
theorem ok_fw (x : El) (h0 : 0 ≤ x.2.1) (h1 : x.2.1 ≤ 18446744073709551615) : Ok (fewE x) := ⟨fw_size _, h0, h1⟩
end Go.Proofs.Ytflfbkoelhheoaa.Dd
