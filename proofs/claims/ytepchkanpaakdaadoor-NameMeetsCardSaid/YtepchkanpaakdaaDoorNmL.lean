/- Layer 2: what the laws ask beside the program: the chapter's examples; a text no longer than is looked at. -/
import Derived.Test.YtepchkanpaakdaaDoorNmI
import Derived.Test.YtepchkanpaakdaaDoorNmK
namespace Go.Proofs.YtepchkanpaakdaaDoor
open Go.RowKit Go.Shelf
theorem ex1 : meetsB ⟨#[97, 46, 42, 46, 99]⟩ ⟨#[97, 46, 98, 46, 99]⟩ = true := by kernel_rfl
theorem ex2 : meetsB ⟨#[97, 46, 42, 42]⟩ ⟨#[97]⟩ = true := by kernel_rfl
theorem ex3 : meetsB ⟨#[42, 46, 98]⟩ ⟨#[98]⟩ = false := by kernel_rfl
theorem ex4 : topicL [97, 46, 98, 95, 49] = true := by kernel_rfl
theorem ex5 : topicL [97, 46, 46, 98] = false := by kernel_rfl
theorem awake_any (w : World) : Calls Tryd.prog 22 #[] w fun e w' => e = .returned (.bool true) ∧ Below w.heap.size w w' := by
  have C1 := Lib.hid (fun w => meetsN_any ⟨#[97, 46, 42, 46, 99]⟩ ⟨#[97, 46, 98, 46, 99]⟩ w)
  have C2 := Lib.hid (fun w => meetsN_any ⟨#[97, 46, 42, 42]⟩ ⟨#[97]⟩ w)
  have C3 := Lib.hid (fun w => meetsN_any ⟨#[42, 46, 98]⟩ ⟨#[98]⟩ w)
  have C4 := Lib.hid (fun w => topic_any ⟨#[97, 46, 98, 95, 49]⟩ w)
  have C5 := Lib.hid (fun w => topic_any ⟨#[97, 46, 46, 98]⟩ w)
  rw [ex1] at C1
  rw [ex2] at C2
  rw [ex3] at C3
  rw [ex4] at C4
  rw [ex5] at C5
  go_enter Tryd.func22, Tryd.ntmps22
  go_wp2_with fail
  refine (C1.out _).mono ?_
  rintro e w1 ⟨rfl, hb1⟩
  go_wp2_with fail
  refine (C2.out _).mono ?_
  rintro e w2 ⟨rfl, hb2⟩
  go_wp2_with fail
  refine (C3.out _).mono ?_
  rintro e w3 ⟨rfl, hb3⟩
  go_wp2_with fail
  refine (C4.out _).mono ?_
  rintro e w4 ⟨rfl, hb4⟩
  go_wp2_with fail
  refine (C5.out _).mono ?_
  rintro e w5 ⟨rfl, hb5⟩
  go_wp2
  go_ret
  have h2 := hb1.trans (hb2.mono hb1.size)
  have h3 := h2.trans (hb3.mono h2.size)
  have h4 := h3.trans (hb4.mono h3.size)
  exact ⟨rfl, h4.trans (hb5.mono h4.size)⟩
/-- A text, no longer than is looked at. -/
def fw (s : ByteArray) : ByteArray := if 60 < s.size then s.extract 0 60 else s
theorem fw_size (s : ByteArray) : (fw s).size ≤ 60 := by
  unfold fw
  split
  · rw [ByteArray.size_extract]; omega
  · omega
theorem few_any (s : ByteArray) (w : World) : Calls Tryd.prog 10 #[.string s] w fun e w' => e = .returned (.string (fw s)) ∧ w = w' := by
  unfold fw
  by_cases h : 60 < s.size
  · have h' : (60 : Int) < s.size := by omega
    rw [if_pos h]
    have hsh : ∀ W, (Instr.slice 9 (.string s) none (some (.int .i64 60)) none).run Tryd.prog W = .ok (.string (s.extract 0 60)) W := fun W => by
      have := run_slice_string_h (P := Tryd.prog) W 9 s Tryd.underlying9 .i64 60 (by omega) (by omega)
      rw [this]; rfl
    go_enter Tryd.func10, Tryd.ntmps10
    go_wp2
    go_ret
    exact ⟨rfl, rfl⟩
  · have h' : ¬ (60 : Int) < s.size := by omega
    rw [if_neg h]
    go_enter Tryd.func10, Tryd.ntmps10
    go_wp2
    go_ret
    exact ⟨rfl, rfl⟩
end Go.Proofs.YtepchkanpaakdaaDoor
