/- Layer 2: what the laws ask beside the program: the chapter's examples; a text no longer than is looked at. -/
import Derived.Test.YtgeiicchkfpanaaNmI
import Derived.Test.YtgeiicchkfpanaaNmK
namespace Go.Proofs.Ytgeiicchkfpanaa
open Go.RowKit Go.Shelf
theorem ex1 : meetsB ⟨#[97, 46, 42, 46, 99]⟩ ⟨#[97, 46, 98, 46, 99]⟩ = true := by kernel_rfl
theorem ex2 : meetsB ⟨#[97, 46, 42, 42]⟩ ⟨#[97]⟩ = true := by kernel_rfl
theorem ex3 : meetsB ⟨#[42, 46, 98]⟩ ⟨#[98]⟩ = false := by kernel_rfl
theorem ex4 : topicL [97, 46, 98, 95, 49] = true := by kernel_rfl
theorem ex5 : topicL [97, 46, 46, 98] = false := by kernel_rfl
/-- A text, no longer than is looked at. -/
def fw (s : ByteArray) : ByteArray := if 60 < s.size then s.extract 0 60 else s
theorem fw_size (s : ByteArray) : (fw s).size ≤ 60 := by
  unfold fw
  split
  · rw [ByteArray.size_extract]; omega
  · omega
theorem few_any (s : ByteArray) (w : World) : Calls Try.prog 9 #[.string s] w fun e w' => e = .returned (.string (fw s)) ∧ w = w' := by
  unfold fw
  by_cases h : 60 < s.size
  · have h' : (60 : Int) < s.size := by omega
    rw [if_pos h]
    have hsh : ∀ W, (Instr.slice 9 (.string s) none (some (.int .i64 60)) none).run Try.prog W = .ok (.string (s.extract 0 60)) W := fun W => by
      have := run_slice_string_h (P := Try.prog) W 9 s Try.underlying9 .i64 60 (by omega) (by omega)
      rw [this]; rfl
    go_enter Try.func9, Try.ntmps9
    go_wp2
    go_ret
    exact ⟨rfl, rfl⟩
  · have h' : ¬ (60 : Int) < s.size := by omega
    rw [if_neg h]
    go_enter Try.func9, Try.ntmps9
    go_wp2
    go_ret
    exact ⟨rfl, rfl⟩
end Go.Proofs.Ytgeiicchkfpanaa
