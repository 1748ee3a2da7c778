/- A part of a way to reckon what a Go program does without its memory (Fit). -/
import Derived.Test.YtgeiicchkfpanaaAvLib
namespace Go.Av
open Go
set_option autoImplicit false
set_option linter.all false
/-! ### What comes in -/
theorem all_of {α : Type} {f : α → V} {ok : α → Prop} : ∀ {xs : List V}, (∀ y ∈ xs, ∃ a, y = f a ∧ ok a) → ∃ l : List α, xs = l.map f ∧ ∀ a ∈ l, ok a
  | [], _ => ⟨[], rfl, fun a ha => by cases ha⟩
  | y :: xs, h => by
    obtain ⟨a, rfl, ha⟩ := h y (by simp)
    obtain ⟨l, rfl, has⟩ := all_of (xs := xs) fun z hz => h z (by simp [hz])
    refine ⟨a :: l, rfl, fun b hb => ?_⟩
    rcases List.mem_cons.1 hb with rfl | hb
    · exact ha
    · exact has b hb
theorem fit_list {n : Nat} {g : Bool} {shs : List Sh} {x : V} (h : FitV false [.sl n g shs] x) : ∃ xs, x = .sl n xs ∧ xs.length ≤ maxLen ∧ ∀ y ∈ xs, FitV g shs y := by
  rcases h with ⟨h, _⟩ | ⟨_, h⟩
  · cases h
  · simp only [FitL, List.cons.injEq, FitC] at h
    obtain ⟨y, r, ⟨rfl, rfl⟩, ⟨xs, rfl, h1, h2⟩, _⟩ := h
    exact ⟨xs, rfl, h1, h2⟩
theorem fit_int {k : IntKind} {x : V} (h : FitV false [.int k] x) : ∃ z, x = .int k z ∧ k.min ≤ z ∧ z ≤ k.max := by
  rcases h with ⟨h, _⟩ | ⟨_, h⟩
  · cases h
  · simp only [FitL, List.cons.injEq, FitC] at h
    obtain ⟨y, r, ⟨rfl, rfl⟩, ⟨z, rfl, h1, h2⟩, _⟩ := h
    exact ⟨z, rfl, h1, h2⟩
theorem fit_bool {x : V} (h : FitV false [.bool] x) : ∃ b, x = .bool b := by
  rcases h with ⟨h, _⟩ | ⟨_, h⟩
  · cases h
  · simp only [FitL, List.cons.injEq, FitC] at h
    obtain ⟨y, r, ⟨rfl, rfl⟩, ⟨z, rfl⟩, _⟩ := h
    exact ⟨z, rfl⟩
theorem fit_str {x : V} (h : FitV false [.str] x) : ∃ s, x = .str s ∧ s.length ≤ maxLen := by
  rcases h with ⟨h, _⟩ | ⟨_, h⟩
  · cases h
  · simp only [FitL, List.cons.injEq, FitC] at h
    obtain ⟨y, r, ⟨rfl, rfl⟩, ⟨z, rfl, h1⟩, _⟩ := h
    exact ⟨z, rfl, h1⟩
theorem b_i64 {z : Int} (h : IntKind.i64.min ≤ z ∧ z ≤ IntKind.i64.max) : -9223372036854775808 ≤ z ∧ z ≤ 9223372036854775807 := by
  simpa [IntKind.min, IntKind.max, IntKind.signed, IntKind.bits] using h
theorem b_u64 {z : Int} (h : IntKind.u64.min ≤ z ∧ z ≤ IntKind.u64.max) : 0 ≤ z ∧ z ≤ 18446744073709551615 := by
  simpa [IntKind.min, IntKind.max, IntKind.signed, IntKind.bits] using h
theorem b_u8 {z : Int} (h : IntKind.u8.min ≤ z ∧ z ≤ IntKind.u8.max) : 0 ≤ z ∧ z ≤ 255 := by
  simpa [IntKind.min, IntKind.max, IntKind.signed, IntKind.bits] using h
theorem b_u16 {z : Int} (h : IntKind.u16.min ≤ z ∧ z ≤ IntKind.u16.max) : 0 ≤ z ∧ z ≤ 65535 := by
  simpa [IntKind.min, IntKind.max, IntKind.signed, IntKind.bits] using h
theorem b_u32 {z : Int} (h : IntKind.u32.min ≤ z ∧ z ≤ IntKind.u32.max) : 0 ≤ z ∧ z ≤ 4294967295 := by
  simpa [IntKind.min, IntKind.max, IntKind.signed, IntKind.bits] using h
def uV (z : Int) : V := .int .u8 z
@[go_sem] theorem uV_def (z : Int) : uV z = .int .u8 z := (rfl)
theorem fit_u8s {x : V} (h : FitV false [.sl 1 false [.int .u8]] x) : ∃ zs : List Int, x = .sl 1 (zs.map uV) ∧ (∀ z ∈ zs, 0 ≤ z ∧ z ≤ 255) ∧ zs.length ≤ maxLen := by
  obtain ⟨xs, rfl, h1, h2⟩ := fit_list h
  obtain ⟨zs, rfl, h3⟩ := all_of (f := uV) (ok := fun z => 0 ≤ z ∧ z ≤ 255) fun y hy => by
    obtain ⟨z, rfl, hz⟩ := fit_int (h2 y hy)
    exact ⟨z, rfl, b_u8 hz⟩
  exact ⟨zs, rfl, h3, by simpa using h1⟩
end Go.Av
