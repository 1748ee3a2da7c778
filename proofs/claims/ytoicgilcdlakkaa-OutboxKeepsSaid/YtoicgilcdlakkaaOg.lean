/- A part of a way to reckon what a Go program does without its memory (Og). -/
import Derived.Test.YtoicgilcdlakkaaO8
import Derived.Test.YtoicgilcdlakkaaFit
namespace Go.Av
open Go
set_option autoImplicit false
set_option linter.all false
/-! ### Outputs that come in -/
theorem fit_u64s {x : V} (h : FitV false [.sl 1 false [.int .u64]] x) : ∃ zs : List Int, x = .sl 1 (zs.map u64V) ∧ (∀ z ∈ zs, 0 ≤ z ∧ z ≤ 18446744073709551615) ∧ zs.length ≤ 9223372036854775807 := by
  obtain ⟨xs, rfl, h1, h2⟩ := fit_list h
  obtain ⟨zs, rfl, h3⟩ := all_of (f := u64V) (ok := fun z => 0 ≤ z ∧ z ≤ 18446744073709551615) fun y hy => by
    obtain ⟨z, rfl, hz⟩ := fit_int (h2 y hy)
    exact ⟨z, rfl, b_u64 hz⟩
  exact ⟨zs, rfl, h3, by simpa [maxLen] using h1⟩
abbrev otI (x : Ot) : Prop := otA x ∧ (-9223372036854775808 ≤ x.2.2.2.1 ∧ x.2.2.2.1 ≤ 9223372036854775807) ∧ (-9223372036854775808 ≤ x.2.2.2.2 ∧ x.2.2.2.2 ≤ 9223372036854775807)
theorem fit_ot {x : V} (h : FitV true [.int .u64, .str, .sl 1 false [.int .u64], .int .i64, .int .i64] x) : ∃ o : Ot, x = otV o ∧ otI o := by
  rcases h with ⟨_, ys, rfl, h⟩ | ⟨h, _⟩
  · simp only [FitL] at h
    obtain ⟨_, _, rfl, h1, _, _, rfl, h2, _, _, rfl, h3, _, _, rfl, h4, _, _, rfl, h5, rfl⟩ := h
    obtain ⟨i, rfl, hi⟩ := fit_int (.inr ⟨rfl, _, _, rfl, h1, rfl⟩)
    obtain ⟨s, rfl, hs⟩ := fit_str (.inr ⟨rfl, _, _, rfl, h2, rfl⟩)
    obtain ⟨l, rfl, hb, hl⟩ := fit_u64s (.inr ⟨rfl, _, _, rfl, h3, rfl⟩)
    obtain ⟨t, rfl, ht⟩ := fit_int (.inr ⟨rfl, _, _, rfl, h4, rfl⟩)
    obtain ⟨d, rfl, hd⟩ := fit_int (.inr ⟨rfl, _, _, rfl, h5, rfl⟩)
    exact ⟨(i, s, l, t, d), rfl, ⟨⟨by simpa [maxLen] using hs, hl⟩, b_u64 hi⟩, b_i64 ht, b_i64 hd⟩
  · cases h
theorem fit_ots {x : V} (h : FitV false [.sl 5 true [.int .u64, .str, .sl 1 false [.int .u64], .int .i64, .int .i64]] x) : ∃ X : List Ot, x = .sl 5 (X.map otV) ∧ (∀ o ∈ X, otI o) ∧ X.length ≤ 9223372036854775807 := by
  obtain ⟨xs, rfl, h1, h2⟩ := fit_list h
  obtain ⟨X, rfl, h3⟩ := all_of (f := otV) (ok := otI) fun y hy => fit_ot (h2 y hy)
  exact ⟨X, rfl, h3, by simpa [maxLen] using h1⟩
end Go.Av
