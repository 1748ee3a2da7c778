/- A part of a way to reckon what a Go program does without its memory (Tg). -/
import Derived.Test.YtgeiicchkfpanaaT5
import Derived.Test.YtgeiicchkfpanaaFit
namespace Go.Av
open Go
set_option autoImplicit false
set_option linter.all false
/-! ### Topics that come in -/
theorem fit_strs {x : V} (h : FitV false [.sl 1 false [.str]] x) : ∃ zs : List (List UInt8), x = .sl 1 (zs.map stV) ∧ (∀ z ∈ zs, z.length ≤ 9223372036854775807) ∧ zs.length ≤ 9223372036854775807 := by
  obtain ⟨xs, rfl, h1, h2⟩ := fit_list h
  obtain ⟨zs, rfl, h3⟩ := all_of (f := stV) (ok := fun z => z.length ≤ 9223372036854775807) fun y hy => by
    obtain ⟨z, rfl, hz⟩ := fit_str (h2 y hy)
    exact ⟨z, rfl, by simpa [maxLen] using hz⟩
  exact ⟨zs, rfl, h3, by simpa [maxLen] using h1⟩
theorem fit_tp {x : V} (h : FitV true [.str, .int .i64, .sl 1 false [.str]] x) : ∃ t : Tp, x = tpV t ∧ tpI t := by
  rcases h with ⟨_, ys, rfl, h⟩ | ⟨h, _⟩
  · simp only [FitL] at h
    obtain ⟨_, _, rfl, h1, _, _, rfl, h2, _, _, rfl, h3, rfl⟩ := h
    obtain ⟨s, rfl, hs⟩ := fit_str (.inr ⟨rfl, _, _, rfl, h1, rfl⟩)
    obtain ⟨i, rfl, hi⟩ := fit_int (.inr ⟨rfl, _, _, rfl, h2, rfl⟩)
    obtain ⟨l, rfl, hb, hl⟩ := fit_strs (.inr ⟨rfl, _, _, rfl, h3, rfl⟩)
    exact ⟨(s, i, l), rfl, ⟨by simpa [maxLen] using hs, hl, hb⟩, b_i64 hi⟩
  · cases h
theorem fit_tps {x : V} (h : FitV false [.sl 3 true [.str, .int .i64, .sl 1 false [.str]]] x) : ∃ X : List Tp, x = .sl 3 (X.map tpV) ∧ (∀ o ∈ X, tpI o) ∧ X.length ≤ 9223372036854775807 := by
  obtain ⟨xs, rfl, h1, h2⟩ := fit_list h
  obtain ⟨X, rfl, h3⟩ := all_of (f := tpV) (ok := tpI) fun y hy => fit_tp (h2 y hy)
  exact ⟨X, rfl, h3, by simpa [maxLen] using h1⟩
end Go.Av
