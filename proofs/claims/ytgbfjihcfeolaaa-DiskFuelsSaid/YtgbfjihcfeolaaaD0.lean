/- A part of a way to reckon what a Go program does without its memory (D0). -/
import Derived.Test.YtgbfjihcfeolaaaD2
import Derived.Test.YtgbfjihcfeolaaaFit
namespace Go.Av
open Go
set_option autoImplicit false
set_option linter.all false
/-! ### What comes in -/
theorem fit_strs {x : V} (h : FitV false [.sl 1 false [.str]] x) : ∃ X : List (List UInt8), x = .sl 1 (X.map sV) ∧ X.length ≤ maxLen ∧ ∀ s ∈ X, s.length ≤ maxLen := by
  obtain ⟨xs, rfl, h1, h2⟩ := fit_list h
  obtain ⟨X, rfl, h3⟩ := all_of (f := sV) (ok := fun s => s.length ≤ maxLen) fun y hy => fit_str (h2 y hy)
  exact ⟨X, rfl, by simpa using h1, h3⟩
theorem fit_wt {x : V} (h : FitV true [.int .i64, .str] x) : ∃ w : Wt, x = wV w ∧ ((-9223372036854775808 ≤ w.1 ∧ w.1 ≤ 9223372036854775807) ∧ w.2.length ≤ maxLen) := by
  rcases h with ⟨_, ys, rfl, h⟩ | ⟨h, _⟩
  · simp only [FitL, FitC] at h
    obtain ⟨_, _, rfl, ⟨a, rfl, ha⟩, _, _, rfl, ⟨s, rfl, hs⟩, rfl⟩ := h
    exact ⟨(a, s), rfl, b_i64 ha, hs⟩
  · cases h
theorem fit_wts {x : V} (h : FitV false [.sl 2 true [.int .i64, .str]] x) : ∃ X : List Wt, x = .sl 2 (X.map wV) ∧ (∀ w ∈ X, (-9223372036854775808 ≤ w.1 ∧ w.1 ≤ 9223372036854775807) ∧ w.2.length ≤ maxLen) ∧ X.length ≤ maxLen := by
  obtain ⟨xs, rfl, h1, h2⟩ := fit_list h
  obtain ⟨X, rfl, h3⟩ := all_of (f := wV) (ok := fun w : Wt => (-9223372036854775808 ≤ w.1 ∧ w.1 ≤ 9223372036854775807) ∧ w.2.length ≤ maxLen) fun y hy => fit_wt (h2 y hy)
  exact ⟨X, rfl, h3, by simpa using h1⟩
theorem fit_dr {x : V} (h : FitV true [.sl 1 false [.str], .sl 2 true [.int .i64, .str], .int .i64, .bool] x) : ∃ d : Dr, x = drV d ∧ d.1.length ≤ maxLen ∧ d.2.1.length ≤ maxLen ∧ (-9223372036854775808 ≤ d.2.2.1 ∧ d.2.2.1 ≤ 9223372036854775807) := by
  rcases h with ⟨_, ys, rfl, h⟩ | ⟨h, _⟩
  · simp only [FitL] at h
    obtain ⟨_, _, rfl, h1, _, _, rfl, h2, _, _, rfl, h3, _, _, rfl, h4, rfl⟩ := h
    obtain ⟨X, rfl, hX, _⟩ := fit_strs (.inr ⟨rfl, _, _, rfl, h1, rfl⟩)
    obtain ⟨Q, rfl, _, hQ⟩ := fit_wts (.inr ⟨rfl, _, _, rfl, h2, rfl⟩)
    obtain ⟨f, rfl, hf⟩ := fit_int (.inr ⟨rfl, _, _, rfl, h3, rfl⟩)
    obtain ⟨b, rfl⟩ := fit_bool (.inr ⟨rfl, _, _, rfl, h4, rfl⟩)
    exact ⟨(X, Q, f, b), rfl, hX, hQ, b_i64 hf⟩
  · cases h
theorem fit_ls {x : V} (h : FitV true [.int .u64, .int .i64, .int .i64] x) : ∃ l : Int × Int × Int, x = .agg [.int .u64 l.1, .int .i64 l.2.1, .int .i64 l.2.2] ∧ (0 ≤ l.1 ∧ l.1 ≤ 18446744073709551615) := by
  rcases h with ⟨_, ys, rfl, h⟩ | ⟨h, _⟩
  · simp only [FitL, FitC] at h
    obtain ⟨_, _, rfl, ⟨a, rfl, ha⟩, _, _, rfl, ⟨b, rfl, hb⟩, _, _, rfl, ⟨c, rfl, hc⟩, rfl⟩ := h
    exact ⟨(a, b, c), rfl, b_u64 ha⟩
  · cases h
end Go.Av
