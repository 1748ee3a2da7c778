/- A part of a way to reckon what a Go program does without its memory (Ec). -/
import Derived.Test.YthonnheklgmkaaaEa
import Derived.Test.YthonnheklgmkaaaFit
namespace Go.Av
open Go
set_option autoImplicit false
set_option linter.all false
/-! ### An event that comes in, and its numbers' bounds -/
abbrev fdOk (f : Fd) : Prop := (f.1.length ≤ 9223372036854775807 ∧ f.2.2.2.length ≤ 9223372036854775807) ∧ (-9223372036854775808 ≤ f.2.2.1 ∧ f.2.2.1 ≤ 9223372036854775807)
theorem fit_fdA {x : V} (h : FitV true [.str, .bool, .int .i64, .str] x) : ∃ f : Fd, x = fdV f ∧ fdOk f := by
  rcases h with ⟨_, ys, rfl, h⟩ | ⟨h, _⟩
  · simp only [FitL, FitC] at h
    obtain ⟨_, _, rfl, ⟨n, rfl, hn⟩, _, _, rfl, ⟨b, rfl⟩, _, _, rfl, ⟨a, rfl, ha⟩, _, _, rfl, ⟨s, rfl, hs⟩, rfl⟩ := h
    exact ⟨(n, b, a, s), rfl, ⟨hn, hs⟩, b_i64 ha⟩
  · cases h
theorem fit_fdsA {x : V} (h : FitV false [.sl 4 true [.str, .bool, .int .i64, .str]] x) : ∃ X : List Fd, x = .sl 4 (X.map fdV) ∧ (∀ f ∈ X, fdOk f) ∧ X.length ≤ 9223372036854775807 := by
  obtain ⟨xs, rfl, h1, h2⟩ := fit_list h
  obtain ⟨X, rfl, h3⟩ := all_of (f := fdV) (ok := fdOk) fun y hy => fit_fdA (h2 y hy)
  exact ⟨X, rfl, h3, by simpa [maxLen] using h1⟩
theorem fit_evA {x : V} (h : FitV true [.str, .str, .int .u64, .sl 4 true [.str, .bool, .int .i64, .str]] x) : ∃ e : Ev, x = evV e ∧ evA e := by
  rcases h with ⟨_, ys, rfl, h⟩ | ⟨h, _⟩
  · simp only [FitL] at h
    obtain ⟨_, _, rfl, h1, _, _, rfl, h2, _, _, rfl, h3, _, _, rfl, h4, rfl⟩ := h
    obtain ⟨s, rfl, hs⟩ := fit_str (.inr ⟨rfl, _, _, rfl, h1, rfl⟩)
    obtain ⟨p, rfl, hp⟩ := fit_str (.inr ⟨rfl, _, _, rfl, h2, rfl⟩)
    obtain ⟨q, rfl, hq⟩ := fit_int (.inr ⟨rfl, _, _, rfl, h3, rfl⟩)
    obtain ⟨X, rfl, hX, hl⟩ := fit_fdsA (.inr ⟨rfl, _, _, rfl, h4, rfl⟩)
    exact ⟨(s, p, q, X), rfl, ⟨hs, hp, hl, fun f hf => (hX f hf).1⟩, b_u64 hq, fun f hf => (hX f hf).2⟩
  · cases h
end Go.Av
