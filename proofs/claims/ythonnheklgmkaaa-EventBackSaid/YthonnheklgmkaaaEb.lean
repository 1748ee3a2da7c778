/- A part of a way to reckon what a Go program does without its memory (Eb). -/
import Derived.Test.YthonnheklgmkaaaE7
import Derived.Test.YthonnheklgmkaaaEf
namespace Go.Av
open Go
set_option autoImplicit false
set_option linter.all false
/-! ### What comes in: a Back -/
abbrev Bk := Ev × List UInt8 × List UInt8 × Vl
theorem fit_back {x : V} (h : FitV true [.str, .str, .int .u64, .sl 4 true [.str, .bool, .int .i64, .str], .str, .str, .bool, .int .i64, .str] x) : ∃ q : Bk, x = bkV q.1 q.2.1 q.2.2.1 q.2.2.2 ∧ (evOk q.1 ∧ q.2.1.length ≤ 9223372036854775807 ∧ q.2.2.1.length ≤ 9223372036854775807 ∧ q.2.2.2.2.2.length ≤ 9223372036854775807) := by
  rcases h with ⟨_, ys, rfl, h⟩ | ⟨h, _⟩
  · simp only [FitL] at h
    obtain ⟨_, _, rfl, h1, _, _, rfl, h2, _, _, rfl, h3, _, _, rfl, h4, _, _, rfl, h5, _, _, rfl, h6, _, _, rfl, h7, _, _, rfl, h8, _, _, rfl, h9, rfl⟩ := h
    obtain ⟨s, rfl, hs⟩ := fit_str (.inr ⟨rfl, _, _, rfl, h1, rfl⟩)
    obtain ⟨p, rfl, hp⟩ := fit_str (.inr ⟨rfl, _, _, rfl, h2, rfl⟩)
    obtain ⟨q, rfl, hq⟩ := fit_int (.inr ⟨rfl, _, _, rfl, h3, rfl⟩)
    obtain ⟨X, rfl, hX, hl⟩ := fit_fds (.inr ⟨rfl, _, _, rfl, h4, rfl⟩)
    obtain ⟨n, rfl, hn⟩ := fit_str (.inr ⟨rfl, _, _, rfl, h5, rfl⟩)
    obtain ⟨o, rfl, ho⟩ := fit_str (.inr ⟨rfl, _, _, rfl, h6, rfl⟩)
    obtain ⟨b, rfl⟩ := fit_bool (.inr ⟨rfl, _, _, rfl, h7, rfl⟩)
    obtain ⟨z, rfl, hz⟩ := fit_int (.inr ⟨rfl, _, _, rfl, h8, rfl⟩)
    obtain ⟨t, rfl, ht⟩ := fit_str (.inr ⟨rfl, _, _, rfl, h9, rfl⟩)
    exact ⟨((s, p, q, X), n, o, (b, z, t)), rfl, ⟨hs, hp, hl, hX⟩, hn, ho, ht⟩
  · cases h
end Go.Av
