/- Layer 13: what DedupOnce keeps, as facts on lists and a map. No walk stands in this text. -/
import Derived.Test.YtflfbkoelhheoaaDdJ
import Derived.Test.YtflfbkoelhheoaaLsBytes
namespace Go.Proofs.Ytflfbkoelhheoaa.Dd
open Go.RowKit Go.Shelf Go.Proofs.Ytflfbkoelhheoaa Go.Proofs.Ytflfbkoelhheoaa.La Go.Maps Go.ChangeShapes
set_option linter.unusedVariables false
set_option linter.unusedSimpArgs false
def strC (c : Int) : ByteArray := ⟨#[UInt8.ofNat (97 + c).toNat]⟩
abbrev kS (c : Int) : Lit := .string (strC c).data.toList
theorem strC_cases {c : Int} (h0 : 0 ≤ c) (h1 : c < 4) : c = 0 ∨ c = 1 ∨ c = 2 ∨ c = 3 := by omega
theorem strC_inj {c d : Int} (h0 : 0 ≤ c) (h1 : c < 4) (g0 : 0 ≤ d) (g1 : d < 4) (h : strC c = strC d) : c = d := by
  rcases strC_cases h0 h1 with rfl | rfl | rfl | rfl <;> rcases strC_cases g0 g1 with rfl | rfl | rfl | rfl <;> first | rfl | (exfalso; revert h; decide)
theorem strC_field {c : Int} (h0 : 0 ≤ c) (h1 : c < 4) : fieldB (strC c) = true := by
  rcases strC_cases h0 h1 with rfl | rfl | rfl | rfl <;> decide +kernel
theorem strC_size (c : Int) : (strC c).size = 1 := rfl
theorem kS_ne {c d : Int} (h0 : 0 ≤ c) (h1 : c < 4) (g0 : 0 ≤ d) (g1 : d < 4) (h : c ≠ d) : kS c ≠ kS d := fun e => by
  have e2 : (strC c).data.toList = (strC d).data.toList := by injection e
  exact h (strC_inj h0 h1 g0 g1 (Go.WideShapes.bytes_inj e2))
structure Inv (L : List El) (D : DataW Unit) : Prop where
  may : mayD L = true
  oks : Oks L
  tidy : Tidy D
  at_ : ∀ c, 0 ≤ c → c < 4 → D.atKey (kS c) (.lit (.int .u64 0)) = .lit (.int .u64 (findD L (strC c)).1.2.1)
  has : ∀ c, 0 ≤ c → c < 4 → Maps.has D (kS c) = (findD L (strC c)).2
  of : ∀ x ∈ L, ∃ c, 0 ≤ c ∧ c < 4 ∧ x.1 = strC c ∧ x.2.2 = 100 * c + x.2.1
  size : Maps.size D = L.length
theorem Inv.start : Inv [] (.map []) :=
  ⟨by decide +kernel, (fun x hx => by cases hx), tidy_empty, (fun c _ _ => rfl), (fun c _ _ => rfl), (fun x hx => by cases hx), rfl⟩
theorem findD_found {X : List El} {p : ByteArray} (h : (findD X p).2 = true) : (findD X p).1 ∈ X ∧ (findD X p).1.1 = p := by
  rcases idxD_pos X p with ⟨_, h2⟩ | ⟨_, h2⟩
  · rw [findD_none X p h2] at h; cases h
  · rw [findD_some X p h2]
    exact ⟨List.getElem_mem h2, of_decide_eq_true (lsPl_at (fun x : El => decide (x.1 = p)) X h2)⟩
theorem findD_lost {X : List El} {p : ByteArray} (h : (findD X p).2 = false) : ∀ z ∈ X, z.1 ≠ p := by
  rcases idxD_pos X p with ⟨_, h2⟩ | ⟨_, h2⟩
  · have := (lsPl_none (fun x : El => decide (x.1 = p)) X).1 h2
    rw [List.any_eq_false] at this
    intro z hz
    simpa using this z hz
  · rw [findD_some X p h2] at h; cases h
theorem TakeOk.elsewhere {X L : List El} {x : El} (h : TakeOk X x L) {p : ByteArray} (hne : p ≠ x.1) : findD L p = findD X p := by
  cases hf : (findD X p).2
  · have h1 := findD_lost hf
    rw [findD_out h1, findD_out]
    intro z hz
    rw [h.eq] at hz
    rcases (mem_rput _ _ _).1 hz with ⟨hz, _⟩ | rfl
    · exact h1 z hz
    · exact fun e => hne e.symm
  · obtain ⟨h1, h2⟩ := findD_found hf
    have h3 := h.other h1 (by rw [h2]; exact hne)
    rw [h2] at h3
    rw [h3, ← hf]
/-- How many can be of four. -/
theorem few_codes : ∀ (l : List Int) (a b : Int), l.Pairwise (· < ·) → (∀ x ∈ l, a ≤ x ∧ x < b) → (l.length : Int) ≤ b - a ∨ l = []
  | [], _, _, _, _ => .inr rfl
  | x :: r, a, b, h, hb => by
    have h' := List.pairwise_cons.1 h
    have hx := hb x (by simp)
    rcases few_codes r (x + 1) b h'.2 (fun y hy => ⟨by have := h'.1 y hy; omega, (hb y (by simp [hy])).2⟩) with h1 | rfl
    · left; simp; omega
    · left; simp; omega
theorem ups_nodup : ∀ {X : List El}, Ups X → (X.map (·.1)).Nodup
  | [], _ => by simp
  | x :: r, h => by
    have h' := List.pairwise_cons.1 h
    rw [List.map_cons, List.nodup_cons]
    refine ⟨fun hm => ?_, ups_nodup h'.2⟩
    obtain ⟨y, hy, e⟩ := List.mem_map.1 hm
    exact ups_ne (h'.1 y hy) e.symm
theorem nodup_sub {α : Type} [DecidableEq α] : ∀ (l m : List α), l.Nodup → (∀ x ∈ l, x ∈ m) → l.length ≤ m.length
  | [], _, _, _ => by simp
  | x :: r, m, h, hs => by
    rw [List.nodup_cons] at h
    have hx : x ∈ m := hs x (by simp)
    have ih := nodup_sub r (m.erase x) h.2 (fun y hy => by
      rw [List.mem_erase_of_ne (fun (e : y = x) => h.1 (by rw [← e]; exact hy))]
      exact hs y (by simp [hy]))
    rw [List.length_erase_of_mem hx] at ih
    have := List.length_pos_of_mem hx
    simp; omega
theorem Inv.len {L : List El} {D : DataW Unit} (h : Inv L D) : L.length ≤ 4 := by
  have := nodup_sub (L.map (·.1)) [strC 0, strC 1, strC 2, strC 3] (ups_nodup ((mayD_iff L).1 h.may).2.2) (fun p hp => by
    obtain ⟨x, hx, rfl⟩ := List.mem_map.1 hp
    obtain ⟨c, h0, h1, e, _⟩ := h.of x hx
    rw [e]
    rcases strC_cases h0 h1 with rfl | rfl | rfl | rfl <;> simp)
  simpa using this
theorem Inv.ask {L : List El} {D : DataW Unit} (h : Inv L D) {c s : Int} (h0 : 0 ≤ c) (h1 : c < 4) (hs : s ≠ 0) : askD L (strC c) s = askE (findD L (strC c)).1 s := by
  unfold askD
  rw [h.may, strC_field h0 h1, show decide (s = 0) = false by simpa using hs]
  rfl
theorem ask_none (L : List El) (p : ByteArray) : askD L p 0 = (0, 1) := by unfold askD; simp
theorem take_err {L : List El} {x : El} {e : Int} {n : Int} (h : askD L x.1 x.2.1 = (n, e)) (he : e ≠ 0) : takeD L x = ([], e) := by
  unfold takeD
  rw [h]
  simp only
  rw [if_neg he]
theorem Inv.take {L : List El} {D : DataW Unit} (h : Inv L D) {c s : Int} (h0 : 0 ≤ c) (h1 : c < 4) (hs : s = (findD L (strC c)).1.2.1 + 1) (hs12 : s < 12) :
    askD L (strC c) s = (0, 0) ∧ (takeD L (strC c, s, 100 * c + s)).2 = 0 ∧ Inv (takeD L (strC c, s, 100 * c + s)).1 (D.put (kS c) (.lit (.int .u64 s))) := by
  have hq := findD_seq L (strC c) h.oks
  have hs0 : s ≠ 0 := by omega
  have hask : askD L (strC c) s = (0, 0) := by
    rw [h.ask h0 h1 hs0, askE_ref _ _ (by omega) (by omega), if_pos hs]
  have hlen := h.len
  have hx : Ok (strC c, s, 100 * c + s) := ⟨by rw [strC_size]; omega, by show 0 ≤ s; omega, by show s ≤ 18446744073709551615; omega⟩
  have hoff : ¬ (100 * c + s : Int) < 0 := by omega
  have ht : takeD L (strC c, s, 100 * c + s) = (putD L (strC c, s, 100 * c + s), 0) := by
    unfold takeD
    simp only
    rw [hask]
    simp only
    rw [if_pos trivial, if_neg hoff]
    by_cases hp : posD L (strC c) < L.length
    · rw [if_pos hp]
    · rw [if_neg hp, if_neg (by omega)]
  have hk := take_ok hx (by rw [ht])
  have hoks := oks_take h.oks hx
  refine ⟨hask, by rw [ht], ?_⟩
  have hlen2 : ((takeD L (strC c, s, 100 * c + s)).1).length = if (findD L (strC c)).2 then L.length else L.length + 1 := by
    rw [ht]
    unfold putD
    rcases idxD_pos L (strC c) with ⟨_, h2⟩ | ⟨_, h2⟩
    · rw [findD_none L _ h2, if_neg (by simp only; omega)]
      have := lsPl_le (fun y : El => decide (ordS (strC c) y.1 < 0)) L
      unfold goesD
      simp; omega
    · rw [findD_some L _ h2, if_pos h2]; simp
  generalize (takeD L (strC c, s, 100 * c + s)).1 = M at *
  have hkey : WideAt.IsKeyLit (kS c) := (string_keyed Try.underlying9).key (Go.WideMaps.keyOf_string_mk Try.underlying9 (by rw [strC_size]; unfold maxLen; omega))
  refine ⟨hk.now, hoks, h.tidy.put hkey _, fun d g0 g1 => ?_, fun d g0 g1 => ?_, fun z hz => ?_, ?_⟩
  · by_cases e : d = c
    · subst e
      rw [atKey_put_same h.tidy.isMap hkey, hk.find]
    · rw [atKey_put_other (kS_ne g0 g1 h0 h1 e), h.at_ d g0 g1, hk.elsewhere (fun e2 => e (strC_inj g0 g1 h0 h1 e2))]
  · by_cases e : d = c
    · subst e
      rw [has_put_same h.tidy.isMap hkey, hk.find]
    · rw [has_put_other (kS_ne g0 g1 h0 h1 e), h.has d g0 g1, hk.elsewhere (fun e2 => e (strC_inj g0 g1 h0 h1 e2))]
  · rw [hk.eq] at hz
    rcases (mem_rput _ _ _).1 hz with ⟨hz, _⟩ | rfl
    · exact h.of z hz
    · exact ⟨c, h0, h1, rfl, rfl⟩
  · rw [size_put h.tidy, h.has c h0 h1, hlen2, h.size]
/-- What is there is told its offset. -/
theorem Inv.there {L : List El} {D : DataW Unit} (h : Inv L D) {c s : Int} (h0 : 0 ≤ c) (h1 : c < 4) (hs0 : s ≠ 0) (hs : s = (findD L (strC c)).1.2.1) : askD L (strC c) s = (100 * c + s, 5) := by
  rw [h.ask h0 h1 hs0]
  have hf : (findD L (strC c)).2 = true := by
    cases hf : (findD L (strC c)).2
    · exfalso
      rw [findD_out (findD_lost hf)] at hs
      exact hs0 hs
    · rfl
  obtain ⟨hm, he⟩ := findD_found hf
  obtain ⟨d, g0, g1, e1, e2⟩ := h.of _ hm
  rw [he] at e1
  obtain rfl := strC_inj h0 h1 g0 g1 e1
  unfold askE
  rw [if_pos hs, e2, ← hs]
theorem Inv.late {L : List El} {D : DataW Unit} (h : Inv L D) {c s : Int} (h0 : 0 ≤ c) (h1 : c < 4) (hs0 : s ≠ 0) (hs : s < (findD L (strC c)).1.2.1) : askD L (strC c) s = (0, 8) := by
  rw [h.ask h0 h1 hs0]
  unfold askE
  rw [if_neg (by omega), if_pos hs]
theorem Inv.gap {L : List El} {D : DataW Unit} (h : Inv L D) {c s : Int} (h0 : 0 ≤ c) (h1 : c < 4) (hs0 : s ≠ 0) (hs : (findD L (strC c)).1.2.1 + 1 < s) : askD L (strC c) s = (0, 9) := by
  rw [h.ask h0 h1 hs0]
  unfold askE
  rw [if_neg (by omega), if_neg (by omega), if_pos (by omega)]
end Go.Proofs.Ytflfbkoelhheoaa.Dd
