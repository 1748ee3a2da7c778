/- Layer 2: the contracts of the parts' octets. -/
import Derived.Test.YtgeiicchkfpanaaNmA
import Derived.WalkKit
import Derived.Lib.Walk
import Derived.Lib.Hide
import Derived.Laws.DeepNot64
import Derived.LoopTactic
import Derived.Below
import Derived.Shelf.Abstract
namespace Go.Proofs.Ytgeiicchkfpanaa
open Go.RowKit Go.Shelf
/-- A rune of a part. -/
def okr (r : Int) : Bool := decide (97 ≤ r) && decide (r ≤ 122) || decide (48 ≤ r) && decide (r ≤ 57) || r == 95
theorem rune_any (r : Int) (w : World) (h0 : 0 ≤ r) (h1 : r ≤ 2147483647) :
    Calls Try.prog 95 #[.int .i32 r] w fun e w' => e = .returned (.bool (okr r)) ∧ w = w' := by
  unfold okr
  by_cases a1 : 97 ≤ r
  · by_cases a2 : r ≤ 122
    · go_enter Try.func95, Try.ntmps95
      go_wp2
      go_ret
      exact ⟨by simp [*] <;> omega, rfl⟩
    · have a3 : (48 : Int) ≤ r := by omega
      have a4 : ¬ r ≤ 57 := by omega
      have a5 : ¬ r = 95 := by omega
      go_enter Try.func95, Try.ntmps95
      go_wp2
      go_ret
      exact ⟨by simp [*] <;> omega, rfl⟩
  · by_cases a3 : 48 ≤ r
    · by_cases a4 : r ≤ 57
      · go_enter Try.func95, Try.ntmps95
        go_wp2
        go_ret
        exact ⟨by simp [*] <;> omega, rfl⟩
      · by_cases a5 : r = 95
        · go_enter Try.func95, Try.ntmps95
          go_wp2
          go_ret
          exact ⟨by simp [*] <;> omega, rfl⟩
        · go_enter Try.func95, Try.ntmps95
          go_wp2
          go_ret
          exact ⟨by simp [*] <;> omega, rfl⟩
    · have a5 : ¬ r = 95 := by omega
      go_enter Try.func95, Try.ntmps95
      go_wp2
      go_ret
      exact ⟨by simp [*] <;> omega, rfl⟩
theorem okr_low (c : UInt8) : okr (c.toNat : Int) = okc c := by
  unfold okr okc
  rw [Bool.eq_iff_iff]
  simp
  omega
theorem okr_high (n : Nat) (h : 128 ≤ n) : okr (n : Int) = false := by
  unfold okr
  simp
  omega
theorem allRunes_any (s : ByteArray) (w : World) :
    Calls Try.prog 94 #[.string s, .func (.func 95) #[] #[]] w fun e w' => e = .returned (.bool (s.data.toList.all okc)) ∧ Below w.heap.size w w' := by
  obtain ⟨V, hV⟩ : ∃ V, V = s.data.toList.all okc := ⟨_, rfl⟩
  rw [← hV]
  have HV := Lib.hid hV
  clear hV
  go_enter Try.func94, Try.ntmps94
  go_wp2
  go_loopw [] (fun w' => ∃ (pos : Nat), w' = w.iter s pos ∧ pos ≤ s.size ∧ (s.data.toList.drop pos).all okc = V) (fun w' => s.size - w'.iterPos w.heap.size)
  case atStart => exact ⟨0, rfl, Nat.zero_le _, by rw [List.drop_zero, HV.out]⟩
  case round =>
    obtain ⟨pos, rfl, hpos, hd⟩ := hrel
    by_cases hp : pos < s.size
    · have hdr : s.data.toList.drop pos = s[pos]'hp :: s.data.toList.drop (pos + 1) := by
        rw [List.drop_eq_getElem_cons (by simpa using hp)]; rfl
      rw [hdr, List.all_cons] at hd
      by_cases hlow : (s[pos]'hp).toNat < 128
      · have hnx : ∀ ty, (Instr.next (.pointer (some ⟨w.heap.size, 0, none⟩)) true ty).run Try.prog (w.iter s pos) = _ := fun ty => run_next_ascii w s pos ty hp hlow
        have C := Lib.hid (fun w => rune_any ((s[pos]'hp).toNat : Int) w (by omega) (by omega))
        rw [okr_low] at C
        cases hk : okc (s[pos]'hp)
        · rw [hk] at C hd
          have hv : V = false := by rw [← hd]; rfl
          subst hv
          clear hdr hd hk
          go_wp2_with fail
          refine (C.out _).mono ?_
          rintro e w1 ⟨rfl, rfl⟩
          go_wp2
          go_ret
          exact ⟨rfl, (Below.refl _ _).alloc (Nat.le_refl _) _⟩
        · rw [hk, Bool.true_and] at hd
          rw [hk] at C
          have Hd := Lib.hid hd
          clear hdr hd hk
          go_wp2_with fail
          refine (C.out _).mono ?_
          rintro e w1 ⟨rfl, rfl⟩
          go_wp2
          go_roundw
          case rel => exact ⟨pos + 1, rfl, by omega, Hd.out⟩
          case measure => simp; omega
      · have hnx : ∀ ty, (Instr.next (.pointer (some ⟨w.heap.size, 0, none⟩)) true ty).run Try.prog (w.iter s pos) = _ := fun ty => run_next_any w s pos ty hp
        have hdec := decode_high s pos hp (by omega)
        have hle := decode_le s pos
        have C := Lib.hid (fun w => rune_any ((Utf8.decode s pos).1 : Int) w (by omega) (by omega))
        rw [okr_high _ hdec.1] at C
        have hk : okc (s[pos]'hp) = false := by
          cases hk : okc (s[pos]'hp)
          · rfl
          · exact absurd (okc_low hk) hlow
        have hv : V = false := by rw [← hd, hk]; rfl
        subst hv
        clear hdr hd hk hdec hle
        generalize (Utf8.decode s pos).1 = r at *
        go_wp2_with fail
        refine (C.out _).mono ?_
        rintro e w1 ⟨rfl, rfl⟩
        go_wp2
        go_ret
        exact ⟨rfl, (Below.refl _ _).alloc (Nat.le_refl _) _⟩
    · have hnx : ∀ ty, (Instr.next (.pointer (some ⟨w.heap.size, 0, none⟩)) true ty).run Try.prog (w.iter s pos) = _ := fun ty => run_next_end w s pos ty hp
      have hv : V = true := by rw [← hd, List.drop_eq_nil_of_le (by simpa using hp)]; rfl
      subst hv
      clear hd
      go_wp2
      go_ret
      exact ⟨rfl, (Below.refl _ _).alloc (Nat.le_refl _) _⟩
theorem size_list (s : ByteArray) : s.data.toList.length = s.size := by simp
theorem empty_list (s : ByteArray) : s.data.toList.isEmpty = decide (s.size = 0) := by
  rw [← size_list s]
  cases s.data.toList <;> simp
theorem isPart_any (s : ByteArray) (w : World) :
    Calls Try.prog 77 #[.string s] w fun e w' => e = .returned (.bool (partL s.data.toList)) ∧ Below w.heap.size w w' := by
  unfold partL
  have C := Lib.hid (fun w => allRunes_any s w)
  generalize s.data.toList.all okc = V at *
  by_cases h : s.data.toList = []
  · have h1 : s.toList = [] := by rw [ByteArray.toList_eq]; exact h
    rw [h]
    go_enter Try.func77, Try.ntmps77
    go_wp2
    go_ret
    exact ⟨rfl, Below.refl _ _⟩
  · have h1 : ¬ s.toList = [] := by rw [ByteArray.toList_eq]; exact h
    have h2 : s.toList.isEmpty = false := by simpa using h1
    have h3 : s.data.toList.isEmpty = false := by simpa using h
    rw [h3]
    clear h h3
    go_enter Try.func77, Try.ntmps77
    go_wp2_with fail
    refine (C.out _).mono ?_
    rintro e w1 ⟨rfl, hb⟩
    cases V
    · go_wp2
      go_ret
      exact ⟨rfl, hb⟩
    · go_wp2
      go_ret
      exact ⟨rfl, hb⟩
/-- Which parts may be, by a function of the program. -/
def May (mf : Nat) (may : List UInt8 → Bool) : Prop := (∀ args w, (callFunc mf args).run Try.prog w = .ok (.enter mf args) w) ∧
  ∀ (s : ByteArray) (w : World), Calls Try.prog mf #[.string s] w fun e w' => e = .returned (.bool (may s.data.toList)) ∧ Below w.heap.size w w'
/-- The four boxes of allParts. -/
structure Ends (B : Nat) (w0 w : World) (s : ByteArray) (mf : Nat) (b n : Int) : Prop where
  c0 : w.cell? ⟨B, 0, none⟩ = some (.string s)
  c1 : w.cell? ⟨B + 1, 0, none⟩ = some (.func (.func mf) #[] #[])
  c2 : w.cell? ⟨B + 1 + 1, 0, none⟩ = some (.int .i64 b)
  c3 : w.cell? ⟨B + 1 + 1 + 1, 0, none⟩ = some (.int .i64 n)
  f2 : w.frozen? ⟨B + 1 + 1, 0, none⟩ = false
  f3 : w.frozen? ⟨B + 1 + 1 + 1, 0, none⟩ = false
  size : B + 1 + 1 + 1 < w.heap.size
  below : Below B w0 w
theorem Ends.keep {B B' : Nat} {w0 w w' : World} {s : ByteArray} {mf : Nat} {b n : Int} (h : Ends B w0 w s mf b n) (hB : B + 1 + 1 + 1 < B') (hb : Below B' w w') : Ends B w0 w' s mf b n := by
  have hz := h.size
  exact ⟨(hb.cell (p := ⟨B, 0, none⟩) (by show B < _; omega)).trans h.c0, (hb.cell (p := ⟨B + 1, 0, none⟩) (by show B + 1 < _; omega)).trans h.c1,
    (hb.cell (p := ⟨B + 1 + 1, 0, none⟩) (by show B + 1 + 1 < _; omega)).trans h.c2, (hb.cell (p := ⟨B + 1 + 1 + 1, 0, none⟩) hB).trans h.c3,
    (hb.frozen (p := ⟨B + 1 + 1, 0, none⟩) (by show B + 1 + 1 < _; omega)).trans h.f2, (hb.frozen (p := ⟨B + 1 + 1 + 1, 0, none⟩) hB).trans h.f3,
    Nat.lt_of_lt_of_le hz hb.size, h.below.trans (hb.mono (by omega))⟩
theorem Ends.step {B : Nat} {w0 w w' : World} {s : ByteArray} {mf : Nat} {b n : Int} (h : Ends B w0 w s mf b n) (hb : Below w.heap.size w w') : Ends B w0 w' s mf b n :=
  h.keep h.size hb
theorem Ends.store {B : Nat} {w0 w : World} {s : ByteArray} {mf : Nat} {b n : Int} (h : Ends B w0 w s mf b n) (b' n' : Int) :
    Ends B w0 ((w.setCell ⟨B + 1 + 1, 0, none⟩ (.int .i64 b')).setCell ⟨B + 1 + 1 + 1, 0, none⟩ (.int .i64 n')) s mf b' n' := by
  obtain ⟨c0, c1, c2, c3, f2, f3, hz, hb⟩ := h
  refine ⟨?_, ?_, ?_, ?_, ?_, ?_, by simpa [World.setCell] using hz, (hb.setCell (p := ⟨B + 1 + 1, 0, none⟩) (by show B ≤ B + 1 + 1; omega) _).setCell (p := ⟨B + 1 + 1 + 1, 0, none⟩) (by show B ≤ B + 1 + 1 + 1; omega) _⟩
  all_goals simp [go_sem, *]
theorem endsPart_any (mf : Nat) (may : List UInt8 → Bool) (hm : May mf may) (s : ByteArray) (B : Nat) (w0 w : World) (b at' n : Nat) (T : Ends B w0 w s mf b n) (hb : b ≤ at') (ha : at' ≤ s.size) (hs : s.size ≤ 40) (hn : n ≤ 40) :
    Calls Try.prog 93 #[.int .i64 at', .pointer (some ⟨B, 0, none⟩), .pointer (some ⟨B + 1 + 1, 0, none⟩), .pointer (some ⟨B + 1 + 1 + 1, 0, none⟩), .pointer (some ⟨B + 1, 0, none⟩)] w fun e w' =>
      e = .returned (.bool (may (s.extract b at').data.toList && decide (n + 1 ≤ 8))) ∧ Ends B w0 w' s mf ((at' + 1 : Nat) : Int) ((n + 1 : Nat) : Int) ∧ w.heap.size ≤ w'.heap.size ∧ ∀ k, B + 1 + 1 + 1 < k → k < w.heap.size → w'.heap[k]? = w.heap[k]? := by
  have C := Lib.hid (fun w => hm.2 (s.extract b at') w)
  have eg := hm.1
  generalize may (s.extract b at').data.toList = V at *
  have c0 := T.c0; have c1 := T.c1; have c2 := T.c2; have c3 := T.c3; have f2 := T.f2; have f3 := T.f3
  have hsl : ∀ W, (Instr.slice 9 (.string s) (some (.int .i64 (b : Int))) (some (.int .i64 (at' : Int))) none).run Try.prog W = .ok (.string (s.extract b at')) W := fun W => by
    have := run_slice_string (P := Try.prog) W 9 s .i64 .i64 (b : Int) (at' : Int) Try.underlying9 (by omega) (by omega) (by omega)
    simpa using this
  clear hm
  go_enter Try.func93, Try.ntmps93
  go_wp2_with fail
  refine (C.out _).mono ?_
  rintro e w1 ⟨rfl, hb1⟩
  have T1 := (T.store ((at' : Int) + 1) ((n : Int) + 1)).step hb1
  have hz1 : w.heap.size ≤ w1.heap.size := by have := hb1.size; simpa [World.setCell] using this
  have hk1 : ∀ k, B + 1 + 1 + 1 < k → k < w.heap.size → w1.heap[k]? = w.heap[k]? := fun k h1 h2 => by
    rw [hb1.block k (by simpa [World.setCell] using h2), Below.heap_setCell _ _ _ _ (by show k ≠ B + 1 + 1 + 1; omega), Below.heap_setCell _ _ _ _ (by show k ≠ B + 1 + 1; omega)]
  have Z := Lib.hid (And.intro hz1 hk1)
  clear c0 c1 c2 c3 f2 f3 T hz1 hk1
  have c3 := T1.c3
  cases V
  · go_wp2
    go_ret
    exact ⟨rfl, T1, Z.out⟩
  · by_cases h8 : n + 1 ≤ 8
    · have h8' : (n : Int) + 1 ≤ 8 := by omega
      go_wp2
      go_ret
      exact ⟨by simp; omega, T1, Z.out⟩
    · have h8' : ¬ (n : Int) + 1 ≤ 8 := by omega
      go_wp2
      go_ret
      exact ⟨by simp; omega, T1, Z.out⟩
theorem may_part : May 77 partL := ⟨enters_of Try.func77 (by kernel_rfl) rfl, isPart_any⟩
theorem ext_list (s : ByteArray) (a b : Nat) : (s.extract a b).data.toList = (s.data.toList.take b).drop a := by
  rw [ByteArray.data_extract, Array.toList_extract, List.extract_eq_take_drop, List.drop_take]
end Go.Proofs.Ytgeiicchkfpanaa
