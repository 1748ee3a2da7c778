/- Layer 2: the contract of Meets. -/
import Derived.Test.YtepchkanpaakdaaDoorNmH
import Derived.Laws.Cover3
namespace Go.Proofs.YtepchkanpaakdaaDoor
open Go.RowKit Go.Shelf
/-- Does a glob meet a name? -/
def meetsB (g t : ByteArray) : Bool := topicL t.data.toList && (globL g.data.toList && meetsL (cutL g.data.toList) (cutL t.data.toList))
theorem meetsN_any (g t : ByteArray) (w : World) : Calls Tryd.prog 18 #[.string g, .string t] w fun e w' => e = .returned (.bool (meetsB g t)) ∧ Below w.heap.size w w' := by
  have C := Lib.hid (fun w => topic_any t w)
  have P1 := Lib.hid (fun w => parts_any g w)
  have P2 := Lib.hid (fun w => parts_any t w)
  have hnil : ∀ (a : Option Addr) (l c : Nat) (W : World), (binOp .neq 25 (.slice a l c) (.slice none 0 0)).run Tryd.prog W = .ok (.bool (!a.isNone)) W := fun a l c W => run_neq_slice_nil W 25 _ a l c Tryd.underlying25
  have hmk : ∀ W : World, (Instr.makeMap 36 none).run Tryd.prog W = .ok (.map (some W.heap.size)) (W.alloc (.map #[] 0)) := fun W => by
    simp [Instr.makeMap]
  unfold meetsB
  cases ht : topicL t.data.toList
  · rw [ht] at C
    clear ht
    go_enter Tryd.func18, Tryd.ntmps18
    go_wp2_with fail
    refine (C.out _).mono ?_
    rintro e w1 ⟨rfl, hb⟩
    go_wp2
    go_ret
    exact ⟨rfl, hb⟩
  · rw [ht] at C
    have htg := topic_glob _ ht
    cases hg : globL g.data.toList
    · have E := Lib.hid (show partsB g = [] by unfold partsB; rw [hg]; rfl)
      clear ht htg hg
      go_enter Tryd.func18, Tryd.ntmps18
      go_wp2_with fail
      refine (C.out _).mono ?_
      rintro e w1 ⟨rfl, hb⟩
      go_wp2_with fail
      refine (P1.out _).mono ?_
      rintro e w2 ⟨pa, rfl, R1, hb1⟩
      obtain rfl := R1.nil E.out
      have e0 : (partsB g).length = 0 := by rw [E.out]; rfl
      rw [e0]
      go_wp2
      go_ret
      exact ⟨rfl, hb.trans (hb1.mono hb.size)⟩
    · have E1 : partsB g = cutB g := by unfold partsB; rw [hg]; rfl
      have E2 : partsB t = cutB t := by unfold partsB; rw [htg]; rfl
      have F := Lib.hid (show (0 < (cutB g).length ∧ (cutB g).length ≤ 8) ∧ (0 < (cutB t).length ∧ (cutB t).length ≤ 8) from ⟨⟨cutB_pos g, (glob_8 g hg).1⟩, ⟨cutB_pos t, (glob_8 t htg).1⟩⟩)
      have EE := Lib.hid (And.intro E1 E2)
      have hm : meetsL (cutL g.data.toList) (cutL t.data.toList) = meetsL ((cutB g).map dl) ((cutB t).map dl) := by rw [← cutB_data, ← cutB_data]
      rw [hm]
      clear ht htg hg E1 E2 hm
      go_enter Tryd.func18, Tryd.ntmps18
      go_wp2_with fail
      refine (C.out _).mono ?_
      rintro e w1 ⟨rfl, hb⟩
      go_wp2_with fail
      refine (P1.out _).mono ?_
      rintro e w2 ⟨pa, rfl, R1, hb1⟩
      obtain ⟨bg, rfl, hl1, H1⟩ := R1.cons (by rw [EE.out.1]; intro h; have := F.out.1.1; rw [h] at this; exact absurd this (by decide))
      have Hb2 := Lib.hid (hb.trans (hb1.mono hb.size))
      rw [EE.out.1] at H1 ⊢
      have HH1 := Lib.hid (And.intro hl1 H1)
      clear R1 hb hb1 H1 hl1
      go_wp2_with fail
      refine (P2.out _).mono ?_
      rintro e w3 ⟨pb, rfl, R2, hb2⟩
      obtain ⟨bt, rfl, hl2, H2⟩ := R2.cons (by rw [EE.out.2]; intro h; have := F.out.2.1; rw [h] at this; exact absurd this (by decide))
      have Hb3 := Lib.hid (Hb2.out.trans (hb2.mono Hb2.out.size))
      rw [EE.out.2] at H2 ⊢
      have HH2 := Lib.hid (And.intro hl2 H2)
      have HH3 := Lib.hid (HH1.out.2.lift hb2)
      clear R2 hb2 H2 hl2
      go_wp2_with fail
      have A := Below.refl w3.heap.size w3
      have Hg4 : Held (w3.alloc (.map #[] 0)) bg (cutB g) := HH3.out.lift ((Below.refl _ _).alloc (Nat.le_refl _) _)
      have Ht4 : Held (w3.alloc (.map #[] 0)) bt (cutB t) := HH2.out.2.lift ((Below.refl _ _).alloc (Nat.le_refl _) _)
      have Hm4 : MapIs (w3.alloc (.map #[] 0)) w3.heap.size [] := ⟨#[], 0, by show (w3.heap.push _)[w3.heap.size]? = _; simp, rfl, by simp⟩
      have f1 := HH3.out.lt
      have f2 := HH2.out.2.lt
      refine (meets_told (cutB g) (cutB t) bg bt w3.heap.size (by omega) (by omega) F.out.1.2 F.out.2.2 _ Hg4 Ht4 Hm4).mono ?_
      rintro e w4 ⟨rfl, hg4⟩
      have hb4 : Below w.heap.size w w4 := (Hb3.out.alloc Hb3.out.size (.map #[] 0)).grown hg4 (by have := Hb3.out.size; simp; omega) (fun k hk => by cases hk; exact Hb3.out.size)
      have Hb4 := Lib.hid hb4
      clear A Hg4 Ht4 Hm4 f1 f2 hg4 hb4
      go_wp2
      go_ret
      exact ⟨by simp, Hb4.out⟩
end Go.Proofs.YtepchkanpaakdaaDoor
