/- Layer 2: the law NameSelf. -/
import Derived.Test.YtepchkanpaakdaaDoorNmL
import Derived.Test.YtepchkanpaakdaaDoorNmM
namespace Go.Proofs.YtepchkanpaakdaaDoor
open Go.RowKit Go.Shelf
theorem meets_star2 (s : ByteArray) (h : topicL s.data.toList = true) : meetsB ⟨#[42, 42]⟩ s = true := by
  unfold meetsB
  rw [h, show globL (⟨#[42, 42]⟩ : ByteArray).data.toList = true by kernel_rfl, show cutL (⟨#[42, 42]⟩ : ByteArray).data.toList = [[42, 42]] by kernel_rfl, meets_many]; rfl
theorem meets_star1 (s : ByteArray) (h : topicL s.data.toList = true) : meetsB ⟨#[42]⟩ s = decide ((partsB s).length = 1) := by
  unfold meetsB
  rw [h, show globL (⟨#[42]⟩ : ByteArray).data.toList = true by kernel_rfl, show cutL (⟨#[42]⟩ : ByteArray).data.toList = [[42]] by kernel_rfl, meets_one]
  have : (partsB s).length = (cutL s.data.toList).length := by unfold partsB; rw [if_pos (topic_glob _ h), cut_len]
  rw [this]; simp
theorem meets_self (s t : ByteArray) (hs : topicL s.data.toList = true) (ht : topicL t.data.toList = true) : meetsB s t = decide (s = t) := by
  unfold meetsB
  rw [ht, topic_glob _ hs, topic_self _ _ hs]
  by_cases e : s = t
  · subst e; simp
  · have : s.data.toList ≠ t.data.toList := fun h => e (Go.WideShapes.bytes_inj h)
    simp [e, this]
theorem nameSelf_walk (s0 t0 : ByteArray) (w : World) (_h0 : s0.size ≤ maxLen) (_h1 : t0.size ≤ maxLen) :
    Calls Tryd.prog 4 #[.string s0, .string t0] w fun e w' => e = .returned (.bool true) ∧ Below w.heap.size w w' := by
  obtain ⟨s, hs⟩ : ∃ s, s = fw s0 := ⟨_, rfl⟩
  obtain ⟨t, ht⟩ : ∃ t, t = fw t0 := ⟨_, rfl⟩
  have F1 := Lib.hid (fun w => few_any s0 w)
  have F2 := Lib.hid (fun w => few_any t0 w)
  rw [← hs] at F1
  rw [← ht] at F2
  have A := Lib.hid awake_any
  have T1 := Lib.hid (fun w => topic_any s w)
  have T2 := Lib.hid (fun w => topic_any t w)
  clear hs ht
  cases h1 : topicL s.data.toList
  · rw [h1] at T1
    clear h1
    go_enter Tryd.func4, Tryd.ntmps4
    go_wp2_with fail
    refine (F1.out _).mono ?_
    rintro e w0 ⟨rfl, rfl⟩
    go_wp2_with fail
    refine (F2.out _).mono ?_
    rintro e w0 ⟨rfl, rfl⟩
    go_wp2_with fail
    refine (T1.out _).mono ?_
    rintro e w1 ⟨rfl, hb1⟩
    go_wp2_with fail
    refine (A.out _).mono ?_
    rintro e w2 ⟨rfl, hb2⟩
    go_wp2
    go_ret
    exact ⟨rfl, hb1.trans (hb2.mono hb1.size)⟩
  · rw [h1] at T1
    cases h2 : topicL t.data.toList
    · rw [h2] at T2
      clear h1 h2
      go_enter Tryd.func4, Tryd.ntmps4
      go_wp2_with fail
      refine (F1.out _).mono ?_
      rintro e w0 ⟨rfl, rfl⟩
      go_wp2_with fail
      refine (F2.out _).mono ?_
      rintro e w0 ⟨rfl, rfl⟩
      go_wp2_with fail
      refine (T1.out _).mono ?_
      rintro e w1 ⟨rfl, hb1⟩
      go_wp2_with fail
      refine (T2.out _).mono ?_
      rintro e w2 ⟨rfl, hb2⟩
      go_wp2_with fail
      refine (A.out _).mono ?_
      rintro e w3 ⟨rfl, hb3⟩
      go_wp2
      go_ret
      have k2 := hb1.trans (hb2.mono hb1.size)
      exact ⟨rfl, k2.trans (hb3.mono k2.size)⟩
    · rw [h2] at T2
      have G := Lib.hid (fun w => glob_any s w)
      rw [topic_glob _ h1] at G
      have M1 := Lib.hid (fun w => meetsN_any s t w)
      rw [meets_self s t h1 h2] at M1
      have M2 := Lib.hid (fun w => meetsN_any ⟨#[42, 42]⟩ s w)
      rw [meets_star2 s h1] at M2
      have M3 := Lib.hid (fun w => meetsN_any ⟨#[42]⟩ s w)
      rw [meets_star1 s h1] at M3
      have P := Lib.hid (fun w => parts_any s w)
      obtain ⟨n, hn⟩ : ∃ n, n = (partsB s).length := ⟨_, rfl⟩
      have Hn := Lib.hid hn
      rw [← hn] at M3
      have key : (decide (s = t) = true ∧ (s.toList == t.toList) = true) ∨ (decide (s = t) = false ∧ (s.toList == t.toList) = false ∧ ¬ s.toList = t.toList) := by
        by_cases e : s = t
        · exact .inl ⟨by simpa using e, by rw [e]; simp⟩
        · have : ¬ s.toList = t.toList := fun h => e (Go.WideShapes.bytes_inj (by rwa [ByteArray.toList_eq, ByteArray.toList_eq] at h))
          exact .inr ⟨by simpa using e, by simpa using this, this⟩
      clear h1 h2 hn
      go_enter Tryd.func4, Tryd.ntmps4
      go_wp2_with fail
      refine (F1.out _).mono ?_
      rintro e w0 ⟨rfl, rfl⟩
      go_wp2_with fail
      refine (F2.out _).mono ?_
      rintro e w0 ⟨rfl, rfl⟩
      go_wp2_with fail
      refine (T1.out _).mono ?_
      rintro e w1 ⟨rfl, hb1⟩
      go_wp2_with fail
      refine (T2.out _).mono ?_
      rintro e w2 ⟨rfl, hb2⟩
      have k2 := hb1.trans (hb2.mono hb1.size)
      go_wp2_with fail
      refine (G.out _).mono ?_
      rintro e w3 ⟨rfl, hb3⟩
      have k3 := k2.trans (hb3.mono k2.size)
      go_wp2_with fail
      refine (M1.out _).mono ?_
      rintro e w4 ⟨rfl, hb4⟩
      have k4 := k3.trans (hb4.mono k3.size)
      clear hb1 hb2 hb3 hb4 k2 k3
      have key2 : (decide (n = 1) = true ∧ (n : Int) = 1) ∨ (decide (n = 1) = false ∧ ¬ (n : Int) = 1) := by
        by_cases e : n = 1
        · exact .inl ⟨by simpa using e, by omega⟩
        · exact .inr ⟨by simpa using e, by omega⟩
      rcases key with ⟨e1, e2⟩ | ⟨e1, e2, e3⟩
      all_goals
        rw [e1]
        clear e1
        go_wp2_with fail
        refine (M2.out _).mono ?_
        rintro e w5 ⟨rfl, hb5⟩
        have k5 := k4.trans (hb5.mono k4.size)
        clear hb5
        go_wp2_with fail
        refine (M3.out _).mono ?_
        rintro e w6 ⟨rfl, hb6⟩
        have k6 := k5.trans (hb6.mono k5.size)
        clear hb6
        rcases key2 with ⟨f1, f2⟩ | ⟨f1, f2⟩
        all_goals
          rw [f1]
          clear f1
          go_wp2_with fail
          refine (P.out _).mono ?_
          rintro e w7 ⟨pa, rfl, _, hb7⟩
          rw [← Hn.out]
          have k7 := k6.trans (hb7.mono k6.size)
          clear hb7
          go_wp2_with fail
          refine (A.out _).mono ?_
          rintro e w8 ⟨rfl, hb8⟩
          have k8 := k7.trans (hb8.mono k7.size)
          clear hb8
          go_wp2
          go_ret
          exact ⟨by simp [f2], k8⟩
end Go.Proofs.YtepchkanpaakdaaDoor
