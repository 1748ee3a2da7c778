/- Layer 2: the document's Meets, Order and Same. -/
import Derived.Test.YtepchkanpaakdaaDoorNmRC
import Derived.Test.YtepchkanpaakdaaDoorNmRD
namespace Go.Proofs.YtepchkanpaakdaaDoor
open Go.RowKit Go.Shelf
theorem rmeetsN_any (g t : ByteArray) (w : World) (hg60 : g.size ≤ 60) (ht60 : t.size ≤ 60) :
    Calls Tryd.prog 19 #[.string g, .string t] w fun e w' => e = .returned (.bool (meetsB g t)) ∧ Below w.heap.size w w' := by
  have G := Lib.hid (fun w => rglob_any g w hg60)
  have T := Lib.hid (fun w => rtopic_any t w ht60)
  have C1 := Lib.hid (fun w => rcut_any g w hg60)
  have C2 := Lib.hid (fun w => rcut_any t w ht60)
  unfold meetsB
  cases hg : globL g.data.toList
  · rw [hg] at G
    rw [Bool.false_and, Bool.and_false]
    clear hg
    go_enter Tryd.func19, Tryd.ntmps19
    go_wp2_with fail
    refine (G.out _).mono ?_
    rintro e w1 ⟨rfl, hb⟩
    go_wp2
    go_ret
    exact ⟨rfl, hb⟩
  · rw [hg] at G
    cases ht : topicL t.data.toList
    · rw [ht] at T
      rw [Bool.false_and]
      clear hg ht
      go_enter Tryd.func19, Tryd.ntmps19
      go_wp2_with fail
      refine (G.out _).mono ?_
      rintro e w1 ⟨rfl, hb⟩
      go_wp2_with fail
      refine (T.out _).mono ?_
      rintro e w2 ⟨rfl, hb2⟩
      go_wp2
      go_ret
      exact ⟨rfl, hb.trans (hb2.mono hb.size)⟩
    · rw [ht] at T
      rw [Bool.true_and, Bool.true_and]
      have hm : meetsL (cutL g.data.toList) (cutL t.data.toList) = meetsL ((cutB g).map dl) ((cutB t).map dl) := by rw [← cutB_data, ← cutB_data]
      rw [hm]
      have l1 : (cutB g).length ≤ 62 := by have := cut_length g.data.toList; rw [cut_len]; rw [size_list] at this; omega
      have l2 : (cutB t).length ≤ 62 := by have := cut_length t.data.toList; rw [cut_len]; rw [size_list] at this; omega
      have L := Lib.hid (And.intro l1 l2)
      clear hg ht hm l1 l2
      go_enter Tryd.func19, Tryd.ntmps19
      go_wp2_with fail
      refine (G.out _).mono ?_
      rintro e w1 ⟨rfl, hb⟩
      go_wp2_with fail
      refine (T.out _).mono ?_
      rintro e w2 ⟨rfl, hb2⟩
      have k2 := hb.trans (hb2.mono hb.size)
      clear hb hb2
      go_wp2_with fail
      refine (C1.out _).mono ?_
      rintro e w3 ⟨bg, cg, rfl, hbg, Hg, hb3, hcg⟩
      have k3 := k2.trans (hb3.mono k2.size)
      have Z1 := Lib.hid (And.intro Hg hcg)
      clear hb3 k2 Hg hcg
      go_wp2_with fail
      refine (C2.out _).mono ?_
      rintro e w4 ⟨bt, ct, rfl, hbt, Ht, hb4, hct⟩
      have k4 := k3.trans (hb4.mono k3.size)
      have Z2 := Lib.hid (And.intro (Z1.out.1.lift hb4) (And.intro Ht hct))
      clear hb4 k3 Ht hct
      go_wp2_with fail
      have c := rmeets_any (cutB g) (cutB t) bg bt L.out.1 L.out.2 (cutB g).length (cutB t).length cg ct (some ⟨bg, 0, none⟩) (some ⟨bt, 0, none⟩) (Nat.le_refl _) (Nat.le_refl _) Z1.out.2 Z2.out.2.2 (fun _ => by rw [Nat.sub_self]) (fun _ => by rw [Nat.sub_self]) w4 Z2.out.1 Z2.out.2.1
      have eg : suf ((cutB g).map dl) (cutB g).length = (cutB g).map dl := by have := suf_all ((cutB g).map dl); rwa [List.length_map] at this
      have et : suf ((cutB t).map dl) (cutB t).length = (cutB t).map dl := by have := suf_all ((cutB t).map dl); rwa [List.length_map] at this
      rw [eg, et] at c
      refine c.mono ?_
      rintro e w5 ⟨rfl, hb5⟩
      clear c eg et
      go_wp2
      go_ret
      exact ⟨by simp, k4.trans (hb5.mono k4.size)⟩
set_option maxHeartbeats 800000 in
theorem rsame_any (X Y : List ByteArray) (pa pb : Option Addr) (ca cb : Nat) (w : World) (hX8 : X.length ≤ 8)
    (hx : ∀ i (h : i < X.length), ∃ b, pa = some ⟨b, 0, none⟩ ∧ w.cell? ⟨b, i, none⟩ = some (.string X[i])) (hy : ∀ i (h : i < Y.length), ∃ b, pb = some ⟨b, 0, none⟩ ∧ w.cell? ⟨b, i, none⟩ = some (.string Y[i])) (hXY : X = Y) :
    Calls Tryd.prog 15 #[.slice pa X.length ca, .slice pb Y.length cb] w fun e w' => e = .returned (.bool true) ∧ Below w.heap.size w w' := by
  subst hXY
  have Hx := Lib.hid hx
  have Hy := Lib.hid hy
  have hXi : (X.length : Int) ≤ 8 := by omega
  clear hx hy
  go_enter Tryd.func15, Tryd.ntmps15
  go_wp2_with fail
  go_loopw [5] (fun i wx => ∃ k : Nat, i = .int .i64 k ∧ k ≤ X.length ∧ Below w.heap.size w wx) (fun i _ => X.length - (intOf i).toNat)
  case atStart => exact ⟨0, rfl, Nat.zero_le _, Below.refl _ _⟩
  case round =>
    obtain ⟨k, rfl, hk, kk⟩ := hrel
    by_cases hlt : k < X.length
    · obtain ⟨b, rfl, cx⟩ := Hx.out k hlt
      obtain ⟨b', rfl, cy⟩ := Hy.out k hlt
      have hlt' : (k : Int) < X.length := by omega
      have cx' : wr.cell? ⟨b, k, none⟩ = some (.string X[k]) := (kk.cell (p := ⟨b, k, none⟩) (World.block_lt_of_cell? w ⟨b, k, none⟩ cx)).trans cx
      have cy' : wr.cell? ⟨b', k, none⟩ = some (.string X[k]) := (kk.cell (p := ⟨b', k, none⟩) (World.block_lt_of_cell? w ⟨b', k, none⟩ cy)).trans cy
      generalize X[k] = x at *
      clear cx cy
      have kd := kk.drew
      have h1 : (x.toList == x.toList) = true := by simp
      have h2 : (x.toList != x.toList) = false := by simp
      go_wp2_with fail
      have q1 : (k : Int) < X.length := by omega
      have q2 : (0 : Int) ≤ k := by omega
      have q3 : k < X.length := hlt
      go_region_held3 (fun w' => w'.cell? ⟨b, k, none⟩ = some (.string x) ∧ w'.cell? ⟨b', k, none⟩ = some (.string x)) (exact ⟨cx', cy'⟩) (fail)
      clear cx' cy' kk
      go_wp2
      go_roundw
      case rel => exact ⟨k + 1, by go_num, by omega, kd⟩
      case measure => simp [intOf]; omega
    · have hge : (X.length : Int) ≤ k := by omega
      go_wp2
      go_ret
      exact ⟨rfl, kk⟩
end Go.Proofs.YtepchkanpaakdaaDoor
