/- Layer 11: the contracts of With and Without. -/
import Derived.Test.YtgipohicgbppaaaWhK
namespace Go.Proofs.Ytgipohicgbppaaa
open Go.RowKit Go.Shelf
theorem Own.mono {w : World} {b b' : Nat} {v : Value} {X : List Tm} (h : Own w b v X) (hb : b' ≤ b) : Own w b' v X := ⟨h.own.1, by
  rcases h.own.2 with h0 | ⟨g, cap, cur, hv, hg, hx⟩
  · exact .inl h0
  · exact .inr ⟨g, cap, cur, hv, Nat.le_trans hb hg, hx⟩⟩
theorem cut_nil {pa : Option Addr} {cap k : Nat} (hnil : pa = none → cap = 0) (h : cutA pa cap k = none) : cap - k = 0 := by
  unfold cutA at h
  split at h
  · rename_i e; omega
  · cases pa with
    | none => have := hnil rfl; omega
    | some a => simp at h
theorem wout_args (X : List Tm) (pa A : Option Addr) (cap k n c : Nat) (w : World) (hX : X.length ≤ 130) (hcap : X.length ≤ cap) (hk : k < X.length) (hR : Rd w pa X) (hnil : pa = none → cap = 0) (hA : cutA pa cap (k + 1) = A) (hn : X.length - (k + 1) = n) (hc : cap - (k + 1) = c) :
    Calls Try.prog 35 #[.slice (some ⟨w.heap.size, 0, none⟩) 2 2]
      (w.alloc (.cells #[.slice pa k cap, .slice A n c] 22)).drew
      (ListPost (X.take k ++ X.drop (k + 1)) (w.alloc (.cells #[.slice pa k cap, .slice A n c] 22)).drew) := by
  subst hA hn hc
  have hb : Below w.heap.size w (w.alloc (.cells #[.slice pa k cap, .slice (cutA pa cap (k + 1)) (X.length - (k + 1)) (cap - (k + 1))] 22)).drew := ((Below.refl _ _).alloc (Nat.le_refl _) _).drew
  have hf : flatP [(pa, cap, X.take k), (cutA pa cap (k + 1), cap - (k + 1), X.drop (k + 1))] = X.take k ++ X.drop (k + 1) := by simp [flatP]
  have h := concat_any [(pa, cap, X.take k), (cutA pa cap (k + 1), cap - (k + 1), X.drop (k + 1))] w.heap.size 0 _ (by rw [hf]; simp; omega) (by simp)
    (⟨by show w.heap.size < _; simp, fun i hi => by
      match i, hi with
      | 0, _ => simp [partV, go_sem, Nat.min_eq_left (Nat.le_of_lt hk)]
      | 1, _ => simp [partV, go_sem], fun i hi => by
      match i, hi with
      | 0, _ => exact (hR.take k).lift hb
      | 1, _ => exact (hR.drop (k + 1) cap hcap).lift hb, fun i hi => by
      match i, hi with
      | 0, _ => exact hnil
      | 1, _ => exact cut_nil hnil⟩ : Parts (w.alloc (.cells #[.slice pa k cap, .slice (cutA pa cap (k + 1)) (X.length - (k + 1)) (cap - (k + 1))] 22)).drew w.heap.size 0 _)
  rw [hf] at h
  exact h
set_option maxHeartbeats 1000000 in
theorem without_any (X : List Tm) (pa : Option Addr) (cap k : Nat) (w : World) (hX : X.length ≤ 130) (hcap : X.length ≤ cap) (hk : k < X.length) (hR : Rd w pa X) (hnil : pa = none → cap = 0) :
    Calls Try.prog 32 #[.slice pa X.length cap, .int .i64 k] w (ListPost (X.take k ++ X.drop (k + 1)) w) := by
  by_cases he : cap = k + 1
  · have C := Lib.hid (wout_args X pa pa cap k 0 0 w hX hcap hk hR hnil (by unfold cutA; rw [if_pos he]) (by omega) (by omega))
    clear hR
    subst he
    go_enter Try.func32, Try.ntmps32
    go_wp2_with fail
    have hki : (k : Int) < X.length := by omega
    have hk0 : (0 : Int) ≤ k := by omega
    have hk2 : (0 : Int) ≤ (k : Int) + 1 := by omega
    have hk3 : (k : Int) + 1 ≤ X.length := by omega
    have hkc : (k : Int) ≤ (k : Int) + 1 := by omega
    have w1 : wrap64 ((k : Int) + 1) = (k : Int) + 1 := by unfold wrap64; omega
    have w2 : IntKind.i64.wrap ((k : Int) + 1) = (k : Int) + 1 := IntWalk.i64_in _ (by omega)
    go_region_with (go_at_call 35; refine C.out.mono ?_; rintro e w1 ⟨v, rfl, hown, hb1⟩)
    go_wp2
    go_ret
    exact ⟨v, rfl, hown.mono (by simp), ((Below.refl _ _).alloc (Nat.le_refl _) _).drew.trans (hb1.mono (by simp))⟩
  · have C := Lib.hid (wout_args X pa (pa.map (fun x => x.add ((k + 1) * 2))) cap k (X.length - (k + 1)) (cap - (k + 1)) w hX hcap hk hR hnil (by unfold cutA; rw [if_neg he]) rfl rfl)
    clear hR
    go_enter Try.func32, Try.ntmps32
    go_wp2_with fail
    have hki : (k : Int) < X.length := by omega
    have hk0 : (0 : Int) ≤ k := by omega
    have hk2 : (0 : Int) ≤ (k : Int) + 1 := by omega
    have hk3 : (k : Int) + 1 ≤ X.length := by omega
    have hkc : (k : Int) ≤ cap := by omega
    have w1 : wrap64 ((k : Int) + 1) = (k : Int) + 1 := by unfold wrap64; omega
    have w2 : IntKind.i64.wrap ((k : Int) + 1) = (k : Int) + 1 := IntWalk.i64_in _ (by omega)
    go_region_with (go_at_call 35; refine C.out.mono ?_; rintro e w1 ⟨v, rfl, hown, hb1⟩)
    go_wp2
    go_ret
    exact ⟨v, rfl, hown.mono (by simp), ((Below.refl _ _).alloc (Nat.le_refl _) _).drew.trans (hb1.mono (by simp))⟩
theorem with_args (X : List Tm) (pa A : Option Addr) (cap k n c : Nat) (x : Tm) (w : World) (hX : X.length ≤ 130) (hcap : X.length ≤ cap) (hk : k ≤ X.length) (hR : Rd w pa X) (hnil : pa = none → cap = 0) (hA : cutA pa cap k = A) (hn : X.length - k = n) (hc : cap - k = c) :
    Calls Try.prog 35 #[.slice (some ⟨w.heap.size + 1 + 1, 0, none⟩) 3 3]
      (((w.alloc (.cells #[.int .i64 x.1, .int .u64 x.2] 38)).alloc (.cells #[.int .i64 x.1, .int .u64 x.2] 38)).alloc (.cells #[.slice pa k cap, .slice (some ⟨w.heap.size + 1, 0, none⟩) 1 1, .slice A n c] 22)).drew
      (ListPost (X.take k ++ x :: X.drop k) (((w.alloc (.cells #[.int .i64 x.1, .int .u64 x.2] 38)).alloc (.cells #[.int .i64 x.1, .int .u64 x.2] 38)).alloc (.cells #[.slice pa k cap, .slice (some ⟨w.heap.size + 1, 0, none⟩) 1 1, .slice A n c] 22)).drew) := by
  subst hA hn hc
  obtain ⟨W, hW⟩ : ∃ W, W = (((w.alloc (.cells #[.int .i64 x.1, .int .u64 x.2] 38)).alloc (.cells #[.int .i64 x.1, .int .u64 x.2] 38)).alloc (.cells #[.slice pa k cap, .slice (some ⟨w.heap.size + 1, 0, none⟩) 1 1, .slice (cutA pa cap k) (X.length - k) (cap - k)] 22)).drew := ⟨_, rfl⟩
  have hb : Below w.heap.size w W := by rw [hW]; exact ((((Below.refl _ _).alloc (Nat.le_refl _) _).alloc (by simp) _).alloc (by simp; omega) _).drew
  have hf : flatP [(pa, cap, X.take k), (some ⟨w.heap.size + 1, 0, none⟩, 1, [x]), (cutA pa cap k, cap - k, X.drop k)] = X.take k ++ x :: X.drop k := by simp [flatP]
  have h := concat_any [(pa, cap, X.take k), (some ⟨w.heap.size + 1, 0, none⟩, 1, [x]), (cutA pa cap k, cap - k, X.drop k)] (w.heap.size + 1 + 1) 0 W (by rw [hf]; simp; omega) (by simp)
    (⟨by rw [hW]; show w.heap.size + 1 + 1 < _; simp, fun i hi => by
      rw [hW]
      match i, hi with
      | 0, _ => simp [partV, go_sem, Nat.min_eq_left hk]
      | 1, _ => simp [partV, go_sem]
      | 2, _ => simp [partV, go_sem], fun i hi => by
      match i, hi with
      | 0, _ => exact (hR.take k).lift hb
      | 1, _ => exact ⟨fun _ => ⟨w.heap.size + 1, 0, rfl, by rw [hW]; simp, fun j hj => by
          obtain rfl : j = 0 := by simp at hj; exact hj
          rw [hW]; constructor <;> simp [go_sem]⟩⟩
      | 2, _ => exact (hR.drop k cap hcap).lift hb, fun i hi => by
      match i, hi with
      | 0, _ => exact hnil
      | 1, _ => intro h; cases h
      | 2, _ => exact cut_nil hnil⟩ : Parts W (w.heap.size + 1 + 1) 0 _)
  rw [hf] at h
  rw [← hW]
  exact h
set_option maxHeartbeats 1000000 in
theorem with_any (X : List Tm) (pa : Option Addr) (cap k : Nat) (x : Tm) (w : World) (hX : X.length ≤ 130) (hcap : X.length ≤ cap) (hk : k ≤ X.length) (hR : Rd w pa X) (hnil : pa = none → cap = 0) :
    Calls Try.prog 25 #[.slice pa X.length cap, .int .i64 k, tmV x] w (ListPost (X.take k ++ x :: X.drop k) w) := by
  obtain ⟨x1, x2⟩ := x
  by_cases he : cap = k
  · have C := Lib.hid (with_args X pa pa cap k 0 0 (x1, x2) w hX hcap hk hR hnil (by unfold cutA; rw [if_pos he]) (by omega) (by omega))
    clear hR
    subst he
    go_enter Try.func25, Try.ntmps25
    go_wp2_with fail
    have hki : (cap : Int) ≤ X.length := by omega
    have hk0 : (0 : Int) ≤ cap := by omega
    have hkc : (cap : Int) ≤ (cap : Int) := by omega
    have c0 : (w.alloc (Obj.cells #[Value.int IntKind.i64 x1, Value.int IntKind.u64 x2] 38)).cell? ⟨w.heap.size, 0, none⟩ = some (.int .i64 x1) := by simp [go_sem]
    have c1 : (w.alloc (Obj.cells #[Value.int IntKind.i64 x1, Value.int IntKind.u64 x2] 38)).cell? ⟨w.heap.size, 1, none⟩ = some (.int .u64 x2) := by simp [go_sem]
    go_region_with (go_at_call 35; refine C.out.mono ?_; rintro e w1 ⟨v, rfl, hown, hb1⟩)
    go_wp2
    go_ret
    exact ⟨v, rfl, hown.mono (by simp; omega), ((((Below.refl _ _).alloc (Nat.le_refl _) _).alloc (by simp) _).alloc (by simp; omega) _).drew.trans (hb1.mono (by simp; omega))⟩
  · have C := Lib.hid (with_args X pa (pa.map (fun y => y.add (k * 2))) cap k (X.length - k) (cap - k) (x1, x2) w hX hcap hk hR hnil (by unfold cutA; rw [if_neg he]) rfl rfl)
    clear hR
    go_enter Try.func25, Try.ntmps25
    go_wp2_with fail
    have hki : (k : Int) ≤ X.length := by omega
    have hk0 : (0 : Int) ≤ k := by omega
    have hkc : (k : Int) ≤ cap := by omega
    have c0 : (w.alloc (Obj.cells #[Value.int IntKind.i64 x1, Value.int IntKind.u64 x2] 38)).cell? ⟨w.heap.size, 0, none⟩ = some (.int .i64 x1) := by simp [go_sem]
    have c1 : (w.alloc (Obj.cells #[Value.int IntKind.i64 x1, Value.int IntKind.u64 x2] 38)).cell? ⟨w.heap.size, 1, none⟩ = some (.int .u64 x2) := by simp [go_sem]
    go_region_with (go_at_call 35; refine C.out.mono ?_; rintro e w1 ⟨v, rfl, hown, hb1⟩)
    go_wp2
    go_ret
    exact ⟨v, rfl, hown.mono (by simp; omega), ((((Below.refl _ _).alloc (Nat.le_refl _) _).alloc (by simp) _).alloc (by simp; omega) _).drew.trans (hb1.mono (by simp; omega))⟩
end Go.Proofs.Ytgipohicgbppaaa
