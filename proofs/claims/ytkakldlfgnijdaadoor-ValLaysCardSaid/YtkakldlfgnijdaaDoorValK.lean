/- Layer 3: readText. -/
import Derived.Test.YtkakldlfgnijdaaDoorValJ
namespace Go.Proofs.YtkakldlfgnijdaaDoor
open Go.RowKit
/-- The text written where the octets l begin, behind the sign, with x read ahead of them, at a place. -/
def rdT : List UInt8 → List UInt8 → Nat → Option (List UInt8 × Nat)
  | [], _, _ => none
  | b :: t, x, k => if b.toNat = 34 then some (x, k + 1) else if b.toNat = 92 then
      (match t with
       | [] => none
       | c :: t' => if escB (c.toNat : Int) then (if x.length = 60 then none else rdT t' (x ++ [c]) (k + 2)) else none)
    else if x.length = 60 then none else rdT t (x ++ [b]) (k + 1)
theorem rdT_34 (b : UInt8) (t x : List UInt8) (k : Nat) (h : b.toNat = 34) : rdT (b :: t) x k = some (x, k + 1) := by rw [rdT.eq_def]; simp [h]
theorem rdT_end (b : UInt8) (x : List UInt8) (k : Nat) (h : b.toNat = 92) : rdT [b] x k = none := by rw [rdT.eq_def]; simp [h]
theorem rdT_bad (b c : UInt8) (t x : List UInt8) (k : Nat) (h : b.toNat = 92) (hc : escB (c.toNat : Int) = false) : rdT (b :: c :: t) x k = none := by rw [rdT.eq_def]; simp [h, hc]
theorem rdT_full2 (b c : UInt8) (t x : List UInt8) (k : Nat) (h : b.toNat = 92) (hc : escB (c.toNat : Int) = true) (hx : x.length = 60) : rdT (b :: c :: t) x k = none := by rw [rdT.eq_def]; simp [h, hc, hx]
theorem rdT_go2 (b c : UInt8) (t x : List UInt8) (k : Nat) (h : b.toNat = 92) (hc : escB (c.toNat : Int) = true) (hx : x.length ≠ 60) : rdT (b :: c :: t) x k = rdT t (x ++ [c]) (k + 2) := by rw [rdT.eq_def]; simp [h, hc, hx]
theorem rdT_full (b : UInt8) (t x : List UInt8) (k : Nat) (h : b.toNat ≠ 34) (h' : b.toNat ≠ 92) (hx : x.length = 60) : rdT (b :: t) x k = none := by rw [rdT.eq_def]; simp [h, h', hx]
theorem rdT_go (b : UInt8) (t x : List UInt8) (k : Nat) (h : b.toNat ≠ 34) (h' : b.toNat ≠ 92) (hx : x.length ≠ 60) : rdT (b :: t) x k = rdT t (x ++ [b]) (k + 1) := by rw [rdT.eq_def]; simp [h, h', hx]
/-- What readText answers. -/
def txtV : Option (List UInt8 × Nat) → Value
  | none => .tuple #[.agg #[.bool false, .int .i64 0, .string ⟨#[]⟩], .int .i64 0, .int .i64 2]
  | some (x, n) => .tuple #[.agg #[.bool false, .int .i64 0, .string ⟨x.toArray⟩], .int .i64 n, .int .i64 0]
theorem own_slice {w : World} {base : Nat} {t : TypeId} {z : Nat} {v : Value} {n : Nat} {xs : List Value} (h : w.ownsRow base t z v n xs) : ∃ o cap, v = .slice o n cap := by
  rcases h.2 with ⟨rfl, rfl⟩ | ⟨g, cap, cur, rfl, hg, _⟩
  · exact ⟨none, 0, rfl⟩
  · exact ⟨_, _, rfl⟩
theorem conv_nil (wr : World) : (convert 46 9 (.slice none 0 0)).run Tryd.prog wr = .ok (.string ⟨#[]⟩) wr := by
  rw [run_convert_bytes_string wr 46 9 5 none 0 0 Tryd.underlying46 Tryd.underlying5 Tryd.underlying9]
  rfl
theorem conv_any {wr : World} {base : Nat} {v : Value} {l : List UInt8} (h : wr.ownsRow base 5 1 v l.length (l.map byteV)) :
    (convert 46 9 v).run Tryd.prog wr = .ok (.string ⟨l.toArray⟩) wr := by
  by_cases hn : v = .slice none 0 0 ∧ l.length = 0
  · obtain ⟨rfl, hl⟩ := hn
    rw [List.eq_nil_of_length_eq_zero hl]; exact conv_nil wr
  · obtain ⟨g, cap, rfl, hg⟩ := own_some h hn
    exact conv_owned hg
set_option maxRecDepth 100000 in
set_option maxHeartbeats 1000000 in
theorem text_any (s : ByteArray) (w : World) (h0 : 1 ≤ s.size) (hs : s.size ≤ 1000) :
    Calls Tryd.prog 34 #[.string s] w fun e w' => e = .returned (txtV (rdT (s.data.toList.drop 1) [] 1)) ∧ Below w.heap.size w w' := by
  obtain ⟨i0, hi, hz0, hz1, hz2⟩ := info_parts info_u8
  obtain ⟨R, hR⟩ : ∃ R, R = rdT (s.data.toList.drop 1) [] 1 := ⟨_, rfl⟩
  rw [← hR]
  have HR := Lib.hid hR
  have Hz0 := Lib.hid hz0
  have Hz1 := Lib.hid hz1
  have Hz2 := Lib.hid hz2
  clear hR hz0 hz1 hz2
  go_enter Tryd.func34, Tryd.ntmps34
  go_wp2_with fail
  obtain ⟨w1, hw1⟩ : ∃ w1, w1 = w.alloc (.cells #[.bool false, .int .i64 0, .string ⟨#[]⟩] 23) := ⟨_, rfl⟩
  have hb0 : Below w.heap.size w w1 := by rw [hw1]; exact (Below.refl _ _).alloc (Nat.le_refl _) _
  have hz : w.heap.size < w1.heap.size := by rw [hw1]; simp
  have hc0 : w1.cell? ⟨w.heap.size, 0, none⟩ = some (.bool false) := by rw [hw1]; simp
  have hc1 : w1.cell? ⟨w.heap.size, 1, none⟩ = some (.int .i64 0) := by rw [hw1]; simp
  have hc2 : w1.cell? ⟨w.heap.size, 2, none⟩ = some (.string ⟨#[]⟩) := by rw [hw1]; simp
  have hf0 : w1.frozen? ⟨w.heap.size, 0, none⟩ = false := by rw [hw1]; simp
  have hf1 : w1.frozen? ⟨w.heap.size, 1, none⟩ = false := by rw [hw1]; simp
  have hf2 : w1.frozen? ⟨w.heap.size, 2, none⟩ = false := by rw [hw1]; simp
  rw [← hw1]
  clear hw1
  go_loopw [5, 6] (fun v i wr => ∃ (k : Nat) (x : List UInt8), k ≤ s.size ∧ 1 ≤ k ∧ i = .int .i64 k ∧ x.length ≤ 60 ∧ wr.ownsRow w1.heap.size 5 1 v x.length (x.map byteV) ∧ Below w1.heap.size w1 wr ∧ rdT (s.data.toList.drop k) x k = R) (fun _ i _ => s.size - (intOf i).toNat)
  case atStart => exact ⟨1, [], h0, Nat.le_refl _, rfl, by simp, ⟨rfl, .inl ⟨rfl, rfl⟩⟩, Below.refl _ _, HR.out.symm⟩
  case round =>
    obtain ⟨k, x, hk, hk1, rfl, hx, hown, hbel, hr⟩ := hrel
    have Hr := Lib.hid hr
    have hsz := hbel.size
    obtain ⟨o, cap, rfl⟩ := own_slice hown
    have hd0 := (hbel.cell (p := ⟨w.heap.size, 0, none⟩) hz).trans hc0
    have hd1 := (hbel.cell (p := ⟨w.heap.size, 1, none⟩) hz).trans hc1
    have hd2 := (hbel.cell (p := ⟨w.heap.size, 2, none⟩) hz).trans hc2
    have hg0 : wr.frozen? ⟨w.heap.size, 0, none⟩ = false := (hbel.frozen (p := ⟨w.heap.size, 0, none⟩) hz).trans hf0
    have hg1 : wr.frozen? ⟨w.heap.size, 1, none⟩ = false := (hbel.frozen (p := ⟨w.heap.size, 1, none⟩) hz).trans hf1
    have hg2 : wr.frozen? ⟨w.heap.size, 2, none⟩ = false := (hbel.frozen (p := ⟨w.heap.size, 2, none⟩) hz).trans hf2
    have hbw := chain hb0 (Nat.le_refl _) hbel
    clear hr
    by_cases hlt : k < s.size
    · have hdr := drop_at s k hlt
      have hbd : (0 : Int) ≤ ((s[k]'hlt).toNat : Int) ∧ ((s[k]'hlt).toNat : Int) < 256 := by have := (s[k]'hlt).toNat_lt; omega
      by_cases h34 : (s[k]'hlt).toNat = 34
      · have hv : R = some (x, k + 1) := by rw [← Hr.out, hdr, rdT_34 _ _ _ _ h34]
        subst hv
        have g1 : ((s[k]'hlt).toNat : Int) = 34 := by omega
        have hcv := conv_any hown
        clear hdr h34 hown
        go_wp2
        exact bodyPost_ret (v := .tuple #[.agg #[.bool false, .int .i64 0, .string ⟨x.toArray⟩], .int .i64 (k + 1), .int .i64 0]) (by simp [results, Tryd.results34, go_sem, hd0, hd1, hd2]) rfl ⟨rfl, ((hbw.setCell (Nat.le_refl _) _).setCell (Nat.le_refl _) _).setCell (Nat.le_refl _) _⟩
      · have g34 : (((s[k]'hlt).toNat : Int) == 34) = false := by simp; omega
        by_cases h92 : (s[k]'hlt).toNat = 92
        · have g92 : ((s[k]'hlt).toNat : Int) = 92 := by omega
          by_cases hlt2 : k + 1 < s.size
          · have hdr2 := drop_at s (k + 1) hlt2
            rw [hdr2] at hdr
            have hne : ((k : Int) + 1 == (s.size : Int)) = false := by simp; omega
            have hbd2 : (0 : Int) ≤ ((s[k + 1]'hlt2).toNat : Int) ∧ ((s[k + 1]'hlt2).toNat : Int) < 256 := by have := (s[k + 1]'hlt2).toNat_lt; omega
            cases he : escB ((s[k + 1]'hlt2).toNat : Int) with
            | false =>
              have hv : R = none := by rw [← Hr.out, hdr, rdT_bad _ _ _ _ _ h92 he]
              subst hv
              have He := Lib.hid he
              clear hdr hdr2 h34 h92 hown he
              go_wp2_with fail
              refine (esc_any _ _).mono ?_
              rintro e wx ⟨rfl, rfl⟩
              rw [He.out]
              go_wp2
              exact bodyPost_ret (v := .tuple #[.agg #[.bool false, .int .i64 0, .string ⟨#[]⟩], .int .i64 0, .int .i64 2]) (by simp [results, Tryd.results34, go_sem, hd0, hd1, hd2]) rfl ⟨rfl, ((hbw.setCell (Nat.le_refl _) _).setCell (Nat.le_refl _) _).setCell (Nat.le_refl _) _⟩
            | true =>
              by_cases h60 : x.length = 60
              · have hv : R = none := by rw [← Hr.out, hdr, rdT_full2 _ _ _ _ _ h92 he h60]
                subst hv
                have g60 : ((x.length : Int) == 60) = true := by simp; omega
                have He := Lib.hid he
                clear hdr hdr2 h34 h92 hown he
                go_wp2_with fail
                refine (esc_any _ _).mono ?_
                rintro e wx ⟨rfl, rfl⟩
                rw [He.out]
                go_wp2
                exact bodyPost_ret (v := .tuple #[.agg #[.bool false, .int .i64 0, .string ⟨#[]⟩], .int .i64 0, .int .i64 2]) (by simp [results, Tryd.results34, go_sem, hd0, hd1, hd2]) rfl ⟨rfl, ((hbw.setCell (Nat.le_refl _) _).setCell (Nat.le_refl _) _).setCell (Nat.le_refl _) _⟩
              · have hgo := (hdr ▸ Hr.out.symm).trans (rdT_go2 _ _ _ _ _ h92 he h60)
                have g60 : ((x.length : Int) == 60) = false := by simp; omega
                have Hgo := Lib.hid hgo
                have He := Lib.hid he
                clear hdr hdr2 h34 h92 hgo he
                go_wp2_with fail
                refine (esc_any _ _).mono ?_
                rintro e wx ⟨rfl, rfl⟩
                rw [He.out]
                go_wp2_with (first | (at_builtin; refine wpList_append_own _ rfl (.tmp 42) (.tmp 46) 46 rfl w1.heap.size 5 i0 (.int .u8 0) 1 1 Tryd.underlying46 hi Hz0.out Hz1.out Hz2.out rfl (by decide) _ _ _ rfl (hown.alloc _) ⟨wr.heap.size, 0, none⟩ 1 1 [.int .u8 ((s[k + 1]'hlt2).toNat : Int)] rfl rfl (one_cell _ _) (one_ok _) ?c3b ?c4b ?c5b ?_))
                case c3b => unfold maxLen; omega
                case c4b => omega
                case c5b => simp; omega
                intro v3 w3 hown3 hgr3 _
                have hb3 : Below w1.heap.size w1 w3 := (hbel.alloc hsz _).grown hgr3 (by simp; omega) (own_base hown)
                have hown3' : w3.ownsRow w1.heap.size 5 1 v3 (x ++ [s[k + 1]'hlt2]).length ((x ++ [s[k + 1]'hlt2]).map byteV) := by simpa [byteV] using hown3
                clear hown hgr3 hown3 hbel hd0 hd1 hd2 hg0 hg1 hg2
                go_wp2
                go_roundw
                case rel => exact ⟨k + 2, x ++ [s[k + 1]'hlt2], by omega, by omega, by go_num, by simp; omega, hown3', hb3, Hgo.out.symm⟩
                case measure => simp [intOf]; omega
          · have hv : R = none := by rw [← Hr.out, hdr, drop_end s (k + 1) (by omega), rdT_end _ _ _ h92]
            subst hv
            have hne : ((k : Int) + 1 == (s.size : Int)) = true := by simp; omega
            clear hdr h34 h92 hown
            go_wp2
            exact bodyPost_ret (v := .tuple #[.agg #[.bool false, .int .i64 0, .string ⟨#[]⟩], .int .i64 0, .int .i64 2]) (by simp [results, Tryd.results34, go_sem, hd0, hd1, hd2]) rfl ⟨rfl, ((hbw.setCell (Nat.le_refl _) _).setCell (Nat.le_refl _) _).setCell (Nat.le_refl _) _⟩
        · have g92 : (((s[k]'hlt).toNat : Int) == 92) = false := by simp; omega
          by_cases h60 : x.length = 60
          · have hv : R = none := by rw [← Hr.out, hdr, rdT_full _ _ _ _ h34 h92 h60]
            subst hv
            have g60 : ((x.length : Int) == 60) = true := by simp; omega
            clear hdr h34 h92 hown
            go_wp2
            exact bodyPost_ret (v := .tuple #[.agg #[.bool false, .int .i64 0, .string ⟨#[]⟩], .int .i64 0, .int .i64 2]) (by simp [results, Tryd.results34, go_sem, hd0, hd1, hd2]) rfl ⟨rfl, ((hbw.setCell (Nat.le_refl _) _).setCell (Nat.le_refl _) _).setCell (Nat.le_refl _) _⟩
          · have hgo := (hdr ▸ Hr.out.symm).trans (rdT_go _ _ _ _ h34 h92 h60)
            have g60 : ((x.length : Int) == 60) = false := by simp; omega
            have Hgo := Lib.hid hgo
            clear hdr h34 h92 hgo
            go_wp2_with (first | (at_builtin; refine wpList_append_own _ rfl (.tmp 42) (.tmp 46) 46 rfl w1.heap.size 5 i0 (.int .u8 0) 1 1 Tryd.underlying46 hi Hz0.out Hz1.out Hz2.out rfl (by decide) _ _ _ rfl (hown.alloc _) ⟨wr.heap.size, 0, none⟩ 1 1 [.int .u8 ((s[k]'hlt).toNat : Int)] rfl rfl (one_cell _ _) (one_ok _) ?c3a ?c4a ?c5a ?_))
            case c3a => unfold maxLen; omega
            case c4a => omega
            case c5a => simp; omega
            intro v3 w3 hown3 hgr3 _
            have hb3 : Below w1.heap.size w1 w3 := (hbel.alloc hsz _).grown hgr3 (by simp; omega) (own_base hown)
            have hown3' : w3.ownsRow w1.heap.size 5 1 v3 (x ++ [s[k]'hlt]).length ((x ++ [s[k]'hlt]).map byteV) := by simpa [byteV] using hown3
            clear hown hgr3 hown3 hbel hd0 hd1 hd2 hg0 hg1 hg2
            go_wp2
            go_roundw
            case rel => exact ⟨k + 1, x ++ [s[k]'hlt], by omega, by omega, by go_num, by simp; omega, hown3', hb3, Hgo.out.symm⟩
            case measure => simp [intOf]; omega
    · have hv : R = none := by rw [← Hr.out, drop_end s k (by omega)]; rfl
      subst hv
      have hlt' : (s.size : Int) ≤ k := by omega
      clear hlt hown
      go_wp2
      exact bodyPost_ret (v := .tuple #[.agg #[.bool false, .int .i64 0, .string ⟨#[]⟩], .int .i64 0, .int .i64 2]) (by simp [results, Tryd.results34, go_sem, hd0, hd1, hd2]) rfl ⟨rfl, ((hbw.setCell (Nat.le_refl _) _).setCell (Nat.le_refl _) _).setCell (Nat.le_refl _) _⟩
end Go.Proofs.YtkakldlfgnijdaaDoor
