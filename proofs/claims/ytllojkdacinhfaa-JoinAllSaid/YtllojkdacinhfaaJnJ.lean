/- Layer 9: what is looked at: a pattern with a short kind, few that wait; what is over plays no part. -/
import Derived.Test.YtllojkdacinhfaaJnH
namespace Go.Proofs.Ytllojkdacinhfaa.Jn
open Go.RowKit Go.Shelf Go.Proofs.Ytllojkdacinhfaa Go.Proofs.Ytllojkdacinhfaa.Ke
set_option linter.unusedVariables false
set_option linter.unusedSimpArgs false
def kd (k : ByteArray) : ByteArray := if 10 < k.size then k.extract 0 10 else k
set_option maxHeartbeats 2000000 in
theorem kind_any (k : ByteArray) (p n v : Int) (w : World) : Calls Try.prog 11 #[jV (k, p, n, v)] w fun e w' => e = .returned (jV (kd k, p, n, v)) ∧ Below w.heap.size w w' := by
  have HB := Lib.hid (jBelow w k p n v)
  unfold kd
  by_cases h : 10 < k.size
  · have h' : (10 : Int) < k.size := by omega
    rw [if_pos h]
    have hsh : ∀ W, (Instr.slice 9 (.string k) none (some (.int .i64 10)) none).run Try.prog W = .ok (.string (k.extract 0 10)) W := fun W => by
      have := run_slice_string_h (P := Try.prog) W 9 k Try.underlying9 .i64 10 (by omega) (by omega)
      rw [this]; rfl
    have HB2 := Lib.hid ((((jBelow w (k.extract 0 10) p n v).alloc (by simp) (.cells #[.string (k.extract 0 10), .int .i64 p, .int .i64 n, .int .i64 v] 23))))
    go_enter Try.func11, Try.ntmps11
    go_wp2
    refine bodyPost_ret (v := jV (k.extract 0 10, p, n, v)) (by simp [results, Try.results11, go_sem]) rfl ?_
    exact ⟨rfl, by first | exact HB2.out | (refine ⟨rfl, rfl, rfl, by simp; try omega, fun i hi => ?_⟩; simp [go_sem])⟩
  · have h' : ¬ (10 : Int) < k.size := by omega
    rw [if_neg h]
    have HB2 := Lib.hid ((((jBelow w k p n v).alloc (by simp) (.cells #[.string k, .int .i64 p, .int .i64 n, .int .i64 v] 23))))
    go_enter Try.func11, Try.ntmps11
    go_wp2
    refine bodyPost_ret (v := jV (k, p, n, v)) (by simp [results, Try.results11, go_sem]) rfl ?_
    exact ⟨rfl, by first | exact HB2.out | (refine ⟨rfl, rfl, rfl, by simp; try omega, fun i hi => ?_⟩; simp [go_sem])⟩
def fewK (X : List El) : List El := X.take 31
theorem fewK_len (X : List El) : (fewK X).length ≤ 31 := by unfold fewK; rw [List.length_take]; omega
theorem fewK_id {X : List El} (h : X.length ≤ 31) : fewK X = X := List.take_of_length_le h
set_option maxHeartbeats 2000000 in
theorem fewK_any (X : List El) (pa : Option Addr) (cap : Nat) (w : World) (hcap : X.length ≤ cap) (hR : Rd w pa X) (hn : pa = none → cap = 0) :
    Calls Try.prog 12 #[.slice pa X.length cap] w (ListPost (fewK X) w) := by
  have hb : Below w.heap.size w (w.alloc (.cells #[] 27)) := (Below.refl _ _).alloc (Nat.le_refl _) _
  have KB := Lib.hid hb
  have R0 := Lib.hid (hR.lift hb)
  have O0 := Lib.hid (emptyOwn w)
  have hle := KB.out.size
  by_cases h : 31 < X.length
  · have h' : (31 : Int) < X.length := by omega
    have hc : (31 : Int) ≤ cap := by omega
    have hlen : (fewK X).length = 31 := by unfold fewK; rw [List.length_take]; omega
    have R1 := Lib.hid (show Rd _ pa (fewK X) from R0.out.take 31)
    have hl2 : ([] : List El).length + (fewK X).length ≤ 8000 := by rw [hlen]; decide
    generalize fewK X = Y at *
    have HL := Lib.hid hlen
    clear hb hR R0 hlen
    go_enter Try.func12, Try.ntmps12
    go_wp2_with (first | (at_builtin; refine wpList_app rfl (.tmp 8) (.tmp 9) rfl w.heap.size _ [] Y rfl O0.out pa cap (by rw [HL.out]; rfl) R1.out hn hl2 hle ?_))
    intro v2 w2 o2 hb2
    have K2 := Lib.hid (KB.out.trans hb2)
    have O2 := Lib.hid o2
    clear o2 hb2
    go_wp2
    go_ret
    exact ⟨_, rfl, by simpa using O2.out, K2.out⟩
  · have h' : ¬ (31 : Int) < X.length := by omega
    have hid := fewK_id (X := X) (by omega)
    have hl2 : ([] : List El).length + X.length ≤ 8000 := by simp; omega
    rw [hid]
    clear hb hR hid
    go_enter Try.func12, Try.ntmps12
    go_wp2_with (first | (at_builtin; refine wpList_app rfl (.tmp 8) (.tmp 9) rfl w.heap.size _ [] X rfl O0.out pa cap rfl R0.out hn hl2 hle ?_))
    intro v2 w2 o2 hb2
    have K2 := Lib.hid (KB.out.trans hb2)
    have O2 := Lib.hid o2
    clear o2 hb2
    go_wp2
    go_ret
    exact ⟨_, rfl, by simpa using O2.out, K2.out⟩
theorem lsPl_drop {α : Type} (p : α → Bool) : ∀ X : List α, lsPl p (X.drop (lsPl p X)) = 0
  | [] => rfl
  | x :: r => by
    by_cases hx : p x = true
    · have e : lsPl p (x :: r) = 0 := by unfold lsPl; rw [if_pos hx]
      rw [e, List.drop_zero, e]
    · have e : lsPl p (x :: r) = lsPl p r + 1 := by rw [lsPl, if_neg hx]
      rw [e, List.drop_succ_cons]
      exact lsPl_drop p r
theorem late_drop {X : List El} {t : Int} (h : lateB X t = false) (q : Nat) : lateB (X.drop q) t = false := by
  by_cases hq : q < X.length
  · unfold lateB at h ⊢
    have e : (X.drop q)[(X.drop q).length - 1]? = X[X.length - 1]? := by
      rw [List.getElem?_drop, List.length_drop]
      congr 1
      omega
    rw [e]
    have h1 : decide (0 < X.length) = true := by simp; omega
    have h2 : decide (0 < (X.drop q).length) = true := by simp; omega
    rw [h1] at h
    rw [h2]
    exact h
  · rw [List.drop_eq_nil_of_le (by omega)]
    rfl
theorem has_drop {X : List El} {i : Int} (h : hasB X i = false) (q : Nat) : hasB (X.drop q) i = false := by
  unfold hasB at h ⊢
  rw [List.any_eq_false] at h ⊢
  intro x hx
  exact h x (List.mem_of_mem_drop hx)
/-- What is over, taken away first, plays no part. -/
theorem late_same {k : ByteArray} {p n v : Int} {X : List El} {x : El} (hf : (feedD k p n v X x).2.2.2 = 0) (hc : checkB k p n v (expD k p n v X x.2.2).1 = true) :
    feedD k p n v (expD k p n v X x.2.2).1 x = ((feedD k p n v X x).1, (feedD k p n v X x).2.1, [], 0) ∧ (feedD k p n v X x).2.2.1 = (expD k p n v X x.2.2).2.1 := by
  cases h1 : checkB k p n v X && keptB p x
  · unfold feedD at hf; rw [h1] at hf; simp at hf
  · have h1' := h1
    rw [Bool.and_eq_true] at h1'
    cases h2 : lateB X x.2.2
    · cases h3 : hasB X x.2.1
      · have hk2 : timeB x.2.2 = true := by
          have := h1'.2; unfold keptB at this; simp only [Bool.and_eq_true] at this; exact this.2.2
        have hE : expD k p n v X x.2.2 = (X.drop (lsPl (stillB v x.2.2) X), X.take (lsPl (stillB v x.2.2) X), 0) := by unfold expD; simp [h1'.1, hk2, h2]
        have hF : feedD k p n v X x = feedT k p n (X.drop (lsPl (stillB v x.2.2) X) ++ [x]) (X.take (lsPl (stillB v x.2.2) X)) := by unfold feedD; simp [h1'.1, h1'.2, h2, h3]
        rw [hE] at hc ⊢
        simp only at hc ⊢
        have hF2 : feedD k p n v (X.drop (lsPl (stillB v x.2.2) X)) x = feedT k p n (X.drop (lsPl (stillB v x.2.2) X) ++ [x]) [] := by
          unfold feedD
          simp [hc, h1'.2, late_drop h2, has_drop h3, lsPl_drop]
        rw [hF] at hf ⊢
        rw [hF2]
        unfold feedT at hf ⊢
        split at hf
        · simp at hf
        · rename_i hne
          rw [if_neg hne, if_neg hne]
          exact ⟨rfl, rfl⟩
      · unfold feedD at hf; rw [h1, h2, h3] at hf; simp at hf
    · unfold feedD at hf; rw [h1, h2] at hf; simp at hf
end Go.Proofs.Ytllojkdacinhfaa.Jn
