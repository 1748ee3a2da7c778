/- A part of a way to reckon what a Go program does without its memory (D2). -/
import Derived.Test.YtgbfjihcfeolaaaD1
import Derived.Test.YtgbfjihcfeolaaaShelf
namespace Go.Av
open Go
set_option autoImplicit false
set_option linter.all false
theorem repSays : RepeatSays AP n_strings_Repeat := fun s c w h1 h2 => Go.Proofs.Try.strings_Repeat s c w h1 h2
theorem joinNone : JoinNone AP n_strings_Join := fun a c sep w => Go.Proofs.Try.strings_Join_none a c sep w
theorem joinSays : JoinSays AP n_strings_Join := fun bk o c xs sep w h1 h2 h3 h4 h5 => Go.Proofs.Try.strings_Join bk o c xs sep w h1 h2 h3 h4 h5
def zs : List UInt8 := List.replicate 64 0
theorem zs_len : zs.length = 64 := by simp [zs]
/-- No drive. -/
def d0 : Dr := ([], [], 0, false)
def newD (n : Int) : Dr × Int := if cntB n then ((List.replicate n.toNat zs, [], -1, false), 0) else (d0, 1)
theorem s_New {n : Int} {H : List Entry} : Pure AP n_disk_New [.int .i64 n] H (.tup [drV (newD n).1, .int .i64 (newD n).2]) := by
  intro K hK
  refine a_disk_New fun hw => ?_
  simp (disch := first | omega | (simp only [go_sem, List.length_append, List.length_take, List.length_drop, List.length_replicate, List.length_cons, List.length_nil, List.length_replicate] <;> omega)) only [go_sem, Nat.reduceAdd, Nat.reduceSub, Nat.reduceMul, Nat.reduceEqDiff, Nat.reduceLeDiff, Nat.reduceLT, Nat.reduceBEq, Int.reduceAdd, Int.reduceSub, Int.reduceMul, Int.reduceNeg, Int.reduceLT, Int.reduceLE, Int.reduceEq, Int.reduceToNat, c_disk_New]
  refine s_isCount _ ?_
  cases hc : cntB n
  · simp (disch := first | omega | (simp only [go_sem, List.length_append, List.length_take, List.length_drop, List.length_replicate, List.length_cons, List.length_nil, List.length_replicate] <;> omega)) only [go_sem, Nat.reduceAdd, Nat.reduceSub, Nat.reduceMul, Nat.reduceEqDiff, Nat.reduceLeDiff, Nat.reduceLT, Nat.reduceBEq, Int.reduceAdd, Int.reduceSub, Int.reduceMul, Int.reduceNeg, Int.reduceLT, Int.reduceLE, Int.reduceEq, Int.reduceToNat]
    refine end_less [.agg [.sl 1 [], .sl 2 [], .int .i64 0, .bool false], .int .i64 1] (by repeat' (first | exact .nil _ | exact .slx _ _ | exact .refl _ | exact .nil | refine .cons ?_ ?_ | refine .agg ?_ | refine .tup ?_)) ?_
    refine fin_res hw ?_ (fin_eq hK ?_)
    · simp (disch := first | omega | (simp only [go_sem, List.length_append, List.length_take, List.length_drop, List.length_replicate, List.length_cons, List.length_nil, List.length_replicate] <;> omega)) only [go_sem, Nat.reduceAdd, Nat.reduceSub, Nat.reduceMul, Nat.reduceEqDiff, Nat.reduceLeDiff, Nat.reduceLT, Nat.reduceBEq, Int.reduceAdd, Int.reduceSub, Int.reduceMul, Int.reduceNeg, Int.reduceLT, Int.reduceLE, Int.reduceEq, Int.reduceToNat]
    · simp [newD, hc, drV, d0, oneV]
  · simp (disch := first | omega | (simp only [go_sem, List.length_append, List.length_take, List.length_drop, List.length_replicate, List.length_cons, List.length_nil, List.length_replicate] <;> omega)) only [go_sem, Nat.reduceAdd, Nat.reduceSub, Nat.reduceMul, Nat.reduceEqDiff, Nat.reduceLeDiff, Nat.reduceLT, Nat.reduceBEq, Int.reduceAdd, Int.reduceSub, Int.reduceMul, Int.reduceNeg, Int.reduceLT, Int.reduceLE, Int.reduceEq, Int.reduceToNat]
    have hn : 1 ≤ n ∧ n ≤ 6000 := by simpa [cntB] using hc
    refine s_repeat (by kernel_rfl) repSays (by omega) (by omega) (by simp) _ ?_
    have hz : Lib.repeatL [0] 64 = zs := by decide +kernel
    simp (disch := first | omega | (simp only [go_sem, List.length_append, List.length_take, List.length_drop, List.length_replicate, List.length_cons, List.length_nil, List.length_replicate] <;> omega)) only [go_sem, Nat.reduceAdd, Nat.reduceSub, Nat.reduceMul, Nat.reduceEqDiff, Nat.reduceLeDiff, Nat.reduceLT, Nat.reduceBEq, Int.reduceAdd, Int.reduceSub, Int.reduceMul, Int.reduceNeg, Int.reduceLT, Int.reduceLE, Int.reduceEq, Int.reduceToNat, hz]
    obtain ⟨m, rfl⟩ : ∃ m : Nat, n = m := ⟨n.toNat, by omega⟩
    refine s_RepS (by omega) (by omega) _ ?_
    simp (disch := first | omega | (simp only [go_sem, List.length_append, List.length_take, List.length_drop, List.length_replicate, List.length_cons, List.length_nil, List.length_replicate] <;> omega)) only [go_sem, Nat.reduceAdd, Nat.reduceSub, Nat.reduceMul, Nat.reduceEqDiff, Nat.reduceLeDiff, Nat.reduceLT, Nat.reduceBEq, Int.reduceAdd, Int.reduceSub, Int.reduceMul, Int.reduceNeg, Int.reduceLT, Int.reduceLE, Int.reduceEq, Int.reduceToNat]
    refine end_less [.agg [.sl 1 (List.replicate m (.str zs)), .sl 2 [], .int .i64 (-1), .bool false], .int .i64 0] (by repeat' (first | exact .nil _ | exact .slx _ _ | exact .refl _ | exact .nil | refine .cons ?_ ?_ | refine .agg ?_ | refine .tup ?_)) ?_
    refine fin_res hw ?_ (fin_eq hK ?_)
    · simp (disch := first | omega | (simp only [go_sem, List.length_append, List.length_take, List.length_drop, List.length_replicate, List.length_cons, List.length_nil, List.length_replicate] <;> omega)) only [go_sem, Nat.reduceAdd, Nat.reduceSub, Nat.reduceMul, Nat.reduceEqDiff, Nat.reduceLeDiff, Nat.reduceLT, Nat.reduceBEq, Int.reduceAdd, Int.reduceSub, Int.reduceMul, Int.reduceNeg, Int.reduceLT, Int.reduceLE, Int.reduceEq, Int.reduceToNat]
    · simp [newD, hc, drV, oneV, sV]
end Go.Av
namespace Go.Av
open Go
set_option autoImplicit false
set_option linter.all false
theorem s_CloneW {xs : List V} {H : List Entry} {K : KV} (hx : xs.length ≤ 1000000) (hK : K (.own H.length xs.length) (H ++ [.row 53 2 xs])) : BCall AP n_slices_Clone_api_Wait_api_Wait [.sl 2 xs] H K := by
  refine a_slices_Clone_api_Wait_api_Wait fun hw => ?_
  cases xs with
  | nil =>
    simp (disch := first | omega | (simp only [go_sem, List.length_append, List.length_take, List.length_drop, List.length_replicate, List.length_cons, List.length_nil, List.length_replicate] <;> omega)) only [go_sem, Nat.reduceAdd, Nat.reduceSub, Nat.reduceMul, Nat.reduceEqDiff, Nat.reduceLeDiff, Nat.reduceLT, Nat.reduceBEq, Int.reduceAdd, Int.reduceSub, Int.reduceMul, Int.reduceNeg, Int.reduceLT, Int.reduceLE, Int.reduceEq, Int.reduceToNat, c_slices_Clone_api_Wait_api_Wait]
    intro c
    cases c
    · simp (disch := first | omega | (simp only [go_sem, List.length_append, List.length_take, List.length_drop, List.length_replicate, List.length_cons, List.length_nil, List.length_replicate] <;> omega)) only [go_sem, Nat.reduceAdd, Nat.reduceSub, Nat.reduceMul, Nat.reduceEqDiff, Nat.reduceLeDiff, Nat.reduceLT, Nat.reduceBEq, Int.reduceAdd, Int.reduceSub, Int.reduceMul, Int.reduceNeg, Int.reduceLT, Int.reduceLE, Int.reduceEq, Int.reduceToNat]
      refine fin_all ?_
      simp (disch := first | omega | (simp only [go_sem, List.length_append, List.length_take, List.length_drop, List.length_replicate, List.length_cons, List.length_nil, List.length_replicate] <;> omega)) only [go_sem, Nat.reduceAdd, Nat.reduceSub, Nat.reduceMul, Nat.reduceEqDiff, Nat.reduceLeDiff, Nat.reduceLT, Nat.reduceBEq, Int.reduceAdd, Int.reduceSub, Int.reduceMul, Int.reduceNeg, Int.reduceLT, Int.reduceLE, Int.reduceEq, Int.reduceToNat]
      simpa using hK
    · simp (disch := first | omega | (simp only [go_sem, List.length_append, List.length_take, List.length_drop, List.length_replicate, List.length_cons, List.length_nil, List.length_replicate] <;> omega)) only [go_sem, Nat.reduceAdd, Nat.reduceSub, Nat.reduceMul, Nat.reduceEqDiff, Nat.reduceLeDiff, Nat.reduceLT, Nat.reduceBEq, Int.reduceAdd, Int.reduceSub, Int.reduceMul, Int.reduceNeg, Int.reduceLT, Int.reduceLE, Int.reduceEq, Int.reduceToNat]
      refine wk_adopt 2 53 2 (by simp (disch := first | omega | (simp only [go_sem, List.length_append, List.length_take, List.length_drop, List.length_replicate, List.length_cons, List.length_nil, List.length_replicate] <;> omega)) only [go_sem, Nat.reduceAdd, Nat.reduceSub, Nat.reduceMul, Nat.reduceEqDiff, Nat.reduceLeDiff, Nat.reduceLT, Nat.reduceBEq, Int.reduceAdd, Int.reduceSub, Int.reduceMul, Int.reduceNeg, Int.reduceLT, Int.reduceLE, Int.reduceEq, Int.reduceToNat]) (fin_all ?_)
      simp (disch := first | omega | (simp only [go_sem, List.length_append, List.length_take, List.length_drop, List.length_replicate, List.length_cons, List.length_nil, List.length_replicate] <;> omega)) only [go_sem, Nat.reduceAdd, Nat.reduceSub, Nat.reduceMul, Nat.reduceEqDiff, Nat.reduceLeDiff, Nat.reduceLT, Nat.reduceBEq, Int.reduceAdd, Int.reduceSub, Int.reduceMul, Int.reduceNeg, Int.reduceLT, Int.reduceLE, Int.reduceEq, Int.reduceToNat]
      simpa using hK
  | cons x xs =>
    simp only [List.length_cons] at hx
    simp (disch := first | omega | (simp only [go_sem, List.length_append, List.length_take, List.length_drop, List.length_replicate, List.length_cons, List.length_nil, List.length_replicate] <;> omega)) only [go_sem, Nat.reduceAdd, Nat.reduceSub, Nat.reduceMul, Nat.reduceEqDiff, Nat.reduceLeDiff, Nat.reduceLT, Nat.reduceBEq, Int.reduceAdd, Int.reduceSub, Int.reduceMul, Int.reduceNeg, Int.reduceLT, Int.reduceLE, Int.reduceEq, Int.reduceToNat, c_slices_Clone_api_Wait_api_Wait]
    refine fin_all ?_
    simp (disch := first | omega | (simp only [go_sem, List.length_append, List.length_take, List.length_drop, List.length_replicate, List.length_cons, List.length_nil, List.length_replicate] <;> omega)) only [go_sem, Nat.reduceAdd, Nat.reduceSub, Nat.reduceMul, Nat.reduceEqDiff, Nat.reduceLeDiff, Nat.reduceLT, Nat.reduceBEq, Int.reduceAdd, Int.reduceSub, Int.reduceMul, Int.reduceNeg, Int.reduceLT, Int.reduceLE, Int.reduceEq, Int.reduceToNat]
    simpa using hK
def primClone (args : List V) (H : List Entry) : R2 :=
  match args with
  | [.sl m xs] => gu (Nat.beq m 2 && decide (xs.length ≤ 1000000)) (some (.own H.length xs.length, H ++ [.row 53 2 xs]))
  | [.nilsl] => some (.own H.length 0, H ++ [.row 53 2 []])
  | _ => none
theorem primClone_ok : PrimOk AP n_slices_Clone_api_Wait_api_Wait primClone := by
  intro args H v H' h K hK
  unfold primClone at h
  split at h
  · obtain ⟨h1, h2⟩ := gu_some h
    cases h2
    simp only [Bool.and_eq_true, Nat.beq_eq, decide_eq_true_eq] at h1
    rw [h1.1]
    exact s_CloneW h1.2 hK
  · cases h
    exact bcall_less (s_CloneW (xs := []) (by simp) hK) (.cons (.nil 2) .nil)
  · cases h
def primRep (args : List V) (H : List Entry) : R2 :=
  match args with
  | [.slx m [.str c], .int .i64 n] => gu (Nat.beq m 1 && (decide (1 ≤ n) && decide (n ≤ 1000000))) (some (.sl 1 (List.replicate n.toNat (.str c)), H))
  | _ => none
theorem primRep_ok : PrimOk AP n_slices_Repeat_string_string primRep := by
  intro args H v H' h K hK
  unfold primRep at h
  split at h
  · rename_i m c n
    obtain ⟨h1, h2⟩ := gu_some h
    cases h2
    simp only [Bool.and_eq_true, Nat.beq_eq, decide_eq_true_eq] at h1
    obtain ⟨rfl, h2, h3⟩ := h1
    have := s_RepS (c := c) (n := n.toNat) (H := H) (by omega) (by omega) K hK
    rwa [Int.toNat_of_nonneg (by omega)] at this
  · cases h
def prims : Prims := [(n_strings_Repeat, primRepeat), (n_strings_Join, primJoin), (n_slices_Clone_api_Wait_api_Wait, primClone), (n_slices_Repeat_string_string, primRep)]
theorem primsOk : PrimsOk AP prims := ⟨primRepeat_ok (by kernel_rfl) repSays, primJoin_ok (by kernel_rfl) joinNone joinSays, primClone_ok, primRep_ok, trivial⟩
theorem r_Blank (H : List Entry) : Pure AP n_trystref17_Blank [.int .i64 1] H (.str zs) := run_known primsOk tabOk (fun _ => false) (n := 10) (by kernel_rfl) rfl rfl H
/-- What a write, or a flush, burns. -/
def burnF (f : Int) (o : Bool) : Bool × Int × Bool := if o = true ∨ f = 0 then (false, f, true) else if 0 < f then (true, f - 1, o) else (true, f, o)
theorem s_burn {g : Nat} {a b : V} {f : Int} {o : Bool} {H : List Entry} {K : KV} (hg : H[g]? = some (.box [a, b, .int .i64 f, .bool o])) (hf : -9223372036854775807 ≤ f ∧ f ≤ 9223372036854775807) (hK : K (.bool (burnF f o).1) (H.set g (.box [a, b, .int .i64 (burnF f o).2.1, .bool (burnF f o).2.2]))) : BCall AP n_disk_burn [.ptr g 0] H K := by
  have hs := set_same hg
  refine a_disk_burn fun hw => ?_
  simp (disch := first | omega | (simp only [go_sem, List.length_append, List.length_take, List.length_drop, List.length_replicate, List.length_cons, List.length_nil, List.length_replicate] <;> omega)) only [go_sem, Nat.reduceAdd, Nat.reduceSub, Nat.reduceMul, Nat.reduceEqDiff, Nat.reduceLeDiff, Nat.reduceLT, Nat.reduceBEq, Int.reduceAdd, Int.reduceSub, Int.reduceMul, Int.reduceNeg, Int.reduceLT, Int.reduceLE, Int.reduceEq, Int.reduceToNat, c_disk_burn, hg]
  cases o
  · by_cases h : f = 0
    · simp (disch := first | omega | (simp only [go_sem, List.length_append, List.length_take, List.length_drop, List.length_replicate, List.length_cons, List.length_nil, List.length_replicate] <;> omega)) only [go_sem, Nat.reduceAdd, Nat.reduceSub, Nat.reduceMul, Nat.reduceEqDiff, Nat.reduceLeDiff, Nat.reduceLT, Nat.reduceBEq, Int.reduceAdd, Int.reduceSub, Int.reduceMul, Int.reduceNeg, Int.reduceLT, Int.reduceLE, Int.reduceEq, Int.reduceToNat, hg, h]
      refine fin_all ?_
      simp (disch := first | omega | (simp only [go_sem, List.length_append, List.length_take, List.length_drop, List.length_replicate, List.length_cons, List.length_nil, List.length_replicate] <;> omega)) only [go_sem, Nat.reduceAdd, Nat.reduceSub, Nat.reduceMul, Nat.reduceEqDiff, Nat.reduceLeDiff, Nat.reduceLT, Nat.reduceBEq, Int.reduceAdd, Int.reduceSub, Int.reduceMul, Int.reduceNeg, Int.reduceLT, Int.reduceLE, Int.reduceEq, Int.reduceToNat]
      simpa [burnF, h] using hK
    · by_cases h2 : 0 < f
      · simp (disch := first | omega | (simp only [go_sem, List.length_append, List.length_take, List.length_drop, List.length_replicate, List.length_cons, List.length_nil, List.length_replicate] <;> omega)) only [go_sem, Nat.reduceAdd, Nat.reduceSub, Nat.reduceMul, Nat.reduceEqDiff, Nat.reduceLeDiff, Nat.reduceLT, Nat.reduceBEq, Int.reduceAdd, Int.reduceSub, Int.reduceMul, Int.reduceNeg, Int.reduceLT, Int.reduceLE, Int.reduceEq, Int.reduceToNat, hg, h]
        refine fin_all ?_
        simp (disch := first | omega | (simp only [go_sem, List.length_append, List.length_take, List.length_drop, List.length_replicate, List.length_cons, List.length_nil, List.length_replicate] <;> omega)) only [go_sem, Nat.reduceAdd, Nat.reduceSub, Nat.reduceMul, Nat.reduceEqDiff, Nat.reduceLeDiff, Nat.reduceLT, Nat.reduceBEq, Int.reduceAdd, Int.reduceSub, Int.reduceMul, Int.reduceNeg, Int.reduceLT, Int.reduceLE, Int.reduceEq, Int.reduceToNat]
        simpa [burnF, h, h2] using hK
      · simp (disch := first | omega | (simp only [go_sem, List.length_append, List.length_take, List.length_drop, List.length_replicate, List.length_cons, List.length_nil, List.length_replicate] <;> omega)) only [go_sem, Nat.reduceAdd, Nat.reduceSub, Nat.reduceMul, Nat.reduceEqDiff, Nat.reduceLeDiff, Nat.reduceLT, Nat.reduceBEq, Int.reduceAdd, Int.reduceSub, Int.reduceMul, Int.reduceNeg, Int.reduceLT, Int.reduceLE, Int.reduceEq, Int.reduceToNat, hg, h]
        refine fin_all ?_
        simp (disch := first | omega | (simp only [go_sem, List.length_append, List.length_take, List.length_drop, List.length_replicate, List.length_cons, List.length_nil, List.length_replicate] <;> omega)) only [go_sem, Nat.reduceAdd, Nat.reduceSub, Nat.reduceMul, Nat.reduceEqDiff, Nat.reduceLeDiff, Nat.reduceLT, Nat.reduceBEq, Int.reduceAdd, Int.reduceSub, Int.reduceMul, Int.reduceNeg, Int.reduceLT, Int.reduceLE, Int.reduceEq, Int.reduceToNat]
        simpa [burnF, h, h2, hs] using hK
  · simp (disch := first | omega | (simp only [go_sem, List.length_append, List.length_take, List.length_drop, List.length_replicate, List.length_cons, List.length_nil, List.length_replicate] <;> omega)) only [go_sem, Nat.reduceAdd, Nat.reduceSub, Nat.reduceMul, Nat.reduceEqDiff, Nat.reduceLeDiff, Nat.reduceLT, Nat.reduceBEq, Int.reduceAdd, Int.reduceSub, Int.reduceMul, Int.reduceNeg, Int.reduceLT, Int.reduceLE, Int.reduceEq, Int.reduceToNat, hg]
    refine fin_all ?_
    simp (disch := first | omega | (simp only [go_sem, List.length_append, List.length_take, List.length_drop, List.length_replicate, List.length_cons, List.length_nil, List.length_replicate] <;> omega)) only [go_sem, Nat.reduceAdd, Nat.reduceSub, Nat.reduceMul, Nat.reduceEqDiff, Nat.reduceLeDiff, Nat.reduceLT, Nat.reduceBEq, Int.reduceAdd, Int.reduceSub, Int.reduceMul, Int.reduceNeg, Int.reduceLT, Int.reduceLE, Int.reduceEq, Int.reduceToNat]
    simpa [burnF] using hK
def burnD (d : Dr) : Dr := (d.1, d.2.1, (burnF d.2.2.1 d.2.2.2).2.1, (burnF d.2.2.1 d.2.2.2).2.2)
def burnO (d : Dr) : Bool := (burnF d.2.2.1 d.2.2.2).1
theorem r_burns {d : Dr} {H : List Entry} (hf : -9223372036854775807 ≤ d.2.2.1 ∧ d.2.2.1 ≤ 9223372036854775807) : Pure AP n_trystref17_burns [drV d] H (.tup [drV (burnD d), .bool (burnO d)]) := by
  intro K hK
  refine a_trystref17_burns fun hw => ?_
  obtain ⟨a, b, f, o⟩ := d
  simp only at hf
  simp (disch := first | omega | (simp only [go_sem, List.length_append, List.length_take, List.length_drop, List.length_replicate, List.length_cons, List.length_nil, List.length_replicate] <;> omega)) only [go_sem, Nat.reduceAdd, Nat.reduceSub, Nat.reduceMul, Nat.reduceEqDiff, Nat.reduceLeDiff, Nat.reduceLT, Nat.reduceBEq, Int.reduceAdd, Int.reduceSub, Int.reduceMul, Int.reduceNeg, Int.reduceLT, Int.reduceLE, Int.reduceEq, Int.reduceToNat, c_trystref17_burns]
  cases o
  · by_cases h : f = 0
    · simp (disch := first | omega | (simp only [go_sem, List.length_append, List.length_take, List.length_drop, List.length_replicate, List.length_cons, List.length_nil, List.length_replicate] <;> omega)) only [go_sem, Nat.reduceAdd, Nat.reduceSub, Nat.reduceMul, Nat.reduceEqDiff, Nat.reduceLeDiff, Nat.reduceLT, Nat.reduceBEq, Int.reduceAdd, Int.reduceSub, Int.reduceMul, Int.reduceNeg, Int.reduceLT, Int.reduceLE, Int.reduceEq, Int.reduceToNat, h]
      refine fin_res hw ?_ (fin_eq hK ?_)
      · simp (disch := first | omega | (simp only [go_sem, List.length_append, List.length_take, List.length_drop, List.length_replicate, List.length_cons, List.length_nil, List.length_replicate] <;> omega)) only [go_sem, Nat.reduceAdd, Nat.reduceSub, Nat.reduceMul, Nat.reduceEqDiff, Nat.reduceLeDiff, Nat.reduceLT, Nat.reduceBEq, Int.reduceAdd, Int.reduceSub, Int.reduceMul, Int.reduceNeg, Int.reduceLT, Int.reduceLE, Int.reduceEq, Int.reduceToNat]
      · simp [burnD, burnO, burnF, h, drV, oneV]
    · by_cases h2 : 0 < f
      · simp (disch := first | omega | (simp only [go_sem, List.length_append, List.length_take, List.length_drop, List.length_replicate, List.length_cons, List.length_nil, List.length_replicate] <;> omega)) only [go_sem, Nat.reduceAdd, Nat.reduceSub, Nat.reduceMul, Nat.reduceEqDiff, Nat.reduceLeDiff, Nat.reduceLT, Nat.reduceBEq, Int.reduceAdd, Int.reduceSub, Int.reduceMul, Int.reduceNeg, Int.reduceLT, Int.reduceLE, Int.reduceEq, Int.reduceToNat, h]
        refine fin_res hw ?_ (fin_eq hK ?_)
        · simp (disch := first | omega | (simp only [go_sem, List.length_append, List.length_take, List.length_drop, List.length_replicate, List.length_cons, List.length_nil, List.length_replicate] <;> omega)) only [go_sem, Nat.reduceAdd, Nat.reduceSub, Nat.reduceMul, Nat.reduceEqDiff, Nat.reduceLeDiff, Nat.reduceLT, Nat.reduceBEq, Int.reduceAdd, Int.reduceSub, Int.reduceMul, Int.reduceNeg, Int.reduceLT, Int.reduceLE, Int.reduceEq, Int.reduceToNat]
        · simp [burnD, burnO, burnF, h, h2, drV, oneV]
      · simp (disch := first | omega | (simp only [go_sem, List.length_append, List.length_take, List.length_drop, List.length_replicate, List.length_cons, List.length_nil, List.length_replicate] <;> omega)) only [go_sem, Nat.reduceAdd, Nat.reduceSub, Nat.reduceMul, Nat.reduceEqDiff, Nat.reduceLeDiff, Nat.reduceLT, Nat.reduceBEq, Int.reduceAdd, Int.reduceSub, Int.reduceMul, Int.reduceNeg, Int.reduceLT, Int.reduceLE, Int.reduceEq, Int.reduceToNat, h]
        refine fin_res hw ?_ (fin_eq hK ?_)
        · simp (disch := first | omega | (simp only [go_sem, List.length_append, List.length_take, List.length_drop, List.length_replicate, List.length_cons, List.length_nil, List.length_replicate] <;> omega)) only [go_sem, Nat.reduceAdd, Nat.reduceSub, Nat.reduceMul, Nat.reduceEqDiff, Nat.reduceLeDiff, Nat.reduceLT, Nat.reduceBEq, Int.reduceAdd, Int.reduceSub, Int.reduceMul, Int.reduceNeg, Int.reduceLT, Int.reduceLE, Int.reduceEq, Int.reduceToNat]
        · simp [burnD, burnO, burnF, h, h2, drV, oneV]
  · simp (disch := first | omega | (simp only [go_sem, List.length_append, List.length_take, List.length_drop, List.length_replicate, List.length_cons, List.length_nil, List.length_replicate] <;> omega)) only [go_sem, Nat.reduceAdd, Nat.reduceSub, Nat.reduceMul, Nat.reduceEqDiff, Nat.reduceLeDiff, Nat.reduceLT, Nat.reduceBEq, Int.reduceAdd, Int.reduceSub, Int.reduceMul, Int.reduceNeg, Int.reduceLT, Int.reduceLE, Int.reduceEq, Int.reduceToNat]
    refine fin_res hw ?_ (fin_eq hK ?_)
    · simp (disch := first | omega | (simp only [go_sem, List.length_append, List.length_take, List.length_drop, List.length_replicate, List.length_cons, List.length_nil, List.length_replicate] <;> omega)) only [go_sem, Nat.reduceAdd, Nat.reduceSub, Nat.reduceMul, Nat.reduceEqDiff, Nat.reduceLeDiff, Nat.reduceLT, Nat.reduceBEq, Int.reduceAdd, Int.reduceSub, Int.reduceMul, Int.reduceNeg, Int.reduceLT, Int.reduceLE, Int.reduceEq, Int.reduceToNat]
    · simp [burnD, burnO, burnF, drV, oneV]
def zl (n : Nat) : List V := (List.replicate n zs).map sV
theorem zl_len (n : Nat) : (zl n).length = n := by simp [zl]
theorem zl_app (n : Nat) : zl n ++ [.str zs] = zl (n + 1) := by simp [zl, List.replicate_succ', sV]
theorem zl_zero : zl 0 = [] := rfl
theorem r_New {n : Nat} {H : List Entry} (hn : n ≤ 6000) : Pure AP n_trystref17_New [.int .i64 (n : Int)] H (drV (List.replicate n zs, [], -1, false)) := by
  intro K hK
  refine a_trystref17_New fun hw => ?_
  simp (disch := first | omega | (simp only [go_sem, List.length_append, List.length_take, List.length_drop, List.length_replicate, List.length_cons, List.length_nil, List.length_replicate] <;> omega)) only [go_sem, Nat.reduceAdd, Nat.reduceSub, Nat.reduceMul, Nat.reduceEqDiff, Nat.reduceLeDiff, Nat.reduceLT, Nat.reduceBEq, Int.reduceAdd, Int.reduceSub, Int.reduceMul, Int.reduceNeg, Int.reduceLT, Int.reduceLE, Int.reduceEq, Int.reduceToNat, c_trystref17_New]
  refine loop_adoptB (H := H) (t := [_, _]) 1 0 9 1 rfl rfl ?_
  simp (disch := first | omega | (simp only [go_sem, List.length_append, List.length_take, List.length_drop, List.length_replicate, List.length_cons, List.length_nil, List.length_replicate] <;> omega)) only [go_sem, Nat.reduceAdd, Nat.reduceSub, Nat.reduceMul, Nat.reduceEqDiff, Nat.reduceLeDiff, Nat.reduceLT, Nat.reduceBEq, Int.reduceAdd, Int.reduceSub, Int.reduceMul, Int.reduceNeg, Int.reduceLT, Int.reduceLE, Int.reduceEq, Int.reduceToNat]
  refine loop_in (fun m e H' => ∃ i : Nat, m = n - i ∧ e = slots 0 18 [(0, .int .i64 (n : Int)), (2, .ptr H.length 0), (3, .ptr (H.length + 1) 0), (4, .int .i64 (i : Int))] ∧ H' = H ++ [.box [.nilsl, .nilsl, .int .i64 0, .bool false], .box [.own (H.length + 2) i, .nilsl, .int .i64 (-1), .bool false], .row 9 1 (zl i)] ∧ i ≤ n) (n := n) ⟨0, rfl, rfl, rfl, by omega⟩ (by first | omega | (simp only [go_sem, List.length_append, List.length_take, List.length_drop, List.length_replicate, Nat.reduceAdd, Nat.reduceSub, Nat.reduceMul, Nat.reduceEqDiff, Nat.reduceLeDiff, Nat.reduceLT, Nat.reduceBEq, Int.reduceAdd, Int.reduceSub, Int.reduceMul, Int.reduceNeg, Int.reduceLT, Int.reduceLE, Int.reduceEq, Int.reduceToNat] <;> omega)) ?_ ?_ ?_
  · simp (disch := (simp only [go_sem, Nat.reduceAdd, Nat.reduceSub, Nat.reduceMul, Nat.reduceEqDiff, Nat.reduceLeDiff, Nat.reduceLT, Nat.reduceBEq, Int.reduceAdd, Int.reduceSub, Int.reduceMul, Int.reduceNeg, Int.reduceLT, Int.reduceLE, Int.reduceEq, Int.reduceToNat] <;> omega)) only [go_sem, x_eLeS, x_hLeS, Int.natCast_zero, Int.natCast_add, Int.natCast_one, Nat.reduceAdd, Nat.reduceSub, Nat.reduceMul, Nat.reduceEqDiff, Nat.reduceLeDiff, Nat.reduceLT, Nat.reduceBEq, Int.reduceAdd, Int.reduceSub, Int.reduceMul, Int.reduceNeg, Int.reduceLT, Int.reduceLE, Int.reduceEq, Int.reduceToNat]
  · rw [zl_zero]
    exact hLe_app hw (by first | omega | (simp only [go_sem, List.length_append, List.length_take, List.length_drop, List.length_replicate, Nat.reduceAdd, Nat.reduceSub, Nat.reduceMul, Nat.reduceEqDiff, Nat.reduceLeDiff, Nat.reduceLT, Nat.reduceBEq, Int.reduceAdd, Int.reduceSub, Int.reduceMul, Int.reduceNeg, Int.reduceLT, Int.reduceLE, Int.reduceEq, Int.reduceToNat] <;> omega)) (by simp (disch := (simp only [go_sem, Nat.reduceAdd, Nat.reduceSub, Nat.reduceMul, Nat.reduceEqDiff, Nat.reduceLeDiff, Nat.reduceLT, Nat.reduceBEq, Int.reduceAdd, Int.reduceSub, Int.reduceMul, Int.reduceNeg, Int.reduceLT, Int.reduceLE, Int.reduceEq, Int.reduceToNat] <;> omega)) only [go_sem, x_eLeS, x_hLeS, Int.natCast_zero, Int.natCast_add, Int.natCast_one, Nat.reduceAdd, Nat.reduceSub, Nat.reduceMul, Nat.reduceEqDiff, Nat.reduceLeDiff, Nat.reduceLT, Nat.reduceBEq, Int.reduceAdd, Int.reduceSub, Int.reduceMul, Int.reduceNeg, Int.reduceLT, Int.reduceLE, Int.reduceEq, Int.reduceToNat])
  · rintro J hJ m e H' ⟨i, rfl, rfl, rfl, hi⟩
    have hl := zl_len i
    simp (disch := first | omega | (simp only [go_sem, List.length_append, List.length_take, List.length_drop, List.length_replicate, List.length_cons, List.length_nil, List.length_replicate] <;> omega)) only [go_sem, Nat.reduceAdd, Nat.reduceSub, Nat.reduceMul, Nat.reduceEqDiff, Nat.reduceLeDiff, Nat.reduceLT, Nat.reduceBEq, Int.reduceAdd, Int.reduceSub, Int.reduceMul, Int.reduceNeg, Int.reduceLT, Int.reduceLE, Int.reduceEq, Int.reduceToNat]
    by_cases h2 : (i : Int) < n
    · simp (disch := first | omega | (simp only [go_sem, List.length_append, List.length_take, List.length_drop, List.length_replicate, List.length_cons, List.length_nil, List.length_replicate] <;> omega)) only [go_sem, Nat.reduceAdd, Nat.reduceSub, Nat.reduceMul, Nat.reduceEqDiff, Nat.reduceLeDiff, Nat.reduceLT, Nat.reduceBEq, Int.reduceAdd, Int.reduceSub, Int.reduceMul, Int.reduceNeg, Int.reduceLT, Int.reduceLE, Int.reduceEq, Int.reduceToNat]
      refine (r_Blank _).dcall ?_
      simp (disch := first | omega | (simp only [go_sem, List.length_append, List.length_take, List.length_drop, List.length_replicate, List.length_cons, List.length_nil, List.length_replicate] <;> omega)) only [go_sem, Nat.reduceAdd, Nat.reduceSub, Nat.reduceMul, Nat.reduceEqDiff, Nat.reduceLeDiff, Nat.reduceLT, Nat.reduceBEq, Int.reduceAdd, Int.reduceSub, Int.reduceMul, Int.reduceNeg, Int.reduceLT, Int.reduceLE, Int.reduceEq, Int.reduceToNat, zl_app, hl]
      refine round_end (hJ _ _ _ ⟨i + 1, rfl, rfl, rfl, by omega⟩) (by omega) (by first | omega | (simp only [go_sem, List.length_append, List.length_take, List.length_drop, List.length_replicate, Nat.reduceAdd, Nat.reduceSub, Nat.reduceMul, Nat.reduceEqDiff, Nat.reduceLeDiff, Nat.reduceLT, Nat.reduceBEq, Int.reduceAdd, Int.reduceSub, Int.reduceMul, Int.reduceNeg, Int.reduceLT, Int.reduceLE, Int.reduceEq, Int.reduceToNat] <;> omega)) ?_ ?_
      · simp (disch := (simp only [go_sem, Nat.reduceAdd, Nat.reduceSub, Nat.reduceMul, Nat.reduceEqDiff, Nat.reduceLeDiff, Nat.reduceLT, Nat.reduceBEq, Int.reduceAdd, Int.reduceSub, Int.reduceMul, Int.reduceNeg, Int.reduceLT, Int.reduceLE, Int.reduceEq, Int.reduceToNat] <;> omega)) only [go_sem, x_eLeS, x_hLeS, Int.natCast_zero, Int.natCast_add, Int.natCast_one, Nat.reduceAdd, Nat.reduceSub, Nat.reduceMul, Nat.reduceEqDiff, Nat.reduceLeDiff, Nat.reduceLT, Nat.reduceBEq, Int.reduceAdd, Int.reduceSub, Int.reduceMul, Int.reduceNeg, Int.reduceLT, Int.reduceLE, Int.reduceEq, Int.reduceToNat]
      · exact hLe_app hw (by first | omega | (simp only [go_sem, List.length_append, List.length_take, List.length_drop, List.length_replicate, Nat.reduceAdd, Nat.reduceSub, Nat.reduceMul, Nat.reduceEqDiff, Nat.reduceLeDiff, Nat.reduceLT, Nat.reduceBEq, Int.reduceAdd, Int.reduceSub, Int.reduceMul, Int.reduceNeg, Int.reduceLT, Int.reduceLE, Int.reduceEq, Int.reduceToNat] <;> omega)) (by simp (disch := (simp only [go_sem, Nat.reduceAdd, Nat.reduceSub, Nat.reduceMul, Nat.reduceEqDiff, Nat.reduceLeDiff, Nat.reduceLT, Nat.reduceBEq, Int.reduceAdd, Int.reduceSub, Int.reduceMul, Int.reduceNeg, Int.reduceLT, Int.reduceLE, Int.reduceEq, Int.reduceToNat] <;> omega)) only [go_sem, x_eLeS, x_hLeS, Int.natCast_zero, Int.natCast_add, Int.natCast_one, Nat.reduceAdd, Nat.reduceSub, Nat.reduceMul, Nat.reduceEqDiff, Nat.reduceLeDiff, Nat.reduceLT, Nat.reduceBEq, Int.reduceAdd, Int.reduceSub, Int.reduceMul, Int.reduceNeg, Int.reduceLT, Int.reduceLE, Int.reduceEq, Int.reduceToNat])
    · have hi : i = n := by omega
      subst hi
      simp (disch := first | omega | (simp only [go_sem, List.length_append, List.length_take, List.length_drop, List.length_replicate, List.length_cons, List.length_nil, List.length_replicate] <;> omega)) only [go_sem, Nat.reduceAdd, Nat.reduceSub, Nat.reduceMul, Nat.reduceEqDiff, Nat.reduceLeDiff, Nat.reduceLT, Nat.reduceBEq, Int.reduceAdd, Int.reduceSub, Int.reduceMul, Int.reduceNeg, Int.reduceLT, Int.reduceLE, Int.reduceEq, Int.reduceToNat]
      refine end_frz 0 ?_
      simp (disch := first | omega | (simp only [go_sem, List.length_append, List.length_take, List.length_drop, List.length_replicate, List.length_cons, List.length_nil, List.length_replicate] <;> omega)) only [go_sem, Nat.reduceAdd, Nat.reduceSub, Nat.reduceMul, Nat.reduceEqDiff, Nat.reduceLeDiff, Nat.reduceLT, Nat.reduceBEq, Int.reduceAdd, Int.reduceSub, Int.reduceMul, Int.reduceNeg, Int.reduceLT, Int.reduceLE, Int.reduceEq, Int.reduceToNat, fz, fzsW, fzRow, hl]
      refine end_less [.agg [.sl 1 (zl i), .sl 2 [], .int .i64 (-1), .bool false]] (by repeat' (first | exact .nil _ | exact .slx _ _ | exact .refl _ | exact .nil | refine .cons ?_ ?_ | refine .agg ?_ | refine .tup ?_)) ?_
      refine fin_res hw ?_ (fin_eq hK ?_)
      · simp (disch := first | omega | (simp only [go_sem, List.length_append, List.length_take, List.length_drop, List.length_replicate, List.length_cons, List.length_nil, List.length_replicate] <;> omega)) only [go_sem, Nat.reduceAdd, Nat.reduceSub, Nat.reduceMul, Nat.reduceEqDiff, Nat.reduceLeDiff, Nat.reduceLT, Nat.reduceBEq, Int.reduceAdd, Int.reduceSub, Int.reduceMul, Int.reduceNeg, Int.reduceLT, Int.reduceLE, Int.reduceEq, Int.reduceToNat]
      · simp [drV, oneV, zl]
end Go.Av
namespace Go.Av
open Go
set_option autoImplicit false
set_option linter.all false
abbrev B8 := List UInt8
/-! ### What a crash keeps, and tears -/
abbrev Ls := Int × Int × Int
def lsV (l : Ls) : V := .agg [.int .u64 l.1, .int .i64 l.2.1, .int .i64 l.2.2]
@[go_sem] theorem lsV_def (l : Ls) : lsV l = .agg [.int .u64 l.1, .int .i64 l.2.1, .int .i64 l.2.2] := (rfl)
def keptB (k : Int) (i : Nat) : Bool := decide (k / 2 ^ (i % 64) % 2 = 1)
theorem shr_kept {k : Int} (h : 0 ≤ k ∧ k ≤ 18446744073709551615) (i : Nat) : decide (andI .u64 (shrI .u64 k ((i : Int) % 64)) 1 = 1) = keptB k i := by
  obtain ⟨m, rfl⟩ : ∃ m : Nat, k = m := ⟨k.toNat, by omega⟩
  have hi : ((i : Int) % 64) = ((i % 64 : Nat) : Int) := by omega
  have hlt : i % 64 < 64 := Nat.mod_lt _ (by omega)
  have h1 : shrI .u64 (m : Int) ((i : Int) % 64) = ((m / 2 ^ (i % 64) : Nat) : Int) := by
    rw [hi]
    show (m : Int).fdiv (2 ^ (min ((i % 64 : Nat) : Int).toNat 64)) = _
    rw [Int.toNat_natCast, Nat.min_eq_left (by omega), show (2 : Int) ^ (i % 64) = ((2 ^ (i % 64) : Nat) : Int) by simp, Int.fdiv_eq_ediv_of_nonneg _ (Int.natCast_nonneg _)]
    exact (Int.natCast_ediv _ _).symm
  have h2 : ∀ q : Nat, andI .u64 (q : Int) 1 = ((q % 2 : Nat) : Int) := by
    intro q
    show IntKind.u64.wrap ((BitVec.ofInt 64 (q : Int) &&& BitVec.ofInt 64 1).toNat : Int) = _
    rw [BitVec.toNat_and]
    have e1 : (BitVec.ofInt 64 (1 : Int)).toNat = 2 ^ 1 - 1 := rfl
    rw [e1, Nat.and_two_pow_sub_one_eq_mod]
    have e2 : (BitVec.ofInt 64 (q : Int)).toNat % 2 = q % 2 := by
      simp only [BitVec.toNat_ofInt]; omega
    rw [show (2 : Nat) ^ 1 = 2 from rfl, e2]
    exact u64w (by omega)
  rw [h1, h2]
  unfold keptB
  rw [Bool.eq_iff_iff]
  simp only [decide_eq_true_eq]
  rw [show ((m : Int) / 2 ^ (i % 64) % 2) = ((m / 2 ^ (i % 64) % 2 : Nat) : Int) by
    rw [show (2 : Int) ^ (i % 64) = ((2 ^ (i % 64) : Nat) : Int) by simp]; rfl]
theorem tmod_pos (i : Nat) (n : Nat) : (i : Int).tmod n = (i : Int) % n := Int.tmod_eq_emod_of_nonneg (Int.natCast_nonneg _)
theorem s_keeps {l : Ls} {i : Nat} {H : List Entry} (hl : 0 ≤ l.1 ∧ l.1 ≤ 18446744073709551615) (hi : i ≤ 1000000) : Pure AP n_disk_loss_keeps [lsV l, .int .i64 (i : Int)] H (.bool (keptB l.1 i)) := by
  intro K hK
  refine a_disk_loss_keeps fun hw => ?_
  have e1 : (i : Int).tmod 64 = (i : Int) % 64 := tmod_pos i 64
  have e2 := shr_kept hl i
  have e3 : 0 ≤ (i : Int) % 64 := by omega
  simp (disch := first | omega | (simp only [go_sem, List.length_append, List.length_take, List.length_drop, List.length_replicate, List.length_cons, List.length_nil, List.length_replicate] <;> omega)) only [go_sem, true_and, Nat.reduceAdd, Nat.reduceSub, Nat.reduceMul, Nat.reduceEqDiff, Nat.reduceLeDiff, Nat.reduceLT, Nat.reduceBEq, Int.reduceAdd, Int.reduceSub, Int.reduceMul, Int.reduceNeg, Int.reduceLT, Int.reduceLE, Int.reduceEq, Int.reduceToNat, c_disk_loss_keeps, e1, e2]
  refine fin_tmp hw ?_ (fin_eq hK ?_)
  · simp (disch := first | omega | (simp only [go_sem, List.length_append, List.length_take, List.length_drop, List.length_replicate, List.length_cons, List.length_nil, List.length_replicate] <;> omega)) only [go_sem, true_and, Nat.reduceAdd, Nat.reduceSub, Nat.reduceMul, Nat.reduceEqDiff, Nat.reduceLeDiff, Nat.reduceLT, Nat.reduceBEq, Int.reduceAdd, Int.reduceSub, Int.reduceMul, Int.reduceNeg, Int.reduceLT, Int.reduceLE, Int.reduceEq, Int.reduceToNat]
  · simp (disch := first | omega | (simp only [go_sem, List.length_append, List.length_take, List.length_drop, List.length_replicate, List.length_cons, List.length_nil, List.length_replicate] <;> omega)) only [go_sem, true_and, Nat.reduceAdd, Nat.reduceSub, Nat.reduceMul, Nat.reduceEqDiff, Nat.reduceLeDiff, Nat.reduceLT, Nat.reduceBEq, Int.reduceAdd, Int.reduceSub, Int.reduceMul, Int.reduceNeg, Int.reduceLT, Int.reduceLE, Int.reduceEq, Int.reduceToNat]
def clampN (c : Int) : Nat := (min (max c 0) 64).toNat
def afterB (l : Ls) (i : Nat) (was written : B8) : B8 :=
  if (i : Int) = l.2.1 then written.take (clampN l.2.2) ++ was.drop (clampN l.2.2) else if keptB l.1 i then written else was
theorem s_after {l : Ls} {i : Nat} {a b : B8} {H : List Entry} (hl : 0 ≤ l.1 ∧ l.1 ≤ 18446744073709551615) (hi : i ≤ 1000000) (ha : a.length = 64) (hb : b.length = 64) : Pure AP n_disk_loss_after [lsV l, .int .i64 (i : Int), .str a, .str b] H (.str (afterB l i a b)) := by
  intro K hK
  refine a_disk_loss_after fun hw => ?_
  simp (disch := first | omega | (simp only [go_sem, List.length_append, List.length_take, List.length_drop, List.length_replicate, List.length_cons, List.length_nil, List.length_replicate] <;> omega)) only [go_sem, true_and, Nat.reduceAdd, Nat.reduceSub, Nat.reduceMul, Nat.reduceEqDiff, Nat.reduceLeDiff, Nat.reduceLT, Nat.reduceBEq, Int.reduceAdd, Int.reduceSub, Int.reduceMul, Int.reduceNeg, Int.reduceLT, Int.reduceLE, Int.reduceEq, Int.reduceToNat, c_disk_loss_after]
  by_cases h : (i : Int) = l.2.1
  · simp (disch := first | omega | (simp only [go_sem, List.length_append, List.length_take, List.length_drop, List.length_replicate, List.length_cons, List.length_nil, List.length_replicate] <;> omega)) only [go_sem, true_and, Nat.reduceAdd, Nat.reduceSub, Nat.reduceMul, Nat.reduceEqDiff, Nat.reduceLeDiff, Nat.reduceLT, Nat.reduceBEq, Int.reduceAdd, Int.reduceSub, Int.reduceMul, Int.reduceNeg, Int.reduceLT, Int.reduceLE, Int.reduceEq, Int.reduceToNat, mnxI]
    have e1 : (if (64 : Int) < (if (0 : Int) > l.2.2 then 0 else l.2.2) then (64 : Int) else (if (0 : Int) > l.2.2 then 0 else l.2.2)) = (clampN l.2.2 : Int) := by
      unfold clampN; split <;> omega
    simp only [e1]
    refine fin_tmp hw ?_ (fin_eq hK ?_)
    · simp (disch := first | omega | (simp only [go_sem, List.length_append, List.length_take, List.length_drop, List.length_replicate, List.length_cons, List.length_nil, List.length_replicate] <;> omega)) only [go_sem, true_and, Nat.reduceAdd, Nat.reduceSub, Nat.reduceMul, Nat.reduceEqDiff, Nat.reduceLeDiff, Nat.reduceLT, Nat.reduceBEq, Int.reduceAdd, Int.reduceSub, Int.reduceMul, Int.reduceNeg, Int.reduceLT, Int.reduceLE, Int.reduceEq, Int.reduceToNat]
    · simp (disch := first | omega | (simp only [go_sem, List.length_append, List.length_take, List.length_drop, List.length_replicate, List.length_cons, List.length_nil, List.length_replicate] <;> omega)) only [go_sem, true_and, Nat.reduceAdd, Nat.reduceSub, Nat.reduceMul, Nat.reduceEqDiff, Nat.reduceLeDiff, Nat.reduceLT, Nat.reduceBEq, Int.reduceAdd, Int.reduceSub, Int.reduceMul, Int.reduceNeg, Int.reduceLT, Int.reduceLE, Int.reduceEq, Int.reduceToNat]
      simp [afterB, h]
  · simp (disch := first | omega | (simp only [go_sem, List.length_append, List.length_take, List.length_drop, List.length_replicate, List.length_cons, List.length_nil, List.length_replicate] <;> omega)) only [go_sem, true_and, Nat.reduceAdd, Nat.reduceSub, Nat.reduceMul, Nat.reduceEqDiff, Nat.reduceLeDiff, Nat.reduceLT, Nat.reduceBEq, Int.reduceAdd, Int.reduceSub, Int.reduceMul, Int.reduceNeg, Int.reduceLT, Int.reduceLE, Int.reduceEq, Int.reduceToNat]
    refine s_keeps hl hi _ ?_
    simp (disch := first | omega | (simp only [go_sem, List.length_append, List.length_take, List.length_drop, List.length_replicate, List.length_cons, List.length_nil, List.length_replicate] <;> omega)) only [go_sem, true_and, Nat.reduceAdd, Nat.reduceSub, Nat.reduceMul, Nat.reduceEqDiff, Nat.reduceLeDiff, Nat.reduceLT, Nat.reduceBEq, Int.reduceAdd, Int.reduceSub, Int.reduceMul, Int.reduceNeg, Int.reduceLT, Int.reduceLE, Int.reduceEq, Int.reduceToNat]
    cases hk : keptB l.1 i
    · simp (disch := first | omega | (simp only [go_sem, List.length_append, List.length_take, List.length_drop, List.length_replicate, List.length_cons, List.length_nil, List.length_replicate] <;> omega)) only [go_sem, true_and, Nat.reduceAdd, Nat.reduceSub, Nat.reduceMul, Nat.reduceEqDiff, Nat.reduceLeDiff, Nat.reduceLT, Nat.reduceBEq, Int.reduceAdd, Int.reduceSub, Int.reduceMul, Int.reduceNeg, Int.reduceLT, Int.reduceLE, Int.reduceEq, Int.reduceToNat]
      refine fin_tmp hw ?_ (fin_eq hK ?_)
      · simp (disch := first | omega | (simp only [go_sem, List.length_append, List.length_take, List.length_drop, List.length_replicate, List.length_cons, List.length_nil, List.length_replicate] <;> omega)) only [go_sem, true_and, Nat.reduceAdd, Nat.reduceSub, Nat.reduceMul, Nat.reduceEqDiff, Nat.reduceLeDiff, Nat.reduceLT, Nat.reduceBEq, Int.reduceAdd, Int.reduceSub, Int.reduceMul, Int.reduceNeg, Int.reduceLT, Int.reduceLE, Int.reduceEq, Int.reduceToNat]
      · simp (disch := first | omega | (simp only [go_sem, List.length_append, List.length_take, List.length_drop, List.length_replicate, List.length_cons, List.length_nil, List.length_replicate] <;> omega)) only [go_sem, true_and, Nat.reduceAdd, Nat.reduceSub, Nat.reduceMul, Nat.reduceEqDiff, Nat.reduceLeDiff, Nat.reduceLT, Nat.reduceBEq, Int.reduceAdd, Int.reduceSub, Int.reduceMul, Int.reduceNeg, Int.reduceLT, Int.reduceLE, Int.reduceEq, Int.reduceToNat]
        simp [afterB, h, hk]
    · simp (disch := first | omega | (simp only [go_sem, List.length_append, List.length_take, List.length_drop, List.length_replicate, List.length_cons, List.length_nil, List.length_replicate] <;> omega)) only [go_sem, true_and, Nat.reduceAdd, Nat.reduceSub, Nat.reduceMul, Nat.reduceEqDiff, Nat.reduceLeDiff, Nat.reduceLT, Nat.reduceBEq, Int.reduceAdd, Int.reduceSub, Int.reduceMul, Int.reduceNeg, Int.reduceLT, Int.reduceLE, Int.reduceEq, Int.reduceToNat]
      refine fin_tmp hw ?_ (fin_eq hK ?_)
      · simp (disch := first | omega | (simp only [go_sem, List.length_append, List.length_take, List.length_drop, List.length_replicate, List.length_cons, List.length_nil, List.length_replicate] <;> omega)) only [go_sem, true_and, Nat.reduceAdd, Nat.reduceSub, Nat.reduceMul, Nat.reduceEqDiff, Nat.reduceLeDiff, Nat.reduceLT, Nat.reduceBEq, Int.reduceAdd, Int.reduceSub, Int.reduceMul, Int.reduceNeg, Int.reduceLT, Int.reduceLE, Int.reduceEq, Int.reduceToNat]
      · simp (disch := first | omega | (simp only [go_sem, List.length_append, List.length_take, List.length_drop, List.length_replicate, List.length_cons, List.length_nil, List.length_replicate] <;> omega)) only [go_sem, true_and, Nat.reduceAdd, Nat.reduceSub, Nat.reduceMul, Nat.reduceEqDiff, Nat.reduceLeDiff, Nat.reduceLT, Nat.reduceBEq, Int.reduceAdd, Int.reduceSub, Int.reduceMul, Int.reduceNeg, Int.reduceLT, Int.reduceLE, Int.reduceEq, Int.reduceToNat]
        simp [afterB, h, hk]
/-! ### What waits is done -/
def stl (g : Nat → B8 → B8 → B8) : Nat → List B8 → List Wt → List B8
  | _, X, [] => X
  | i, X, w :: l => stl g (i + 1) (X.set w.1.toNat (g i (X.getD w.1.toNat default) w.2)) l
theorem stl_len (g : Nat → B8 → B8 → B8) : ∀ (l : List Wt) (i : Nat) (X : List B8), (stl g i X l).length = X.length
  | [], _, _ => rfl
  | w :: l, i, X => by rw [stl, stl_len g l]; simp
theorem stl_snoc (g : Nat → B8 → B8 → B8) (w : Wt) : ∀ (l : List Wt) (i : Nat) (X : List B8), stl g i X (l ++ [w]) = (stl g i X l).set w.1.toNat (g (i + l.length) ((stl g i X l).getD w.1.toNat default) w.2)
  | [], i, X => by simp [stl]
  | v :: l, i, X => by
    rw [List.cons_append, stl, stl, stl_snoc g w l]
    simp only [List.length_cons]
    rw [show i + 1 + l.length = i + (l.length + 1) by omega]
theorem take_snoc {α : Type} [Inhabited α] (X : List α) (i : Nat) (h : i < X.length) : X.take (i + 1) = X.take i ++ [X.getD i default] := by
  rw [List.take_succ]; simp [h]
theorem stl_step (g : Nat → B8 → B8 → B8) (X : List B8) (Q : List Wt) (i : Nat) (h : i < Q.length) : stl g 0 X (Q.take (i + 1)) = (stl g 0 X (Q.take i)).set (Q.getD i default).1.toNat (g i ((stl g 0 X (Q.take i)).getD (Q.getD i default).1.toNat default) (Q.getD i default).2) := by
  rw [take_snoc Q i h, stl_snoc, List.length_take, Nat.min_eq_left (by omega), Nat.zero_add]
theorem stl_64 (g : Nat → B8 → B8 → B8) (hg : ∀ i a b, a.length = 64 → b.length = 64 → (g i a b).length = 64) : ∀ (l : List Wt) (i : Nat) (X : List B8), (∀ x ∈ X, x.length = 64) → (∀ w ∈ l, 0 ≤ w.1 ∧ w.1 < X.length ∧ w.2.length = 64) → ∀ x ∈ stl g i X l, x.length = 64
  | [], _, X, h, _ => h
  | w :: l, i, X, h, hw => by
    have h0 := hw w (by simp)
    refine stl_64 g hg l (i + 1) _ (fun x hx => ?_) fun v hv => ?_
    · rcases List.mem_or_eq_of_mem_set hx with hx | rfl
      · exact h x hx
      · exact hg _ _ _ (h _ (getD_mem (by omega))) h0.2.2
    · rw [List.length_set]; exact hw v (by simp [hv])
def setD (g : Nat → B8 → B8 → B8) (d : Dr) : Dr := (stl g 0 d.1 d.2.1, [], d.2.2.1, d.2.2.2)
theorem s_settled {d : Dr} {f : FuncId} {a b : List V} {g : Nat → B8 → B8 → B8} {H : List Entry} (hX : d.1.length ≤ 10000) (hQ : d.2.1.length ≤ 10000) (hc : ∀ x ∈ d.1, x.length = 64) (hw0 : ∀ w ∈ d.2.1, 0 ≤ w.1 ∧ w.1 < d.1.length ∧ w.2.length = 64)
    (hg : ∀ i a b, a.length = 64 → b.length = 64 → (g i a b).length = 64) (hi : noids a = true) (hj : noids b = true) (hp : ∀ (i : Nat) (u v : B8) (H : List Entry), i ≤ 10000 → u.length = 64 → v.length = 64 → Pure AP f (a ++ ([.int .i64 (i : Int), .str u, .str v] ++ b)) H (.str (g i u v))) :
    Pure AP n_disk_settled [drV d, .fn f a b] H (drV (setD g d)) := by
  intro K hK
  refine a_disk_settled fun hw => ?_
  have hi' := fun m => idsLts_noids m a hi
  have hj' := fun m => idsLts_noids m b hj
  simp (disch := first | omega | (simp only [go_sem, List.length_append, List.length_take, List.length_drop, List.length_replicate, List.length_cons, List.length_nil, List.length_replicate] <;> omega)) only [go_sem, true_and, Nat.reduceAdd, Nat.reduceSub, Nat.reduceMul, Nat.reduceEqDiff, Nat.reduceLeDiff, Nat.reduceLT, Nat.reduceBEq, Int.reduceAdd, Int.reduceSub, Int.reduceMul, Int.reduceNeg, Int.reduceLT, Int.reduceLE, Int.reduceEq, Int.reduceToNat, c_disk_settled]
  have e0 : (List.replicate d.1.length (V.str [])).length = d.1.length := by simp
  have e1 : (d.1.take d.1.length).map sV ++ (List.replicate d.1.length (V.str [])).drop d.1.length = d.1.map sV := by
    rw [List.take_length, List.drop_eq_nil_of_le (by simp), List.append_nil]
  simp only [e0, Nat.min_self, e1]
  obtain ⟨X, Q, fu, o⟩ := d
  simp only at *
  refine loop_in (fun m e H' => ∃ i : Nat, m = Q.length - i ∧ e = slots 0 43 [(1, .fn f a b), (2, .ptr H.length 0), (4, .ptr (H.length + 1) 0), (5, .own (H.length + 2) X.length), (17, .sl 2 (Q.map wV)), (18, .int .i64 (Q.length : Int)), (19, .int .i64 (i : Int))] ∧ H' = H ++ [.box [.sl 1 (X.map sV), .sl 2 (Q.map wV), .int .i64 fu, .bool o], .box [.nilsl, .nilsl, .int .i64 0, .bool false], .row 9 1 ((stl g 0 X (Q.take i)).map sV)] ∧ i ≤ Q.length) (n := Q.length) ⟨0, rfl, rfl, rfl, by omega⟩ (by first | omega | (simp only [go_sem, List.length_append, List.length_take, List.length_drop, List.length_replicate, true_and, Nat.reduceAdd, Nat.reduceSub, Nat.reduceMul, Nat.reduceEqDiff, Nat.reduceLeDiff, Nat.reduceLT, Nat.reduceBEq, Int.reduceAdd, Int.reduceSub, Int.reduceMul, Int.reduceNeg, Int.reduceLT, Int.reduceLE, Int.reduceEq, Int.reduceToNat] <;> omega)) ?_ ?_ ?_
  · simp (disch := (simp only [go_sem, true_and, Nat.reduceAdd, Nat.reduceSub, Nat.reduceMul, Nat.reduceEqDiff, Nat.reduceLeDiff, Nat.reduceLT, Nat.reduceBEq, Int.reduceAdd, Int.reduceSub, Int.reduceMul, Int.reduceNeg, Int.reduceLT, Int.reduceLE, Int.reduceEq, Int.reduceToNat, hi', hj'] <;> omega)) only [go_sem, x_eLeS, x_hLeS, Int.natCast_zero, Int.natCast_add, Int.natCast_one, true_and, Nat.reduceAdd, Nat.reduceSub, Nat.reduceMul, Nat.reduceEqDiff, Nat.reduceLeDiff, Nat.reduceLT, Nat.reduceBEq, Int.reduceAdd, Int.reduceSub, Int.reduceMul, Int.reduceNeg, Int.reduceLT, Int.reduceLE, Int.reduceEq, Int.reduceToNat, hi', hj']
  · rw [List.take_zero, stl]
    exact hLe_app hw (by first | omega | (simp only [go_sem, List.length_append, List.length_take, List.length_drop, List.length_replicate, true_and, Nat.reduceAdd, Nat.reduceSub, Nat.reduceMul, Nat.reduceEqDiff, Nat.reduceLeDiff, Nat.reduceLT, Nat.reduceBEq, Int.reduceAdd, Int.reduceSub, Int.reduceMul, Int.reduceNeg, Int.reduceLT, Int.reduceLE, Int.reduceEq, Int.reduceToNat] <;> omega)) (by simp (disch := (simp only [go_sem, true_and, Nat.reduceAdd, Nat.reduceSub, Nat.reduceMul, Nat.reduceEqDiff, Nat.reduceLeDiff, Nat.reduceLT, Nat.reduceBEq, Int.reduceAdd, Int.reduceSub, Int.reduceMul, Int.reduceNeg, Int.reduceLT, Int.reduceLE, Int.reduceEq, Int.reduceToNat] <;> omega)) only [go_sem, x_eLeS, x_hLeS, Int.natCast_zero, Int.natCast_add, Int.natCast_one, true_and, Nat.reduceAdd, Nat.reduceSub, Nat.reduceMul, Nat.reduceEqDiff, Nat.reduceLeDiff, Nat.reduceLT, Nat.reduceBEq, Int.reduceAdd, Int.reduceSub, Int.reduceMul, Int.reduceNeg, Int.reduceLT, Int.reduceLE, Int.reduceEq, Int.reduceToNat])
  · rintro J hJ m e H' ⟨i, rfl, rfl, rfl, hi1⟩
    have hl : (stl g 0 X (Q.take i)).length = X.length := stl_len _ _ _ _
    simp (disch := first | omega | (simp only [go_sem, List.length_append, List.length_take, List.length_drop, List.length_replicate, List.length_cons, List.length_nil, List.length_replicate] <;> omega)) only [go_sem, true_and, Nat.reduceAdd, Nat.reduceSub, Nat.reduceMul, Nat.reduceEqDiff, Nat.reduceLeDiff, Nat.reduceLT, Nat.reduceBEq, Int.reduceAdd, Int.reduceSub, Int.reduceMul, Int.reduceNeg, Int.reduceLT, Int.reduceLE, Int.reduceEq, Int.reduceToNat]
    by_cases h2 : (i : Int) < Q.length
    · have hq := hw0 _ (getD_mem (X := Q) (i := i) (by omega))
      have hst := stl_step g X Q i (by omega)
      have h64 := stl_64 g hg (Q.take i) 0 X hc fun w hw => hw0 w (List.mem_of_mem_take hw)
      simp (disch := first | omega | (simp only [go_sem, List.length_append, List.length_take, List.length_drop, List.length_replicate, List.length_cons, List.length_nil, List.length_replicate] <;> omega)) only [go_sem, true_and, Nat.reduceAdd, Nat.reduceSub, Nat.reduceMul, Nat.reduceEqDiff, Nat.reduceLeDiff, Nat.reduceLT, Nat.reduceBEq, Int.reduceAdd, Int.reduceSub, Int.reduceMul, Int.reduceNeg, Int.reduceLT, Int.reduceLE, Int.reduceEq, Int.reduceToNat]
      refine (hp i _ _ _ (by omega) (h64 _ (getD_mem (X := stl g 0 X (Q.take i)) (i := (Q.getD i default).1.toNat) (by rw [hl]; omega))) hq.2.2).dcall ?_
      simp (disch := first | omega | (simp only [go_sem, List.length_append, List.length_take, List.length_drop, List.length_replicate, List.length_cons, List.length_nil, List.length_replicate] <;> omega)) only [go_sem, true_and, Nat.reduceAdd, Nat.reduceSub, Nat.reduceMul, Nat.reduceEqDiff, Nat.reduceLeDiff, Nat.reduceLT, Nat.reduceBEq, Int.reduceAdd, Int.reduceSub, Int.reduceMul, Int.reduceNeg, Int.reduceLT, Int.reduceLE, Int.reduceEq, Int.reduceToNat]
      refine round_end (hJ _ _ _ ⟨i + 1, rfl, rfl, rfl, by omega⟩) (by omega) (by first | omega | (simp only [go_sem, List.length_append, List.length_take, List.length_drop, List.length_replicate, true_and, Nat.reduceAdd, Nat.reduceSub, Nat.reduceMul, Nat.reduceEqDiff, Nat.reduceLeDiff, Nat.reduceLT, Nat.reduceBEq, Int.reduceAdd, Int.reduceSub, Int.reduceMul, Int.reduceNeg, Int.reduceLT, Int.reduceLE, Int.reduceEq, Int.reduceToNat] <;> omega)) ?_ ?_
      · simp (disch := (simp only [go_sem, true_and, Nat.reduceAdd, Nat.reduceSub, Nat.reduceMul, Nat.reduceEqDiff, Nat.reduceLeDiff, Nat.reduceLT, Nat.reduceBEq, Int.reduceAdd, Int.reduceSub, Int.reduceMul, Int.reduceNeg, Int.reduceLT, Int.reduceLE, Int.reduceEq, Int.reduceToNat, hi', hj'] <;> omega)) only [go_sem, x_eLeS, x_hLeS, Int.natCast_zero, Int.natCast_add, Int.natCast_one, true_and, Nat.reduceAdd, Nat.reduceSub, Nat.reduceMul, Nat.reduceEqDiff, Nat.reduceLeDiff, Nat.reduceLT, Nat.reduceBEq, Int.reduceAdd, Int.reduceSub, Int.reduceMul, Int.reduceNeg, Int.reduceLT, Int.reduceLE, Int.reduceEq, Int.reduceToNat, hi', hj']
      · rw [hst, List.map_set]
        exact hLe_app hw (by first | omega | (simp only [go_sem, List.length_append, List.length_take, List.length_drop, List.length_replicate, true_and, Nat.reduceAdd, Nat.reduceSub, Nat.reduceMul, Nat.reduceEqDiff, Nat.reduceLeDiff, Nat.reduceLT, Nat.reduceBEq, Int.reduceAdd, Int.reduceSub, Int.reduceMul, Int.reduceNeg, Int.reduceLT, Int.reduceLE, Int.reduceEq, Int.reduceToNat] <;> omega)) (by simp (disch := (simp only [go_sem, true_and, Nat.reduceAdd, Nat.reduceSub, Nat.reduceMul, Nat.reduceEqDiff, Nat.reduceLeDiff, Nat.reduceLT, Nat.reduceBEq, Int.reduceAdd, Int.reduceSub, Int.reduceMul, Int.reduceNeg, Int.reduceLT, Int.reduceLE, Int.reduceEq, Int.reduceToNat] <;> omega)) only [go_sem, x_eLeS, x_hLeS, Int.natCast_zero, Int.natCast_add, Int.natCast_one, true_and, Nat.reduceAdd, Nat.reduceSub, Nat.reduceMul, Nat.reduceEqDiff, Nat.reduceLeDiff, Nat.reduceLT, Nat.reduceBEq, Int.reduceAdd, Int.reduceSub, Int.reduceMul, Int.reduceNeg, Int.reduceLT, Int.reduceLE, Int.reduceEq, Int.reduceToNat])
    · have hi : i = Q.length := by omega
      subst hi
      simp (disch := first | omega | (simp only [go_sem, List.length_append, List.length_take, List.length_drop, List.length_replicate, List.length_cons, List.length_nil, List.length_replicate] <;> omega)) only [go_sem, true_and, Nat.reduceAdd, Nat.reduceSub, Nat.reduceMul, Nat.reduceEqDiff, Nat.reduceLeDiff, Nat.reduceLT, Nat.reduceBEq, Int.reduceAdd, Int.reduceSub, Int.reduceMul, Int.reduceNeg, Int.reduceLT, Int.reduceLE, Int.reduceEq, Int.reduceToNat]
      refine end_frz 0 ?_
      rw [List.take_length] at hl
      simp (disch := first | omega | (simp only [go_sem, List.length_append, List.length_take, List.length_drop, List.length_replicate, List.length_cons, List.length_nil, List.length_replicate] <;> omega)) only [go_sem, true_and, Nat.reduceAdd, Nat.reduceSub, Nat.reduceMul, Nat.reduceEqDiff, Nat.reduceLeDiff, Nat.reduceLT, Nat.reduceBEq, Int.reduceAdd, Int.reduceSub, Int.reduceMul, Int.reduceNeg, Int.reduceLT, Int.reduceLE, Int.reduceEq, Int.reduceToNat, fz, fzsW, fzRow, hl, if_true]
      refine end_less [.agg [.sl 1 ((stl g 0 X Q).map sV), .sl 2 [], .int .i64 fu, .bool o]] (by repeat' (first | exact .nil _ | exact .slx _ _ | exact .refl _ | exact .nil | refine .cons ?_ ?_ | refine .agg ?_ | refine .tup ?_)) ?_
      refine fin_res hw ?_ (fin_eq hK ?_)
      · simp (disch := first | omega | (simp only [go_sem, List.length_append, List.length_take, List.length_drop, List.length_replicate, List.length_cons, List.length_nil, List.length_replicate] <;> omega)) only [go_sem, true_and, Nat.reduceAdd, Nat.reduceSub, Nat.reduceMul, Nat.reduceEqDiff, Nat.reduceLeDiff, Nat.reduceLT, Nat.reduceBEq, Int.reduceAdd, Int.reduceSub, Int.reduceMul, Int.reduceNeg, Int.reduceLT, Int.reduceLE, Int.reduceEq, Int.reduceToNat]
      · simp [drV, oneV, setD]
end Go.Av
namespace Go.Av
open Go
set_option autoImplicit false
set_option linter.all false
/-! ### Flush, Crash, Fuel -/
theorem may_all {d : Dr} (h : mayD d = true) : (1 ≤ d.1.length ∧ d.1.length ≤ 6000) ∧ -1 ≤ d.2.2.1 ∧ (∀ x ∈ d.1, x.length = 64) ∧ ∀ w ∈ d.2.1, 0 ≤ w.1 ∧ w.1 < d.1.length ∧ w.2.length = 64 := by
  rw [mayD_R] at h
  simp only [mayR, cntB, Bool.and_eq_true, decide_eq_true_eq, List.all_eq_true, rightC, rightW] at h
  exact ⟨⟨by omega, by omega⟩, h.1.2, h.2.1, fun w hw => ⟨(h.2.2 w hw).1, (h.2.2 w hw).2.1, (h.2.2 w hw).2.2⟩⟩
structure DFits (d : Dr) : Prop where
  X : d.1.length ≤ 10000
  Q : d.2.1.length ≤ 10000
  f : d.2.2.1 ≤ 9223372036854775807
  f0 : -9223372036854775808 ≤ d.2.2.1
theorem s_Flush_1 {i u : V} {v : B8} {H : List Entry} : Pure AP n_disk_Flush_1 [i, u, .str v] H (.str v) := by
  intro K hK
  refine a_disk_Flush_1 fun hw => ?_
  simp (disch := first | omega | (simp only [go_sem, List.length_append, List.length_take, List.length_drop, List.length_replicate, List.length_cons, List.length_nil, List.length_replicate] <;> omega)) only [go_sem, true_and, Nat.reduceAdd, Nat.reduceSub, Nat.reduceMul, Nat.reduceEqDiff, Nat.reduceLeDiff, Nat.reduceLT, Nat.reduceBEq, Int.reduceAdd, Int.reduceSub, Int.reduceMul, Int.reduceNeg, Int.reduceLT, Int.reduceLE, Int.reduceEq, Int.reduceToNat, c_disk_Flush_1]
  refine fin_tmp0 hw ?_ (fin_eq hK ?_)
  · simp (disch := first | omega | (simp only [go_sem, List.length_append, List.length_take, List.length_drop, List.length_replicate, List.length_cons, List.length_nil, List.length_replicate] <;> omega)) only [go_sem, true_and, Nat.reduceAdd, Nat.reduceSub, Nat.reduceMul, Nat.reduceEqDiff, Nat.reduceLeDiff, Nat.reduceLT, Nat.reduceBEq, Int.reduceAdd, Int.reduceSub, Int.reduceMul, Int.reduceNeg, Int.reduceLT, Int.reduceLE, Int.reduceEq, Int.reduceToNat]
  · simp (disch := first | omega | (simp only [go_sem, List.length_append, List.length_take, List.length_drop, List.length_replicate, List.length_cons, List.length_nil, List.length_replicate] <;> omega)) only [go_sem, true_and, Nat.reduceAdd, Nat.reduceSub, Nat.reduceMul, Nat.reduceEqDiff, Nat.reduceLeDiff, Nat.reduceLT, Nat.reduceBEq, Int.reduceAdd, Int.reduceSub, Int.reduceMul, Int.reduceNeg, Int.reduceLT, Int.reduceLE, Int.reduceEq, Int.reduceToNat]
def wr0 : Nat → B8 → B8 → B8 := fun _ _ w => w
def flushD (d : Dr) : Dr × Int := if mayD d then (if burnO d then (setD wr0 (burnD d), 0) else (burnD d, 10)) else (d0, 1)
theorem s_Flush {d : Dr} {H : List Entry} (hf : DFits d) : Pure AP n_disk_Flush [drV d] H (.tup [drV (flushD d).1, .int .i64 (flushD d).2]) := by
  intro K hK
  refine a_disk_Flush fun hw => ?_
  obtain ⟨h1, h2, h3, h4⟩ := hf
  simp (disch := first | omega | (simp only [go_sem, List.length_append, List.length_take, List.length_drop, List.length_replicate, List.length_cons, List.length_nil, List.length_replicate] <;> omega)) only [go_sem, true_and, Nat.reduceAdd, Nat.reduceSub, Nat.reduceMul, Nat.reduceEqDiff, Nat.reduceLeDiff, Nat.reduceLT, Nat.reduceBEq, Int.reduceAdd, Int.reduceSub, Int.reduceMul, Int.reduceNeg, Int.reduceLT, Int.reduceLE, Int.reduceEq, Int.reduceToNat, c_disk_Flush]
  refine s_MayD (by omega) (by omega) _ ?_
  cases hm : mayD d
  · simp (disch := first | omega | (simp only [go_sem, List.length_append, List.length_take, List.length_drop, List.length_replicate, List.length_cons, List.length_nil, List.length_replicate] <;> omega)) only [go_sem, true_and, Nat.reduceAdd, Nat.reduceSub, Nat.reduceMul, Nat.reduceEqDiff, Nat.reduceLeDiff, Nat.reduceLT, Nat.reduceBEq, Int.reduceAdd, Int.reduceSub, Int.reduceMul, Int.reduceNeg, Int.reduceLT, Int.reduceLE, Int.reduceEq, Int.reduceToNat]
    refine end_less [.agg [.sl 1 [], .sl 2 [], .int .i64 0, .bool false], .int .i64 1] (by repeat' (first | exact .nil _ | exact .slx _ _ | exact .refl _ | exact .nil | refine .cons ?_ ?_ | refine .agg ?_ | refine .tup ?_)) ?_
    refine fin_res hw ?_ (fin_eq hK ?_)
    · simp (disch := first | omega | (simp only [go_sem, List.length_append, List.length_take, List.length_drop, List.length_replicate, List.length_cons, List.length_nil, List.length_replicate] <;> omega)) only [go_sem, true_and, Nat.reduceAdd, Nat.reduceSub, Nat.reduceMul, Nat.reduceEqDiff, Nat.reduceLeDiff, Nat.reduceLT, Nat.reduceBEq, Int.reduceAdd, Int.reduceSub, Int.reduceMul, Int.reduceNeg, Int.reduceLT, Int.reduceLE, Int.reduceEq, Int.reduceToNat]
    · simp [flushD, hm, drV, d0, oneV]
  · obtain ⟨m1, m2, m3, m4⟩ := may_all hm
    simp (disch := first | omega | (simp only [go_sem, List.length_append, List.length_take, List.length_drop, List.length_replicate, List.length_cons, List.length_nil, List.length_replicate] <;> omega)) only [go_sem, true_and, Nat.reduceAdd, Nat.reduceSub, Nat.reduceMul, Nat.reduceEqDiff, Nat.reduceLeDiff, Nat.reduceLT, Nat.reduceBEq, Int.reduceAdd, Int.reduceSub, Int.reduceMul, Int.reduceNeg, Int.reduceLT, Int.reduceLE, Int.reduceEq, Int.reduceToNat]
    refine s_burn (g := H.length) (a := .sl 1 (d.1.map sV)) (b := .sl 2 (d.2.1.map wV)) (f := d.2.2.1) (o := d.2.2.2) (by simp (disch := first | omega | (simp only [go_sem, List.length_append, List.length_take, List.length_drop, List.length_replicate, List.length_cons, List.length_nil, List.length_replicate] <;> omega)) only [go_sem, true_and, Nat.reduceAdd, Nat.reduceSub, Nat.reduceMul, Nat.reduceEqDiff, Nat.reduceLeDiff, Nat.reduceLT, Nat.reduceBEq, Int.reduceAdd, Int.reduceSub, Int.reduceMul, Int.reduceNeg, Int.reduceLT, Int.reduceLE, Int.reduceEq, Int.reduceToNat]) (by omega) ?_
    simp (disch := first | omega | (simp only [go_sem, List.length_append, List.length_take, List.length_drop, List.length_replicate, List.length_cons, List.length_nil, List.length_replicate] <;> omega)) only [go_sem, true_and, Nat.reduceAdd, Nat.reduceSub, Nat.reduceMul, Nat.reduceEqDiff, Nat.reduceLeDiff, Nat.reduceLT, Nat.reduceBEq, Int.reduceAdd, Int.reduceSub, Int.reduceMul, Int.reduceNeg, Int.reduceLT, Int.reduceLE, Int.reduceEq, Int.reduceToNat]
    cases hb : burnO d
    · have hb' : (burnF d.2.2.1 d.2.2.2).1 = false := hb
      simp (disch := first | omega | (simp only [go_sem, List.length_append, List.length_take, List.length_drop, List.length_replicate, List.length_cons, List.length_nil, List.length_replicate] <;> omega)) only [go_sem, true_and, Nat.reduceAdd, Nat.reduceSub, Nat.reduceMul, Nat.reduceEqDiff, Nat.reduceLeDiff, Nat.reduceLT, Nat.reduceBEq, Int.reduceAdd, Int.reduceSub, Int.reduceMul, Int.reduceNeg, Int.reduceLT, Int.reduceLE, Int.reduceEq, Int.reduceToNat, hb']
      refine fin_res hw ?_ (fin_eq hK ?_)
      · simp (disch := first | omega | (simp only [go_sem, List.length_append, List.length_take, List.length_drop, List.length_replicate, List.length_cons, List.length_nil, List.length_replicate] <;> omega)) only [go_sem, true_and, Nat.reduceAdd, Nat.reduceSub, Nat.reduceMul, Nat.reduceEqDiff, Nat.reduceLeDiff, Nat.reduceLT, Nat.reduceBEq, Int.reduceAdd, Int.reduceSub, Int.reduceMul, Int.reduceNeg, Int.reduceLT, Int.reduceLE, Int.reduceEq, Int.reduceToNat]
      · simp [flushD, hm, hb, drV, burnD, oneV]
    · have hb' : (burnF d.2.2.1 d.2.2.2).1 = true := hb
      simp (disch := first | omega | (simp only [go_sem, List.length_append, List.length_take, List.length_drop, List.length_replicate, List.length_cons, List.length_nil, List.length_replicate] <;> omega)) only [go_sem, true_and, Nat.reduceAdd, Nat.reduceSub, Nat.reduceMul, Nat.reduceEqDiff, Nat.reduceLeDiff, Nat.reduceLT, Nat.reduceBEq, Int.reduceAdd, Int.reduceSub, Int.reduceMul, Int.reduceNeg, Int.reduceLT, Int.reduceLE, Int.reduceEq, Int.reduceToNat, hb']
      refine s_settled (d := burnD d) (g := wr0) (a := []) (b := []) h1 h2 m3 m4 (fun _ _ _ _ h => h) rfl rfl (fun i u v H _ _ _ => s_Flush_1) _ ?_
      simp (disch := first | omega | (simp only [go_sem, List.length_append, List.length_take, List.length_drop, List.length_replicate, List.length_cons, List.length_nil, List.length_replicate] <;> omega)) only [go_sem, true_and, Nat.reduceAdd, Nat.reduceSub, Nat.reduceMul, Nat.reduceEqDiff, Nat.reduceLeDiff, Nat.reduceLT, Nat.reduceBEq, Int.reduceAdd, Int.reduceSub, Int.reduceMul, Int.reduceNeg, Int.reduceLT, Int.reduceLE, Int.reduceEq, Int.reduceToNat]
      refine fin_res hw ?_ (fin_eq hK ?_)
      · simp (disch := first | omega | (simp only [go_sem, List.length_append, List.length_take, List.length_drop, List.length_replicate, List.length_cons, List.length_nil, List.length_replicate] <;> omega)) only [go_sem, true_and, Nat.reduceAdd, Nat.reduceSub, Nat.reduceMul, Nat.reduceEqDiff, Nat.reduceLeDiff, Nat.reduceLT, Nat.reduceBEq, Int.reduceAdd, Int.reduceSub, Int.reduceMul, Int.reduceNeg, Int.reduceLT, Int.reduceLE, Int.reduceEq, Int.reduceToNat]
      · simp [flushD, hm, hb, drV, setD, oneV]
def crashD (d : Dr) (l : Ls) : Dr := if mayD d then (stl (afterB l) 0 d.1 d.2.1, [], -1, false) else d0
theorem after_64 (l : Ls) (i : Nat) (a b : B8) (ha : a.length = 64) (hb : b.length = 64) : (afterB l i a b).length = 64 := by
  unfold afterB clampN
  split
  · simp; omega
  · split <;> assumption
theorem s_Crash {d : Dr} {l : Ls} {H : List Entry} (hf : DFits d) (hl : 0 ≤ l.1 ∧ l.1 ≤ 18446744073709551615) : Pure AP n_disk_Crash [drV d, lsV l] H (drV (crashD d l)) := by
  intro K hK
  refine a_disk_Crash fun hw => ?_
  obtain ⟨h1, h2, h3, h4⟩ := hf
  simp (disch := first | omega | (simp only [go_sem, List.length_append, List.length_take, List.length_drop, List.length_replicate, List.length_cons, List.length_nil, List.length_replicate] <;> omega)) only [go_sem, true_and, Nat.reduceAdd, Nat.reduceSub, Nat.reduceMul, Nat.reduceEqDiff, Nat.reduceLeDiff, Nat.reduceLT, Nat.reduceBEq, Int.reduceAdd, Int.reduceSub, Int.reduceMul, Int.reduceNeg, Int.reduceLT, Int.reduceLE, Int.reduceEq, Int.reduceToNat, c_disk_Crash]
  refine s_MayD (by omega) (by omega) _ ?_
  cases hm : mayD d
  · simp (disch := first | omega | (simp only [go_sem, List.length_append, List.length_take, List.length_drop, List.length_replicate, List.length_cons, List.length_nil, List.length_replicate] <;> omega)) only [go_sem, true_and, Nat.reduceAdd, Nat.reduceSub, Nat.reduceMul, Nat.reduceEqDiff, Nat.reduceLeDiff, Nat.reduceLT, Nat.reduceBEq, Int.reduceAdd, Int.reduceSub, Int.reduceMul, Int.reduceNeg, Int.reduceLT, Int.reduceLE, Int.reduceEq, Int.reduceToNat]
    refine end_less [.agg [.sl 1 [], .sl 2 [], .int .i64 0, .bool false]] (by repeat' (first | exact .nil _ | exact .slx _ _ | exact .refl _ | exact .nil | refine .cons ?_ ?_ | refine .agg ?_ | refine .tup ?_)) ?_
    refine fin_res hw ?_ (fin_eq hK ?_)
    · simp (disch := first | omega | (simp only [go_sem, List.length_append, List.length_take, List.length_drop, List.length_replicate, List.length_cons, List.length_nil, List.length_replicate] <;> omega)) only [go_sem, true_and, Nat.reduceAdd, Nat.reduceSub, Nat.reduceMul, Nat.reduceEqDiff, Nat.reduceLeDiff, Nat.reduceLT, Nat.reduceBEq, Int.reduceAdd, Int.reduceSub, Int.reduceMul, Int.reduceNeg, Int.reduceLT, Int.reduceLE, Int.reduceEq, Int.reduceToNat]
    · simp [crashD, hm, drV, d0, oneV]
  · obtain ⟨m1, m2, m3, m4⟩ := may_all hm
    simp (disch := first | omega | (simp only [go_sem, List.length_append, List.length_take, List.length_drop, List.length_replicate, List.length_cons, List.length_nil, List.length_replicate] <;> omega)) only [go_sem, true_and, Nat.reduceAdd, Nat.reduceSub, Nat.reduceMul, Nat.reduceEqDiff, Nat.reduceLeDiff, Nat.reduceLT, Nat.reduceBEq, Int.reduceAdd, Int.reduceSub, Int.reduceMul, Int.reduceNeg, Int.reduceLT, Int.reduceLE, Int.reduceEq, Int.reduceToNat]
    refine s_settled (d := d) (g := afterB l) (a := [lsV l]) (b := []) h1 h2 m3 m4 (after_64 l) rfl rfl (fun i u v H hi hu hv => s_after hl (by omega) hu hv) _ ?_
    simp (disch := first | omega | (simp only [go_sem, List.length_append, List.length_take, List.length_drop, List.length_replicate, List.length_cons, List.length_nil, List.length_replicate] <;> omega)) only [go_sem, true_and, Nat.reduceAdd, Nat.reduceSub, Nat.reduceMul, Nat.reduceEqDiff, Nat.reduceLeDiff, Nat.reduceLT, Nat.reduceBEq, Int.reduceAdd, Int.reduceSub, Int.reduceMul, Int.reduceNeg, Int.reduceLT, Int.reduceLE, Int.reduceEq, Int.reduceToNat]
    refine fin_res hw ?_ (fin_eq hK ?_)
    · simp (disch := first | omega | (simp only [go_sem, List.length_append, List.length_take, List.length_drop, List.length_replicate, List.length_cons, List.length_nil, List.length_replicate] <;> omega)) only [go_sem, true_and, Nat.reduceAdd, Nat.reduceSub, Nat.reduceMul, Nat.reduceEqDiff, Nat.reduceLeDiff, Nat.reduceLT, Nat.reduceBEq, Int.reduceAdd, Int.reduceSub, Int.reduceMul, Int.reduceNeg, Int.reduceLT, Int.reduceLE, Int.reduceEq, Int.reduceToNat]
    · simp [crashD, hm, drV, setD, oneV]
def fuelD (d : Dr) (n : Int) : Dr × Int := if mayD d && decide (-1 ≤ n) then ((d.1, d.2.1, n, d.2.2.2), 0) else (d0, 1)
theorem s_Fuel {d : Dr} {n : Int} {H : List Entry} (hf : DFits d) : Pure AP n_disk_Fuel [drV d, .int .i64 n] H (.tup [drV (fuelD d n).1, .int .i64 (fuelD d n).2]) := by
  intro K hK
  refine a_disk_Fuel fun hw => ?_
  obtain ⟨h1, h2, h3, h4⟩ := hf
  simp (disch := first | omega | (simp only [go_sem, List.length_append, List.length_take, List.length_drop, List.length_replicate, List.length_cons, List.length_nil, List.length_replicate] <;> omega)) only [go_sem, true_and, Nat.reduceAdd, Nat.reduceSub, Nat.reduceMul, Nat.reduceEqDiff, Nat.reduceLeDiff, Nat.reduceLT, Nat.reduceBEq, Int.reduceAdd, Int.reduceSub, Int.reduceMul, Int.reduceNeg, Int.reduceLT, Int.reduceLE, Int.reduceEq, Int.reduceToNat, c_disk_Fuel]
  refine s_MayD (by omega) (by omega) _ ?_
  cases hm : mayD d
  · simp (disch := first | omega | (simp only [go_sem, List.length_append, List.length_take, List.length_drop, List.length_replicate, List.length_cons, List.length_nil, List.length_replicate] <;> omega)) only [go_sem, true_and, Nat.reduceAdd, Nat.reduceSub, Nat.reduceMul, Nat.reduceEqDiff, Nat.reduceLeDiff, Nat.reduceLT, Nat.reduceBEq, Int.reduceAdd, Int.reduceSub, Int.reduceMul, Int.reduceNeg, Int.reduceLT, Int.reduceLE, Int.reduceEq, Int.reduceToNat]
    refine end_less [.agg [.sl 1 [], .sl 2 [], .int .i64 0, .bool false], .int .i64 1] (by repeat' (first | exact .nil _ | exact .slx _ _ | exact .refl _ | exact .nil | refine .cons ?_ ?_ | refine .agg ?_ | refine .tup ?_)) ?_
    refine fin_res hw ?_ (fin_eq hK ?_)
    · simp (disch := first | omega | (simp only [go_sem, List.length_append, List.length_take, List.length_drop, List.length_replicate, List.length_cons, List.length_nil, List.length_replicate] <;> omega)) only [go_sem, true_and, Nat.reduceAdd, Nat.reduceSub, Nat.reduceMul, Nat.reduceEqDiff, Nat.reduceLeDiff, Nat.reduceLT, Nat.reduceBEq, Int.reduceAdd, Int.reduceSub, Int.reduceMul, Int.reduceNeg, Int.reduceLT, Int.reduceLE, Int.reduceEq, Int.reduceToNat]
    · simp [fuelD, hm, drV, d0, oneV]
  · by_cases h : n < -1
    · simp (disch := first | omega | (simp only [go_sem, List.length_append, List.length_take, List.length_drop, List.length_replicate, List.length_cons, List.length_nil, List.length_replicate] <;> omega)) only [go_sem, true_and, Nat.reduceAdd, Nat.reduceSub, Nat.reduceMul, Nat.reduceEqDiff, Nat.reduceLeDiff, Nat.reduceLT, Nat.reduceBEq, Int.reduceAdd, Int.reduceSub, Int.reduceMul, Int.reduceNeg, Int.reduceLT, Int.reduceLE, Int.reduceEq, Int.reduceToNat]
      refine end_less [.agg [.sl 1 [], .sl 2 [], .int .i64 0, .bool false], .int .i64 1] (by repeat' (first | exact .nil _ | exact .slx _ _ | exact .refl _ | exact .nil | refine .cons ?_ ?_ | refine .agg ?_ | refine .tup ?_)) ?_
      refine fin_res hw ?_ (fin_eq hK ?_)
      · simp (disch := first | omega | (simp only [go_sem, List.length_append, List.length_take, List.length_drop, List.length_replicate, List.length_cons, List.length_nil, List.length_replicate] <;> omega)) only [go_sem, true_and, Nat.reduceAdd, Nat.reduceSub, Nat.reduceMul, Nat.reduceEqDiff, Nat.reduceLeDiff, Nat.reduceLT, Nat.reduceBEq, Int.reduceAdd, Int.reduceSub, Int.reduceMul, Int.reduceNeg, Int.reduceLT, Int.reduceLE, Int.reduceEq, Int.reduceToNat]
      · have h' : ¬ -1 ≤ n := by omega
        simp [fuelD, hm, h', drV, d0, oneV]
    · simp (disch := first | omega | (simp only [go_sem, List.length_append, List.length_take, List.length_drop, List.length_replicate, List.length_cons, List.length_nil, List.length_replicate] <;> omega)) only [go_sem, true_and, Nat.reduceAdd, Nat.reduceSub, Nat.reduceMul, Nat.reduceEqDiff, Nat.reduceLeDiff, Nat.reduceLT, Nat.reduceBEq, Int.reduceAdd, Int.reduceSub, Int.reduceMul, Int.reduceNeg, Int.reduceLT, Int.reduceLE, Int.reduceEq, Int.reduceToNat]
      refine fin_res hw ?_ (fin_eq hK ?_)
      · simp (disch := first | omega | (simp only [go_sem, List.length_append, List.length_take, List.length_drop, List.length_replicate, List.length_cons, List.length_nil, List.length_replicate] <;> omega)) only [go_sem, true_and, Nat.reduceAdd, Nat.reduceSub, Nat.reduceMul, Nat.reduceEqDiff, Nat.reduceLeDiff, Nat.reduceLT, Nat.reduceBEq, Int.reduceAdd, Int.reduceSub, Int.reduceMul, Int.reduceNeg, Int.reduceLT, Int.reduceLE, Int.reduceEq, Int.reduceToNat]
      · have : -1 ≤ n := by omega
        simp [fuelD, hm, this, drV, oneV]
end Go.Av
namespace Go.Av
open Go
set_option autoImplicit false
set_option linter.all false
/-! ### Write -/
def slc64 (s : B8) (i : Nat) : B8 := (s.take ((i + 1) * 64)).drop (i * 64)
def pushD (d : Dr) (w : Wt) : Dr := (d.1, d.2.1 ++ [w], d.2.2.1, d.2.2.2)
def wr (p : Int) (s : B8) : Nat → Nat → Dr → Dr × Int
  | _, 0, d => (d, 0)
  | i, n + 1, d => if burnO d then wr p s (i + 1) n (pushD (burnD d) (p + i, slc64 s i)) else (burnD d, 10)
def writeD (d : Dr) (p : Int) (s : B8) : Dr × Int :=
  if mayD d && (!decide (s = []) && decide (s.length % 64 = 0)) then (if hasC d.1.length p (s.length / 64 : Nat) then wr p s 0 (s.length / 64) d else (d0, 12)) else (d0, 1)
theorem burn_fuel {d : Dr} (h : -1 ≤ d.2.2.1) : -1 ≤ (burnD d).2.2.1 ∧ (burnD d).2.2.1 ≤ d.2.2.1 := by
  unfold burnD burnF
  split
  · simp; exact h
  · split <;> simp <;> omega
theorem wV_app (L : List Wt) (p : Int) (s : B8) : L.map wV ++ [.agg [.int .i64 p, .str s]] = (L ++ [(p, s)]).map wV := by rw [List.map_append]; rfl
theorem s_Write {d : Dr} {p : Int} {s : B8} {H : List Entry} (hf : DFits d) (hp : -9223372036854775808 ≤ p ∧ p ≤ 9223372036854775807) (hs : s.length ≤ 100000) : Pure AP n_disk_Write [drV d, .int .i64 p, .str s] H (.tup [drV (writeD d p s).1, .int .i64 (writeD d p s).2]) := by
  intro K hK
  refine a_disk_Write fun hw => ?_
  obtain ⟨h1, h2, h3, h4⟩ := hf
  have err : ∀ (z : Int) (H' : List Entry) , writeD d p s = (d0, z) → endW H.length [.agg [.nilsl, .nilsl, .int .i64 0, .bool false], .int .i64 z] K (H ++ H') := by
    intro z H' hz
    refine end_less [.agg [.sl 1 [], .sl 2 [], .int .i64 0, .bool false], .int .i64 z] (by repeat' (first | exact .nil _ | exact .slx _ _ | exact .refl _ | exact .nil | refine .cons ?_ ?_ | refine .agg ?_ | refine .tup ?_)) ?_
    refine fin_res hw ?_ (fin_eq hK ?_)
    · simp (disch := first | omega | (simp only [go_sem, List.length_append, List.length_take, List.length_drop, List.length_replicate, List.length_cons, List.length_nil, List.length_replicate] <;> omega)) only [go_sem, true_and, Nat.reduceAdd, Nat.reduceSub, Nat.reduceMul, Nat.reduceEqDiff, Nat.reduceLeDiff, Nat.reduceLT, Nat.reduceBEq, Int.reduceAdd, Int.reduceSub, Int.reduceMul, Int.reduceNeg, Int.reduceLT, Int.reduceLE, Int.reduceEq, Int.reduceToNat]
    · rw [hz]; simp [drV, d0, oneV]
  simp (disch := first | omega | (simp only [go_sem, List.length_append, List.length_take, List.length_drop, List.length_replicate, List.length_cons, List.length_nil, List.length_replicate] <;> omega)) only [go_sem, true_and, Nat.reduceAdd, Nat.reduceSub, Nat.reduceMul, Nat.reduceEqDiff, Nat.reduceLeDiff, Nat.reduceLT, Nat.reduceBEq, Int.reduceAdd, Int.reduceSub, Int.reduceMul, Int.reduceNeg, Int.reduceLT, Int.reduceLE, Int.reduceEq, Int.reduceToNat, c_disk_Write]
  refine s_MayD (by omega) (by omega) _ ?_
  cases hm : mayD d
  · simp (disch := first | omega | (simp only [go_sem, List.length_append, List.length_take, List.length_drop, List.length_replicate, List.length_cons, List.length_nil, List.length_replicate] <;> omega)) only [go_sem, true_and, Nat.reduceAdd, Nat.reduceSub, Nat.reduceMul, Nat.reduceEqDiff, Nat.reduceLeDiff, Nat.reduceLT, Nat.reduceBEq, Int.reduceAdd, Int.reduceSub, Int.reduceMul, Int.reduceNeg, Int.reduceLT, Int.reduceLE, Int.reduceEq, Int.reduceToNat]
    exact err 1 _ (by simp [writeD, hm])
  obtain ⟨m1, m2, m3, m4⟩ := may_all hm
  simp (disch := first | omega | (simp only [go_sem, List.length_append, List.length_take, List.length_drop, List.length_replicate, List.length_cons, List.length_nil, List.length_replicate] <;> omega)) only [go_sem, true_and, Nat.reduceAdd, Nat.reduceSub, Nat.reduceMul, Nat.reduceEqDiff, Nat.reduceLeDiff, Nat.reduceLT, Nat.reduceBEq, Int.reduceAdd, Int.reduceSub, Int.reduceMul, Int.reduceNeg, Int.reduceLT, Int.reduceLE, Int.reduceEq, Int.reduceToNat]
  by_cases h0 : s = []
  · simp (disch := first | omega | (simp only [go_sem, List.length_append, List.length_take, List.length_drop, List.length_replicate, List.length_cons, List.length_nil, List.length_replicate] <;> omega)) only [go_sem, true_and, Nat.reduceAdd, Nat.reduceSub, Nat.reduceMul, Nat.reduceEqDiff, Nat.reduceLeDiff, Nat.reduceLT, Nat.reduceBEq, Int.reduceAdd, Int.reduceSub, Int.reduceMul, Int.reduceNeg, Int.reduceLT, Int.reduceLE, Int.reduceEq, Int.reduceToNat, h0]
    exact err 1 _ (by simp [writeD, h0])
  simp (disch := first | omega | (simp only [go_sem, List.length_append, List.length_take, List.length_drop, List.length_replicate, List.length_cons, List.length_nil, List.length_replicate] <;> omega)) only [go_sem, true_and, Nat.reduceAdd, Nat.reduceSub, Nat.reduceMul, Nat.reduceEqDiff, Nat.reduceLeDiff, Nat.reduceLT, Nat.reduceBEq, Int.reduceAdd, Int.reduceSub, Int.reduceMul, Int.reduceNeg, Int.reduceLT, Int.reduceLE, Int.reduceEq, Int.reduceToNat, h0]
  by_cases h5 : (s.length : Int) % 64 = 0
  rotate_left
  · simp (disch := first | omega | (simp only [go_sem, List.length_append, List.length_take, List.length_drop, List.length_replicate, List.length_cons, List.length_nil, List.length_replicate] <;> omega)) only [go_sem, true_and, Nat.reduceAdd, Nat.reduceSub, Nat.reduceMul, Nat.reduceEqDiff, Nat.reduceLeDiff, Nat.reduceLT, Nat.reduceBEq, Int.reduceAdd, Int.reduceSub, Int.reduceMul, Int.reduceNeg, Int.reduceLT, Int.reduceLE, Int.reduceEq, Int.reduceToNat]
    exact err 1 _ (by have : ¬ s.length % 64 = 0 := by omega
                      simp [writeD, this])
  obtain ⟨N, hN⟩ : ∃ N : Nat, s.length = 64 * N := ⟨s.length / 64, by omega⟩
  have e1 : (s.length : Int) / 64 = (N : Int) := by omega
  have e2 : s.length / 64 = N := by omega
  have e3 : s.length % 64 = 0 := by omega
  simp (disch := first | omega | (simp only [go_sem, List.length_append, List.length_take, List.length_drop, List.length_replicate, List.length_cons, List.length_nil, List.length_replicate] <;> omega)) only [go_sem, true_and, Nat.reduceAdd, Nat.reduceSub, Nat.reduceMul, Nat.reduceEqDiff, Nat.reduceLeDiff, Nat.reduceLT, Nat.reduceBEq, Int.reduceAdd, Int.reduceSub, Int.reduceMul, Int.reduceNeg, Int.reduceLT, Int.reduceLE, Int.reduceEq, Int.reduceToNat, e1]
  refine s_hasCells (d := d) (at' := p) (n := (N : Int)) (by omega) _ ?_
  cases hh : hasC d.1.length p N
  · simp (disch := first | omega | (simp only [go_sem, List.length_append, List.length_take, List.length_drop, List.length_replicate, List.length_cons, List.length_nil, List.length_replicate] <;> omega)) only [go_sem, true_and, Nat.reduceAdd, Nat.reduceSub, Nat.reduceMul, Nat.reduceEqDiff, Nat.reduceLeDiff, Nat.reduceLT, Nat.reduceBEq, Int.reduceAdd, Int.reduceSub, Int.reduceMul, Int.reduceNeg, Int.reduceLT, Int.reduceLE, Int.reduceEq, Int.reduceToNat]
    exact err 12 _ (by simp [writeD, hm, h0, e2, e3, hh])
  have hD : writeD d p s = wr p s 0 N d := by simp [writeD, hm, h0, e2, e3, hh]
  have hp2 : 0 ≤ p ∧ p ≤ d.1.length := by simp [hasC] at hh; omega
  simp (disch := first | omega | (simp only [go_sem, List.length_append, List.length_take, List.length_drop, List.length_replicate, List.length_cons, List.length_nil, List.length_replicate] <;> omega)) only [go_sem, true_and, Nat.reduceAdd, Nat.reduceSub, Nat.reduceMul, Nat.reduceEqDiff, Nat.reduceLeDiff, Nat.reduceLT, Nat.reduceBEq, Int.reduceAdd, Int.reduceSub, Int.reduceMul, Int.reduceNeg, Int.reduceLT, Int.reduceLE, Int.reduceEq, Int.reduceToNat]
  refine s_CloneW (by simp; omega) ?_
  simp (disch := first | omega | (simp only [go_sem, List.length_append, List.length_take, List.length_drop, List.length_replicate, List.length_cons, List.length_nil, List.length_replicate] <;> omega)) only [go_sem, true_and, Nat.reduceAdd, Nat.reduceSub, Nat.reduceMul, Nat.reduceEqDiff, Nat.reduceLeDiff, Nat.reduceLT, Nat.reduceBEq, Int.reduceAdd, Int.reduceSub, Int.reduceMul, Int.reduceNeg, Int.reduceLT, Int.reduceLE, Int.reduceEq, Int.reduceToNat, e1]
  refine loop_in (fun m e H' => ∃ (i : Nat) (d' : Dr), m = N - i ∧ e = slots 0 62 [(1, .int .i64 p), (2, .str s), (3, .ptr H.length 0), (6, .ptr (H.length + 1) 0), (7, .int .i64 0), (37, .int .i64 (N : Int)), (38, .int .i64 (i : Int))] ∧ H' = H ++ [.box [.sl 1 (d.1.map sV), .own (H.length + 2) d'.2.1.length, .int .i64 d'.2.2.1, .bool d'.2.2.2], .box [.nilsl, .nilsl, .int .i64 0, .bool false], .row 53 2 (d'.2.1.map wV)] ∧ i ≤ N ∧ wr p s i (N - i) d' = wr p s 0 N d ∧ d'.1 = d.1 ∧ d'.2.1.length = d.2.1.length + i ∧ -1 ≤ d'.2.2.1 ∧ d'.2.2.1 ≤ 9223372036854775807) (n := N) ⟨0, d, rfl, rfl, rfl, by omega, rfl, rfl, rfl, m2, h3⟩ (by first | omega | (simp only [go_sem, List.length_append, List.length_take, List.length_drop, List.length_replicate, true_and, Nat.reduceAdd, Nat.reduceSub, Nat.reduceMul, Nat.reduceEqDiff, Nat.reduceLeDiff, Nat.reduceLT, Nat.reduceBEq, Int.reduceAdd, Int.reduceSub, Int.reduceMul, Int.reduceNeg, Int.reduceLT, Int.reduceLE, Int.reduceEq, Int.reduceToNat] <;> omega)) ?_ ?_ ?_
  · simp (disch := (simp only [go_sem, true_and, Nat.reduceAdd, Nat.reduceSub, Nat.reduceMul, Nat.reduceEqDiff, Nat.reduceLeDiff, Nat.reduceLT, Nat.reduceBEq, Int.reduceAdd, Int.reduceSub, Int.reduceMul, Int.reduceNeg, Int.reduceLT, Int.reduceLE, Int.reduceEq, Int.reduceToNat] <;> omega)) only [go_sem, x_eLeS, x_hLeS, Int.natCast_zero, Int.natCast_add, Int.natCast_one, true_and, Nat.reduceAdd, Nat.reduceSub, Nat.reduceMul, Nat.reduceEqDiff, Nat.reduceLeDiff, Nat.reduceLT, Nat.reduceBEq, Int.reduceAdd, Int.reduceSub, Int.reduceMul, Int.reduceNeg, Int.reduceLT, Int.reduceLE, Int.reduceEq, Int.reduceToNat]
  · exact hLe_app hw (by first | omega | (simp only [go_sem, List.length_append, List.length_take, List.length_drop, List.length_replicate, true_and, Nat.reduceAdd, Nat.reduceSub, Nat.reduceMul, Nat.reduceEqDiff, Nat.reduceLeDiff, Nat.reduceLT, Nat.reduceBEq, Int.reduceAdd, Int.reduceSub, Int.reduceMul, Int.reduceNeg, Int.reduceLT, Int.reduceLE, Int.reduceEq, Int.reduceToNat] <;> omega)) (by simp (disch := (simp only [go_sem, true_and, Nat.reduceAdd, Nat.reduceSub, Nat.reduceMul, Nat.reduceEqDiff, Nat.reduceLeDiff, Nat.reduceLT, Nat.reduceBEq, Int.reduceAdd, Int.reduceSub, Int.reduceMul, Int.reduceNeg, Int.reduceLT, Int.reduceLE, Int.reduceEq, Int.reduceToNat] <;> omega)) only [go_sem, x_eLeS, x_hLeS, Int.natCast_zero, Int.natCast_add, Int.natCast_one, true_and, Nat.reduceAdd, Nat.reduceSub, Nat.reduceMul, Nat.reduceEqDiff, Nat.reduceLeDiff, Nat.reduceLT, Nat.reduceBEq, Int.reduceAdd, Int.reduceSub, Int.reduceMul, Int.reduceNeg, Int.reduceLT, Int.reduceLE, Int.reduceEq, Int.reduceToNat])
  · rintro J hJ m e H' ⟨i, ⟨X', Q', f', o'⟩, rfl, rfl, rfl, hi1, hr, hx, hq, hf1, hf2⟩
    simp only at hx hq hf1 hf2
    subst hx
    simp (disch := first | omega | (simp only [go_sem, List.length_append, List.length_take, List.length_drop, List.length_replicate, List.length_cons, List.length_nil, List.length_replicate] <;> omega)) only [go_sem, true_and, Nat.reduceAdd, Nat.reduceSub, Nat.reduceMul, Nat.reduceEqDiff, Nat.reduceLeDiff, Nat.reduceLT, Nat.reduceBEq, Int.reduceAdd, Int.reduceSub, Int.reduceMul, Int.reduceNeg, Int.reduceLT, Int.reduceLE, Int.reduceEq, Int.reduceToNat]
    by_cases h2 : (i : Int) < N
    · simp (disch := first | omega | (simp only [go_sem, List.length_append, List.length_take, List.length_drop, List.length_replicate, List.length_cons, List.length_nil, List.length_replicate] <;> omega)) only [go_sem, true_and, Nat.reduceAdd, Nat.reduceSub, Nat.reduceMul, Nat.reduceEqDiff, Nat.reduceLeDiff, Nat.reduceLT, Nat.reduceBEq, Int.reduceAdd, Int.reduceSub, Int.reduceMul, Int.reduceNeg, Int.reduceLT, Int.reduceLE, Int.reduceEq, Int.reduceToNat]
      refine s_burn (g := H.length) (a := .sl 1 (d.1.map sV)) (b := .own (H.length + 2) Q'.length) (f := f') (o := o') (by simp (disch := first | omega | (simp only [go_sem, List.length_append, List.length_take, List.length_drop, List.length_replicate, List.length_cons, List.length_nil, List.length_replicate] <;> omega)) only [go_sem, true_and, Nat.reduceAdd, Nat.reduceSub, Nat.reduceMul, Nat.reduceEqDiff, Nat.reduceLeDiff, Nat.reduceLT, Nat.reduceBEq, Int.reduceAdd, Int.reduceSub, Int.reduceMul, Int.reduceNeg, Int.reduceLT, Int.reduceLE, Int.reduceEq, Int.reduceToNat]) (by omega) ?_
      obtain ⟨n, hn⟩ : ∃ n, N - i = n + 1 := ⟨N - i - 1, by omega⟩
      rw [hn] at hr
      have hbf := burn_fuel (d := (d.1, Q', f', o')) hf1
      cases hb : (burnF f' o').1
      · have hD2 : writeD d p s = (burnD (d.1, Q', f', o'), 10) := by
          rw [hD, ← hr]; simp [wr, burnO, hb]
        simp (disch := first | omega | (simp only [go_sem, List.length_append, List.length_take, List.length_drop, List.length_replicate, List.length_cons, List.length_nil, List.length_replicate] <;> omega)) only [go_sem, true_and, Nat.reduceAdd, Nat.reduceSub, Nat.reduceMul, Nat.reduceEqDiff, Nat.reduceLeDiff, Nat.reduceLT, Nat.reduceBEq, Int.reduceAdd, Int.reduceSub, Int.reduceMul, Int.reduceNeg, Int.reduceLT, Int.reduceLE, Int.reduceEq, Int.reduceToNat, hb]
        refine end_frz 0 ?_
        simp (disch := first | omega | (simp only [go_sem, List.length_append, List.length_take, List.length_drop, List.length_replicate, List.length_cons, List.length_nil, List.length_replicate] <;> omega)) only [go_sem, true_and, Nat.reduceAdd, Nat.reduceSub, Nat.reduceMul, Nat.reduceEqDiff, Nat.reduceLeDiff, Nat.reduceLT, Nat.reduceBEq, Int.reduceAdd, Int.reduceSub, Int.reduceMul, Int.reduceNeg, Int.reduceLT, Int.reduceLE, Int.reduceEq, Int.reduceToNat, fz, fzsW, fzRow, List.length_map, if_true]
        refine fin_res hw ?_ (fin_eq hK ?_)
        · simp (disch := first | omega | (simp only [go_sem, List.length_append, List.length_take, List.length_drop, List.length_replicate, List.length_cons, List.length_nil, List.length_replicate] <;> omega)) only [go_sem, true_and, Nat.reduceAdd, Nat.reduceSub, Nat.reduceMul, Nat.reduceEqDiff, Nat.reduceLeDiff, Nat.reduceLT, Nat.reduceBEq, Int.reduceAdd, Int.reduceSub, Int.reduceMul, Int.reduceNeg, Int.reduceLT, Int.reduceLE, Int.reduceEq, Int.reduceToNat]
        · rw [hD2]; simp [drV, burnD, oneV]
      · have hr2 : wr p s (i + 1) n (pushD (burnD (d.1, Q', f', o')) (p + i, slc64 s i)) = wr p s 0 N d := by
          rw [← hr]; simp [wr, burnO, hb]
        have hs2 : slc64 s i = (s.take ((i + 1) * 64)).drop (i * 64) := rfl
        have e5 : (((i : Int) + 1) * 64).toNat = (i + 1) * 64 := by omega
        have e6 : ((i : Int) * 64).toNat = i * 64 := by omega
        simp (disch := first | omega | (simp only [go_sem, List.length_append, List.length_take, List.length_drop, List.length_replicate, List.length_cons, List.length_nil, List.length_replicate] <;> omega)) only [go_sem, true_and, Nat.reduceAdd, Nat.reduceSub, Nat.reduceMul, Nat.reduceEqDiff, Nat.reduceLeDiff, Nat.reduceLT, Nat.reduceBEq, Int.reduceAdd, Int.reduceSub, Int.reduceMul, Int.reduceNeg, Int.reduceLT, Int.reduceLE, Int.reduceEq, Int.reduceToNat, hb, e5, e6, ← hs2, wV_app]
        have e7 : (Q' ++ [(p + (i : Int), slc64 s i)]).length = Q'.length + 1 := by simp
        refine round_end (hJ _ _ _ ⟨i + 1, (d.1, Q' ++ [(p + (i : Int), slc64 s i)], (burnF f' o').2.1, (burnF f' o').2.2), rfl, rfl, rfl, by omega, by rw [show N - (i + 1) = n by omega]; exact hr2, rfl, by simp only [e7]; omega, hbf.1, Int.le_trans hbf.2 hf2⟩) (by omega) (by first | omega | (simp only [go_sem, List.length_append, List.length_take, List.length_drop, List.length_replicate, true_and, Nat.reduceAdd, Nat.reduceSub, Nat.reduceMul, Nat.reduceEqDiff, Nat.reduceLeDiff, Nat.reduceLT, Nat.reduceBEq, Int.reduceAdd, Int.reduceSub, Int.reduceMul, Int.reduceNeg, Int.reduceLT, Int.reduceLE, Int.reduceEq, Int.reduceToNat] <;> omega)) ?_ ?_
        · simp (disch := (simp only [go_sem, true_and, Nat.reduceAdd, Nat.reduceSub, Nat.reduceMul, Nat.reduceEqDiff, Nat.reduceLeDiff, Nat.reduceLT, Nat.reduceBEq, Int.reduceAdd, Int.reduceSub, Int.reduceMul, Int.reduceNeg, Int.reduceLT, Int.reduceLE, Int.reduceEq, Int.reduceToNat] <;> omega)) only [go_sem, x_eLeS, x_hLeS, Int.natCast_zero, Int.natCast_add, Int.natCast_one, true_and, Nat.reduceAdd, Nat.reduceSub, Nat.reduceMul, Nat.reduceEqDiff, Nat.reduceLeDiff, Nat.reduceLT, Nat.reduceBEq, Int.reduceAdd, Int.reduceSub, Int.reduceMul, Int.reduceNeg, Int.reduceLT, Int.reduceLE, Int.reduceEq, Int.reduceToNat]
        · simp only [e7]
          exact hLe_app hw (by first | omega | (simp only [go_sem, List.length_append, List.length_take, List.length_drop, List.length_replicate, true_and, Nat.reduceAdd, Nat.reduceSub, Nat.reduceMul, Nat.reduceEqDiff, Nat.reduceLeDiff, Nat.reduceLT, Nat.reduceBEq, Int.reduceAdd, Int.reduceSub, Int.reduceMul, Int.reduceNeg, Int.reduceLT, Int.reduceLE, Int.reduceEq, Int.reduceToNat] <;> omega)) (by simp (disch := (simp only [go_sem, true_and, Nat.reduceAdd, Nat.reduceSub, Nat.reduceMul, Nat.reduceEqDiff, Nat.reduceLeDiff, Nat.reduceLT, Nat.reduceBEq, Int.reduceAdd, Int.reduceSub, Int.reduceMul, Int.reduceNeg, Int.reduceLT, Int.reduceLE, Int.reduceEq, Int.reduceToNat] <;> omega)) only [go_sem, x_eLeS, x_hLeS, Int.natCast_zero, Int.natCast_add, Int.natCast_one, true_and, Nat.reduceAdd, Nat.reduceSub, Nat.reduceMul, Nat.reduceEqDiff, Nat.reduceLeDiff, Nat.reduceLT, Nat.reduceBEq, Int.reduceAdd, Int.reduceSub, Int.reduceMul, Int.reduceNeg, Int.reduceLT, Int.reduceLE, Int.reduceEq, Int.reduceToNat])
    · have hi : i = N := by omega
      subst hi
      have hD2 : writeD d p s = ((d.1, Q', f', o'), 0) := by
        rw [hD, ← hr, Nat.sub_self]; rfl
      simp (disch := first | omega | (simp only [go_sem, List.length_append, List.length_take, List.length_drop, List.length_replicate, List.length_cons, List.length_nil, List.length_replicate] <;> omega)) only [go_sem, true_and, Nat.reduceAdd, Nat.reduceSub, Nat.reduceMul, Nat.reduceEqDiff, Nat.reduceLeDiff, Nat.reduceLT, Nat.reduceBEq, Int.reduceAdd, Int.reduceSub, Int.reduceMul, Int.reduceNeg, Int.reduceLT, Int.reduceLE, Int.reduceEq, Int.reduceToNat]
      refine end_frz 0 ?_
      simp (disch := first | omega | (simp only [go_sem, List.length_append, List.length_take, List.length_drop, List.length_replicate, List.length_cons, List.length_nil, List.length_replicate] <;> omega)) only [go_sem, true_and, Nat.reduceAdd, Nat.reduceSub, Nat.reduceMul, Nat.reduceEqDiff, Nat.reduceLeDiff, Nat.reduceLT, Nat.reduceBEq, Int.reduceAdd, Int.reduceSub, Int.reduceMul, Int.reduceNeg, Int.reduceLT, Int.reduceLE, Int.reduceEq, Int.reduceToNat, fz, fzsW, fzRow, List.length_map, if_true]
      refine fin_res hw ?_ (fin_eq hK ?_)
      · simp (disch := first | omega | (simp only [go_sem, List.length_append, List.length_take, List.length_drop, List.length_replicate, List.length_cons, List.length_nil, List.length_replicate] <;> omega)) only [go_sem, true_and, Nat.reduceAdd, Nat.reduceSub, Nat.reduceMul, Nat.reduceEqDiff, Nat.reduceLeDiff, Nat.reduceLT, Nat.reduceBEq, Int.reduceAdd, Int.reduceSub, Int.reduceMul, Int.reduceNeg, Int.reduceLT, Int.reduceLE, Int.reduceEq, Int.reduceToNat]
      · rw [hD2]; simp [drV, oneV]
end Go.Av
