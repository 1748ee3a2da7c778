/- TopicReads: proved: for every input the law returns true, and each argument reads afterwards as it read before. No condition. -/
import Derived.Test.YtgeiicchkfpanaaRows
import Derived.Test.YtgeiicchkfpanaaK5
import Derived.Test.YtgeiicchkfpanaaTg
import Derived.WalkKit
import Derived.Below
import Derived.ChangeOld
import Derived.ProofKit
import Derived.OpenShut
import Derived.ShutString
import Derived.Carry
import Derived.ChangeSame
namespace Go.Proofs.Ytgeiicchkfpanaa.topicReads
open Go.ChangeShapes Go.WideShapes Go.ChangeAt Go.RowKit Go.Av
set_option linter.all false

theorem own : ownKnob Try.prog.godebug = none := by kernel_rfl
theorem laidOut : laidOutB Try.prog = true := by kernel_rfl

/-! ### The row's step -/
set_option maxRecDepth 100000 in
theorem lifted (os : Os) (started : os.Started) (H : Type) (enc : TypeId × Value → H) :
    ReturnsInHanded {} Try.checked os 4 .any (Rows.topicReadsSpec.pre6 enc Try.prog Try.f4 Rows.topicReadsRow.domain false) (Rows.topicReadsSpec.post enc Try.prog Try.f4 false true false false) := by
  refine returnsInHanded_of_change (C := Try.checked) own started (by kernel_rfl) Try.func4
    (ChangeSpec.witness6 (enc := enc) (C := Try.checked) false ⟨#[], #[.slice none 0 0, .string ByteArray.empty, .int .i64 0], []⟩ 8 (by kernel_rfl) (by kernel_rfl) (by kernel_rfl) (by kernel_rfl)) ?_
  intro W base args ds gs before hval0 hW hcnd _
  have hval : ∀ (j : Nat) t v, Try.f4.params[j]? = some t → args[j]? = some v → Value.okWide Try.prog W .any base t v := hval0
  have hW' := hW
  obtain ⟨p, q, hA0, hV, rfl, hfz, hnd⟩ := hW
  have hA : DataW.TrodAll enc Try.prog W 0 (fun _ => true) true Try.f4.params.toList args.toList ds p := hA0
  rw [Try.params4] at hA hval
  obtain ⟨v0, vs0, d0, ds0, p0, q0, hargs, rfl, rfl, h0, r0⟩ := trodAll_cons hA
  obtain ⟨v1, vs1, d1, ds1, p1, q1, rfl, rfl, rfl, h1, r1⟩ := trodAll_cons r0
  obtain ⟨v2, vs2, d2, ds2, p2, q2, rfl, rfl, rfl, h2, r2⟩ := trodAll_cons r1
  obtain ⟨rfl, rfl, rfl⟩ := trodAll_nil r2
  obtain rfl : args = #[v0, v1, v2] := by cases args; simp_all
  obtain ⟨rfl, rfl⟩ := trodVars_none hV
  have hlt0 : ∀ x ∈ p0, x.block < W.heap.size := fun x hx => hW'.lt x (by simp [hx])
  obtain ⟨y0, g0, e0⟩ := open_arg (dep := 19) (hval 0 22 v0 rfl rfl) h0 (show shC Try.prog 20 22 = some [.sl 3 true [.str, .int .i64, .sl 1 false [.str]]] by kernel_rfl)
  rw [show isAggT Try.prog 22 = false by kernel_rfl] at g0
  obtain ⟨X0, rfl, w0, m0⟩ := fit_tps g0
  have hlt1 : ∀ x ∈ p1, x.block < W.heap.size := fun x hx => hW'.lt x (by simp [hx])
  obtain ⟨y1, g1, e1⟩ := open_arg (dep := 19) (hval 1 9 v1 rfl rfl) h1 (show shC Try.prog 20 9 = some [.str] by kernel_rfl)
  rw [show isAggT Try.prog 9 = false by kernel_rfl] at g1
  obtain ⟨s1, rfl, w1⟩ := fit_str g1
  have hlt2 : ∀ x ∈ p2, x.block < W.heap.size := fun x hx => hW'.lt x (by simp [hx])
  obtain ⟨y2, g2, e2⟩ := open_arg (dep := 19) (hval 2 3 v2 rfl rfl) h2 (show shC Try.prog 20 3 = some [.int .i64] by kernel_rfl)
  rw [show isAggT Try.prog 3 = false by kernel_rfl] at g2
  obtain ⟨a2, rfl, w2⟩ := fit_int g2
  clear hA0 hval0
  refine (law_of (r := V.junk) (vals := [v0, v1, v2]) ((law_reads m0 w0 w1 (b_i64 w2)) _ rfl) ⟨_, _, rfl, e0, ⟨_, _, rfl, e1, ⟨_, _, rfl, e2, rfl⟩⟩⟩).mono fun e W' ⟨he, bel⟩ => ?_
  subst he
  exact ⟨_, rfl, _, _, _, [], _, [], hW', trodAll_mk1 (shut_bool Try.underlying4 _), (trodAll_cons_mk (Below.trod laidOut (by kernel_rfl) (of_decide_eq_true (by kernel_rfl)) h0 bel hlt0) (trodAll_cons_mk (Below.trod laidOut (by kernel_rfl) (of_decide_eq_true (by kernel_rfl)) h1 bel hlt1) (trodAll_cons_mk (Below.trod laidOut (by kernel_rfl) (of_decide_eq_true (by kernel_rfl)) h2 bel hlt2) trodAll_mk0))), rfl, bel.frame _, fun h => by cases h⟩

theorem over : Rows.topicReadsRow.holds Try.pinned (OpenSpec.ofChange Rows.topicReadsSpec) :=
  OpenClaim.holds_of_wide 4 Try.f4 rfl rfl rfl rfl rfl rfl rfl ⟨rfl, rfl, rfl, rfl, rfl⟩ rfl rfl rfl rfl rfl (by kernel_rfl) Try.func4 (by kernel_rfl)
    (of_decide_eq_true (by kernel_rfl)) (by unfold Func.isWrapper; first | (rw [if_pos (by decide +kernel)]; kernel_rfl) | (rw [if_neg (by decide +kernel)]; exact ⟨rfl, rfl⟩))
    (fun os started H enc _ => lifted os started H enc)

/-- The statement. -/
theorem proved : Rows.TopicReadsSaid :=
  over
#print axioms proved
end Go.Proofs.Ytgeiicchkfpanaa.topicReads
