/-
  No cell of these rows narrows 'for every input' (looked for: loops, veiled, ifaces, maps, wideKeys, modest, calm, conditions, laid).
  DERIVED. THE GIVEN ROWS OF THIS SEAT. 6 by the template 'for every input the law returns true; each argument reads behind the call as it read before'; 0 by the template 'total and deterministic' (their statements: YtgipohicgbppaaaTotals.lean).
  GIVEN WITH THE SEED: the statements are not yours to turn. If you find one false, say at which input.
  Laid BY PROGRAM, IN A SANDBOX (cutbox-rows.mjs): the forced cells as the released guide's own fill.sh prints them over the translation c00750a43f814051… (all of the seat's roots in one cut). By AI agents, Wed Nov 11 2026. No macro, syntax, notation, axiom, sorry.
-/
import Derived.Test.YtgipohicgbppaaaChecked
import GoSem.Claim
import GoSem.ClaimJoined
import GoSem.ClaimMapViews
import Derived.JoinedTies
import Derived.KernelRfl
namespace Go.Proofs.Ytgipohicgbppaaa
/- THE CELL 'sum', in the pinned program and in every row, IS THE sha256 OF THE DUMP (.gsa) THAT YtgipohicgbppaaaProg.lean LOADS. Nothing in Lean hashes anything: it is a label: what it is worth is what the hold of that sum in a sandbox is worth. -/
noncomputable def Try.pinned : Pinned := { name := "ytgipohicgbppaaa", sum := "c00750a43f81405195962c6d446c48fcc625e96bb5fd527f83df9fa6b4651a57", checked := Try.checked }
namespace Rows
def none {H : Type} : Left H := { results := [], args := [] }

/-- 'trystlaw11.WheelSets': WHATEVER THE INPUT: true; the input reads as it did. -/
def wheelSetsSpec : ChangeSpec := { name := "wheelSets", fn := fun _ => fun
  | [d1, d2, d3] => { results := [.lit (.bool true)], args := [d1, d2, d3] }
  | _ => none }
def wheelSetsRow : OpenClaim := { program := "ytgipohicgbppaaa", sum := "c00750a43f81405195962c6d446c48fcc625e96bb5fd527f83df9fa6b4651a57", func := "tryst/trystlaw11.WheelSets", spec := "wheelSets", unfollowed := true, recurses := true, apart := false }
def WheelSetsSaid : Prop := wheelSetsRow.holds Try.pinned (OpenSpec.ofChange wheelSetsSpec)

/-- ITS FALSE NEIGHBOUR: 'it returns false'. Refute it at one input. -/
def wheelSetsWrong : ChangeSpec := { name := "wheelSets", fn := fun _ => fun
  | [d1, d2, d3] => { results := [.lit (.bool false)], args := [d1, d2, d3] }
  | _ => none }
def WheelSetsWrongFalsely : Prop := wheelSetsRow.holds Try.pinned (OpenSpec.ofChange wheelSetsWrong)

/-- 'trystlaw11.WheelRings': WHATEVER THE INPUT: true; the input reads as it did. -/
def wheelRingsSpec : ChangeSpec := { name := "wheelRings", fn := fun _ => fun
  | [d1, d2] => { results := [.lit (.bool true)], args := [d1, d2] }
  | _ => none }
def wheelRingsRow : OpenClaim := { program := "ytgipohicgbppaaa", sum := "c00750a43f81405195962c6d446c48fcc625e96bb5fd527f83df9fa6b4651a57", func := "tryst/trystlaw11.WheelRings", spec := "wheelRings", unfollowed := true, recurses := true, apart := false }
def WheelRingsSaid : Prop := wheelRingsRow.holds Try.pinned (OpenSpec.ofChange wheelRingsSpec)

/-- ITS FALSE NEIGHBOUR: 'it returns false'. Refute it at one input. -/
def wheelRingsWrong : ChangeSpec := { name := "wheelRings", fn := fun _ => fun
  | [d1, d2] => { results := [.lit (.bool false)], args := [d1, d2] }
  | _ => none }
def WheelRingsWrongFalsely : Prop := wheelRingsRow.holds Try.pinned (OpenSpec.ofChange wheelRingsWrong)

/-- 'trystlaw11.WheelGoes': WHATEVER THE INPUT: true; the input reads as it did. -/
def wheelGoesSpec : ChangeSpec := { name := "wheelGoes", fn := fun _ => fun
  | [d1, d2, d3] => { results := [.lit (.bool true)], args := [d1, d2, d3] }
  | _ => none }
def wheelGoesRow : OpenClaim := { program := "ytgipohicgbppaaa", sum := "c00750a43f81405195962c6d446c48fcc625e96bb5fd527f83df9fa6b4651a57", func := "tryst/trystlaw11.WheelGoes", spec := "wheelGoes", unfollowed := true, recurses := true, apart := false }
def WheelGoesSaid : Prop := wheelGoesRow.holds Try.pinned (OpenSpec.ofChange wheelGoesSpec)

/-- ITS FALSE NEIGHBOUR: 'it returns false'. Refute it at one input. -/
def wheelGoesWrong : ChangeSpec := { name := "wheelGoes", fn := fun _ => fun
  | [d1, d2, d3] => { results := [.lit (.bool false)], args := [d1, d2, d3] }
  | _ => none }
def WheelGoesWrongFalsely : Prop := wheelGoesRow.holds Try.pinned (OpenSpec.ofChange wheelGoesWrong)

/-- 'trystlaw11.WheelOnce': WHATEVER THE INPUT: true; the input reads as it did. -/
def wheelOnceSpec : ChangeSpec := { name := "wheelOnce", fn := fun _ => fun
  | [d1, d2] => { results := [.lit (.bool true)], args := [d1, d2] }
  | _ => none }
def wheelOnceRow : OpenClaim := { program := "ytgipohicgbppaaa", sum := "c00750a43f81405195962c6d446c48fcc625e96bb5fd527f83df9fa6b4651a57", func := "tryst/trystlaw11.WheelOnce", spec := "wheelOnce", unfollowed := true, recurses := true, apart := false }
def WheelOnceSaid : Prop := wheelOnceRow.holds Try.pinned (OpenSpec.ofChange wheelOnceSpec)

/-- ITS FALSE NEIGHBOUR: 'it returns false'. Refute it at one input. -/
def wheelOnceWrong : ChangeSpec := { name := "wheelOnce", fn := fun _ => fun
  | [d1, d2] => { results := [.lit (.bool false)], args := [d1, d2] }
  | _ => none }
def WheelOnceWrongFalsely : Prop := wheelOnceRow.holds Try.pinned (OpenSpec.ofChange wheelOnceWrong)

/-- 'trystlaw11.WheelTurns': WHATEVER THE INPUT: true; the input reads as it did. -/
def wheelTurnsSpec : ChangeSpec := { name := "wheelTurns", fn := fun _ => fun
  | [d1, d2, d3] => { results := [.lit (.bool true)], args := [d1, d2, d3] }
  | _ => none }
def wheelTurnsRow : OpenClaim := { program := "ytgipohicgbppaaa", sum := "c00750a43f81405195962c6d446c48fcc625e96bb5fd527f83df9fa6b4651a57", func := "tryst/trystlaw11.WheelTurns", spec := "wheelTurns", unfollowed := true, recurses := true, apart := false }
def WheelTurnsSaid : Prop := wheelTurnsRow.holds Try.pinned (OpenSpec.ofChange wheelTurnsSpec)

/-- ITS FALSE NEIGHBOUR: 'it returns false'. Refute it at one input. -/
def wheelTurnsWrong : ChangeSpec := { name := "wheelTurns", fn := fun _ => fun
  | [d1, d2, d3] => { results := [.lit (.bool false)], args := [d1, d2, d3] }
  | _ => none }
def WheelTurnsWrongFalsely : Prop := wheelTurnsRow.holds Try.pinned (OpenSpec.ofChange wheelTurnsWrong)

/-- 'trystlaw11.WheelAll': WHATEVER THE INPUT: true; the input reads as it did. -/
def wheelAllSpec : ChangeSpec := { name := "wheelAll", fn := fun _ => fun
  | [d] => { results := [.lit (.bool true)], args := [d] }
  | _ => none }
def wheelAllRow : OpenClaim := { program := "ytgipohicgbppaaa", sum := "c00750a43f81405195962c6d446c48fcc625e96bb5fd527f83df9fa6b4651a57", func := "tryst/trystlaw11.WheelAll", spec := "wheelAll", unfollowed := true, recurses := true, apart := false }
def WheelAllSaid : Prop := wheelAllRow.holds Try.pinned (OpenSpec.ofChange wheelAllSpec)

/-- ITS FALSE NEIGHBOUR: 'it returns false'. Refute it at one input. -/
def wheelAllWrong : ChangeSpec := { name := "wheelAll", fn := fun _ => fun
  | [d] => { results := [.lit (.bool false)], args := [d] }
  | _ => none }
def WheelAllWrongFalsely : Prop := wheelAllRow.holds Try.pinned (OpenSpec.ofChange wheelAllWrong)

/- THE SECOND FORM. 'bulk': how many values and letters a reading holds, each counted each time it is reached (what is shared counts as often as it is met; a slice's spare places count too). A statement '..UptoSaid' is the law's where the arguments, and the package variables that the reading takes, are together of bulk at most 1048576: NARROWER than '..Said'. Prove '..Said' where nothing that the law and all that it calls make is longer than what came in: it says more and counts as full. Else prove '..UptoSaid'. A law counts once. -/
mutual
def uptoBulk {H : Type} : DataW H → Nat
  | .lit (.string bytes) => bytes.length + 1
  | .lit _ => 1
  | .nil => 1
  | .ptr d => uptoBulk d + 1
  | .slice elems spare => uptoBulkAll elems + uptoBulkAll spare + 1
  | .agg parts => uptoBulkAll parts + 1
  | .iface _ d => uptoBulk d + 1
  | .map entries => uptoBulkEntries entries + 1
  | .held _ => 1
def uptoBulkAll {H : Type} : List (DataW H) → Nat
  | [] => 0
  | d :: r => uptoBulk d + uptoBulkAll r
def uptoBulkEntries {H : Type} : List (Lit × DataW H) → Nat
  | [] => 0
  | x :: r => uptoBulkEntry x + uptoBulkEntries r
def uptoBulkEntry {H : Type} : Lit × DataW H → Nat
  | (.string bytes, d) => bytes.length + uptoBulk d + 1
  | (_, d) => uptoBulk d + 1
 end
def uptoSmall : (H : Type) → List (DataW H) → Bool := fun _ ds => decide (uptoBulkAll ds ≤ 1048576)
def OpenSpec.upto (s : _root_.Go.ChangeSpec) : _root_.Go.OpenSpec := { _root_.Go.OpenSpec.ofChange s with cond := some uptoSmall }

/-- 'trystlaw11.WheelSets', WHERE WHAT IT READS IS OF BULK AT MOST 1048576: true; the input reads as it did. -/
def wheelSetsUptoRow : OpenClaim := { program := "ytgipohicgbppaaa", sum := "c00750a43f81405195962c6d446c48fcc625e96bb5fd527f83df9fa6b4651a57", func := "tryst/trystlaw11.WheelSets", spec := "wheelSets", unfollowed := true, recurses := true, apart := false, narrowed := true }
def WheelSetsUptoSaid : Prop := wheelSetsUptoRow.holds Try.pinned (OpenSpec.upto wheelSetsSpec)

/-- 'trystlaw11.WheelRings', WHERE WHAT IT READS IS OF BULK AT MOST 1048576: true; the input reads as it did. -/
def wheelRingsUptoRow : OpenClaim := { program := "ytgipohicgbppaaa", sum := "c00750a43f81405195962c6d446c48fcc625e96bb5fd527f83df9fa6b4651a57", func := "tryst/trystlaw11.WheelRings", spec := "wheelRings", unfollowed := true, recurses := true, apart := false, narrowed := true }
def WheelRingsUptoSaid : Prop := wheelRingsUptoRow.holds Try.pinned (OpenSpec.upto wheelRingsSpec)

/-- 'trystlaw11.WheelGoes', WHERE WHAT IT READS IS OF BULK AT MOST 1048576: true; the input reads as it did. -/
def wheelGoesUptoRow : OpenClaim := { program := "ytgipohicgbppaaa", sum := "c00750a43f81405195962c6d446c48fcc625e96bb5fd527f83df9fa6b4651a57", func := "tryst/trystlaw11.WheelGoes", spec := "wheelGoes", unfollowed := true, recurses := true, apart := false, narrowed := true }
def WheelGoesUptoSaid : Prop := wheelGoesUptoRow.holds Try.pinned (OpenSpec.upto wheelGoesSpec)

/-- 'trystlaw11.WheelOnce', WHERE WHAT IT READS IS OF BULK AT MOST 1048576: true; the input reads as it did. -/
def wheelOnceUptoRow : OpenClaim := { program := "ytgipohicgbppaaa", sum := "c00750a43f81405195962c6d446c48fcc625e96bb5fd527f83df9fa6b4651a57", func := "tryst/trystlaw11.WheelOnce", spec := "wheelOnce", unfollowed := true, recurses := true, apart := false, narrowed := true }
def WheelOnceUptoSaid : Prop := wheelOnceUptoRow.holds Try.pinned (OpenSpec.upto wheelOnceSpec)

/-- 'trystlaw11.WheelTurns', WHERE WHAT IT READS IS OF BULK AT MOST 1048576: true; the input reads as it did. -/
def wheelTurnsUptoRow : OpenClaim := { program := "ytgipohicgbppaaa", sum := "c00750a43f81405195962c6d446c48fcc625e96bb5fd527f83df9fa6b4651a57", func := "tryst/trystlaw11.WheelTurns", spec := "wheelTurns", unfollowed := true, recurses := true, apart := false, narrowed := true }
def WheelTurnsUptoSaid : Prop := wheelTurnsUptoRow.holds Try.pinned (OpenSpec.upto wheelTurnsSpec)

/-- 'trystlaw11.WheelAll', WHERE WHAT IT READS IS OF BULK AT MOST 1048576: true; the input reads as it did. -/
def wheelAllUptoRow : OpenClaim := { program := "ytgipohicgbppaaa", sum := "c00750a43f81405195962c6d446c48fcc625e96bb5fd527f83df9fa6b4651a57", func := "tryst/trystlaw11.WheelAll", spec := "wheelAll", unfollowed := true, recurses := true, apart := false, narrowed := true }
def WheelAllUptoSaid : Prop := wheelAllUptoRow.holds Try.pinned (OpenSpec.upto wheelAllSpec)

end Rows
end Go.Proofs.Ytgipohicgbppaaa
