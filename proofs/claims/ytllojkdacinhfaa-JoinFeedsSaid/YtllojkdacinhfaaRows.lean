/-
  No cell of these rows narrows 'for every input' (looked for: loops, veiled, ifaces, maps, wideKeys, modest, calm, conditions, laid).
  DERIVED. THE GIVEN ROWS OF THIS SEAT. 8 by the template 'for every input the law returns true; each argument reads behind the call as it read before'; 0 by the template 'total and deterministic' (their statements: YtllojkdacinhfaaTotals.lean).
  GIVEN WITH THE SEED: the statements are not yours to turn. If you find one false, say at which input.
  Laid BY PROGRAM, IN A SANDBOX (cutbox-rows.mjs): the forced cells as the released guide's own fill.sh prints them over the translation 39b3bdf987906ba5… (all of the seat's roots in one cut). By AI agents, Wed Nov 11 2026. No macro, syntax, notation, axiom, sorry.
-/
import Derived.Test.YtllojkdacinhfaaChecked
import GoSem.Claim
import GoSem.ClaimJoined
import GoSem.ClaimMapViews
import Derived.JoinedTies
import Derived.KernelRfl
namespace Go.Proofs.Ytllojkdacinhfaa
/- THE CELL 'sum', in the pinned program and in every row, IS THE sha256 OF THE DUMP (.gsa) THAT YtllojkdacinhfaaProg.lean LOADS. Nothing in Lean hashes anything: it is a label: what it is worth is what the hold of that sum in a sandbox is worth. -/
noncomputable def Try.pinned : Pinned := { name := "ytllojkdacinhfaa", sum := "39b3bdf987906ba567f5fe2e784074541db3276cf7d4bb4db9bef752c87aa3a8", checked := Try.checked }
namespace Rows
def none {H : Type} : Left H := { results := [], args := [] }

/-- 'trystlaw09.JoinFeeds': WHATEVER THE INPUT: true; the input reads as it did. -/
def joinFeedsSpec : ChangeSpec := { name := "joinFeeds", fn := fun _ => fun
  | [d1, d2, d3] => { results := [.lit (.bool true)], args := [d1, d2, d3] }
  | _ => none }
def joinFeedsRow : OpenClaim := { program := "ytllojkdacinhfaa", sum := "39b3bdf987906ba567f5fe2e784074541db3276cf7d4bb4db9bef752c87aa3a8", func := "tryst/trystlaw09.JoinFeeds", spec := "joinFeeds", unfollowed := true, recurses := true, apart := false }
def JoinFeedsSaid : Prop := joinFeedsRow.holds Try.pinned (OpenSpec.ofChange joinFeedsSpec)

/-- ITS FALSE NEIGHBOUR: 'it returns false'. Refute it at one input. -/
def joinFeedsWrong : ChangeSpec := { name := "joinFeeds", fn := fun _ => fun
  | [d1, d2, d3] => { results := [.lit (.bool false)], args := [d1, d2, d3] }
  | _ => none }
def JoinFeedsWrongFalsely : Prop := joinFeedsRow.holds Try.pinned (OpenSpec.ofChange joinFeedsWrong)

/-- 'trystlaw09.JoinExpires': WHATEVER THE INPUT: true; the input reads as it did. -/
def joinExpiresSpec : ChangeSpec := { name := "joinExpires", fn := fun _ => fun
  | [d1, d2, d3] => { results := [.lit (.bool true)], args := [d1, d2, d3] }
  | _ => none }
def joinExpiresRow : OpenClaim := { program := "ytllojkdacinhfaa", sum := "39b3bdf987906ba567f5fe2e784074541db3276cf7d4bb4db9bef752c87aa3a8", func := "tryst/trystlaw09.JoinExpires", spec := "joinExpires", unfollowed := true, recurses := true, apart := false }
def JoinExpiresSaid : Prop := joinExpiresRow.holds Try.pinned (OpenSpec.ofChange joinExpiresSpec)

/-- ITS FALSE NEIGHBOUR: 'it returns false'. Refute it at one input. -/
def joinExpiresWrong : ChangeSpec := { name := "joinExpires", fn := fun _ => fun
  | [d1, d2, d3] => { results := [.lit (.bool false)], args := [d1, d2, d3] }
  | _ => none }
def JoinExpiresWrongFalsely : Prop := joinExpiresRow.holds Try.pinned (OpenSpec.ofChange joinExpiresWrong)

/-- 'trystlaw09.JoinOnce': WHATEVER THE INPUT: true; the input reads as it did. -/
def joinOnceSpec : ChangeSpec := { name := "joinOnce", fn := fun _ => fun
  | [d1, d2] => { results := [.lit (.bool true)], args := [d1, d2] }
  | _ => none }
def joinOnceRow : OpenClaim := { program := "ytllojkdacinhfaa", sum := "39b3bdf987906ba567f5fe2e784074541db3276cf7d4bb4db9bef752c87aa3a8", func := "tryst/trystlaw09.JoinOnce", spec := "joinOnce", unfollowed := true, recurses := true, apart := false }
def JoinOnceSaid : Prop := joinOnceRow.holds Try.pinned (OpenSpec.ofChange joinOnceSpec)

/-- ITS FALSE NEIGHBOUR: 'it returns false'. Refute it at one input. -/
def joinOnceWrong : ChangeSpec := { name := "joinOnce", fn := fun _ => fun
  | [d1, d2] => { results := [.lit (.bool false)], args := [d1, d2] }
  | _ => none }
def JoinOnceWrongFalsely : Prop := joinOnceRow.holds Try.pinned (OpenSpec.ofChange joinOnceWrong)

/-- 'trystlaw09.JoinWaits': WHATEVER THE INPUT: true; the input reads as it did. -/
def joinWaitsSpec : ChangeSpec := { name := "joinWaits", fn := fun _ => fun
  | [d1, d2, d3] => { results := [.lit (.bool true)], args := [d1, d2, d3] }
  | _ => none }
def joinWaitsRow : OpenClaim := { program := "ytllojkdacinhfaa", sum := "39b3bdf987906ba567f5fe2e784074541db3276cf7d4bb4db9bef752c87aa3a8", func := "tryst/trystlaw09.JoinWaits", spec := "joinWaits", unfollowed := true, recurses := true, apart := false }
def JoinWaitsSaid : Prop := joinWaitsRow.holds Try.pinned (OpenSpec.ofChange joinWaitsSpec)

/-- ITS FALSE NEIGHBOUR: 'it returns false'. Refute it at one input. -/
def joinWaitsWrong : ChangeSpec := { name := "joinWaits", fn := fun _ => fun
  | [d1, d2, d3] => { results := [.lit (.bool false)], args := [d1, d2, d3] }
  | _ => none }
def JoinWaitsWrongFalsely : Prop := joinWaitsRow.holds Try.pinned (OpenSpec.ofChange joinWaitsWrong)

/-- 'trystlaw09.JoinLate': WHATEVER THE INPUT: true; the input reads as it did. -/
def joinLateSpec : ChangeSpec := { name := "joinLate", fn := fun _ => fun
  | [d1, d2, d3] => { results := [.lit (.bool true)], args := [d1, d2, d3] }
  | _ => none }
def joinLateRow : OpenClaim := { program := "ytllojkdacinhfaa", sum := "39b3bdf987906ba567f5fe2e784074541db3276cf7d4bb4db9bef752c87aa3a8", func := "tryst/trystlaw09.JoinLate", spec := "joinLate", unfollowed := true, recurses := true, apart := false }
def JoinLateSaid : Prop := joinLateRow.holds Try.pinned (OpenSpec.ofChange joinLateSpec)

/-- ITS FALSE NEIGHBOUR: 'it returns false'. Refute it at one input. -/
def joinLateWrong : ChangeSpec := { name := "joinLate", fn := fun _ => fun
  | [d1, d2, d3] => { results := [.lit (.bool false)], args := [d1, d2, d3] }
  | _ => none }
def JoinLateWrongFalsely : Prop := joinLateRow.holds Try.pinned (OpenSpec.ofChange joinLateWrong)

/-- 'trystlaw09.JoinAll': WHATEVER THE INPUT: true; the input reads as it did. -/
def joinAllSpec : ChangeSpec := { name := "joinAll", fn := fun _ => fun
  | [d1, d2, d3] => { results := [.lit (.bool true)], args := [d1, d2, d3] }
  | _ => none }
def joinAllRow : OpenClaim := { program := "ytllojkdacinhfaa", sum := "39b3bdf987906ba567f5fe2e784074541db3276cf7d4bb4db9bef752c87aa3a8", func := "tryst/trystlaw09.JoinAll", spec := "joinAll", unfollowed := true, recurses := true, apart := false }
def JoinAllSaid : Prop := joinAllRow.holds Try.pinned (OpenSpec.ofChange joinAllSpec)

/-- ITS FALSE NEIGHBOUR: 'it returns false'. Refute it at one input. -/
def joinAllWrong : ChangeSpec := { name := "joinAll", fn := fun _ => fun
  | [d1, d2, d3] => { results := [.lit (.bool false)], args := [d1, d2, d3] }
  | _ => none }
def JoinAllWrongFalsely : Prop := joinAllRow.holds Try.pinned (OpenSpec.ofChange joinAllWrong)

/-- 'trystlaw09.JoinBound': WHATEVER THE INPUT: true; the input reads as it did. -/
def joinBoundSpec : ChangeSpec := { name := "joinBound", fn := fun _ => fun
  | [d1, d2] => { results := [.lit (.bool true)], args := [d1, d2] }
  | _ => none }
def joinBoundRow : OpenClaim := { program := "ytllojkdacinhfaa", sum := "39b3bdf987906ba567f5fe2e784074541db3276cf7d4bb4db9bef752c87aa3a8", func := "tryst/trystlaw09.JoinBound", spec := "joinBound", unfollowed := true, recurses := true, apart := false }
def JoinBoundSaid : Prop := joinBoundRow.holds Try.pinned (OpenSpec.ofChange joinBoundSpec)

/-- ITS FALSE NEIGHBOUR: 'it returns false'. Refute it at one input. -/
def joinBoundWrong : ChangeSpec := { name := "joinBound", fn := fun _ => fun
  | [d1, d2] => { results := [.lit (.bool false)], args := [d1, d2] }
  | _ => none }
def JoinBoundWrongFalsely : Prop := joinBoundRow.holds Try.pinned (OpenSpec.ofChange joinBoundWrong)

/-- 'trystlaw09.JoinAny': WHATEVER THE INPUT: true; the input reads as it did. -/
def joinAnySpec : ChangeSpec := { name := "joinAny", fn := fun _ => fun
  | [d1, d2] => { results := [.lit (.bool true)], args := [d1, d2] }
  | _ => none }
def joinAnyRow : OpenClaim := { program := "ytllojkdacinhfaa", sum := "39b3bdf987906ba567f5fe2e784074541db3276cf7d4bb4db9bef752c87aa3a8", func := "tryst/trystlaw09.JoinAny", spec := "joinAny", unfollowed := true, recurses := true, apart := false }
def JoinAnySaid : Prop := joinAnyRow.holds Try.pinned (OpenSpec.ofChange joinAnySpec)

/-- ITS FALSE NEIGHBOUR: 'it returns false'. Refute it at one input. -/
def joinAnyWrong : ChangeSpec := { name := "joinAny", fn := fun _ => fun
  | [d1, d2] => { results := [.lit (.bool false)], args := [d1, d2] }
  | _ => none }
def JoinAnyWrongFalsely : Prop := joinAnyRow.holds Try.pinned (OpenSpec.ofChange joinAnyWrong)

/- THE SECOND FORM. 'bulk': how many values and letters a reading holds, each counted each time it is reached (what is shared counts as often as it is met; a slice's spare places count too). A statement '..UptoSaid' is the law's where the arguments, and the package variables that the reading takes, are together of bulk at most 1048576: NARROWER than '..Said'. Prove '..Said' where nothing that the law and all that it calls make is longer than what came in: it says more and counts as full. Else prove '..UptoSaid'. A law counts once. -/
mutual
def uptoBulk {H : Type} : DataW H → Nat
  | .lit (.string bytes) => bytes.length + 1
  | .lit _ => 1
  | .nil => 1
  | .ptr d => uptoBulk d + 1
  | .slice elems spare => uptoBulkAll elems + uptoBulkAll spare + 1
  | .agg parts => uptoBulkAll parts + 1
  | .iface _ d => uptoBulk d + 1
  | .map entries => uptoBulkEntries entries + 1
  | .held _ => 1
def uptoBulkAll {H : Type} : List (DataW H) → Nat
  | [] => 0
  | d :: r => uptoBulk d + uptoBulkAll r
def uptoBulkEntries {H : Type} : List (Lit × DataW H) → Nat
  | [] => 0
  | x :: r => uptoBulkEntry x + uptoBulkEntries r
def uptoBulkEntry {H : Type} : Lit × DataW H → Nat
  | (.string bytes, d) => bytes.length + uptoBulk d + 1
  | (_, d) => uptoBulk d + 1
 end
def uptoSmall : (H : Type) → List (DataW H) → Bool := fun _ ds => decide (uptoBulkAll ds ≤ 1048576)
def OpenSpec.upto (s : _root_.Go.ChangeSpec) : _root_.Go.OpenSpec := { _root_.Go.OpenSpec.ofChange s with cond := some uptoSmall }

/-- 'trystlaw09.JoinFeeds', WHERE WHAT IT READS IS OF BULK AT MOST 1048576: true; the input reads as it did. -/
def joinFeedsUptoRow : OpenClaim := { program := "ytllojkdacinhfaa", sum := "39b3bdf987906ba567f5fe2e784074541db3276cf7d4bb4db9bef752c87aa3a8", func := "tryst/trystlaw09.JoinFeeds", spec := "joinFeeds", unfollowed := true, recurses := true, apart := false, narrowed := true }
def JoinFeedsUptoSaid : Prop := joinFeedsUptoRow.holds Try.pinned (OpenSpec.upto joinFeedsSpec)

/-- 'trystlaw09.JoinExpires', WHERE WHAT IT READS IS OF BULK AT MOST 1048576: true; the input reads as it did. -/
def joinExpiresUptoRow : OpenClaim := { program := "ytllojkdacinhfaa", sum := "39b3bdf987906ba567f5fe2e784074541db3276cf7d4bb4db9bef752c87aa3a8", func := "tryst/trystlaw09.JoinExpires", spec := "joinExpires", unfollowed := true, recurses := true, apart := false, narrowed := true }
def JoinExpiresUptoSaid : Prop := joinExpiresUptoRow.holds Try.pinned (OpenSpec.upto joinExpiresSpec)

/-- 'trystlaw09.JoinOnce', WHERE WHAT IT READS IS OF BULK AT MOST 1048576: true; the input reads as it did. -/
def joinOnceUptoRow : OpenClaim := { program := "ytllojkdacinhfaa", sum := "39b3bdf987906ba567f5fe2e784074541db3276cf7d4bb4db9bef752c87aa3a8", func := "tryst/trystlaw09.JoinOnce", spec := "joinOnce", unfollowed := true, recurses := true, apart := false, narrowed := true }
def JoinOnceUptoSaid : Prop := joinOnceUptoRow.holds Try.pinned (OpenSpec.upto joinOnceSpec)

/-- 'trystlaw09.JoinWaits', WHERE WHAT IT READS IS OF BULK AT MOST 1048576: true; the input reads as it did. -/
def joinWaitsUptoRow : OpenClaim := { program := "ytllojkdacinhfaa", sum := "39b3bdf987906ba567f5fe2e784074541db3276cf7d4bb4db9bef752c87aa3a8", func := "tryst/trystlaw09.JoinWaits", spec := "joinWaits", unfollowed := true, recurses := true, apart := false, narrowed := true }
def JoinWaitsUptoSaid : Prop := joinWaitsUptoRow.holds Try.pinned (OpenSpec.upto joinWaitsSpec)

/-- 'trystlaw09.JoinLate', WHERE WHAT IT READS IS OF BULK AT MOST 1048576: true; the input reads as it did. -/
def joinLateUptoRow : OpenClaim := { program := "ytllojkdacinhfaa", sum := "39b3bdf987906ba567f5fe2e784074541db3276cf7d4bb4db9bef752c87aa3a8", func := "tryst/trystlaw09.JoinLate", spec := "joinLate", unfollowed := true, recurses := true, apart := false, narrowed := true }
def JoinLateUptoSaid : Prop := joinLateUptoRow.holds Try.pinned (OpenSpec.upto joinLateSpec)

/-- 'trystlaw09.JoinAll', WHERE WHAT IT READS IS OF BULK AT MOST 1048576: true; the input reads as it did. -/
def joinAllUptoRow : OpenClaim := { program := "ytllojkdacinhfaa", sum := "39b3bdf987906ba567f5fe2e784074541db3276cf7d4bb4db9bef752c87aa3a8", func := "tryst/trystlaw09.JoinAll", spec := "joinAll", unfollowed := true, recurses := true, apart := false, narrowed := true }
def JoinAllUptoSaid : Prop := joinAllUptoRow.holds Try.pinned (OpenSpec.upto joinAllSpec)

/-- 'trystlaw09.JoinBound', WHERE WHAT IT READS IS OF BULK AT MOST 1048576: true; the input reads as it did. -/
def joinBoundUptoRow : OpenClaim := { program := "ytllojkdacinhfaa", sum := "39b3bdf987906ba567f5fe2e784074541db3276cf7d4bb4db9bef752c87aa3a8", func := "tryst/trystlaw09.JoinBound", spec := "joinBound", unfollowed := true, recurses := true, apart := false, narrowed := true }
def JoinBoundUptoSaid : Prop := joinBoundUptoRow.holds Try.pinned (OpenSpec.upto joinBoundSpec)

/-- 'trystlaw09.JoinAny', WHERE WHAT IT READS IS OF BULK AT MOST 1048576: true; the input reads as it did. -/
def joinAnyUptoRow : OpenClaim := { program := "ytllojkdacinhfaa", sum := "39b3bdf987906ba567f5fe2e784074541db3276cf7d4bb4db9bef752c87aa3a8", func := "tryst/trystlaw09.JoinAny", spec := "joinAny", unfollowed := true, recurses := true, apart := false, narrowed := true }
def JoinAnyUptoSaid : Prop := joinAnyUptoRow.holds Try.pinned (OpenSpec.upto joinAnySpec)

end Rows
end Go.Proofs.Ytllojkdacinhfaa
