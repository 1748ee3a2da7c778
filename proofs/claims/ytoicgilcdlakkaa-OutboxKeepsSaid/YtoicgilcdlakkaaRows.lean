/-
  No cell of these rows narrows 'for every input' (looked for: loops, veiled, ifaces, maps, wideKeys, modest, calm, conditions, laid).
  DERIVED. THE GIVEN ROWS OF THIS SEAT. 6 by the template 'for every input the law returns true; each argument reads behind the call as it read before'; 0 by the template 'total and deterministic' (their statements: YtoicgilcdlakkaaTotals.lean).
  GIVEN WITH THE SEED: the statements are not yours to turn. If you find one false, say at which input.
  Laid BY PROGRAM, IN A SANDBOX (cutbox-rows.mjs): the forced cells as the released guide's own fill.sh prints them over the translation eb577666012fd456… (all of the seat's roots in one cut). By AI agents, Wed Nov 11 2026. No macro, syntax, notation, axiom, sorry.
-/
import Derived.Test.YtoicgilcdlakkaaChecked
import GoSem.Claim
import GoSem.ClaimJoined
import GoSem.ClaimMapViews
import Derived.JoinedTies
import Derived.KernelRfl
namespace Go.Proofs.Ytoicgilcdlakkaa
/- THE CELL 'sum', in the pinned program and in every row, IS THE sha256 OF THE DUMP (.gsa) THAT YtoicgilcdlakkaaProg.lean LOADS. Nothing in Lean hashes anything: it is a label: what it is worth is what the hold of that sum in a sandbox is worth. -/
noncomputable def Try.pinned : Pinned := { name := "ytoicgilcdlakkaa", sum := "eb577666012fd456a8b23232c2077417ad4f221718771aebd0461b2226b91aef", checked := Try.checked }
namespace Rows
def none {H : Type} : Left H := { results := [], args := [] }

/-- 'trystlaw15.OutboxAdds': WHATEVER THE INPUT: true; the input reads as it did. -/
def outboxAddsSpec : ChangeSpec := { name := "outboxAdds", fn := fun _ => fun
  | [d1, d2, d3] => { results := [.lit (.bool true)], args := [d1, d2, d3] }
  | _ => none }
def outboxAddsRow : OpenClaim := { program := "ytoicgilcdlakkaa", sum := "eb577666012fd456a8b23232c2077417ad4f221718771aebd0461b2226b91aef", func := "tryst/trystlaw15.OutboxAdds", spec := "outboxAdds", inPlace := ["internal/bytealg.IndexByteString", "internal/bytealg.IndexString"], unfollowed := true, recurses := true, named := ["internal/bytealg.MaxLen"], apart := false }
def OutboxAddsSaid : Prop := outboxAddsRow.holds Try.pinned (OpenSpec.ofChange outboxAddsSpec)

/-- ITS FALSE NEIGHBOUR: 'it returns false'. Refute it at one input. -/
def outboxAddsWrong : ChangeSpec := { name := "outboxAdds", fn := fun _ => fun
  | [d1, d2, d3] => { results := [.lit (.bool false)], args := [d1, d2, d3] }
  | _ => none }
def OutboxAddsWrongFalsely : Prop := outboxAddsRow.holds Try.pinned (OpenSpec.ofChange outboxAddsWrong)

/-- 'trystlaw15.OutboxTakes': WHATEVER THE INPUT: true; the input reads as it did. -/
def outboxTakesSpec : ChangeSpec := { name := "outboxTakes", fn := fun _ => fun
  | [d1, d2, d3] => { results := [.lit (.bool true)], args := [d1, d2, d3] }
  | _ => none }
def outboxTakesRow : OpenClaim := { program := "ytoicgilcdlakkaa", sum := "eb577666012fd456a8b23232c2077417ad4f221718771aebd0461b2226b91aef", func := "tryst/trystlaw15.OutboxTakes", spec := "outboxTakes", inPlace := ["internal/bytealg.IndexByteString", "internal/bytealg.IndexString"], unfollowed := true, recurses := true, named := ["internal/bytealg.MaxLen"], apart := false }
def OutboxTakesSaid : Prop := outboxTakesRow.holds Try.pinned (OpenSpec.ofChange outboxTakesSpec)

/-- ITS FALSE NEIGHBOUR: 'it returns false'. Refute it at one input. -/
def outboxTakesWrong : ChangeSpec := { name := "outboxTakes", fn := fun _ => fun
  | [d1, d2, d3] => { results := [.lit (.bool false)], args := [d1, d2, d3] }
  | _ => none }
def OutboxTakesWrongFalsely : Prop := outboxTakesRow.holds Try.pinned (OpenSpec.ofChange outboxTakesWrong)

/-- 'trystlaw15.OutboxKeeps': WHATEVER THE INPUT: true; the input reads as it did. -/
def outboxKeepsSpec : ChangeSpec := { name := "outboxKeeps", fn := fun _ => fun
  | [d1, d2] => { results := [.lit (.bool true)], args := [d1, d2] }
  | _ => none }
def outboxKeepsRow : OpenClaim := { program := "ytoicgilcdlakkaa", sum := "eb577666012fd456a8b23232c2077417ad4f221718771aebd0461b2226b91aef", func := "tryst/trystlaw15.OutboxKeeps", spec := "outboxKeeps", inPlace := ["internal/bytealg.IndexByteString", "internal/bytealg.IndexString"], unfollowed := true, recurses := true, named := ["internal/bytealg.MaxLen"], apart := false }
def OutboxKeepsSaid : Prop := outboxKeepsRow.holds Try.pinned (OpenSpec.ofChange outboxKeepsSpec)

/-- ITS FALSE NEIGHBOUR: 'it returns false'. Refute it at one input. -/
def outboxKeepsWrong : ChangeSpec := { name := "outboxKeeps", fn := fun _ => fun
  | [d1, d2] => { results := [.lit (.bool false)], args := [d1, d2] }
  | _ => none }
def OutboxKeepsWrongFalsely : Prop := outboxKeepsRow.holds Try.pinned (OpenSpec.ofChange outboxKeepsWrong)

/-- 'trystlaw15.OutboxTurns': WHATEVER THE INPUT: true; the input reads as it did. -/
def outboxTurnsSpec : ChangeSpec := { name := "outboxTurns", fn := fun _ => fun
  | [d1, d2, d3] => { results := [.lit (.bool true)], args := [d1, d2, d3] }
  | _ => none }
def outboxTurnsRow : OpenClaim := { program := "ytoicgilcdlakkaa", sum := "eb577666012fd456a8b23232c2077417ad4f221718771aebd0461b2226b91aef", func := "tryst/trystlaw15.OutboxTurns", spec := "outboxTurns", inPlace := ["internal/bytealg.IndexByteString", "internal/bytealg.IndexString"], unfollowed := true, recurses := true, named := ["internal/bytealg.MaxLen"], apart := false }
def OutboxTurnsSaid : Prop := outboxTurnsRow.holds Try.pinned (OpenSpec.ofChange outboxTurnsSpec)

/-- ITS FALSE NEIGHBOUR: 'it returns false'. Refute it at one input. -/
def outboxTurnsWrong : ChangeSpec := { name := "outboxTurns", fn := fun _ => fun
  | [d1, d2, d3] => { results := [.lit (.bool false)], args := [d1, d2, d3] }
  | _ => none }
def OutboxTurnsWrongFalsely : Prop := outboxTurnsRow.holds Try.pinned (OpenSpec.ofChange outboxTurnsWrong)

/-- 'trystlaw15.OutboxWaits': WHATEVER THE INPUT: true; the input reads as it did. -/
def outboxWaitsSpec : ChangeSpec := { name := "outboxWaits", fn := fun _ => fun
  | [d1, d2, d3] => { results := [.lit (.bool true)], args := [d1, d2, d3] }
  | _ => none }
def outboxWaitsRow : OpenClaim := { program := "ytoicgilcdlakkaa", sum := "eb577666012fd456a8b23232c2077417ad4f221718771aebd0461b2226b91aef", func := "tryst/trystlaw15.OutboxWaits", spec := "outboxWaits", inPlace := ["internal/bytealg.IndexByteString", "internal/bytealg.IndexString"], unfollowed := true, recurses := true, named := ["internal/bytealg.MaxLen"], apart := false }
def OutboxWaitsSaid : Prop := outboxWaitsRow.holds Try.pinned (OpenSpec.ofChange outboxWaitsSpec)

/-- ITS FALSE NEIGHBOUR: 'it returns false'. Refute it at one input. -/
def outboxWaitsWrong : ChangeSpec := { name := "outboxWaits", fn := fun _ => fun
  | [d1, d2, d3] => { results := [.lit (.bool false)], args := [d1, d2, d3] }
  | _ => none }
def OutboxWaitsWrongFalsely : Prop := outboxWaitsRow.holds Try.pinned (OpenSpec.ofChange outboxWaitsWrong)

/-- 'trystlaw15.OutboxBack': WHATEVER THE INPUT: true; the input reads as it did. -/
def outboxBackSpec : ChangeSpec := { name := "outboxBack", fn := fun _ => fun
  | [d1, d2, d3] => { results := [.lit (.bool true)], args := [d1, d2, d3] }
  | _ => none }
def outboxBackRow : OpenClaim := { program := "ytoicgilcdlakkaa", sum := "eb577666012fd456a8b23232c2077417ad4f221718771aebd0461b2226b91aef", func := "tryst/trystlaw15.OutboxBack", spec := "outboxBack", inPlace := ["internal/bytealg.IndexByteString", "internal/bytealg.IndexString"], unfollowed := true, recurses := true, named := ["internal/bytealg.MaxLen"], apart := false }
def OutboxBackSaid : Prop := outboxBackRow.holds Try.pinned (OpenSpec.ofChange outboxBackSpec)

/-- ITS FALSE NEIGHBOUR: 'it returns false'. Refute it at one input. -/
def outboxBackWrong : ChangeSpec := { name := "outboxBack", fn := fun _ => fun
  | [d1, d2, d3] => { results := [.lit (.bool false)], args := [d1, d2, d3] }
  | _ => none }
def OutboxBackWrongFalsely : Prop := outboxBackRow.holds Try.pinned (OpenSpec.ofChange outboxBackWrong)

/- THE SECOND FORM. 'bulk': how many values and letters a reading holds, each counted each time it is reached (what is shared counts as often as it is met; a slice's spare places count too). A statement '..UptoSaid' is the law's where the arguments, and the package variables that the reading takes, are together of bulk at most 1048576: NARROWER than '..Said'. Prove '..Said' where nothing that the law and all that it calls make is longer than what came in: it says more and counts as full. Else prove '..UptoSaid'. A law counts once. -/
mutual
def uptoBulk {H : Type} : DataW H → Nat
  | .lit (.string bytes) => bytes.length + 1
  | .lit _ => 1
  | .nil => 1
  | .ptr d => uptoBulk d + 1
  | .slice elems spare => uptoBulkAll elems + uptoBulkAll spare + 1
  | .agg parts => uptoBulkAll parts + 1
  | .iface _ d => uptoBulk d + 1
  | .map entries => uptoBulkEntries entries + 1
  | .held _ => 1
def uptoBulkAll {H : Type} : List (DataW H) → Nat
  | [] => 0
  | d :: r => uptoBulk d + uptoBulkAll r
def uptoBulkEntries {H : Type} : List (Lit × DataW H) → Nat
  | [] => 0
  | x :: r => uptoBulkEntry x + uptoBulkEntries r
def uptoBulkEntry {H : Type} : Lit × DataW H → Nat
  | (.string bytes, d) => bytes.length + uptoBulk d + 1
  | (_, d) => uptoBulk d + 1
 end
def uptoSmall : (H : Type) → List (DataW H) → Bool := fun _ ds => decide (uptoBulkAll ds ≤ 1048576)
def OpenSpec.upto (s : _root_.Go.ChangeSpec) : _root_.Go.OpenSpec := { _root_.Go.OpenSpec.ofChange s with cond := some uptoSmall }

/-- 'trystlaw15.OutboxAdds', WHERE WHAT IT READS IS OF BULK AT MOST 1048576: true; the input reads as it did. -/
def outboxAddsUptoRow : OpenClaim := { program := "ytoicgilcdlakkaa", sum := "eb577666012fd456a8b23232c2077417ad4f221718771aebd0461b2226b91aef", func := "tryst/trystlaw15.OutboxAdds", spec := "outboxAdds", inPlace := ["internal/bytealg.IndexByteString", "internal/bytealg.IndexString"], unfollowed := true, recurses := true, named := ["internal/bytealg.MaxLen"], apart := false, narrowed := true }
def OutboxAddsUptoSaid : Prop := outboxAddsUptoRow.holds Try.pinned (OpenSpec.upto outboxAddsSpec)

/-- 'trystlaw15.OutboxTakes', WHERE WHAT IT READS IS OF BULK AT MOST 1048576: true; the input reads as it did. -/
def outboxTakesUptoRow : OpenClaim := { program := "ytoicgilcdlakkaa", sum := "eb577666012fd456a8b23232c2077417ad4f221718771aebd0461b2226b91aef", func := "tryst/trystlaw15.OutboxTakes", spec := "outboxTakes", inPlace := ["internal/bytealg.IndexByteString", "internal/bytealg.IndexString"], unfollowed := true, recurses := true, named := ["internal/bytealg.MaxLen"], apart := false, narrowed := true }
def OutboxTakesUptoSaid : Prop := outboxTakesUptoRow.holds Try.pinned (OpenSpec.upto outboxTakesSpec)

/-- 'trystlaw15.OutboxKeeps', WHERE WHAT IT READS IS OF BULK AT MOST 1048576: true; the input reads as it did. -/
def outboxKeepsUptoRow : OpenClaim := { program := "ytoicgilcdlakkaa", sum := "eb577666012fd456a8b23232c2077417ad4f221718771aebd0461b2226b91aef", func := "tryst/trystlaw15.OutboxKeeps", spec := "outboxKeeps", inPlace := ["internal/bytealg.IndexByteString", "internal/bytealg.IndexString"], unfollowed := true, recurses := true, named := ["internal/bytealg.MaxLen"], apart := false, narrowed := true }
def OutboxKeepsUptoSaid : Prop := outboxKeepsUptoRow.holds Try.pinned (OpenSpec.upto outboxKeepsSpec)

/-- 'trystlaw15.OutboxTurns', WHERE WHAT IT READS IS OF BULK AT MOST 1048576: true; the input reads as it did. -/
def outboxTurnsUptoRow : OpenClaim := { program := "ytoicgilcdlakkaa", sum := "eb577666012fd456a8b23232c2077417ad4f221718771aebd0461b2226b91aef", func := "tryst/trystlaw15.OutboxTurns", spec := "outboxTurns", inPlace := ["internal/bytealg.IndexByteString", "internal/bytealg.IndexString"], unfollowed := true, recurses := true, named := ["internal/bytealg.MaxLen"], apart := false, narrowed := true }
def OutboxTurnsUptoSaid : Prop := outboxTurnsUptoRow.holds Try.pinned (OpenSpec.upto outboxTurnsSpec)

/-- 'trystlaw15.OutboxWaits', WHERE WHAT IT READS IS OF BULK AT MOST 1048576: true; the input reads as it did. -/
def outboxWaitsUptoRow : OpenClaim := { program := "ytoicgilcdlakkaa", sum := "eb577666012fd456a8b23232c2077417ad4f221718771aebd0461b2226b91aef", func := "tryst/trystlaw15.OutboxWaits", spec := "outboxWaits", inPlace := ["internal/bytealg.IndexByteString", "internal/bytealg.IndexString"], unfollowed := true, recurses := true, named := ["internal/bytealg.MaxLen"], apart := false, narrowed := true }
def OutboxWaitsUptoSaid : Prop := outboxWaitsUptoRow.holds Try.pinned (OpenSpec.upto outboxWaitsSpec)

/-- 'trystlaw15.OutboxBack', WHERE WHAT IT READS IS OF BULK AT MOST 1048576: true; the input reads as it did. -/
def outboxBackUptoRow : OpenClaim := { program := "ytoicgilcdlakkaa", sum := "eb577666012fd456a8b23232c2077417ad4f221718771aebd0461b2226b91aef", func := "tryst/trystlaw15.OutboxBack", spec := "outboxBack", inPlace := ["internal/bytealg.IndexByteString", "internal/bytealg.IndexString"], unfollowed := true, recurses := true, named := ["internal/bytealg.MaxLen"], apart := false, narrowed := true }
def OutboxBackUptoSaid : Prop := outboxBackUptoRow.holds Try.pinned (OpenSpec.upto outboxBackSpec)

end Rows
end Go.Proofs.Ytoicgilcdlakkaa
