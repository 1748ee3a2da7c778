/-
  No cell of these rows narrows 'for every input' (looked for: loops, veiled, ifaces, maps, wideKeys, modest, calm, conditions, laid).
  DERIVED. THE GIVEN ROWS OF THIS SEAT. 5 by the template 'for every input the law returns true; each argument reads behind the call as it read before'; 0 by the template 'total and deterministic' (their statements: YtflfbkoelhheoaaTotals.lean).
  GIVEN WITH THE SEED: the statements are not yours to turn. If you find one false, say at which input.
  Laid BY PROGRAM, IN A SANDBOX (cutbox-rows.mjs): the forced cells as the released guide's own fill.sh prints them over the translation 559dec333a6af781… (all of the seat's roots in one cut). By AI agents, Wed Nov 11 2026. No macro, syntax, notation, axiom, sorry.
-/
import Derived.Test.YtflfbkoelhheoaaChecked
import GoSem.Claim
import GoSem.ClaimJoined
import GoSem.ClaimMapViews
import Derived.JoinedTies
import Derived.KernelRfl
namespace Go.Proofs.Ytflfbkoelhheoaa
/- THE CELL 'sum', in the pinned program and in every row, IS THE sha256 OF THE DUMP (.gsa) THAT YtflfbkoelhheoaaProg.lean LOADS. Nothing in Lean hashes anything: it is a label: what it is worth is what the hold of that sum in a sandbox is worth. -/
noncomputable def Try.pinned : Pinned := { name := "ytflfbkoelhheoaa", sum := "559dec333a6af78135ecb4c6b53b8d710fd573b575c5c277478d374ee6677f50", checked := Try.checked }
namespace Rows
def none {H : Type} : Left H := { results := [], args := [] }

/-- 'trystlaw13.DedupTakes': WHATEVER THE INPUT: true; the input reads as it did. -/
def dedupTakesSpec : ChangeSpec := { name := "dedupTakes", fn := fun _ => fun
  | [d1, d2] => { results := [.lit (.bool true)], args := [d1, d2] }
  | _ => none }
def dedupTakesRow : OpenClaim := { program := "ytflfbkoelhheoaa", sum := "559dec333a6af78135ecb4c6b53b8d710fd573b575c5c277478d374ee6677f50", func := "tryst/trystlaw13.DedupTakes", spec := "dedupTakes", inPlace := ["internal/bytealg.IndexByteString", "internal/bytealg.IndexString"], unfollowed := true, recurses := true, named := ["internal/bytealg.MaxLen"], apart := false }
def DedupTakesSaid : Prop := dedupTakesRow.holds Try.pinned (OpenSpec.ofChange dedupTakesSpec)

/-- ITS FALSE NEIGHBOUR: 'it returns false'. Refute it at one input. -/
def dedupTakesWrong : ChangeSpec := { name := "dedupTakes", fn := fun _ => fun
  | [d1, d2] => { results := [.lit (.bool false)], args := [d1, d2] }
  | _ => none }
def DedupTakesWrongFalsely : Prop := dedupTakesRow.holds Try.pinned (OpenSpec.ofChange dedupTakesWrong)

/-- 'trystlaw13.DedupOnce': WHATEVER THE INPUT: true; the input reads as it did. -/
def dedupOnceSpec : ChangeSpec := { name := "dedupOnce", fn := fun _ => fun
  | [d1, d2] => { results := [.lit (.bool true)], args := [d1, d2] }
  | _ => none }
def dedupOnceRow : OpenClaim := { program := "ytflfbkoelhheoaa", sum := "559dec333a6af78135ecb4c6b53b8d710fd573b575c5c277478d374ee6677f50", func := "tryst/trystlaw13.DedupOnce", spec := "dedupOnce", inPlace := ["internal/bytealg.IndexByteString", "internal/bytealg.IndexString"], unfollowed := true, recurses := true, named := ["internal/bytealg.MaxLen"], apart := false }
def DedupOnceSaid : Prop := dedupOnceRow.holds Try.pinned (OpenSpec.ofChange dedupOnceSpec)

/-- ITS FALSE NEIGHBOUR: 'it returns false'. Refute it at one input. -/
def dedupOnceWrong : ChangeSpec := { name := "dedupOnce", fn := fun _ => fun
  | [d1, d2] => { results := [.lit (.bool false)], args := [d1, d2] }
  | _ => none }
def DedupOnceWrongFalsely : Prop := dedupOnceRow.holds Try.pinned (OpenSpec.ofChange dedupOnceWrong)

/-- 'trystlaw13.DedupApart': WHATEVER THE INPUT: true; the input reads as it did. -/
def dedupApartSpec : ChangeSpec := { name := "dedupApart", fn := fun _ => fun
  | [d1, d2, d3] => { results := [.lit (.bool true)], args := [d1, d2, d3] }
  | _ => none }
def dedupApartRow : OpenClaim := { program := "ytflfbkoelhheoaa", sum := "559dec333a6af78135ecb4c6b53b8d710fd573b575c5c277478d374ee6677f50", func := "tryst/trystlaw13.DedupApart", spec := "dedupApart", inPlace := ["internal/bytealg.IndexByteString", "internal/bytealg.IndexString"], unfollowed := true, recurses := true, named := ["internal/bytealg.MaxLen"], apart := false }
def DedupApartSaid : Prop := dedupApartRow.holds Try.pinned (OpenSpec.ofChange dedupApartSpec)

/-- ITS FALSE NEIGHBOUR: 'it returns false'. Refute it at one input. -/
def dedupApartWrong : ChangeSpec := { name := "dedupApart", fn := fun _ => fun
  | [d1, d2, d3] => { results := [.lit (.bool false)], args := [d1, d2, d3] }
  | _ => none }
def DedupApartWrongFalsely : Prop := dedupApartRow.holds Try.pinned (OpenSpec.ofChange dedupApartWrong)

/-- 'trystlaw13.DedupNexts': WHATEVER THE INPUT: true; the input reads as it did. -/
def dedupNextsSpec : ChangeSpec := { name := "dedupNexts", fn := fun _ => fun
  | [d1, d2, d3] => { results := [.lit (.bool true)], args := [d1, d2, d3] }
  | _ => none }
def dedupNextsRow : OpenClaim := { program := "ytflfbkoelhheoaa", sum := "559dec333a6af78135ecb4c6b53b8d710fd573b575c5c277478d374ee6677f50", func := "tryst/trystlaw13.DedupNexts", spec := "dedupNexts", inPlace := ["internal/bytealg.IndexByteString", "internal/bytealg.IndexString"], unfollowed := true, recurses := true, named := ["internal/bytealg.MaxLen"], apart := false }
def DedupNextsSaid : Prop := dedupNextsRow.holds Try.pinned (OpenSpec.ofChange dedupNextsSpec)

/-- ITS FALSE NEIGHBOUR: 'it returns false'. Refute it at one input. -/
def dedupNextsWrong : ChangeSpec := { name := "dedupNexts", fn := fun _ => fun
  | [d1, d2, d3] => { results := [.lit (.bool false)], args := [d1, d2, d3] }
  | _ => none }
def DedupNextsWrongFalsely : Prop := dedupNextsRow.holds Try.pinned (OpenSpec.ofChange dedupNextsWrong)

/-- 'trystlaw13.DedupStays': WHATEVER THE INPUT: true; the input reads as it did. -/
def dedupStaysSpec : ChangeSpec := { name := "dedupStays", fn := fun _ => fun
  | [d1, d2] => { results := [.lit (.bool true)], args := [d1, d2] }
  | _ => none }
def dedupStaysRow : OpenClaim := { program := "ytflfbkoelhheoaa", sum := "559dec333a6af78135ecb4c6b53b8d710fd573b575c5c277478d374ee6677f50", func := "tryst/trystlaw13.DedupStays", spec := "dedupStays", inPlace := ["internal/bytealg.IndexByteString", "internal/bytealg.IndexString"], unfollowed := true, recurses := true, named := ["internal/bytealg.MaxLen"], apart := false }
def DedupStaysSaid : Prop := dedupStaysRow.holds Try.pinned (OpenSpec.ofChange dedupStaysSpec)

/-- ITS FALSE NEIGHBOUR: 'it returns false'. Refute it at one input. -/
def dedupStaysWrong : ChangeSpec := { name := "dedupStays", fn := fun _ => fun
  | [d1, d2] => { results := [.lit (.bool false)], args := [d1, d2] }
  | _ => none }
def DedupStaysWrongFalsely : Prop := dedupStaysRow.holds Try.pinned (OpenSpec.ofChange dedupStaysWrong)

/- THE SECOND FORM. 'bulk': how many values and letters a reading holds, each counted each time it is reached (what is shared counts as often as it is met; a slice's spare places count too). A statement '..UptoSaid' is the law's where the arguments, and the package variables that the reading takes, are together of bulk at most 1048576: NARROWER than '..Said'. Prove '..Said' where nothing that the law and all that it calls make is longer than what came in: it says more and counts as full. Else prove '..UptoSaid'. A law counts once. -/
mutual
def uptoBulk {H : Type} : DataW H → Nat
  | .lit (.string bytes) => bytes.length + 1
  | .lit _ => 1
  | .nil => 1
  | .ptr d => uptoBulk d + 1
  | .slice elems spare => uptoBulkAll elems + uptoBulkAll spare + 1
  | .agg parts => uptoBulkAll parts + 1
  | .iface _ d => uptoBulk d + 1
  | .map entries => uptoBulkEntries entries + 1
  | .held _ => 1
def uptoBulkAll {H : Type} : List (DataW H) → Nat
  | [] => 0
  | d :: r => uptoBulk d + uptoBulkAll r
def uptoBulkEntries {H : Type} : List (Lit × DataW H) → Nat
  | [] => 0
  | x :: r => uptoBulkEntry x + uptoBulkEntries r
def uptoBulkEntry {H : Type} : Lit × DataW H → Nat
  | (.string bytes, d) => bytes.length + uptoBulk d + 1
  | (_, d) => uptoBulk d + 1
 end
def uptoSmall : (H : Type) → List (DataW H) → Bool := fun _ ds => decide (uptoBulkAll ds ≤ 1048576)
def OpenSpec.upto (s : _root_.Go.ChangeSpec) : _root_.Go.OpenSpec := { _root_.Go.OpenSpec.ofChange s with cond := some uptoSmall }

/-- 'trystlaw13.DedupTakes', WHERE WHAT IT READS IS OF BULK AT MOST 1048576: true; the input reads as it did. -/
def dedupTakesUptoRow : OpenClaim := { program := "ytflfbkoelhheoaa", sum := "559dec333a6af78135ecb4c6b53b8d710fd573b575c5c277478d374ee6677f50", func := "tryst/trystlaw13.DedupTakes", spec := "dedupTakes", inPlace := ["internal/bytealg.IndexByteString", "internal/bytealg.IndexString"], unfollowed := true, recurses := true, named := ["internal/bytealg.MaxLen"], apart := false, narrowed := true }
def DedupTakesUptoSaid : Prop := dedupTakesUptoRow.holds Try.pinned (OpenSpec.upto dedupTakesSpec)

/-- 'trystlaw13.DedupOnce', WHERE WHAT IT READS IS OF BULK AT MOST 1048576: true; the input reads as it did. -/
def dedupOnceUptoRow : OpenClaim := { program := "ytflfbkoelhheoaa", sum := "559dec333a6af78135ecb4c6b53b8d710fd573b575c5c277478d374ee6677f50", func := "tryst/trystlaw13.DedupOnce", spec := "dedupOnce", inPlace := ["internal/bytealg.IndexByteString", "internal/bytealg.IndexString"], unfollowed := true, recurses := true, named := ["internal/bytealg.MaxLen"], apart := false, narrowed := true }
def DedupOnceUptoSaid : Prop := dedupOnceUptoRow.holds Try.pinned (OpenSpec.upto dedupOnceSpec)

/-- 'trystlaw13.DedupApart', WHERE WHAT IT READS IS OF BULK AT MOST 1048576: true; the input reads as it did. -/
def dedupApartUptoRow : OpenClaim := { program := "ytflfbkoelhheoaa", sum := "559dec333a6af78135ecb4c6b53b8d710fd573b575c5c277478d374ee6677f50", func := "tryst/trystlaw13.DedupApart", spec := "dedupApart", inPlace := ["internal/bytealg.IndexByteString", "internal/bytealg.IndexString"], unfollowed := true, recurses := true, named := ["internal/bytealg.MaxLen"], apart := false, narrowed := true }
def DedupApartUptoSaid : Prop := dedupApartUptoRow.holds Try.pinned (OpenSpec.upto dedupApartSpec)

/-- 'trystlaw13.DedupNexts', WHERE WHAT IT READS IS OF BULK AT MOST 1048576: true; the input reads as it did. -/
def dedupNextsUptoRow : OpenClaim := { program := "ytflfbkoelhheoaa", sum := "559dec333a6af78135ecb4c6b53b8d710fd573b575c5c277478d374ee6677f50", func := "tryst/trystlaw13.DedupNexts", spec := "dedupNexts", inPlace := ["internal/bytealg.IndexByteString", "internal/bytealg.IndexString"], unfollowed := true, recurses := true, named := ["internal/bytealg.MaxLen"], apart := false, narrowed := true }
def DedupNextsUptoSaid : Prop := dedupNextsUptoRow.holds Try.pinned (OpenSpec.upto dedupNextsSpec)

/-- 'trystlaw13.DedupStays', WHERE WHAT IT READS IS OF BULK AT MOST 1048576: true; the input reads as it did. -/
def dedupStaysUptoRow : OpenClaim := { program := "ytflfbkoelhheoaa", sum := "559dec333a6af78135ecb4c6b53b8d710fd573b575c5c277478d374ee6677f50", func := "tryst/trystlaw13.DedupStays", spec := "dedupStays", inPlace := ["internal/bytealg.IndexByteString", "internal/bytealg.IndexString"], unfollowed := true, recurses := true, named := ["internal/bytealg.MaxLen"], apart := false, narrowed := true }
def DedupStaysUptoSaid : Prop := dedupStaysUptoRow.holds Try.pinned (OpenSpec.upto dedupStaysSpec)

end Rows
end Go.Proofs.Ytflfbkoelhheoaa
