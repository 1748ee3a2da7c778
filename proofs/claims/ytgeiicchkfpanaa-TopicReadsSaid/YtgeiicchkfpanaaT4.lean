/- A part of a way to reckon what a Go program does without its memory (T4). -/
import Derived.Test.YtgeiicchkfpanaaT1
import Derived.Test.YtgeiicchkfpanaaQ2
import Derived.Test.YtgeiicchkfpanaaGrow
namespace Go.Av
open Go Go.RowKit
set_option autoImplicit false
set_option linter.all false
theorem growP : GrowSays AP n_slices_Grow_api_Topic_api_Topic 45 3 100000 := growSays_of Go.Proofs.Try.grow92 rfl (by kernel_rfl)
def prims : Prims := [(n_internal_stringslite_IndexByte, primIB), (n_slices_Grow_api_Topic_api_Topic, primGrow 45 3 100000)]
theorem primsOk : PrimsOk AP prims := ⟨primIB_ok, primGrow_ok (by kernel_rfl) growP, trivial⟩
set_option maxRecDepth 100000 in
theorem awake_ok (H : List Entry) : Pure AP n_trystlaw12_awake [] H (.bool true) := run_known primsOk tabOk (fun f => Nat.beq f n_list_With_api_Topic || Nat.beq f n_list_Set_api_Topic) (n := 200) (by kernel_rfl) rfl rfl H
end Go.Av
