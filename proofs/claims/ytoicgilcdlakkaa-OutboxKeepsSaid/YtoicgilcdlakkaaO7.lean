/- A part of a way to reckon what a Go program does without its memory (O7). -/
import Derived.Test.YtoicgilcdlakkaaO2
import Derived.Test.YtoicgilcdlakkaaO4
namespace Go.Av
open Go Go.RowKit
set_option autoImplicit false
set_option linter.all false
def prims : Prims := [(n_internal_stringslite_IndexByte, primIB), (n_slices_Grow_api_Out_api_Out, primGrow 26 5 100000)]
theorem primsOk : PrimsOk AP prims := ⟨primIB_ok, primGrow_ok (by kernel_rfl) growO, trivial⟩
set_option maxRecDepth 100000 in
theorem awake_ok (H : List Entry) : Pure AP n_trystlaw15_awake [] H (.bool true) := run_known primsOk tabOk (fun f => Nat.beq f n_list_With_api_Out || (Nat.beq f n_list_Without_api_Out || Nat.beq f n_list_Set_api_Out)) (n := 200) (by kernel_rfl) rfl rfl H
end Go.Av
