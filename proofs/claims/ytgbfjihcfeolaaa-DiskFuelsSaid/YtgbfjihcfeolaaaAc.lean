/- A part of a way to reckon what a Go program does without its memory (Ac). -/
import Derived.Test.YtgbfjihcfeolaaaAvRun
import Derived.Test.YtgbfjihcfeolaaaProg
namespace Go.Av
open Go
set_option autoImplicit false
set_option linter.all false
noncomputable section
noncomputable abbrev AP : Program := Go.Proofs.Try.prog
abbrev n_gosem_cut_init : FuncId := 2
abbrev n_trystlaw17_DiskReads : FuncId := 3
abbrev n_trystlaw17_DiskWrites : FuncId := 4
abbrev n_trystlaw17_DiskCrashes : FuncId := 5
abbrev n_trystlaw17_DiskHolds : FuncId := 6
abbrev n_trystlaw17_DiskFuels : FuncId := 7
abbrev n_trystlaw17_DiskTears : FuncId := 8
abbrev n_trystlaw17_Few : FuncId := 9
abbrev n_disk_Read : FuncId := 10
abbrev n_trystref17_Read : FuncId := 11
abbrev n_disk_May : FuncId := 12
abbrev n_trystref17_May : FuncId := 13
abbrev n_disk_New : FuncId := 14
abbrev n_trystlaw17_awake : FuncId := 15
abbrev n_trystref17_Same : FuncId := 16
abbrev n_trystref17_New : FuncId := 17
abbrev n_trystlaw17_octets : FuncId := 18
abbrev n_trystlaw17_own : FuncId := 19
abbrev n_disk_Write : FuncId := 20
abbrev n_trystref17_Write : FuncId := 21
abbrev n_disk_Flush : FuncId := 22
abbrev n_trystref17_Flush : FuncId := 23
abbrev n_disk_Fuel : FuncId := 24
abbrev n_disk_Crash : FuncId := 25
abbrev n_trystref17_Crash : FuncId := 26
abbrev n_trystlaw17_All : FuncId := 27
abbrev n_disk_hasCells : FuncId := 28
abbrev n_strings_Join : FuncId := 29
abbrev n_trystref17_cell : FuncId := 30
abbrev n_disk_May_1 : FuncId := 31
abbrev n_disk_May_2 : FuncId := 32
abbrev n_disk_isCount : FuncId := 33
abbrev n_slices_ContainsFunc_string_string : FuncId := 34
abbrev n_slices_ContainsFunc_api_Wait_api_Wait : FuncId := 35
abbrev n_strings_Repeat : FuncId := 36
abbrev n_slices_Repeat_string_string : FuncId := 37
abbrev n_trystref17_Blank : FuncId := 38
abbrev n_slices_Clone_api_Wait_api_Wait : FuncId := 39
abbrev n_disk_burn : FuncId := 40
abbrev n_trystref17_burns : FuncId := 41
abbrev n_disk_settled : FuncId := 42
abbrev n_disk_Flush_1 : FuncId := 43
abbrev n_disk_loss_after : FuncId := 44
abbrev n_strings_Builder_Grow : FuncId := 45
abbrev n_strings_Builder_WriteString : FuncId := 46
abbrev n_strings_Builder_String : FuncId := 47
abbrev n_slices_IndexFunc_string_string : FuncId := 48
abbrev n_slices_IndexFunc_api_Wait_api_Wait : FuncId := 49
abbrev n_math_bits_Mul : FuncId := 50
abbrev n_strings_HasPrefix : FuncId := 51
abbrev n_strings_Builder_Len : FuncId := 52
abbrev n_disk_loss_keeps : FuncId := 53
abbrev n_strings_Builder_copyCheck : FuncId := 54
abbrev n_strings_Builder_grow : FuncId := 55
abbrev n_math_bits_Mul32 : FuncId := 56
abbrev n_math_bits_Mul64 : FuncId := 57
abbrev n_internal_stringslite_HasPrefix : FuncId := 58
/-- tryst/trystlaw17.DiskReads: 85 slots -/
def c_trystlaw17_DiskReads : AC := .seq (.ops [⟨some 3, .box (.t 0), none⟩,
    ⟨some 6, .mv (.c (.bool false)), none⟩])
  (.seq (.ops [⟨some 14, .load 4 true (.t 3), none⟩,
    ⟨some 15, .call (.c (.fn n_trystlaw17_Few [] [])) [(.t 14)], none⟩,
    ⟨none, .store 4 (.t 3) (.t 15), none⟩])
  (.seq (.ops [⟨some 17, .load 4 true (.t 3), none⟩,
    ⟨some 18, .mv (.t 1), none⟩,
    ⟨some 19, .mv (.t 2), none⟩,
    ⟨some 20, .call (.c (.fn n_disk_Read [] [])) [(.t 17), (.t 18), (.t 19)], none⟩,
    ⟨some 16, .mv (.t 20), none⟩,
    ⟨some 21, .ext (.t 16) 0, none⟩,
    ⟨some 22, .ext (.t 16) 1, none⟩,
    ⟨some 7, .mv (.t 21), none⟩,
    ⟨some 8, .mv (.t 22), none⟩])
  (.seq (.ops [⟨some 24, .load 4 true (.t 3), none⟩,
    ⟨some 25, .mv (.t 1), none⟩,
    ⟨some 26, .mv (.t 2), none⟩,
    ⟨some 27, .call (.c (.fn n_trystref17_Read [] [])) [(.t 24), (.t 25), (.t 26)], none⟩,
    ⟨some 23, .mv (.t 27), none⟩,
    ⟨some 28, .ext (.t 23) 0, none⟩,
    ⟨some 29, .ext (.t 23) 1, none⟩,
    ⟨some 9, .mv (.t 28), none⟩,
    ⟨some 10, .mv (.t 29), none⟩])
  (.seq (.seq (.draw [⟨some 30, .mv (.t 7), none⟩,
    ⟨some 31, .mv (.t 9), none⟩,
    ⟨some 32, .bin .neq (.t 30) (.t 31), none⟩,
    ⟨some 33, .mv (.t 32), none⟩,
    ⟨some 34, .mv (.t 8), some (33, false)⟩,
    ⟨some 35, .mv (.t 10), some (33, false)⟩,
    ⟨some 36, .bin .neq (.t 34) (.t 35), some (33, false)⟩,
    ⟨some 37, .pick (.t 33) (.c (.bool true)) (.t 36), none⟩,
    ⟨some 38, .mv (.t 37), none⟩,
    ⟨some 39, .load 4 true (.t 3), some (38, false)⟩,
    ⟨some 40, .dcall (.c (.fn n_disk_May [] [])) [(.t 39)], some (38, false)⟩,
    ⟨some 41, .load 4 true (.t 3), some (38, false)⟩,
    ⟨some 42, .dcall (.c (.fn n_trystref17_May [] [])) [(.t 41)], some (38, false)⟩,
    ⟨some 43, .binb true (.t 40) (.t 42), some (38, false)⟩,
    ⟨some 44, .pick (.t 38) (.c (.bool true)) (.t 43), none⟩])
  (.cond (.t 44) (.seq (.ops [⟨some 6, .mv (.c (.bool false)), none⟩])
  (.ret)) (.skip)))
  (.seq (.ops [⟨some 45, .mv (.t 2), none⟩,
    ⟨some 11, .mv (.t 45), none⟩])
  (.seq (.seq (.ops [⟨some 46, .mv (.t 11), none⟩,
    ⟨some 47, .bin .gtr (.t 46) (.c (.int .i64 80)), none⟩,
    ⟨some 48, .mv (.t 47), none⟩,
    ⟨some 49, .mv (.t 11), some (48, true)⟩,
    ⟨some 50, .bin .leq (.t 49) (.c (.int .i64 6000)), some (48, true)⟩,
    ⟨some 51, .pick (.t 48) (.t 50) (.c (.bool false)), none⟩])
  (.cond (.t 51) (.ops [⟨some 11, .mv (.c (.int .i64 80)), none⟩]) (.skip)))
  (.seq (.ops [⟨some 53, .mv (.t 11), none⟩,
    ⟨some 54, .call (.c (.fn n_disk_New [] [])) [(.t 53)], none⟩,
    ⟨some 52, .mv (.t 54), none⟩,
    ⟨some 55, .ext (.t 52) 0, none⟩,
    ⟨some 56, .ext (.t 52) 1, none⟩,
    ⟨some 12, .alloc [.nilsl, .nilsl, .int .i64 0, .bool false], none⟩,
    ⟨none, .store 4 (.t 12) (.t 55), none⟩,
    ⟨some 13, .mv (.t 56), none⟩])
  (.seq (.seq (.ops [⟨some 57, .mv (.t 11), none⟩,
    ⟨some 58, .bin .lss (.t 57) (.c (.int .i64 1)), none⟩,
    ⟨some 59, .mv (.t 58), none⟩,
    ⟨some 60, .mv (.t 11), some (59, false)⟩,
    ⟨some 61, .bin .gtr (.t 60) (.c (.int .i64 6000)), some (59, false)⟩,
    ⟨some 62, .pick (.t 59) (.c (.bool true)) (.t 61), none⟩])
  (.cond (.t 62) (.seq (.ops [⟨some 63, .fad 0 (.t 12), none⟩,
    ⟨some 64, .load 1 false (.t 63), none⟩,
    ⟨some 65, .len 1 (.t 64), none⟩,
    ⟨some 66, .bin .eql (.t 65) (.c (.int .i64 0)), none⟩,
    ⟨some 67, .mv (.t 66), none⟩,
    ⟨some 68, .mv (.t 13), some (67, true)⟩,
    ⟨some 69, .bin .eql (.t 68) (.c (.int .i64 1)), some (67, true)⟩,
    ⟨some 70, .pick (.t 67) (.t 69) (.c (.bool false)), none⟩,
    ⟨some 71, .mv (.t 70), none⟩,
    ⟨some 72, .call (.c (.fn n_trystlaw17_awake [] [])) [], some (71, true)⟩,
    ⟨some 73, .pick (.t 71) (.t 72) (.c (.bool false)), none⟩,
    ⟨some 6, .mv (.t 73), none⟩])
  (.ret)) (.skip)))
  (.seq (.draw [⟨some 74, .load 4 true (.t 12), none⟩,
    ⟨some 75, .mv (.t 11), none⟩,
    ⟨some 76, .dcall (.c (.fn n_trystref17_New [] [])) [(.t 75)], none⟩,
    ⟨some 77, .dcall (.c (.fn n_trystref17_Same [] [])) [(.t 74), (.t 76)], none⟩,
    ⟨some 78, .mv (.t 77), none⟩,
    ⟨some 79, .mv (.t 13), some (78, true)⟩,
    ⟨some 80, .bin .eql (.t 79) (.c (.int .i64 0)), some (78, true)⟩,
    ⟨some 81, .pick (.t 78) (.t 80) (.c (.bool false)), none⟩,
    ⟨some 82, .mv (.t 81), none⟩,
    ⟨some 83, .dcall (.c (.fn n_trystlaw17_awake [] [])) [], some (82, true)⟩,
    ⟨some 84, .pick (.t 82) (.t 83) (.c (.bool false)), none⟩,
    ⟨some 6, .mv (.t 84), none⟩])
  (.ret))))))))))
theorem k_trystlaw17_DiskReads : FnIs AP n_trystlaw17_DiskReads c_trystlaw17_DiskReads 85 (rsT [6]) := fnIs_of (fn := Go.Proofs.Try.f3) Go.Proofs.Try.func3 (by kernel_rfl) (by kernel_rfl) (by kernel_rfl) (by kernel_rfl) (by kernel_rfl)
theorem a_trystlaw17_DiskReads {x0 x1 x2 : V} {H : List Entry} {K : KV} (h : Wf H → awp AP H.length c_trystlaw17_DiskReads (finW H.length (rsT [6]) K) ([x0, x1, x2] ++ List.replicate 82 undefV) H) : BCall AP n_trystlaw17_DiskReads [x0, x1, x2] H K := k_trystlaw17_DiskReads.call (by kernel_rfl) h
/-- tryst/trystlaw17.DiskWrites: 72 slots -/
def c_trystlaw17_DiskWrites : AC := .seq (.ops [⟨some 3, .box (.t 0), none⟩,
    ⟨some 6, .mv (.c (.bool false)), none⟩])
  (.seq (.ops [⟨some 16, .load 4 true (.t 3), none⟩,
    ⟨some 17, .call (.c (.fn n_trystlaw17_Few [] [])) [(.t 16)], none⟩,
    ⟨some 18, .mv (.t 2), none⟩,
    ⟨some 19, .call (.c (.fn n_trystlaw17_octets [] [])) [(.t 18)], none⟩,
    ⟨none, .store 4 (.t 3) (.t 17), none⟩,
    ⟨some 2, .mv (.t 19), none⟩])
  (.seq (.ops [⟨some 20, .load 4 true (.t 3), none⟩,
    ⟨some 21, .call (.c (.fn n_trystlaw17_own [] [])) [(.t 20)], none⟩,
    ⟨some 7, .alloc [.nilsl, .nilsl, .int .i64 0, .bool false], none⟩,
    ⟨none, .store 4 (.t 7) (.t 21), none⟩])
  (.seq (.ops [⟨some 23, .load 4 true (.t 3), none⟩,
    ⟨some 24, .mv (.t 1), none⟩,
    ⟨some 25, .mv (.t 2), none⟩,
    ⟨some 26, .call (.c (.fn n_disk_Write [] [])) [(.t 23), (.t 24), (.t 25)], none⟩,
    ⟨some 22, .mv (.t 26), none⟩,
    ⟨some 27, .ext (.t 22) 0, none⟩,
    ⟨some 28, .ext (.t 22) 1, none⟩,
    ⟨some 8, .alloc [.nilsl, .nilsl, .int .i64 0, .bool false], none⟩,
    ⟨none, .store 4 (.t 8) (.t 27), none⟩,
    ⟨some 9, .mv (.t 28), none⟩])
  (.seq (.ops [⟨some 30, .load 4 true (.t 3), none⟩,
    ⟨some 31, .mv (.t 1), none⟩,
    ⟨some 32, .mv (.t 2), none⟩,
    ⟨some 33, .call (.c (.fn n_trystref17_Write [] [])) [(.t 30), (.t 31), (.t 32)], none⟩,
    ⟨some 29, .mv (.t 33), none⟩,
    ⟨some 34, .ext (.t 29) 0, none⟩,
    ⟨some 35, .ext (.t 29) 1, none⟩,
    ⟨some 10, .alloc [.nilsl, .nilsl, .int .i64 0, .bool false], none⟩,
    ⟨none, .store 4 (.t 10) (.t 34), none⟩,
    ⟨some 11, .mv (.t 35), none⟩])
  (.seq (.ops [⟨some 37, .load 4 true (.t 3), none⟩,
    ⟨some 38, .call (.c (.fn n_disk_Flush [] [])) [(.t 37)], none⟩,
    ⟨some 36, .mv (.t 38), none⟩,
    ⟨some 39, .ext (.t 36) 0, none⟩,
    ⟨some 40, .ext (.t 36) 1, none⟩,
    ⟨some 12, .alloc [.nilsl, .nilsl, .int .i64 0, .bool false], none⟩,
    ⟨none, .store 4 (.t 12) (.t 39), none⟩,
    ⟨some 13, .mv (.t 40), none⟩])
  (.seq (.ops [⟨some 42, .load 4 true (.t 3), none⟩,
    ⟨some 43, .call (.c (.fn n_trystref17_Flush [] [])) [(.t 42)], none⟩,
    ⟨some 41, .mv (.t 43), none⟩,
    ⟨some 44, .ext (.t 41) 0, none⟩,
    ⟨some 45, .ext (.t 41) 1, none⟩,
    ⟨some 14, .alloc [.nilsl, .nilsl, .int .i64 0, .bool false], none⟩,
    ⟨none, .store 4 (.t 14) (.t 44), none⟩,
    ⟨some 15, .mv (.t 45), none⟩])
  (.seq (.ops [⟨some 46, .load 4 true (.t 8), none⟩,
    ⟨some 47, .load 4 true (.t 10), none⟩,
    ⟨some 48, .call (.c (.fn n_trystref17_Same [] [])) [(.t 46), (.t 47)], none⟩,
    ⟨some 49, .mv (.t 48), none⟩,
    ⟨some 50, .mv (.t 9), some (49, true)⟩,
    ⟨some 51, .mv (.t 11), some (49, true)⟩,
    ⟨some 52, .bin .eql (.t 50) (.t 51), some (49, true)⟩,
    ⟨some 53, .pick (.t 49) (.t 52) (.c (.bool false)), none⟩,
    ⟨some 54, .mv (.t 53), none⟩,
    ⟨some 55, .load 4 true (.t 12), some (54, true)⟩,
    ⟨some 56, .load 4 true (.t 14), some (54, true)⟩,
    ⟨some 57, .call (.c (.fn n_trystref17_Same [] [])) [(.t 55), (.t 56)], some (54, true)⟩,
    ⟨some 58, .pick (.t 54) (.t 57) (.c (.bool false)), none⟩,
    ⟨some 59, .mv (.t 58), none⟩,
    ⟨some 60, .mv (.t 13), some (59, true)⟩,
    ⟨some 61, .mv (.t 15), some (59, true)⟩,
    ⟨some 62, .bin .eql (.t 60) (.t 61), some (59, true)⟩,
    ⟨some 63, .pick (.t 59) (.t 62) (.c (.bool false)), none⟩,
    ⟨some 64, .mv (.t 63), none⟩,
    ⟨some 65, .load 4 true (.t 3), some (64, true)⟩,
    ⟨some 66, .load 4 true (.t 7), some (64, true)⟩,
    ⟨some 67, .call (.c (.fn n_trystref17_Same [] [])) [(.t 65), (.t 66)], some (64, true)⟩,
    ⟨some 68, .pick (.t 64) (.t 67) (.c (.bool false)), none⟩,
    ⟨some 69, .mv (.t 68), none⟩,
    ⟨some 70, .call (.c (.fn n_trystlaw17_awake [] [])) [], some (69, true)⟩,
    ⟨some 71, .pick (.t 69) (.t 70) (.c (.bool false)), none⟩,
    ⟨some 6, .mv (.t 71), none⟩])
  (.ret))))))))
theorem k_trystlaw17_DiskWrites : FnIs AP n_trystlaw17_DiskWrites c_trystlaw17_DiskWrites 72 (rsT [6]) := fnIs_of (fn := Go.Proofs.Try.f4) Go.Proofs.Try.func4 (by kernel_rfl) (by kernel_rfl) (by kernel_rfl) (by kernel_rfl) (by kernel_rfl)
theorem a_trystlaw17_DiskWrites {x0 x1 x2 : V} {H : List Entry} {K : KV} (h : Wf H → awp AP H.length c_trystlaw17_DiskWrites (finW H.length (rsT [6]) K) ([x0, x1, x2] ++ List.replicate 69 undefV) H) : BCall AP n_trystlaw17_DiskWrites [x0, x1, x2] H K := k_trystlaw17_DiskWrites.call (by kernel_rfl) h
/-- tryst/trystlaw17.DiskCrashes: 64 slots -/
def c_trystlaw17_DiskCrashes : AC := .seq (.ops [⟨some 3, .box (.t 0), none⟩,
    ⟨some 4, .box (.t 1), none⟩,
    ⟨some 6, .mv (.c (.bool false)), none⟩])
  (.seq (.ops [⟨some 10, .load 4 true (.t 3), none⟩,
    ⟨some 11, .call (.c (.fn n_trystlaw17_Few [] [])) [(.t 10)], none⟩,
    ⟨none, .store 4 (.t 3) (.t 11), none⟩])
  (.seq (.ops [⟨some 12, .load 4 true (.t 3), none⟩,
    ⟨some 13, .call (.c (.fn n_trystlaw17_own [] [])) [(.t 12)], none⟩,
    ⟨some 7, .alloc [.nilsl, .nilsl, .int .i64 0, .bool false], none⟩,
    ⟨none, .store 4 (.t 7) (.t 13), none⟩])
  (.seq (.ops [⟨some 15, .load 4 true (.t 3), none⟩,
    ⟨some 16, .mv (.t 2), none⟩,
    ⟨some 17, .call (.c (.fn n_disk_Fuel [] [])) [(.t 15), (.t 16)], none⟩,
    ⟨some 14, .mv (.t 17), none⟩,
    ⟨some 18, .ext (.t 14) 0, none⟩,
    ⟨some 19, .ext (.t 14) 1, none⟩,
    ⟨some 8, .alloc [.nilsl, .nilsl, .int .i64 0, .bool false], none⟩,
    ⟨none, .store 4 (.t 8) (.t 18), none⟩,
    ⟨some 9, .mv (.t 19), none⟩])
  (.seq (.seq (.draw [⟨some 20, .load 4 true (.t 3), none⟩,
    ⟨some 21, .load 3 true (.t 4), none⟩,
    ⟨some 22, .dcall (.c (.fn n_disk_Crash [] [])) [(.t 20), (.t 21)], none⟩,
    ⟨some 23, .load 4 true (.t 3), none⟩,
    ⟨some 24, .load 3 true (.t 4), none⟩,
    ⟨some 25, .dcall (.c (.fn n_trystref17_Crash [] [])) [(.t 23), (.t 24)], none⟩,
    ⟨some 26, .dcall (.c (.fn n_trystref17_Same [] [])) [(.t 22), (.t 25)], none⟩,
    ⟨some 27, .un .not (.t 26), none⟩,
    ⟨some 28, .mv (.t 27), none⟩,
    ⟨some 29, .load 4 true (.t 3), some (28, false)⟩,
    ⟨some 30, .load 4 true (.t 7), some (28, false)⟩,
    ⟨some 31, .dcall (.c (.fn n_trystref17_Same [] [])) [(.t 29), (.t 30)], some (28, false)⟩,
    ⟨some 32, .un .not (.t 31), some (28, false)⟩,
    ⟨some 33, .pick (.t 28) (.c (.bool true)) (.t 32), none⟩])
  (.cond (.t 33) (.seq (.ops [⟨some 6, .mv (.c (.bool false)), none⟩])
  (.ret)) (.skip)))
  (.seq (.seq (.ops [⟨some 34, .load 4 true (.t 3), none⟩,
    ⟨some 35, .call (.c (.fn n_trystref17_May [] [])) [(.t 34)], none⟩,
    ⟨some 36, .un .not (.t 35), none⟩,
    ⟨some 37, .mv (.t 36), none⟩,
    ⟨some 38, .mv (.t 2), some (37, false)⟩,
    ⟨some 39, .bin .lss (.t 38) (.c (.int .i64 (-1))), some (37, false)⟩,
    ⟨some 40, .pick (.t 37) (.c (.bool true)) (.t 39), none⟩])
  (.cond (.t 40) (.seq (.ops [⟨some 41, .fad 0 (.t 8), none⟩,
    ⟨some 42, .load 1 false (.t 41), none⟩,
    ⟨some 43, .len 1 (.t 42), none⟩,
    ⟨some 44, .bin .eql (.t 43) (.c (.int .i64 0)), none⟩,
    ⟨some 45, .mv (.t 44), none⟩,
    ⟨some 46, .mv (.t 9), some (45, true)⟩,
    ⟨some 47, .bin .eql (.t 46) (.c (.int .i64 1)), some (45, true)⟩,
    ⟨some 48, .pick (.t 45) (.t 47) (.c (.bool false)), none⟩,
    ⟨some 49, .mv (.t 48), none⟩,
    ⟨some 50, .call (.c (.fn n_trystlaw17_awake [] [])) [], some (49, true)⟩,
    ⟨some 51, .pick (.t 49) (.t 50) (.c (.bool false)), none⟩,
    ⟨some 6, .mv (.t 51), none⟩])
  (.ret)) (.skip)))
  (.seq (.ops [⟨some 52, .mv (.t 2), none⟩,
    ⟨some 53, .fad 2 (.t 7), none⟩,
    ⟨none, .store 1 (.t 53) (.t 52), none⟩])
  (.seq (.ops [⟨some 54, .load 4 true (.t 8), none⟩,
    ⟨some 55, .load 4 true (.t 7), none⟩,
    ⟨some 56, .call (.c (.fn n_trystref17_Same [] [])) [(.t 54), (.t 55)], none⟩,
    ⟨some 57, .mv (.t 56), none⟩,
    ⟨some 58, .mv (.t 9), some (57, true)⟩,
    ⟨some 59, .bin .eql (.t 58) (.c (.int .i64 0)), some (57, true)⟩,
    ⟨some 60, .pick (.t 57) (.t 59) (.c (.bool false)), none⟩,
    ⟨some 61, .mv (.t 60), none⟩,
    ⟨some 62, .call (.c (.fn n_trystlaw17_awake [] [])) [], some (61, true)⟩,
    ⟨some 63, .pick (.t 61) (.t 62) (.c (.bool false)), none⟩,
    ⟨some 6, .mv (.t 63), none⟩])
  (.ret))))))))
theorem k_trystlaw17_DiskCrashes : FnIs AP n_trystlaw17_DiskCrashes c_trystlaw17_DiskCrashes 64 (rsT [6]) := fnIs_of (fn := Go.Proofs.Try.f5) Go.Proofs.Try.func5 (by kernel_rfl) (by kernel_rfl) (by kernel_rfl) (by kernel_rfl) (by kernel_rfl)
theorem a_trystlaw17_DiskCrashes {x0 x1 x2 : V} {H : List Entry} {K : KV} (h : Wf H → awp AP H.length c_trystlaw17_DiskCrashes (finW H.length (rsT [6]) K) ([x0, x1, x2] ++ List.replicate 61 undefV) H) : BCall AP n_trystlaw17_DiskCrashes [x0, x1, x2] H K := k_trystlaw17_DiskCrashes.call (by kernel_rfl) h
/-- tryst/trystlaw17.DiskHolds: 192 slots -/
def c_trystlaw17_DiskHolds : AC := .seq (.ops [⟨some 5, .box (.t 2), none⟩,
    ⟨some 6, .mv (.c (.bool false)), none⟩])
  (.seq (.ops [⟨some 23, .call (.c (.fn n_disk_New [] [])) [(.c (.int .i64 4))], none⟩,
    ⟨some 22, .mv (.t 23), none⟩,
    ⟨some 24, .ext (.t 22) 0, none⟩,
    ⟨some 25, .ext (.t 22) 1, none⟩,
    ⟨some 7, .alloc [.nilsl, .nilsl, .int .i64 0, .bool false], none⟩,
    ⟨none, .store 4 (.t 7) (.t 24), none⟩,
    ⟨some 8, .mv (.t 25), none⟩])
  (.seq (.seq (.ops [⟨some 26, .mv (.t 8), none⟩,
    ⟨some 27, .bin .neq (.t 26) (.c (.int .i64 0)), none⟩])
  (.cond (.t 27) (.seq (.ops [⟨some 6, .mv (.c (.bool false)), none⟩])
  (.ret)) (.skip)))
  (.seq (.seq (.ops [⟨some 9, .mv (.c (.int .i64 0)), none⟩])
  (.block 0 (.loop (.seq (.seq (.ops [⟨some 28, .mv (.t 9), none⟩,
    ⟨some 29, .mv (.t 0), none⟩,
    ⟨some 30, .len 1 (.t 29), none⟩,
    ⟨some 31, .bin .lss (.t 28) (.t 30), none⟩,
    ⟨some 32, .mv (.t 31), none⟩,
    ⟨some 33, .mv (.t 9), some (32, true)⟩,
    ⟨some 34, .bin .lss (.t 33) (.c (.int .i64 9)), some (32, true)⟩,
    ⟨some 35, .pick (.t 32) (.t 34) (.c (.bool false)), none⟩])
  (.cond (.t 35) (.skip) (.exit 0)))
  (.seq (.block 1 (.seq (.draw [⟨some 39, .load 4 true (.t 7), none⟩,
    ⟨some 40, .mv (.t 0), none⟩,
    ⟨some 41, .mv (.t 9), none⟩,
    ⟨some 42, .iad 2 true (.t 40) (.t 41), none⟩,
    ⟨some 43, .fad 0 (.t 42), none⟩,
    ⟨some 44, .load 1 false (.t 43), none⟩,
    ⟨some 45, .mv (.t 0), none⟩,
    ⟨some 46, .mv (.t 9), none⟩,
    ⟨some 47, .iad 2 true (.t 45) (.t 46), none⟩,
    ⟨some 48, .fad 1 (.t 47), none⟩,
    ⟨some 49, .load 1 false (.t 48), none⟩,
    ⟨some 50, .pcall (.c (.fn n_trystlaw17_octets [] [])) [(.t 49)], none⟩,
    ⟨some 51, .pcall (.c (.fn n_disk_Write [] [])) [(.t 39), (.t 44), (.t 50)], none⟩,
    ⟨some 38, .mv (.t 51), none⟩,
    ⟨some 52, .ext (.t 38) 0, none⟩,
    ⟨some 53, .ext (.t 38) 1, none⟩,
    ⟨some 10, .alloc [.nilsl, .nilsl, .int .i64 0, .bool false], none⟩,
    ⟨none, .store 4 (.t 10) (.t 52), none⟩,
    ⟨some 11, .mv (.t 53), none⟩])
  (.seq (.ops [⟨some 54, .mv (.t 11), none⟩,
    ⟨some 55, .bin .eql (.t 54) (.c (.int .i64 0)), none⟩])
  (.cond (.t 55) (.ops [⟨some 56, .load 4 true (.t 10), none⟩,
    ⟨none, .store 4 (.t 7) (.t 56), none⟩]) (.skip)))))
  (.ops [⟨some 36, .mv (.t 9), none⟩,
    ⟨some 37, .bin .add (.t 36) (.c (.int .i64 1)), none⟩,
    ⟨some 9, .mv (.t 37), none⟩]))))))
  (.seq (.ops [⟨some 58, .load 4 true (.t 7), none⟩,
    ⟨some 59, .call (.c (.fn n_disk_Flush [] [])) [(.t 58)], none⟩,
    ⟨some 57, .mv (.t 59), none⟩,
    ⟨some 60, .ext (.t 57) 0, none⟩,
    ⟨some 61, .ext (.t 57) 1, none⟩,
    ⟨none, .store 4 (.t 7) (.t 60), none⟩,
    ⟨some 12, .mv (.t 61), none⟩])
  (.seq (.seq (.draw [⟨some 62, .mv (.t 12), none⟩,
    ⟨some 63, .bin .neq (.t 62) (.c (.int .i64 0)), none⟩,
    ⟨some 64, .mv (.t 63), none⟩,
    ⟨some 65, .fad 0 (.t 7), some (64, false)⟩,
    ⟨some 66, .load 1 false (.t 65), some (64, false)⟩,
    ⟨some 67, .len 1 (.t 66), some (64, false)⟩,
    ⟨some 68, .bin .neq (.t 67) (.c (.int .i64 4)), some (64, false)⟩,
    ⟨some 69, .pick (.t 64) (.c (.bool true)) (.t 68), none⟩,
    ⟨some 70, .mv (.t 69), none⟩,
    ⟨some 71, .load 4 true (.t 7), some (70, false)⟩,
    ⟨some 72, .load 3 true (.t 5), some (70, false)⟩,
    ⟨some 73, .dcall (.c (.fn n_disk_Crash [] [])) [(.t 71), (.t 72)], some (70, false)⟩,
    ⟨some 74, .load 4 true (.t 7), some (70, false)⟩,
    ⟨some 75, .dcall (.c (.fn n_trystref17_Same [] [])) [(.t 73), (.t 74)], some (70, false)⟩,
    ⟨some 76, .un .not (.t 75), some (70, false)⟩,
    ⟨some 77, .pick (.t 70) (.c (.bool true)) (.t 76), none⟩])
  (.cond (.t 77) (.seq (.ops [⟨some 6, .mv (.c (.bool false)), none⟩])
  (.ret)) (.skip)))
  (.seq (.ops [⟨some 78, .load 4 true (.t 7), none⟩,
    ⟨some 13, .alloc [.nilsl, .nilsl, .int .i64 0, .bool false], none⟩,
    ⟨none, .store 4 (.t 13) (.t 78), none⟩])
  (.seq (.seq (.ops [⟨some 14, .mv (.c (.int .i64 0)), none⟩])
  (.block 2 (.loop (.seq (.seq (.ops [⟨some 79, .mv (.t 14), none⟩,
    ⟨some 80, .mv (.t 1), none⟩,
    ⟨some 81, .len 1 (.t 80), none⟩,
    ⟨some 82, .bin .lss (.t 79) (.t 81), none⟩,
    ⟨some 83, .mv (.t 82), none⟩,
    ⟨some 84, .mv (.t 14), some (83, true)⟩,
    ⟨some 85, .bin .lss (.t 84) (.c (.int .i64 9)), some (83, true)⟩,
    ⟨some 86, .pick (.t 83) (.t 85) (.c (.bool false)), none⟩])
  (.cond (.t 86) (.skip) (.exit 2)))
  (.seq (.block 3 (.seq (.draw [⟨some 90, .load 4 true (.t 13), none⟩,
    ⟨some 91, .mv (.t 1), none⟩,
    ⟨some 92, .mv (.t 14), none⟩,
    ⟨some 93, .iad 2 true (.t 91) (.t 92), none⟩,
    ⟨some 94, .fad 0 (.t 93), none⟩,
    ⟨some 95, .load 1 false (.t 94), none⟩,
    ⟨some 96, .mv (.t 1), none⟩,
    ⟨some 97, .mv (.t 14), none⟩,
    ⟨some 98, .iad 2 true (.t 96) (.t 97), none⟩,
    ⟨some 99, .fad 1 (.t 98), none⟩,
    ⟨some 100, .load 1 false (.t 99), none⟩,
    ⟨some 101, .pcall (.c (.fn n_trystlaw17_octets [] [])) [(.t 100)], none⟩,
    ⟨some 102, .pcall (.c (.fn n_disk_Write [] [])) [(.t 90), (.t 95), (.t 101)], none⟩,
    ⟨some 89, .mv (.t 102), none⟩,
    ⟨some 103, .ext (.t 89) 0, none⟩,
    ⟨some 104, .ext (.t 89) 1, none⟩,
    ⟨some 15, .alloc [.nilsl, .nilsl, .int .i64 0, .bool false], none⟩,
    ⟨none, .store 4 (.t 15) (.t 103), none⟩,
    ⟨some 16, .mv (.t 104), none⟩])
  (.seq (.ops [⟨some 105, .mv (.t 16), none⟩,
    ⟨some 106, .bin .eql (.t 105) (.c (.int .i64 0)), none⟩])
  (.cond (.t 106) (.ops [⟨some 107, .load 4 true (.t 15), none⟩,
    ⟨none, .store 4 (.t 13) (.t 107), none⟩]) (.skip)))))
  (.ops [⟨some 87, .mv (.t 14), none⟩,
    ⟨some 88, .bin .add (.t 87) (.c (.int .i64 1)), none⟩,
    ⟨some 14, .mv (.t 88), none⟩]))))))
  (.seq (.ops [⟨some 108, .load 4 true (.t 13), none⟩,
    ⟨some 109, .load 3 true (.t 5), none⟩,
    ⟨some 110, .call (.c (.fn n_disk_Crash [] [])) [(.t 108), (.t 109)], none⟩,
    ⟨some 17, .alloc [.nilsl, .nilsl, .int .i64 0, .bool false], none⟩,
    ⟨none, .store 4 (.t 17) (.t 110), none⟩])
  (.seq (.seq (.ops [⟨some 111, .load 4 true (.t 17), none⟩,
    ⟨some 112, .call (.c (.fn n_trystref17_May [] [])) [(.t 111)], none⟩,
    ⟨some 113, .un .not (.t 112), none⟩,
    ⟨some 114, .mv (.t 113), none⟩,
    ⟨some 115, .fad 0 (.t 17), some (114, false)⟩,
    ⟨some 116, .load 1 false (.t 115), some (114, false)⟩,
    ⟨some 117, .len 1 (.t 116), some (114, false)⟩,
    ⟨some 118, .bin .neq (.t 117) (.c (.int .i64 4)), some (114, false)⟩,
    ⟨some 119, .pick (.t 114) (.c (.bool true)) (.t 118), none⟩])
  (.cond (.t 119) (.seq (.ops [⟨some 6, .mv (.c (.bool false)), none⟩])
  (.ret)) (.skip)))
  (.seq (.seq (.ops [⟨some 18, .mv (.c (.int .i64 0)), none⟩])
  (.block 4 (.loop (.seq (.seq (.ops [⟨some 120, .mv (.t 18), none⟩,
    ⟨some 121, .bin .lss (.t 120) (.c (.int .i64 4)), none⟩])
  (.cond (.t 121) (.skip) (.exit 4)))
  (.seq (.block 5 (.seq (.ops [⟨some 19, .mv (.c (.int .i64 0)), none⟩])
  (.block 6 (.loop (.seq (.seq (.ops [⟨some 124, .mv (.t 19), none⟩,
    ⟨some 125, .bin .lss (.t 124) (.c (.int .i64 64)), none⟩])
  (.cond (.t 125) (.skip) (.exit 6)))
  (.seq (.block 7 (.seq (.draw [⟨some 128, .fad 0 (.t 17), none⟩,
    ⟨some 129, .load 1 false (.t 128), none⟩,
    ⟨some 130, .mv (.t 18), none⟩,
    ⟨some 131, .iad 1 false (.t 129) (.t 130), none⟩,
    ⟨some 132, .load 1 false (.t 131), none⟩,
    ⟨some 133, .mv (.t 19), none⟩,
    ⟨some 134, .ixs (.t 132) (.t 133), none⟩,
    ⟨some 135, .fad 0 (.t 7), none⟩,
    ⟨some 136, .load 1 false (.t 135), none⟩,
    ⟨some 137, .mv (.t 18), none⟩,
    ⟨some 138, .iad 1 false (.t 136) (.t 137), none⟩,
    ⟨some 139, .load 1 false (.t 138), none⟩,
    ⟨some 140, .mv (.t 19), none⟩,
    ⟨some 141, .ixs (.t 139) (.t 140), none⟩,
    ⟨some 142, .bin .eql (.t 134) (.t 141), none⟩,
    ⟨some 20, .mv (.t 142), none⟩])
  (.seq (.seq (.ops [⟨some 21, .mv (.c (.int .i64 0)), none⟩])
  (.block 8 (.loop (.seq (.seq (.ops [⟨some 143, .mv (.t 21), none⟩,
    ⟨some 144, .fad 1 (.t 13), none⟩,
    ⟨some 145, .load 1 false (.t 144), none⟩,
    ⟨some 146, .len 1 (.t 145), none⟩,
    ⟨some 147, .bin .lss (.t 143) (.t 146), none⟩])
  (.cond (.t 147) (.skip) (.exit 8)))
  (.seq (.block 9 (.draw [⟨some 150, .mv (.t 20), none⟩,
    ⟨some 151, .mv (.t 150), none⟩,
    ⟨some 152, .fad 1 (.t 13), some (151, false)⟩,
    ⟨some 153, .load 1 false (.t 152), some (151, false)⟩,
    ⟨some 154, .mv (.t 21), some (151, false)⟩,
    ⟨some 155, .iad 2 true (.t 153) (.t 154), some (151, false)⟩,
    ⟨some 156, .fad 0 (.t 155), some (151, false)⟩,
    ⟨some 157, .load 1 false (.t 156), some (151, false)⟩,
    ⟨some 158, .mv (.t 18), some (151, false)⟩,
    ⟨some 159, .bin .eql (.t 157) (.t 158), some (151, false)⟩,
    ⟨some 160, .mv (.t 159), some (151, false)⟩,
    ⟨some 161, .fad 1 (.t 13), some (160, true)⟩,
    ⟨some 162, .load 1 false (.t 161), some (160, true)⟩,
    ⟨some 163, .mv (.t 21), some (160, true)⟩,
    ⟨some 164, .iad 2 true (.t 162) (.t 163), some (160, true)⟩,
    ⟨some 165, .fad 1 (.t 164), some (160, true)⟩,
    ⟨some 166, .load 1 false (.t 165), some (160, true)⟩,
    ⟨some 167, .len 0 (.t 166), some (160, true)⟩,
    ⟨some 168, .bin .eql (.t 167) (.c (.int .i64 64)), some (160, true)⟩,
    ⟨some 169, .pick (.t 160) (.t 168) (.c (.bool false)), some (151, false)⟩,
    ⟨some 170, .mv (.t 169), some (151, false)⟩,
    ⟨some 171, .fad 1 (.t 13), some (170, true)⟩,
    ⟨some 172, .load 1 false (.t 171), some (170, true)⟩,
    ⟨some 173, .mv (.t 21), some (170, true)⟩,
    ⟨some 174, .iad 2 true (.t 172) (.t 173), some (170, true)⟩,
    ⟨some 175, .fad 1 (.t 174), some (170, true)⟩,
    ⟨some 176, .load 1 false (.t 175), some (170, true)⟩,
    ⟨some 177, .mv (.t 19), some (170, true)⟩,
    ⟨some 178, .ixs (.t 176) (.t 177), some (170, true)⟩,
    ⟨some 179, .fad 0 (.t 17), some (170, true)⟩,
    ⟨some 180, .load 1 false (.t 179), some (170, true)⟩,
    ⟨some 181, .mv (.t 18), some (170, true)⟩,
    ⟨some 182, .iad 1 false (.t 180) (.t 181), some (170, true)⟩,
    ⟨some 183, .load 1 false (.t 182), some (170, true)⟩,
    ⟨some 184, .mv (.t 19), some (170, true)⟩,
    ⟨some 185, .ixs (.t 183) (.t 184), some (170, true)⟩,
    ⟨some 186, .bin .eql (.t 178) (.t 185), some (170, true)⟩,
    ⟨some 187, .pick (.t 170) (.t 186) (.c (.bool false)), some (151, false)⟩,
    ⟨some 188, .pick (.t 151) (.c (.bool true)) (.t 187), none⟩,
    ⟨some 20, .mv (.t 188), none⟩]))
  (.ops [⟨some 148, .mv (.t 21), none⟩,
    ⟨some 149, .bin .add (.t 148) (.c (.int .i64 1)), none⟩,
    ⟨some 21, .mv (.t 149), none⟩]))))))
  (.seq (.ops [⟨some 189, .mv (.t 20), none⟩,
    ⟨some 190, .un .not (.t 189), none⟩])
  (.cond (.t 190) (.seq (.ops [⟨some 6, .mv (.c (.bool false)), none⟩])
  (.ret)) (.skip))))))
  (.ops [⟨some 126, .mv (.t 19), none⟩,
    ⟨some 127, .bin .add (.t 126) (.c (.int .i64 1)), none⟩,
    ⟨some 19, .mv (.t 127), none⟩])))))))
  (.ops [⟨some 122, .mv (.t 18), none⟩,
    ⟨some 123, .bin .add (.t 122) (.c (.int .i64 1)), none⟩,
    ⟨some 18, .mv (.t 123), none⟩]))))))
  (.seq (.ops [⟨some 191, .call (.c (.fn n_trystlaw17_awake [] [])) [], none⟩,
    ⟨some 6, .mv (.t 191), none⟩])
  (.ret))))))))))))
theorem k_trystlaw17_DiskHolds : FnIs AP n_trystlaw17_DiskHolds c_trystlaw17_DiskHolds 192 (rsT [6]) := fnIs_of (fn := Go.Proofs.Try.f6) Go.Proofs.Try.func6 (by kernel_rfl) (by kernel_rfl) (by kernel_rfl) (by kernel_rfl) (by kernel_rfl)
theorem a_trystlaw17_DiskHolds {x0 x1 x2 : V} {H : List Entry} {K : KV} (h : Wf H → awp AP H.length c_trystlaw17_DiskHolds (finW H.length (rsT [6]) K) ([x0, x1, x2] ++ List.replicate 189 undefV) H) : BCall AP n_trystlaw17_DiskHolds [x0, x1, x2] H K := k_trystlaw17_DiskHolds.call (by kernel_rfl) h
/-- tryst/trystlaw17.DiskFuels: 124 slots -/
def c_trystlaw17_DiskFuels : AC := .seq (.ops [⟨some 4, .mv (.c (.bool false)), none⟩])
  (.seq (.ops [⟨some 18, .call (.c (.fn n_disk_New [] [])) [(.c (.int .i64 5))], none⟩,
    ⟨some 17, .mv (.t 18), none⟩,
    ⟨some 19, .ext (.t 17) 0, none⟩,
    ⟨some 20, .ext (.t 17) 1, none⟩,
    ⟨some 5, .alloc [.nilsl, .nilsl, .int .i64 0, .bool false], none⟩,
    ⟨none, .store 4 (.t 5) (.t 19), none⟩,
    ⟨some 6, .mv (.t 20), none⟩])
  (.seq (.ops [⟨some 21, .mv (.t 0), none⟩,
    ⟨some 22, .bin .rem (.t 21) (.c (.int .u8 24)), none⟩,
    ⟨some 23, .cvi .i64 (.t 22), none⟩,
    ⟨some 7, .mv (.t 23), none⟩])
  (.seq (.ops [⟨some 25, .load 4 true (.t 5), none⟩,
    ⟨some 26, .mv (.t 7), none⟩,
    ⟨some 27, .call (.c (.fn n_disk_Fuel [] [])) [(.t 25), (.t 26)], none⟩,
    ⟨some 24, .mv (.t 27), none⟩,
    ⟨some 28, .ext (.t 24) 0, none⟩,
    ⟨some 29, .ext (.t 24) 1, none⟩,
    ⟨none, .store 4 (.t 5) (.t 28), none⟩,
    ⟨some 8, .mv (.t 29), none⟩])
  (.seq (.seq (.ops [⟨some 30, .mv (.t 6), none⟩,
    ⟨some 31, .bin .neq (.t 30) (.c (.int .i64 0)), none⟩,
    ⟨some 32, .mv (.t 31), none⟩,
    ⟨some 33, .mv (.t 8), some (32, false)⟩,
    ⟨some 34, .bin .neq (.t 33) (.c (.int .i64 0)), some (32, false)⟩,
    ⟨some 35, .pick (.t 32) (.c (.bool true)) (.t 34), none⟩])
  (.cond (.t 35) (.seq (.ops [⟨some 4, .mv (.c (.bool false)), none⟩])
  (.ret)) (.skip)))
  (.seq (.seq (.ops [⟨some 9, .mv (.c (.int .i64 0)), none⟩])
  (.block 0 (.loop (.seq (.seq (.ops [⟨some 36, .mv (.t 9), none⟩,
    ⟨some 37, .mv (.t 1), none⟩,
    ⟨some 38, .len 1 (.t 37), none⟩,
    ⟨some 39, .bin .lss (.t 36) (.t 38), none⟩,
    ⟨some 40, .mv (.t 39), none⟩,
    ⟨some 41, .mv (.t 9), some (40, true)⟩,
    ⟨some 42, .bin .lss (.t 41) (.c (.int .i64 30)), some (40, true)⟩,
    ⟨some 43, .pick (.t 40) (.t 42) (.c (.bool false)), none⟩])
  (.cond (.t 43) (.skip) (.exit 0)))
  (.seq (.block 1 (.seq (.ops [⟨some 47, .load 4 true (.t 5), none⟩,
    ⟨some 48, .call (.c (.fn n_disk_Flush [] [])) [(.t 47)], none⟩,
    ⟨some 46, .mv (.t 48), none⟩,
    ⟨some 49, .ext (.t 46) 0, none⟩,
    ⟨some 50, .ext (.t 46) 1, none⟩,
    ⟨some 10, .alloc [.nilsl, .nilsl, .int .i64 0, .bool false], none⟩,
    ⟨none, .store 4 (.t 10) (.t 49), none⟩,
    ⟨some 11, .mv (.t 50), none⟩])
  (.seq (.ops [⟨some 12, .mv (.c (.int .i64 1)), none⟩])
  (.seq (.seq (.ops [⟨some 51, .mv (.t 1), none⟩,
    ⟨some 52, .mv (.t 9), none⟩,
    ⟨some 53, .iad 1 false (.t 51) (.t 52), none⟩,
    ⟨some 54, .load 1 false (.t 53), none⟩,
    ⟨some 55, .bin .rem (.t 54) (.c (.int .u8 4)), none⟩,
    ⟨some 56, .bin .gtr (.t 55) (.c (.int .u8 0)), none⟩])
  (.cond (.t 56) (.seq (.ops [⟨some 57, .mv (.t 1), none⟩,
    ⟨some 58, .mv (.t 9), none⟩,
    ⟨some 59, .iad 1 false (.t 57) (.t 58), none⟩,
    ⟨some 60, .load 1 false (.t 59), none⟩,
    ⟨some 61, .bin .rem (.t 60) (.c (.int .u8 4)), none⟩,
    ⟨some 62, .cvi .i64 (.t 61), none⟩,
    ⟨some 12, .mv (.t 62), none⟩])
  (.draw [⟨some 64, .load 4 true (.t 5), none⟩,
    ⟨some 65, .mv (.t 1), none⟩,
    ⟨some 66, .mv (.t 9), none⟩,
    ⟨some 67, .iad 1 false (.t 65) (.t 66), none⟩,
    ⟨some 68, .load 1 false (.t 67), none⟩,
    ⟨some 69, .bin .quo (.t 68) (.c (.int .u8 4)), none⟩,
    ⟨some 70, .bin .rem (.t 69) (.c (.int .u8 2)), none⟩,
    ⟨some 71, .cvi .i64 (.t 70), none⟩,
    ⟨some 72, .mv (.t 12), none⟩,
    ⟨some 73, .dcall (.c (.fn n_trystlaw17_All [] [])) [(.c (.int .u8 97)), (.t 72)], none⟩,
    ⟨some 74, .dcall (.c (.fn n_disk_Write [] [])) [(.t 64), (.t 71), (.t 73)], none⟩,
    ⟨some 63, .mv (.t 74), none⟩,
    ⟨some 75, .ext (.t 63) 0, none⟩,
    ⟨some 76, .ext (.t 63) 1, none⟩,
    ⟨none, .store 4 (.t 10) (.t 75), none⟩,
    ⟨some 11, .mv (.t 76), none⟩])) (.skip)))
  (.seq (.seq (.ops [⟨some 77, .mv (.t 11), none⟩,
    ⟨some 78, .bin .eql (.t 77) (.c (.int .i64 0)), none⟩,
    ⟨some 79, .mv (.t 12), none⟩,
    ⟨some 80, .mv (.t 7), none⟩,
    ⟨some 81, .bin .leq (.t 79) (.t 80), none⟩,
    ⟨some 82, .binb true (.t 78) (.t 81), none⟩])
  (.cond (.t 82) (.seq (.ops [⟨some 4, .mv (.c (.bool false)), none⟩])
  (.ret)) (.skip)))
  (.seq (.seq (.ops [⟨some 83, .mv (.t 11), none⟩,
    ⟨some 84, .bin .neq (.t 83) (.c (.int .i64 0)), none⟩])
  (.cond (.t 84) (.seq (.ops [⟨some 86, .load 4 true (.t 10), none⟩,
    ⟨some 87, .call (.c (.fn n_disk_Read [] [])) [(.t 86), (.c (.int .i64 0)), (.c (.int .i64 1))], none⟩,
    ⟨some 85, .mv (.t 87), none⟩,
    ⟨some 88, .ext (.t 85) 0, none⟩,
    ⟨some 89, .ext (.t 85) 1, none⟩,
    ⟨some 13, .mv (.t 88), none⟩,
    ⟨some 14, .mv (.t 89), none⟩])
  (.seq (.ops [⟨some 91, .load 4 true (.t 10), none⟩,
    ⟨some 92, .build [.int .u64 0, .int .i64 0, .int .i64 0] [], none⟩,
    ⟨some 93, .call (.c (.fn n_disk_Crash [] [])) [(.t 91), (.t 92)], none⟩,
    ⟨some 94, .call (.c (.fn n_disk_Read [] [])) [(.t 93), (.c (.int .i64 0)), (.c (.int .i64 1))], none⟩,
    ⟨some 90, .mv (.t 94), none⟩,
    ⟨some 95, .ext (.t 90) 0, none⟩,
    ⟨some 96, .ext (.t 90) 1, none⟩,
    ⟨some 15, .mv (.t 95), none⟩,
    ⟨some 16, .mv (.t 96), none⟩])
  (.seq (.ops [⟨some 97, .mv (.t 11), none⟩,
    ⟨some 98, .bin .eql (.t 97) (.c (.int .i64 10)), none⟩,
    ⟨some 99, .mv (.t 98), none⟩,
    ⟨some 100, .fad 3 (.t 10), some (99, true)⟩,
    ⟨some 101, .load 1 false (.t 100), some (99, true)⟩,
    ⟨some 102, .pick (.t 99) (.t 101) (.c (.bool false)), none⟩,
    ⟨some 103, .mv (.t 102), none⟩,
    ⟨some 104, .fad 2 (.t 10), some (103, true)⟩,
    ⟨some 105, .load 1 false (.t 104), some (103, true)⟩,
    ⟨some 106, .bin .eql (.t 105) (.c (.int .i64 0)), some (103, true)⟩,
    ⟨some 107, .pick (.t 103) (.t 106) (.c (.bool false)), none⟩,
    ⟨some 108, .mv (.t 107), none⟩,
    ⟨some 109, .mv (.t 14), some (108, true)⟩,
    ⟨some 110, .bin .eql (.t 109) (.c (.int .i64 10)), some (108, true)⟩,
    ⟨some 111, .pick (.t 108) (.t 110) (.c (.bool false)), none⟩,
    ⟨some 112, .mv (.t 111), none⟩,
    ⟨some 113, .mv (.t 16), some (112, true)⟩,
    ⟨some 114, .bin .eql (.t 113) (.c (.int .i64 0)), some (112, true)⟩,
    ⟨some 115, .pick (.t 112) (.t 114) (.c (.bool false)), none⟩,
    ⟨some 116, .mv (.t 115), none⟩,
    ⟨some 117, .call (.c (.fn n_trystlaw17_awake [] [])) [], some (116, true)⟩,
    ⟨some 118, .pick (.t 116) (.t 117) (.c (.bool false)), none⟩,
    ⟨some 4, .mv (.t 118), none⟩])
  (.ret)))) (.skip)))
  (.seq (.ops [⟨some 119, .mv (.t 7), none⟩,
    ⟨some 120, .mv (.t 12), none⟩,
    ⟨some 121, .bin .sub (.t 119) (.t 120), none⟩,
    ⟨some 7, .mv (.t 121), none⟩])
  (.ops [⟨some 122, .load 4 true (.t 10), none⟩,
    ⟨none, .store 4 (.t 5) (.t 122), none⟩]))))))))
  (.ops [⟨some 44, .mv (.t 9), none⟩,
    ⟨some 45, .bin .add (.t 44) (.c (.int .i64 1)), none⟩,
    ⟨some 9, .mv (.t 45), none⟩]))))))
  (.seq (.ops [⟨some 123, .call (.c (.fn n_trystlaw17_awake [] [])) [], none⟩,
    ⟨some 4, .mv (.t 123), none⟩])
  (.ret)))))))
theorem k_trystlaw17_DiskFuels : FnIs AP n_trystlaw17_DiskFuels c_trystlaw17_DiskFuels 124 (rsT [4]) := fnIs_of (fn := Go.Proofs.Try.f7) Go.Proofs.Try.func7 (by kernel_rfl) (by kernel_rfl) (by kernel_rfl) (by kernel_rfl) (by kernel_rfl)
theorem a_trystlaw17_DiskFuels {x0 x1 : V} {H : List Entry} {K : KV} (h : Wf H → awp AP H.length c_trystlaw17_DiskFuels (finW H.length (rsT [4]) K) ([x0, x1] ++ List.replicate 122 undefV) H) : BCall AP n_trystlaw17_DiskFuels [x0, x1] H K := k_trystlaw17_DiskFuels.call (by kernel_rfl) h
/-- tryst/trystlaw17.DiskTears: 93 slots -/
def c_trystlaw17_DiskTears : AC := .seq (.ops [⟨some 6, .mv (.c (.bool false)), none⟩])
  (.seq (.ops [⟨some 16, .call (.c (.fn n_disk_New [] [])) [(.c (.int .i64 2))], none⟩,
    ⟨some 15, .mv (.t 16), none⟩,
    ⟨some 17, .ext (.t 15) 0, none⟩,
    ⟨some 18, .ext (.t 15) 1, none⟩,
    ⟨some 7, .alloc [.nilsl, .nilsl, .int .i64 0, .bool false], none⟩,
    ⟨none, .store 4 (.t 7) (.t 17), none⟩,
    ⟨some 8, .mv (.t 18), none⟩])
  (.seq (.draw [⟨some 20, .load 4 true (.t 7), none⟩,
    ⟨some 21, .mv (.t 0), none⟩,
    ⟨some 22, .dcall (.c (.fn n_trystlaw17_All [] [])) [(.t 21), (.c (.int .i64 2))], none⟩,
    ⟨some 23, .dcall (.c (.fn n_disk_Write [] [])) [(.t 20), (.c (.int .i64 0)), (.t 22)], none⟩,
    ⟨some 19, .mv (.t 23), none⟩,
    ⟨some 24, .ext (.t 19) 0, none⟩,
    ⟨some 25, .ext (.t 19) 1, none⟩,
    ⟨none, .store 4 (.t 7) (.t 24), none⟩,
    ⟨some 9, .mv (.t 25), none⟩])
  (.seq (.ops [⟨some 27, .load 4 true (.t 7), none⟩,
    ⟨some 28, .call (.c (.fn n_disk_Flush [] [])) [(.t 27)], none⟩,
    ⟨some 26, .mv (.t 28), none⟩,
    ⟨some 29, .ext (.t 26) 0, none⟩,
    ⟨some 30, .ext (.t 26) 1, none⟩,
    ⟨none, .store 4 (.t 7) (.t 29), none⟩,
    ⟨some 10, .mv (.t 30), none⟩])
  (.seq (.draw [⟨some 32, .load 4 true (.t 7), none⟩,
    ⟨some 33, .mv (.t 1), none⟩,
    ⟨some 34, .pcall (.c (.fn n_trystlaw17_All [] [])) [(.t 33), (.c (.int .i64 1))], none⟩,
    ⟨some 35, .pcall (.c (.fn n_disk_Write [] [])) [(.t 32), (.c (.int .i64 1)), (.t 34)], none⟩,
    ⟨some 31, .mv (.t 35), none⟩,
    ⟨some 36, .ext (.t 31) 0, none⟩,
    ⟨some 37, .ext (.t 31) 1, none⟩,
    ⟨some 11, .alloc [.nilsl, .nilsl, .int .i64 0, .bool false], none⟩,
    ⟨none, .store 4 (.t 11) (.t 36), none⟩,
    ⟨some 12, .mv (.t 37), none⟩])
  (.seq (.ops [⟨some 38, .load 4 true (.t 11), none⟩,
    ⟨some 39, .mv (.t 2), none⟩,
    ⟨some 40, .build [.int .u64 0, .int .i64 0, .int .i64 0] [(2, 1, (.t 39))], none⟩,
    ⟨some 41, .call (.c (.fn n_disk_Crash [] [])) [(.t 38), (.t 40)], none⟩,
    ⟨some 13, .alloc [.nilsl, .nilsl, .int .i64 0, .bool false], none⟩,
    ⟨none, .store 4 (.t 13) (.t 41), none⟩])
  (.seq (.seq (.ops [⟨some 42, .mv (.t 8), none⟩,
    ⟨some 43, .bin .neq (.t 42) (.c (.int .i64 0)), none⟩,
    ⟨some 44, .mv (.t 43), none⟩,
    ⟨some 45, .mv (.t 9), some (44, false)⟩,
    ⟨some 46, .bin .neq (.t 45) (.c (.int .i64 0)), some (44, false)⟩,
    ⟨some 47, .pick (.t 44) (.c (.bool true)) (.t 46), none⟩,
    ⟨some 48, .mv (.t 47), none⟩,
    ⟨some 49, .mv (.t 10), some (48, false)⟩,
    ⟨some 50, .bin .neq (.t 49) (.c (.int .i64 0)), some (48, false)⟩,
    ⟨some 51, .pick (.t 48) (.c (.bool true)) (.t 50), none⟩,
    ⟨some 52, .mv (.t 51), none⟩,
    ⟨some 53, .mv (.t 12), some (52, false)⟩,
    ⟨some 54, .bin .neq (.t 53) (.c (.int .i64 0)), some (52, false)⟩,
    ⟨some 55, .pick (.t 52) (.c (.bool true)) (.t 54), none⟩,
    ⟨some 56, .mv (.t 55), none⟩,
    ⟨some 57, .fad 0 (.t 13), some (56, false)⟩,
    ⟨some 58, .load 1 false (.t 57), some (56, false)⟩,
    ⟨some 59, .len 1 (.t 58), some (56, false)⟩,
    ⟨some 60, .bin .neq (.t 59) (.c (.int .i64 2)), some (56, false)⟩,
    ⟨some 61, .pick (.t 56) (.c (.bool true)) (.t 60), none⟩])
  (.cond (.t 61) (.seq (.ops [⟨some 6, .mv (.c (.bool false)), none⟩])
  (.ret)) (.skip)))
  (.seq (.ops [⟨some 62, .mv (.t 2), none⟩,
    ⟨some 14, .mv (.t 62), none⟩])
  (.seq (.seq (.ops [⟨some 63, .mv (.t 14), none⟩,
    ⟨some 64, .bin .lss (.t 63) (.c (.int .i64 0)), none⟩])
  (.cond (.t 64) (.ops [⟨some 14, .mv (.c (.int .i64 0)), none⟩]) (.skip)))
  (.seq (.seq (.ops [⟨some 65, .mv (.t 14), none⟩,
    ⟨some 66, .bin .gtr (.t 65) (.c (.int .i64 64)), none⟩])
  (.cond (.t 66) (.ops [⟨some 14, .mv (.c (.int .i64 64)), none⟩]) (.skip)))
  (.seq (.draw [⟨some 67, .fad 0 (.t 13), none⟩,
    ⟨some 68, .load 1 false (.t 67), none⟩,
    ⟨some 69, .iad 1 false (.t 68) (.c (.int .i64 0)), none⟩,
    ⟨some 70, .load 1 false (.t 69), none⟩,
    ⟨some 71, .mv (.t 0), none⟩,
    ⟨some 72, .dcall (.c (.fn n_trystlaw17_All [] [])) [(.t 71), (.c (.int .i64 1))], none⟩,
    ⟨some 73, .bin .eql (.t 70) (.t 72), none⟩,
    ⟨some 74, .mv (.t 73), none⟩,
    ⟨some 75, .fad 0 (.t 13), some (74, true)⟩,
    ⟨some 76, .load 1 false (.t 75), some (74, true)⟩,
    ⟨some 77, .iad 1 false (.t 76) (.c (.int .i64 1)), some (74, true)⟩,
    ⟨some 78, .load 1 false (.t 77), some (74, true)⟩,
    ⟨some 79, .mv (.t 1), some (74, true)⟩,
    ⟨some 80, .dcall (.c (.fn n_trystlaw17_All [] [])) [(.t 79), (.c (.int .i64 1))], some (74, true)⟩,
    ⟨some 81, .mv (.t 14), some (74, true)⟩,
    ⟨some 82, .sls (.t 80) none (some (.t 81)), some (74, true)⟩,
    ⟨some 83, .mv (.t 0), some (74, true)⟩,
    ⟨some 84, .dcall (.c (.fn n_trystlaw17_All [] [])) [(.t 83), (.c (.int .i64 1))], some (74, true)⟩,
    ⟨some 85, .mv (.t 14), some (74, true)⟩,
    ⟨some 86, .sls (.t 84) (some (.t 85)) none, some (74, true)⟩,
    ⟨some 87, .bin .add (.t 82) (.t 86), some (74, true)⟩,
    ⟨some 88, .bin .eql (.t 78) (.t 87), some (74, true)⟩,
    ⟨some 89, .pick (.t 74) (.t 88) (.c (.bool false)), none⟩,
    ⟨some 90, .mv (.t 89), none⟩,
    ⟨some 91, .dcall (.c (.fn n_trystlaw17_awake [] [])) [], some (90, true)⟩,
    ⟨some 92, .pick (.t 90) (.t 91) (.c (.bool false)), none⟩,
    ⟨some 6, .mv (.t 92), none⟩])
  (.ret)))))))))))
theorem k_trystlaw17_DiskTears : FnIs AP n_trystlaw17_DiskTears c_trystlaw17_DiskTears 93 (rsT [6]) := fnIs_of (fn := Go.Proofs.Try.f8) Go.Proofs.Try.func8 (by kernel_rfl) (by kernel_rfl) (by kernel_rfl) (by kernel_rfl) (by kernel_rfl)
theorem a_trystlaw17_DiskTears {x0 x1 x2 : V} {H : List Entry} {K : KV} (h : Wf H → awp AP H.length c_trystlaw17_DiskTears (finW H.length (rsT [6]) K) ([x0, x1, x2] ++ List.replicate 90 undefV) H) : BCall AP n_trystlaw17_DiskTears [x0, x1, x2] H K := k_trystlaw17_DiskTears.call (by kernel_rfl) h
/-- tryst/trystlaw17.Few: 34 slots -/
def c_trystlaw17_Few : AC := .seq (.ops [⟨some 1, .box (.t 0), none⟩,
    ⟨some 2, .alloc [.nilsl, .nilsl, .int .i64 0, .bool false], none⟩])
  (.seq (.seq (.ops [⟨some 3, .fad 0 (.t 1), none⟩,
    ⟨some 4, .load 1 false (.t 3), none⟩,
    ⟨some 5, .len 1 (.t 4), none⟩,
    ⟨some 6, .bin .gtr (.t 5) (.c (.int .i64 40)), none⟩,
    ⟨some 7, .mv (.t 6), none⟩,
    ⟨some 8, .fad 0 (.t 1), some (7, true)⟩,
    ⟨some 9, .load 1 false (.t 8), some (7, true)⟩,
    ⟨some 10, .len 1 (.t 9), some (7, true)⟩,
    ⟨some 11, .bin .leq (.t 10) (.c (.int .i64 6000)), some (7, true)⟩,
    ⟨some 12, .pick (.t 7) (.t 11) (.c (.bool false)), none⟩])
  (.cond (.t 12) (.ops [⟨some 13, .fad 0 (.t 1), none⟩,
    ⟨some 14, .load 1 false (.t 13), none⟩,
    ⟨some 15, .slc 1 (.t 14) none (some (.c (.int .i64 40))) none, none⟩,
    ⟨some 16, .fad 0 (.t 1), none⟩,
    ⟨none, .store 1 (.t 16) (.t 15), none⟩]) (.skip)))
  (.seq (.seq (.ops [⟨some 17, .fad 0 (.t 1), none⟩,
    ⟨some 18, .load 1 false (.t 17), none⟩,
    ⟨some 19, .len 1 (.t 18), none⟩,
    ⟨some 20, .bin .gtr (.t 19) (.c (.int .i64 6001)), none⟩])
  (.cond (.t 20) (.ops [⟨some 21, .fad 0 (.t 1), none⟩,
    ⟨some 22, .load 1 false (.t 21), none⟩,
    ⟨some 23, .slc 1 (.t 22) none (some (.c (.int .i64 6001))) none, none⟩,
    ⟨some 24, .fad 0 (.t 1), none⟩,
    ⟨none, .store 1 (.t 24) (.t 23), none⟩]) (.skip)))
  (.seq (.seq (.ops [⟨some 25, .fad 1 (.t 1), none⟩,
    ⟨some 26, .load 1 false (.t 25), none⟩,
    ⟨some 27, .len 1 (.t 26), none⟩,
    ⟨some 28, .bin .gtr (.t 27) (.c (.int .i64 80)), none⟩])
  (.cond (.t 28) (.ops [⟨some 29, .fad 1 (.t 1), none⟩,
    ⟨some 30, .load 1 false (.t 29), none⟩,
    ⟨some 31, .slc 2 (.t 30) none (some (.c (.int .i64 80))) none, none⟩,
    ⟨some 32, .fad 1 (.t 1), none⟩,
    ⟨none, .store 1 (.t 32) (.t 31), none⟩]) (.skip)))
  (.seq (.ops [⟨some 33, .load 4 true (.t 1), none⟩,
    ⟨none, .store 4 (.t 2) (.t 33), none⟩])
  (.ret)))))
theorem k_trystlaw17_Few : FnIs AP n_trystlaw17_Few c_trystlaw17_Few 34 [.cell 2 4 true] := fnIs_of (fn := Go.Proofs.Try.f9) Go.Proofs.Try.func9 (by kernel_rfl) (by kernel_rfl) (by kernel_rfl) (by kernel_rfl) (by kernel_rfl)
theorem a_trystlaw17_Few {x0 : V} {H : List Entry} {K : KV} (h : Wf H → awp AP H.length c_trystlaw17_Few (finW H.length [.cell 2 4 true] K) ([x0] ++ List.replicate 33 undefV) H) : BCall AP n_trystlaw17_Few [x0] H K := k_trystlaw17_Few.call (by kernel_rfl) h
/-- tryst/disk.Read: 62 slots -/
def c_disk_Read : AC := .seq (.ops [⟨some 3, .box (.t 0), none⟩,
    ⟨some 6, .mv (.c (.str [])), none⟩,
    ⟨some 7, .mv (.c (.int .i64 0)), none⟩])
  (.seq (.block 0 (.seq (.ops [⟨some 12, .load 4 true (.t 3), none⟩,
    ⟨some 13, .call (.c (.fn n_disk_May [] [])) [(.t 12)], none⟩,
    ⟨some 14, .un .not (.t 13), none⟩,
    ⟨some 11, .mv (.t 14), none⟩])
  (.cond (.t 11) (.seq (.ops [⟨some 6, .mv (.c (.str [])), none⟩,
    ⟨some 7, .mv (.c (.int .i64 1)), none⟩])
  (.ret)) (.seq (.ops [⟨some 16, .load 4 true (.t 3), none⟩,
    ⟨some 17, .mv (.t 1), none⟩,
    ⟨some 18, .mv (.t 2), none⟩,
    ⟨some 19, .call (.c (.fn n_disk_hasCells [] [])) [(.t 16), (.t 17), (.t 18)], none⟩,
    ⟨some 20, .un .not (.t 19), none⟩,
    ⟨some 15, .mv (.t 20), none⟩])
  (.cond (.t 15) (.seq (.ops [⟨some 6, .mv (.c (.str [])), none⟩,
    ⟨some 7, .mv (.c (.int .i64 12)), none⟩])
  (.ret)) (.seq (.ops [⟨some 22, .fad 3 (.t 3), none⟩,
    ⟨some 23, .load 1 false (.t 22), none⟩,
    ⟨some 21, .mv (.t 23), none⟩])
  (.cond (.t 21) (.seq (.ops [⟨some 6, .mv (.c (.str [])), none⟩,
    ⟨some 7, .mv (.c (.int .i64 10)), none⟩])
  (.ret)) (.skip))))))))
  (.seq (.ops [⟨some 24, .mv (.t 2), none⟩,
    ⟨some 25, .mks 9 1 false [.str []] 16 (.t 24) (.t 24), none⟩,
    ⟨some 8, .mv (.t 25), none⟩])
  (.seq (.ops [⟨some 26, .mv (.t 8), none⟩,
    ⟨some 27, .fad 0 (.t 3), none⟩,
    ⟨some 28, .load 1 false (.t 27), none⟩,
    ⟨some 29, .mv (.t 1), none⟩,
    ⟨some 30, .slc 1 (.t 28) (some (.t 29)) none none, none⟩,
    ⟨some 31, .copy 1 (.t 26) (.t 30), none⟩])
  (.seq (.seq (.ops [⟨some 32, .fad 1 (.t 3), none⟩,
    ⟨some 33, .load 1 false (.t 32), none⟩,
    ⟨some 34, .len 1 (.t 33), none⟩,
    ⟨some 35, .mv (.c (.int .i64 0)), none⟩])
  (.block 1 (.loop (.seq (.ops [⟨some 36, .bin .lss (.t 35) (.t 34), none⟩])
  (.seq (.cond (.t 36) (.skip) (.exit 1))
  (.seq (.block 2 (.seq (.ops [⟨some 37, .iad 2 true (.t 33) (.t 35), none⟩,
    ⟨some 38, .load 2 true (.t 37), none⟩,
    ⟨some 10, .alloc [.int .i64 0, .str []], none⟩,
    ⟨none, .store 2 (.t 10) (.t 38), none⟩])
  (.seq (.ops [⟨some 39, .fad 0 (.t 10), none⟩,
    ⟨some 40, .load 1 false (.t 39), none⟩,
    ⟨some 41, .mv (.t 1), none⟩,
    ⟨some 42, .bin .geq (.t 40) (.t 41), none⟩,
    ⟨some 43, .mv (.t 42), none⟩,
    ⟨some 44, .fad 0 (.t 10), some (43, true)⟩,
    ⟨some 45, .load 1 false (.t 44), some (43, true)⟩,
    ⟨some 46, .mv (.t 1), some (43, true)⟩,
    ⟨some 47, .mv (.t 2), some (43, true)⟩,
    ⟨some 48, .bin .add (.t 46) (.t 47), some (43, true)⟩,
    ⟨some 49, .bin .lss (.t 45) (.t 48), some (43, true)⟩,
    ⟨some 50, .pick (.t 43) (.t 49) (.c (.bool false)), none⟩])
  (.cond (.t 50) (.ops [⟨some 51, .mv (.t 8), none⟩,
    ⟨some 52, .fad 0 (.t 10), none⟩,
    ⟨some 53, .load 1 false (.t 52), none⟩,
    ⟨some 54, .mv (.t 1), none⟩,
    ⟨some 55, .bin .sub (.t 53) (.t 54), none⟩,
    ⟨some 56, .fad 1 (.t 10), none⟩,
    ⟨some 57, .load 1 false (.t 56), none⟩,
    ⟨some 58, .iad 1 false (.t 51) (.t 55), none⟩,
    ⟨none, .store 1 (.t 58) (.t 57), none⟩]) (.skip)))))
  (.ops [⟨some 59, .bin .add (.t 35) (.c (.int .i64 1)), none⟩,
    ⟨some 35, .mv (.t 59), none⟩])))))))
  (.seq (.ops [⟨some 60, .mv (.t 8), none⟩,
    ⟨some 61, .call (.c (.fn n_strings_Join [] [])) [(.t 60), (.c (.str []))], none⟩,
    ⟨some 6, .mv (.t 61), none⟩,
    ⟨some 7, .mv (.c (.int .i64 0)), none⟩])
  (.ret))))))
theorem k_disk_Read : FnIs AP n_disk_Read c_disk_Read 62 (rsT [6, 7]) := fnIs_of (fn := Go.Proofs.Try.f10) Go.Proofs.Try.func10 (by kernel_rfl) (by kernel_rfl) (by kernel_rfl) (by kernel_rfl) (by kernel_rfl)
theorem a_disk_Read {x0 x1 x2 : V} {H : List Entry} {K : KV} (h : Wf H → awp AP H.length c_disk_Read (finW H.length (rsT [6, 7]) K) ([x0, x1, x2] ++ List.replicate 59 undefV) H) : BCall AP n_disk_Read [x0, x1, x2] H K := k_disk_Read.call (by kernel_rfl) h
/-- tryst/trystref17.Read: 51 slots -/
def c_trystref17_Read : AC := .seq (.ops [⟨some 3, .box (.t 0), none⟩,
    ⟨some 6, .mv (.c (.str [])), none⟩,
    ⟨some 7, .mv (.c (.int .i64 0)), none⟩])
  (.seq (.seq (.ops [⟨some 10, .load 4 true (.t 3), none⟩,
    ⟨some 11, .call (.c (.fn n_trystref17_May [] [])) [(.t 10)], none⟩,
    ⟨some 12, .un .not (.t 11), none⟩])
  (.cond (.t 12) (.seq (.ops [⟨some 6, .mv (.c (.str [])), none⟩,
    ⟨some 7, .mv (.c (.int .i64 1)), none⟩])
  (.ret)) (.skip)))
  (.seq (.seq (.ops [⟨some 13, .mv (.t 1), none⟩,
    ⟨some 14, .bin .lss (.t 13) (.c (.int .i64 0)), none⟩,
    ⟨some 15, .mv (.t 14), none⟩,
    ⟨some 16, .mv (.t 2), some (15, false)⟩,
    ⟨some 17, .bin .lss (.t 16) (.c (.int .i64 0)), some (15, false)⟩,
    ⟨some 18, .pick (.t 15) (.c (.bool true)) (.t 17), none⟩,
    ⟨some 19, .mv (.t 18), none⟩,
    ⟨some 20, .mv (.t 1), some (19, false)⟩,
    ⟨some 21, .fad 0 (.t 3), some (19, false)⟩,
    ⟨some 22, .load 1 false (.t 21), some (19, false)⟩,
    ⟨some 23, .len 1 (.t 22), some (19, false)⟩,
    ⟨some 24, .bin .gtr (.t 20) (.t 23), some (19, false)⟩,
    ⟨some 25, .pick (.t 19) (.c (.bool true)) (.t 24), none⟩,
    ⟨some 26, .mv (.t 25), none⟩,
    ⟨some 27, .mv (.t 2), some (26, false)⟩,
    ⟨some 28, .fad 0 (.t 3), some (26, false)⟩,
    ⟨some 29, .load 1 false (.t 28), some (26, false)⟩,
    ⟨some 30, .len 1 (.t 29), some (26, false)⟩,
    ⟨some 31, .mv (.t 1), some (26, false)⟩,
    ⟨some 32, .bin .sub (.t 30) (.t 31), some (26, false)⟩,
    ⟨some 33, .bin .gtr (.t 27) (.t 32), some (26, false)⟩,
    ⟨some 34, .pick (.t 26) (.c (.bool true)) (.t 33), none⟩])
  (.cond (.t 34) (.seq (.ops [⟨some 6, .mv (.c (.str [])), none⟩,
    ⟨some 7, .mv (.c (.int .i64 12)), none⟩])
  (.ret)) (.skip)))
  (.seq (.seq (.ops [⟨some 35, .fad 3 (.t 3), none⟩,
    ⟨some 36, .load 1 false (.t 35), none⟩])
  (.cond (.t 36) (.seq (.ops [⟨some 6, .mv (.c (.str [])), none⟩,
    ⟨some 7, .mv (.c (.int .i64 10)), none⟩])
  (.ret)) (.skip)))
  (.seq (.ops [⟨some 8, .mv (.c (.str [])), none⟩])
  (.seq (.seq (.ops [⟨some 37, .mv (.t 1), none⟩,
    ⟨some 9, .mv (.t 37), none⟩])
  (.block 0 (.loop (.seq (.seq (.ops [⟨some 38, .mv (.t 9), none⟩,
    ⟨some 39, .mv (.t 1), none⟩,
    ⟨some 40, .mv (.t 2), none⟩,
    ⟨some 41, .bin .add (.t 39) (.t 40), none⟩,
    ⟨some 42, .bin .lss (.t 38) (.t 41), none⟩])
  (.cond (.t 42) (.skip) (.exit 0)))
  (.seq (.block 1 (.ops [⟨some 45, .mv (.t 8), none⟩,
    ⟨some 46, .load 4 true (.t 3), none⟩,
    ⟨some 47, .mv (.t 9), none⟩,
    ⟨some 48, .call (.c (.fn n_trystref17_cell [] [])) [(.t 46), (.t 47)], none⟩,
    ⟨some 49, .bin .add (.t 45) (.t 48), none⟩,
    ⟨some 8, .mv (.t 49), none⟩]))
  (.ops [⟨some 43, .mv (.t 9), none⟩,
    ⟨some 44, .bin .add (.t 43) (.c (.int .i64 1)), none⟩,
    ⟨some 9, .mv (.t 44), none⟩]))))))
  (.seq (.ops [⟨some 50, .mv (.t 8), none⟩,
    ⟨some 6, .mv (.t 50), none⟩,
    ⟨some 7, .mv (.c (.int .i64 0)), none⟩])
  (.ret)))))))
theorem k_trystref17_Read : FnIs AP n_trystref17_Read c_trystref17_Read 51 (rsT [6, 7]) := fnIs_of (fn := Go.Proofs.Try.f11) Go.Proofs.Try.func11 (by kernel_rfl) (by kernel_rfl) (by kernel_rfl) (by kernel_rfl) (by kernel_rfl)
theorem a_trystref17_Read {x0 x1 x2 : V} {H : List Entry} {K : KV} (h : Wf H → awp AP H.length c_trystref17_Read (finW H.length (rsT [6, 7]) K) ([x0, x1, x2] ++ List.replicate 48 undefV) H) : BCall AP n_trystref17_Read [x0, x1, x2] H K := k_trystref17_Read.call (by kernel_rfl) h
/-- tryst/disk.May: 29 slots -/
def c_disk_May : AC := .seq (.ops [⟨some 1, .box (.t 0), none⟩,
    ⟨some 2, .mv (.c (.bool false)), none⟩])
  (.seq (.ops [⟨some 3, .alloc [.nilfn], none⟩,
    ⟨none, .store 1 (.t 3) (.c (.fn n_disk_May_1 [] [])), none⟩])
  (.seq (.ops [⟨some 5, .mkfn n_disk_May_2 [] [(.t 1), (.t 3)], none⟩,
    ⟨some 4, .mv (.t 5), none⟩])
  (.seq (.ops [⟨some 6, .fad 0 (.t 1), none⟩,
    ⟨some 7, .load 1 false (.t 6), none⟩,
    ⟨some 8, .len 1 (.t 7), none⟩,
    ⟨some 9, .call (.c (.fn n_disk_isCount [] [])) [(.t 8)], none⟩,
    ⟨some 10, .mv (.t 9), none⟩,
    ⟨some 11, .fad 2 (.t 1), some (10, true)⟩,
    ⟨some 12, .load 1 false (.t 11), some (10, true)⟩,
    ⟨some 13, .bin .geq (.t 12) (.c (.int .i64 (-1))), some (10, true)⟩,
    ⟨some 14, .pick (.t 10) (.t 13) (.c (.bool false)), none⟩,
    ⟨some 15, .mv (.t 14), none⟩,
    ⟨some 16, .fad 0 (.t 1), some (15, true)⟩,
    ⟨some 17, .load 1 false (.t 16), some (15, true)⟩,
    ⟨some 18, .load 1 false (.t 3), some (15, true)⟩,
    ⟨some 19, .call (.c (.fn n_slices_ContainsFunc_string_string [] [])) [(.t 17), (.t 18)], some (15, true)⟩,
    ⟨some 20, .un .not (.t 19), some (15, true)⟩,
    ⟨some 21, .pick (.t 15) (.t 20) (.c (.bool false)), none⟩,
    ⟨some 22, .mv (.t 21), none⟩,
    ⟨some 23, .fad 1 (.t 1), some (22, true)⟩,
    ⟨some 24, .load 1 false (.t 23), some (22, true)⟩,
    ⟨some 25, .mv (.t 4), some (22, true)⟩,
    ⟨some 26, .call (.c (.fn n_slices_ContainsFunc_api_Wait_api_Wait [] [])) [(.t 24), (.t 25)], some (22, true)⟩,
    ⟨some 27, .un .not (.t 26), some (22, true)⟩,
    ⟨some 28, .pick (.t 22) (.t 27) (.c (.bool false)), none⟩,
    ⟨some 2, .mv (.t 28), none⟩])
  (.ret))))
theorem k_disk_May : FnIs AP n_disk_May c_disk_May 29 (rsT [2]) := fnIs_of (fn := Go.Proofs.Try.f12) Go.Proofs.Try.func12 (by kernel_rfl) (by kernel_rfl) (by kernel_rfl) (by kernel_rfl) (by kernel_rfl)
theorem a_disk_May {x0 : V} {H : List Entry} {K : KV} (h : Wf H → awp AP H.length c_disk_May (finW H.length (rsT [2]) K) ([x0] ++ List.replicate 28 undefV) H) : BCall AP n_disk_May [x0] H K := k_disk_May.call (by kernel_rfl) h
/-- tryst/trystref17.May: 78 slots -/
def c_trystref17_May : AC := .seq (.ops [⟨some 1, .box (.t 0), none⟩,
    ⟨some 2, .mv (.c (.bool false)), none⟩])
  (.seq (.ops [⟨some 6, .fad 0 (.t 1), none⟩,
    ⟨some 7, .load 1 false (.t 6), none⟩,
    ⟨some 8, .len 1 (.t 7), none⟩,
    ⟨some 9, .bin .leq (.c (.int .i64 1)) (.t 8), none⟩,
    ⟨some 10, .mv (.t 9), none⟩,
    ⟨some 11, .fad 0 (.t 1), some (10, true)⟩,
    ⟨some 12, .load 1 false (.t 11), some (10, true)⟩,
    ⟨some 13, .len 1 (.t 12), some (10, true)⟩,
    ⟨some 14, .bin .leq (.t 13) (.c (.int .i64 6000)), some (10, true)⟩,
    ⟨some 15, .pick (.t 10) (.t 14) (.c (.bool false)), none⟩,
    ⟨some 16, .mv (.t 15), none⟩,
    ⟨some 17, .fad 2 (.t 1), some (16, true)⟩,
    ⟨some 18, .load 1 false (.t 17), some (16, true)⟩,
    ⟨some 19, .bin .geq (.t 18) (.c (.int .i64 (-1))), some (16, true)⟩,
    ⟨some 20, .pick (.t 16) (.t 19) (.c (.bool false)), none⟩,
    ⟨some 3, .mv (.t 20), none⟩])
  (.seq (.seq (.ops [⟨some 4, .mv (.c (.int .i64 0)), none⟩])
  (.block 0 (.loop (.seq (.seq (.ops [⟨some 21, .mv (.t 4), none⟩,
    ⟨some 22, .fad 0 (.t 1), none⟩,
    ⟨some 23, .load 1 false (.t 22), none⟩,
    ⟨some 24, .len 1 (.t 23), none⟩,
    ⟨some 25, .bin .lss (.t 21) (.t 24), none⟩])
  (.cond (.t 25) (.skip) (.exit 0)))
  (.seq (.block 1 (.ops [⟨some 28, .mv (.t 3), none⟩,
    ⟨some 29, .mv (.t 28), none⟩,
    ⟨some 30, .fad 0 (.t 1), some (29, true)⟩,
    ⟨some 31, .load 1 false (.t 30), some (29, true)⟩,
    ⟨some 32, .mv (.t 4), some (29, true)⟩,
    ⟨some 33, .iad 1 false (.t 31) (.t 32), some (29, true)⟩,
    ⟨some 34, .load 1 false (.t 33), some (29, true)⟩,
    ⟨some 35, .len 0 (.t 34), some (29, true)⟩,
    ⟨some 36, .bin .eql (.t 35) (.c (.int .i64 64)), some (29, true)⟩,
    ⟨some 37, .pick (.t 29) (.t 36) (.c (.bool false)), none⟩,
    ⟨some 3, .mv (.t 37), none⟩]))
  (.ops [⟨some 26, .mv (.t 4), none⟩,
    ⟨some 27, .bin .add (.t 26) (.c (.int .i64 1)), none⟩,
    ⟨some 4, .mv (.t 27), none⟩]))))))
  (.seq (.seq (.ops [⟨some 5, .mv (.c (.int .i64 0)), none⟩])
  (.block 2 (.loop (.seq (.seq (.ops [⟨some 38, .mv (.t 5), none⟩,
    ⟨some 39, .fad 1 (.t 1), none⟩,
    ⟨some 40, .load 1 false (.t 39), none⟩,
    ⟨some 41, .len 1 (.t 40), none⟩,
    ⟨some 42, .bin .lss (.t 38) (.t 41), none⟩])
  (.cond (.t 42) (.skip) (.exit 2)))
  (.seq (.block 3 (.draw [⟨some 45, .mv (.t 3), none⟩,
    ⟨some 46, .mv (.t 45), none⟩,
    ⟨some 47, .fad 1 (.t 1), some (46, true)⟩,
    ⟨some 48, .load 1 false (.t 47), some (46, true)⟩,
    ⟨some 49, .mv (.t 5), some (46, true)⟩,
    ⟨some 50, .iad 2 true (.t 48) (.t 49), some (46, true)⟩,
    ⟨some 51, .fad 0 (.t 50), some (46, true)⟩,
    ⟨some 52, .load 1 false (.t 51), some (46, true)⟩,
    ⟨some 53, .bin .leq (.c (.int .i64 0)) (.t 52), some (46, true)⟩,
    ⟨some 54, .pick (.t 46) (.t 53) (.c (.bool false)), none⟩,
    ⟨some 55, .mv (.t 54), none⟩,
    ⟨some 56, .fad 1 (.t 1), some (55, true)⟩,
    ⟨some 57, .load 1 false (.t 56), some (55, true)⟩,
    ⟨some 58, .mv (.t 5), some (55, true)⟩,
    ⟨some 59, .iad 2 true (.t 57) (.t 58), some (55, true)⟩,
    ⟨some 60, .fad 0 (.t 59), some (55, true)⟩,
    ⟨some 61, .load 1 false (.t 60), some (55, true)⟩,
    ⟨some 62, .fad 0 (.t 1), some (55, true)⟩,
    ⟨some 63, .load 1 false (.t 62), some (55, true)⟩,
    ⟨some 64, .len 1 (.t 63), some (55, true)⟩,
    ⟨some 65, .bin .lss (.t 61) (.t 64), some (55, true)⟩,
    ⟨some 66, .pick (.t 55) (.t 65) (.c (.bool false)), none⟩,
    ⟨some 67, .mv (.t 66), none⟩,
    ⟨some 68, .fad 1 (.t 1), some (67, true)⟩,
    ⟨some 69, .load 1 false (.t 68), some (67, true)⟩,
    ⟨some 70, .mv (.t 5), some (67, true)⟩,
    ⟨some 71, .iad 2 true (.t 69) (.t 70), some (67, true)⟩,
    ⟨some 72, .fad 1 (.t 71), some (67, true)⟩,
    ⟨some 73, .load 1 false (.t 72), some (67, true)⟩,
    ⟨some 74, .len 0 (.t 73), some (67, true)⟩,
    ⟨some 75, .bin .eql (.t 74) (.c (.int .i64 64)), some (67, true)⟩,
    ⟨some 76, .pick (.t 67) (.t 75) (.c (.bool false)), none⟩,
    ⟨some 3, .mv (.t 76), none⟩]))
  (.ops [⟨some 43, .mv (.t 5), none⟩,
    ⟨some 44, .bin .add (.t 43) (.c (.int .i64 1)), none⟩,
    ⟨some 5, .mv (.t 44), none⟩]))))))
  (.seq (.ops [⟨some 77, .mv (.t 3), none⟩,
    ⟨some 2, .mv (.t 77), none⟩])
  (.ret)))))
theorem k_trystref17_May : FnIs AP n_trystref17_May c_trystref17_May 78 (rsT [2]) := fnIs_of (fn := Go.Proofs.Try.f13) Go.Proofs.Try.func13 (by kernel_rfl) (by kernel_rfl) (by kernel_rfl) (by kernel_rfl) (by kernel_rfl)
theorem a_trystref17_May {x0 : V} {H : List Entry} {K : KV} (h : Wf H → awp AP H.length c_trystref17_May (finW H.length (rsT [2]) K) ([x0] ++ List.replicate 77 undefV) H) : BCall AP n_trystref17_May [x0] H K := k_trystref17_May.call (by kernel_rfl) h
/-- tryst/disk.New: 15 slots -/
def c_disk_New : AC := .seq (.ops [⟨some 2, .alloc [.nilsl, .nilsl, .int .i64 0, .bool false], none⟩,
    ⟨some 3, .mv (.c (.int .i64 0)), none⟩])
  (.seq (.seq (.ops [⟨some 5, .mv (.t 0), none⟩,
    ⟨some 6, .call (.c (.fn n_disk_isCount [] [])) [(.t 5)], none⟩,
    ⟨some 7, .un .not (.t 6), none⟩])
  (.cond (.t 7) (.seq (.ops [⟨some 8, .build [.nilsl, .nilsl, .int .i64 0, .bool false] [], none⟩,
    ⟨none, .store 4 (.t 2) (.t 8), none⟩,
    ⟨some 3, .mv (.c (.int .i64 1)), none⟩])
  (.ret)) (.skip)))
  (.seq (.ops [⟨some 9, .call (.c (.fn n_strings_Repeat [] [])) [(.c (.str [0])), (.c (.int .i64 64))], none⟩,
    ⟨some 4, .mv (.t 9), none⟩])
  (.seq (.ops [⟨some 10, .mv (.t 4), none⟩,
    ⟨some 11, .bsl 1 false [(.t 10)], none⟩,
    ⟨some 12, .mv (.t 0), none⟩,
    ⟨some 13, .call (.c (.fn n_slices_Repeat_string_string [] [])) [(.t 11), (.t 12)], none⟩,
    ⟨some 14, .build [.nilsl, .nilsl, .int .i64 0, .bool false] [(0, 1, (.t 13)), (2, 1, (.c (.int .i64 (-1))))], none⟩,
    ⟨none, .store 4 (.t 2) (.t 14), none⟩,
    ⟨some 3, .mv (.c (.int .i64 0)), none⟩])
  (.ret))))
theorem k_disk_New : FnIs AP n_disk_New c_disk_New 15 [.cell 2 4 true, .tmp 3] := fnIs_of (fn := Go.Proofs.Try.f14) Go.Proofs.Try.func14 (by kernel_rfl) (by kernel_rfl) (by kernel_rfl) (by kernel_rfl) (by kernel_rfl)
theorem a_disk_New {x0 : V} {H : List Entry} {K : KV} (h : Wf H → awp AP H.length c_disk_New (finW H.length [.cell 2 4 true, .tmp 3] K) ([x0] ++ List.replicate 14 undefV) H) : BCall AP n_disk_New [x0] H K := k_disk_New.call (by kernel_rfl) h
/-- tryst/trystlaw17.awake: 76 slots -/
def c_trystlaw17_awake : AC := .seq (.ops [⟨some 0, .mv (.c (.bool false)), none⟩])
  (.seq (.ops [⟨some 9, .call (.c (.fn n_disk_New [] [])) [(.c (.int .i64 1))], none⟩,
    ⟨some 8, .mv (.t 9), none⟩,
    ⟨some 10, .ext (.t 8) 0, none⟩,
    ⟨some 11, .ext (.t 8) 1, none⟩,
    ⟨some 1, .alloc [.nilsl, .nilsl, .int .i64 0, .bool false], none⟩,
    ⟨none, .store 4 (.t 1) (.t 10), none⟩,
    ⟨some 2, .mv (.t 11), none⟩])
  (.seq (.draw [⟨some 13, .load 4 true (.t 1), none⟩,
    ⟨some 14, .pcall (.c (.fn n_trystlaw17_All [] [])) [(.c (.int .u8 120)), (.c (.int .i64 1))], none⟩,
    ⟨some 15, .pcall (.c (.fn n_disk_Write [] [])) [(.t 13), (.c (.int .i64 0)), (.t 14)], none⟩,
    ⟨some 12, .mv (.t 15), none⟩,
    ⟨some 16, .ext (.t 12) 0, none⟩,
    ⟨some 17, .ext (.t 12) 1, none⟩,
    ⟨some 3, .alloc [.nilsl, .nilsl, .int .i64 0, .bool false], none⟩,
    ⟨none, .store 4 (.t 3) (.t 16), none⟩,
    ⟨some 4, .mv (.t 17), none⟩])
  (.seq (.drawX [[.nilsl, .nilsl, .int .i64 0, .bool false], [.nilsl, .nilsl, .int .i64 0, .bool false], [.nilsl, .nilsl, .int .i64 0, .bool false]] [] [⟨some 18, .load 4 true (.t 3), none⟩,
    ⟨some 19, .build [.int .u64 0, .int .i64 0, .int .i64 0] [(1, 1, (.c (.int .i64 (-1))))], none⟩,
    ⟨some 20, .pcall (.c (.fn n_disk_Crash [] [])) [(.t 18), (.t 19)], none⟩,
    ⟨some 21, .load 4 true (.t 3), none⟩,
    ⟨some 22, .build [.int .u64 0, .int .i64 0, .int .i64 0] [(0, 1, (.c (.int .u64 1))), (1, 1, (.c (.int .i64 (-1))))], none⟩,
    ⟨some 23, .pcall (.c (.fn n_disk_Crash [] [])) [(.t 21), (.t 22)], none⟩,
    ⟨some 24, .load 4 true (.t 3), none⟩,
    ⟨some 25, .build [.int .u64 0, .int .i64 0, .int .i64 0] [(2, 1, (.c (.int .i64 3)))], none⟩,
    ⟨some 26, .pcall (.c (.fn n_disk_Crash [] [])) [(.t 24), (.t 25)], none⟩,
    ⟨some 5, .alcR 0 [.nilsl, .nilsl, .int .i64 0, .bool false], none⟩,
    ⟨some 6, .alcR 1 [.nilsl, .nilsl, .int .i64 0, .bool false], none⟩,
    ⟨some 7, .alcR 2 [.nilsl, .nilsl, .int .i64 0, .bool false], none⟩,
    ⟨none, .store 4 (.t 5) (.t 20), none⟩,
    ⟨none, .store 4 (.t 6) (.t 23), none⟩,
    ⟨none, .store 4 (.t 7) (.t 26), none⟩])
  (.seq (.seq (.ops [⟨some 27, .fad 0 (.t 6), none⟩,
    ⟨some 28, .load 1 false (.t 27), none⟩,
    ⟨some 29, .len 1 (.t 28), none⟩,
    ⟨some 30, .bin .neq (.t 29) (.c (.int .i64 1)), none⟩,
    ⟨some 31, .mv (.t 30), none⟩,
    ⟨some 32, .fad 0 (.t 7), some (31, false)⟩,
    ⟨some 33, .load 1 false (.t 32), some (31, false)⟩,
    ⟨some 34, .len 1 (.t 33), some (31, false)⟩,
    ⟨some 35, .bin .neq (.t 34) (.c (.int .i64 1)), some (31, false)⟩,
    ⟨some 36, .pick (.t 31) (.c (.bool true)) (.t 35), none⟩,
    ⟨some 37, .mv (.t 36), none⟩,
    ⟨some 38, .fad 0 (.t 7), some (37, false)⟩,
    ⟨some 39, .load 1 false (.t 38), some (37, false)⟩,
    ⟨some 40, .iad 1 false (.t 39) (.c (.int .i64 0)), some (37, false)⟩,
    ⟨some 41, .load 1 false (.t 40), some (37, false)⟩,
    ⟨some 42, .len 0 (.t 41), some (37, false)⟩,
    ⟨some 43, .bin .neq (.t 42) (.c (.int .i64 64)), some (37, false)⟩,
    ⟨some 44, .pick (.t 37) (.c (.bool true)) (.t 43), none⟩])
  (.cond (.t 44) (.seq (.ops [⟨some 0, .mv (.c (.bool false)), none⟩])
  (.ret)) (.skip)))
  (.seq (.draw [⟨some 45, .mv (.t 2), none⟩,
    ⟨some 46, .bin .eql (.t 45) (.c (.int .i64 0)), none⟩,
    ⟨some 47, .mv (.t 46), none⟩,
    ⟨some 48, .mv (.t 4), some (47, true)⟩,
    ⟨some 49, .bin .eql (.t 48) (.c (.int .i64 0)), some (47, true)⟩,
    ⟨some 50, .pick (.t 47) (.t 49) (.c (.bool false)), none⟩,
    ⟨some 51, .mv (.t 50), none⟩,
    ⟨some 52, .load 4 true (.t 5), some (51, true)⟩,
    ⟨some 53, .load 4 true (.t 1), some (51, true)⟩,
    ⟨some 54, .dcall (.c (.fn n_trystref17_Same [] [])) [(.t 52), (.t 53)], some (51, true)⟩,
    ⟨some 55, .pick (.t 51) (.t 54) (.c (.bool false)), none⟩,
    ⟨some 56, .mv (.t 55), none⟩,
    ⟨some 57, .fad 0 (.t 6), some (56, true)⟩,
    ⟨some 58, .load 1 false (.t 57), some (56, true)⟩,
    ⟨some 59, .iad 1 false (.t 58) (.c (.int .i64 0)), some (56, true)⟩,
    ⟨some 60, .load 1 false (.t 59), some (56, true)⟩,
    ⟨some 61, .dcall (.c (.fn n_trystlaw17_All [] [])) [(.c (.int .u8 120)), (.c (.int .i64 1))], some (56, true)⟩,
    ⟨some 62, .bin .eql (.t 60) (.t 61), some (56, true)⟩,
    ⟨some 63, .pick (.t 56) (.t 62) (.c (.bool false)), none⟩,
    ⟨some 64, .mv (.t 63), none⟩,
    ⟨some 65, .fad 0 (.t 7), some (64, true)⟩,
    ⟨some 66, .load 1 false (.t 65), some (64, true)⟩,
    ⟨some 67, .iad 1 false (.t 66) (.c (.int .i64 0)), some (64, true)⟩,
    ⟨some 68, .load 1 false (.t 67), some (64, true)⟩,
    ⟨some 69, .sls (.t 68) none (some (.c (.int .i64 4))), some (64, true)⟩,
    ⟨some 70, .bin .eql (.t 69) (.c (.str [120, 120, 120, 0])), some (64, true)⟩,
    ⟨some 71, .pick (.t 64) (.t 70) (.c (.bool false)), none⟩,
    ⟨some 72, .mv (.t 71), none⟩,
    ⟨some 73, .pick (.t 72) (.c (.bool true)) (.c (.bool false)), none⟩,
    ⟨some 74, .mv (.t 73), none⟩,
    ⟨some 75, .pick (.t 74) (.c (.bool true)) (.c (.bool false)), none⟩,
    ⟨some 0, .mv (.t 75), none⟩])
  (.ret))))))
theorem k_trystlaw17_awake : FnIs AP n_trystlaw17_awake c_trystlaw17_awake 76 (rsT [0]) := fnIs_of (fn := Go.Proofs.Try.f15) Go.Proofs.Try.func15 (by kernel_rfl) (by kernel_rfl) (by kernel_rfl) (by kernel_rfl) (by kernel_rfl)
theorem a_trystlaw17_awake {H : List Entry} {K : KV} (h : Wf H → awp AP H.length c_trystlaw17_awake (finW H.length (rsT [0]) K) ([] ++ List.replicate 76 undefV) H) : BCall AP n_trystlaw17_awake [] H K := k_trystlaw17_awake.call (by kernel_rfl) h
/-- tryst/trystref17.Same: 73 slots -/
def c_trystref17_Same : AC := .seq (.ops [⟨some 2, .box (.t 0), none⟩,
    ⟨some 3, .box (.t 1), none⟩,
    ⟨some 4, .mv (.c (.bool false)), none⟩])
  (.seq (.seq (.ops [⟨some 7, .fad 0 (.t 2), none⟩,
    ⟨some 8, .load 1 false (.t 7), none⟩,
    ⟨some 9, .len 1 (.t 8), none⟩,
    ⟨some 10, .fad 0 (.t 3), none⟩,
    ⟨some 11, .load 1 false (.t 10), none⟩,
    ⟨some 12, .len 1 (.t 11), none⟩,
    ⟨some 13, .bin .neq (.t 9) (.t 12), none⟩,
    ⟨some 14, .mv (.t 13), none⟩,
    ⟨some 15, .fad 1 (.t 2), some (14, false)⟩,
    ⟨some 16, .load 1 false (.t 15), some (14, false)⟩,
    ⟨some 17, .len 1 (.t 16), some (14, false)⟩,
    ⟨some 18, .fad 1 (.t 3), some (14, false)⟩,
    ⟨some 19, .load 1 false (.t 18), some (14, false)⟩,
    ⟨some 20, .len 1 (.t 19), some (14, false)⟩,
    ⟨some 21, .bin .neq (.t 17) (.t 20), some (14, false)⟩,
    ⟨some 22, .pick (.t 14) (.c (.bool true)) (.t 21), none⟩,
    ⟨some 23, .mv (.t 22), none⟩,
    ⟨some 24, .fad 2 (.t 2), some (23, false)⟩,
    ⟨some 25, .load 1 false (.t 24), some (23, false)⟩,
    ⟨some 26, .fad 2 (.t 3), some (23, false)⟩,
    ⟨some 27, .load 1 false (.t 26), some (23, false)⟩,
    ⟨some 28, .bin .neq (.t 25) (.t 27), some (23, false)⟩,
    ⟨some 29, .pick (.t 23) (.c (.bool true)) (.t 28), none⟩,
    ⟨some 30, .mv (.t 29), none⟩,
    ⟨some 31, .fad 3 (.t 2), some (30, false)⟩,
    ⟨some 32, .load 1 false (.t 31), some (30, false)⟩,
    ⟨some 33, .fad 3 (.t 3), some (30, false)⟩,
    ⟨some 34, .load 1 false (.t 33), some (30, false)⟩,
    ⟨some 35, .binb true (.t 32) (.t 34), some (30, false)⟩,
    ⟨some 36, .pick (.t 30) (.c (.bool true)) (.t 35), none⟩])
  (.cond (.t 36) (.seq (.ops [⟨some 4, .mv (.c (.bool false)), none⟩])
  (.ret)) (.skip)))
  (.seq (.seq (.ops [⟨some 5, .mv (.c (.int .i64 0)), none⟩])
  (.block 0 (.loop (.seq (.seq (.ops [⟨some 37, .mv (.t 5), none⟩,
    ⟨some 38, .fad 0 (.t 2), none⟩,
    ⟨some 39, .load 1 false (.t 38), none⟩,
    ⟨some 40, .len 1 (.t 39), none⟩,
    ⟨some 41, .bin .lss (.t 37) (.t 40), none⟩])
  (.cond (.t 41) (.skip) (.exit 0)))
  (.seq (.block 1 (.seq (.draw [⟨some 44, .fad 0 (.t 2), none⟩,
    ⟨some 45, .load 1 false (.t 44), none⟩,
    ⟨some 46, .mv (.t 5), none⟩,
    ⟨some 47, .iad 1 false (.t 45) (.t 46), none⟩,
    ⟨some 48, .load 1 false (.t 47), none⟩,
    ⟨some 49, .fad 0 (.t 3), none⟩,
    ⟨some 50, .load 1 false (.t 49), none⟩,
    ⟨some 51, .mv (.t 5), none⟩,
    ⟨some 52, .iad 1 false (.t 50) (.t 51), none⟩,
    ⟨some 53, .load 1 false (.t 52), none⟩,
    ⟨some 54, .bin .neq (.t 48) (.t 53), none⟩])
  (.cond (.t 54) (.seq (.ops [⟨some 4, .mv (.c (.bool false)), none⟩])
  (.ret)) (.skip))))
  (.ops [⟨some 42, .mv (.t 5), none⟩,
    ⟨some 43, .bin .add (.t 42) (.c (.int .i64 1)), none⟩,
    ⟨some 5, .mv (.t 43), none⟩]))))))
  (.seq (.seq (.ops [⟨some 6, .mv (.c (.int .i64 0)), none⟩])
  (.block 2 (.loop (.seq (.seq (.ops [⟨some 55, .mv (.t 6), none⟩,
    ⟨some 56, .fad 1 (.t 2), none⟩,
    ⟨some 57, .load 1 false (.t 56), none⟩,
    ⟨some 58, .len 1 (.t 57), none⟩,
    ⟨some 59, .bin .lss (.t 55) (.t 58), none⟩])
  (.cond (.t 59) (.skip) (.exit 2)))
  (.seq (.block 3 (.seq (.draw [⟨some 62, .fad 1 (.t 2), none⟩,
    ⟨some 63, .load 1 false (.t 62), none⟩,
    ⟨some 64, .mv (.t 6), none⟩,
    ⟨some 65, .iad 2 true (.t 63) (.t 64), none⟩,
    ⟨some 66, .load 2 true (.t 65), none⟩,
    ⟨some 67, .fad 1 (.t 3), none⟩,
    ⟨some 68, .load 1 false (.t 67), none⟩,
    ⟨some 69, .mv (.t 6), none⟩,
    ⟨some 70, .iad 2 true (.t 68) (.t 69), none⟩,
    ⟨some 71, .load 2 true (.t 70), none⟩,
    ⟨some 72, .eqa true [1, 2] (.t 66) (.t 71), none⟩])
  (.cond (.t 72) (.seq (.ops [⟨some 4, .mv (.c (.bool false)), none⟩])
  (.ret)) (.skip))))
  (.ops [⟨some 60, .mv (.t 6), none⟩,
    ⟨some 61, .bin .add (.t 60) (.c (.int .i64 1)), none⟩,
    ⟨some 6, .mv (.t 61), none⟩]))))))
  (.seq (.ops [⟨some 4, .mv (.c (.bool true)), none⟩])
  (.ret)))))
theorem k_trystref17_Same : FnIs AP n_trystref17_Same c_trystref17_Same 73 (rsT [4]) := fnIs_of (fn := Go.Proofs.Try.f16) Go.Proofs.Try.func16 (by kernel_rfl) (by kernel_rfl) (by kernel_rfl) (by kernel_rfl) (by kernel_rfl)
theorem a_trystref17_Same {x0 x1 : V} {H : List Entry} {K : KV} (h : Wf H → awp AP H.length c_trystref17_Same (finW H.length (rsT [4]) K) ([x0, x1] ++ List.replicate 71 undefV) H) : BCall AP n_trystref17_Same [x0, x1] H K := k_trystref17_Same.call (by kernel_rfl) h
/-- tryst/trystref17.New: 18 slots -/
def c_trystref17_New : AC := .seq (.ops [⟨some 2, .alloc [.nilsl, .nilsl, .int .i64 0, .bool false], none⟩])
  (.seq (.ops [⟨some 5, .build [.nilsl, .nilsl, .int .i64 0, .bool false] [(2, 1, (.c (.int .i64 (-1))))], none⟩,
    ⟨some 3, .alloc [.nilsl, .nilsl, .int .i64 0, .bool false], none⟩,
    ⟨none, .store 4 (.t 3) (.t 5), none⟩])
  (.seq (.seq (.ops [⟨some 4, .mv (.c (.int .i64 0)), none⟩])
  (.block 0 (.loop (.seq (.seq (.ops [⟨some 6, .mv (.t 4), none⟩,
    ⟨some 7, .mv (.t 0), none⟩,
    ⟨some 8, .bin .lss (.t 6) (.t 7), none⟩])
  (.cond (.t 8) (.skip) (.exit 0)))
  (.seq (.block 1 (.draw [⟨some 11, .fad 0 (.t 3), none⟩,
    ⟨some 12, .load 1 false (.t 11), none⟩,
    ⟨some 13, .dcall (.c (.fn n_trystref17_Blank [] [])) [(.c (.int .i64 1))], none⟩,
    ⟨some 14, .bslm 1 false [(.t 13)], none⟩,
    ⟨some 15, .app 9 1 16 false (.t 12) (.t 14), none⟩,
    ⟨some 16, .fad 0 (.t 3), none⟩,
    ⟨none, .store 1 (.t 16) (.t 15), none⟩]))
  (.ops [⟨some 9, .mv (.t 4), none⟩,
    ⟨some 10, .bin .add (.t 9) (.c (.int .i64 1)), none⟩,
    ⟨some 4, .mv (.t 10), none⟩]))))))
  (.seq (.ops [⟨some 17, .load 4 true (.t 3), none⟩,
    ⟨none, .store 4 (.t 2) (.t 17), none⟩])
  (.ret))))
theorem k_trystref17_New : FnIs AP n_trystref17_New c_trystref17_New 18 [.cell 2 4 true] := fnIs_of (fn := Go.Proofs.Try.f17) Go.Proofs.Try.func17 (by kernel_rfl) (by kernel_rfl) (by kernel_rfl) (by kernel_rfl) (by kernel_rfl)
theorem a_trystref17_New {x0 : V} {H : List Entry} {K : KV} (h : Wf H → awp AP H.length c_trystref17_New (finW H.length [.cell 2 4 true] K) ([x0] ++ List.replicate 17 undefV) H) : BCall AP n_trystref17_New [x0] H K := k_trystref17_New.call (by kernel_rfl) h
/-- tryst/trystlaw17.octets: 9 slots -/
def c_trystlaw17_octets : AC := .seq (.ops [⟨some 2, .mv (.c (.str [])), none⟩])
  (.seq (.seq (.ops [⟨some 3, .mv (.t 0), none⟩,
    ⟨some 4, .len 0 (.t 3), none⟩,
    ⟨some 5, .bin .gtr (.t 4) (.c (.int .i64 640)), none⟩])
  (.cond (.t 5) (.seq (.ops [⟨some 6, .mv (.t 0), none⟩,
    ⟨some 7, .sls (.t 6) none (some (.c (.int .i64 640))), none⟩,
    ⟨some 2, .mv (.t 7), none⟩])
  (.ret)) (.skip)))
  (.seq (.ops [⟨some 8, .mv (.t 0), none⟩,
    ⟨some 2, .mv (.t 8), none⟩])
  (.ret)))
theorem k_trystlaw17_octets : FnIs AP n_trystlaw17_octets c_trystlaw17_octets 9 (rsT [2]) := fnIs_of (fn := Go.Proofs.Try.f18) Go.Proofs.Try.func18 (by kernel_rfl) (by kernel_rfl) (by kernel_rfl) (by kernel_rfl) (by kernel_rfl)
theorem a_trystlaw17_octets {x0 : V} {H : List Entry} {K : KV} (h : Wf H → awp AP H.length c_trystlaw17_octets (finW H.length (rsT [2]) K) ([x0] ++ List.replicate 8 undefV) H) : BCall AP n_trystlaw17_octets [x0] H K := k_trystlaw17_octets.call (by kernel_rfl) h
/-- tryst/trystlaw17.own: 14 slots -/
def c_trystlaw17_own : AC := .seq (.ops [⟨some 1, .box (.t 0), none⟩,
    ⟨some 2, .alloc [.nilsl, .nilsl, .int .i64 0, .bool false], none⟩])
  (.seq (.ops [⟨some 3, .bsl 1 false [], none⟩,
    ⟨some 4, .fad 0 (.t 1), none⟩,
    ⟨some 5, .load 1 false (.t 4), none⟩,
    ⟨some 6, .app 9 1 16 false (.t 3) (.t 5), none⟩,
    ⟨some 7, .fad 0 (.t 1), none⟩,
    ⟨none, .store 1 (.t 7) (.t 6), none⟩])
  (.seq (.ops [⟨some 8, .bsl 2 true [], none⟩,
    ⟨some 9, .fad 1 (.t 1), none⟩,
    ⟨some 10, .load 1 false (.t 9), none⟩,
    ⟨some 11, .app 53 2 24 true (.t 8) (.t 10), none⟩,
    ⟨some 12, .fad 1 (.t 1), none⟩,
    ⟨none, .store 1 (.t 12) (.t 11), none⟩])
  (.seq (.ops [⟨some 13, .load 4 true (.t 1), none⟩,
    ⟨none, .store 4 (.t 2) (.t 13), none⟩])
  (.ret))))
theorem k_trystlaw17_own : FnIs AP n_trystlaw17_own c_trystlaw17_own 14 [.cell 2 4 true] := fnIs_of (fn := Go.Proofs.Try.f19) Go.Proofs.Try.func19 (by kernel_rfl) (by kernel_rfl) (by kernel_rfl) (by kernel_rfl) (by kernel_rfl)
theorem a_trystlaw17_own {x0 : V} {H : List Entry} {K : KV} (h : Wf H → awp AP H.length c_trystlaw17_own (finW H.length [.cell 2 4 true] K) ([x0] ++ List.replicate 13 undefV) H) : BCall AP n_trystlaw17_own [x0] H K := k_trystlaw17_own.call (by kernel_rfl) h
/-- tryst/disk.Write: 62 slots -/
def c_disk_Write : AC := .seq (.ops [⟨some 3, .box (.t 0), none⟩,
    ⟨some 6, .alloc [.nilsl, .nilsl, .int .i64 0, .bool false], none⟩,
    ⟨some 7, .mv (.c (.int .i64 0)), none⟩])
  (.seq (.seq (.ops [⟨some 9, .load 4 true (.t 3), none⟩,
    ⟨some 10, .call (.c (.fn n_disk_May [] [])) [(.t 9)], none⟩,
    ⟨some 11, .un .not (.t 10), none⟩,
    ⟨some 12, .mv (.t 11), none⟩,
    ⟨some 13, .mv (.t 2), some (12, false)⟩,
    ⟨some 14, .bin .eql (.t 13) (.c (.str [])), some (12, false)⟩,
    ⟨some 15, .pick (.t 12) (.c (.bool true)) (.t 14), none⟩,
    ⟨some 16, .mv (.t 15), none⟩,
    ⟨some 17, .mv (.t 2), some (16, false)⟩,
    ⟨some 18, .len 0 (.t 17), some (16, false)⟩,
    ⟨some 19, .bin .rem (.t 18) (.c (.int .i64 64)), some (16, false)⟩,
    ⟨some 20, .bin .neq (.t 19) (.c (.int .i64 0)), some (16, false)⟩,
    ⟨some 21, .pick (.t 16) (.c (.bool true)) (.t 20), none⟩])
  (.cond (.t 21) (.seq (.ops [⟨some 22, .build [.nilsl, .nilsl, .int .i64 0, .bool false] [], none⟩,
    ⟨none, .store 4 (.t 6) (.t 22), none⟩,
    ⟨some 7, .mv (.c (.int .i64 1)), none⟩])
  (.ret)) (.skip)))
  (.seq (.seq (.ops [⟨some 23, .load 4 true (.t 3), none⟩,
    ⟨some 24, .mv (.t 1), none⟩,
    ⟨some 25, .mv (.t 2), none⟩,
    ⟨some 26, .len 0 (.t 25), none⟩,
    ⟨some 27, .bin .quo (.t 26) (.c (.int .i64 64)), none⟩,
    ⟨some 28, .call (.c (.fn n_disk_hasCells [] [])) [(.t 23), (.t 24), (.t 27)], none⟩,
    ⟨some 29, .un .not (.t 28), none⟩])
  (.cond (.t 29) (.seq (.ops [⟨some 30, .build [.nilsl, .nilsl, .int .i64 0, .bool false] [], none⟩,
    ⟨none, .store 4 (.t 6) (.t 30), none⟩,
    ⟨some 7, .mv (.c (.int .i64 12)), none⟩])
  (.ret)) (.skip)))
  (.seq (.ops [⟨some 31, .fad 1 (.t 3), none⟩,
    ⟨some 32, .load 1 false (.t 31), none⟩,
    ⟨some 33, .call (.c (.fn n_slices_Clone_api_Wait_api_Wait [] [])) [(.t 32)], none⟩,
    ⟨some 34, .fad 1 (.t 3), none⟩,
    ⟨none, .store 1 (.t 34) (.t 33), none⟩])
  (.seq (.seq (.ops [⟨some 35, .mv (.t 2), none⟩,
    ⟨some 36, .len 0 (.t 35), none⟩,
    ⟨some 37, .bin .quo (.t 36) (.c (.int .i64 64)), none⟩,
    ⟨some 38, .mv (.c (.int .i64 0)), none⟩])
  (.block 0 (.loop (.seq (.ops [⟨some 39, .bin .lss (.t 38) (.t 37), none⟩])
  (.seq (.cond (.t 39) (.skip) (.exit 0))
  (.seq (.block 1 (.seq (.ops [⟨some 40, .mv (.t 38), none⟩,
    ⟨some 8, .mv (.t 40), none⟩])
  (.seq (.seq (.ops [⟨some 41, .call (.c (.fn n_disk_burn [] [])) [(.t 3)], none⟩,
    ⟨some 42, .un .not (.t 41), none⟩])
  (.cond (.t 42) (.seq (.ops [⟨some 43, .load 4 true (.t 3), none⟩,
    ⟨none, .store 4 (.t 6) (.t 43), none⟩,
    ⟨some 7, .mv (.c (.int .i64 10)), none⟩])
  (.ret)) (.skip)))
  (.draw [⟨some 44, .fad 1 (.t 3), none⟩,
    ⟨some 45, .load 1 false (.t 44), none⟩,
    ⟨some 46, .mv (.t 1), none⟩,
    ⟨some 47, .mv (.t 8), none⟩,
    ⟨some 48, .bin .add (.t 46) (.t 47), none⟩,
    ⟨some 49, .mv (.t 2), none⟩,
    ⟨some 50, .mv (.t 8), none⟩,
    ⟨some 51, .bin .mul (.t 50) (.c (.int .i64 64)), none⟩,
    ⟨some 52, .mv (.t 8), none⟩,
    ⟨some 53, .bin .add (.t 52) (.c (.int .i64 1)), none⟩,
    ⟨some 54, .bin .mul (.t 53) (.c (.int .i64 64)), none⟩,
    ⟨some 55, .sls (.t 49) (some (.t 51)) (some (.t 54)), none⟩,
    ⟨some 56, .build [.int .i64 0, .str []] [(0, 1, (.t 48)), (1, 1, (.t 55))], none⟩,
    ⟨some 57, .bslm 2 true [(.t 56)], none⟩,
    ⟨some 58, .app 53 2 24 true (.t 45) (.t 57), none⟩,
    ⟨some 59, .fad 1 (.t 3), none⟩,
    ⟨none, .store 1 (.t 59) (.t 58), none⟩]))))
  (.ops [⟨some 60, .bin .add (.t 38) (.c (.int .i64 1)), none⟩,
    ⟨some 38, .mv (.t 60), none⟩])))))))
  (.seq (.ops [⟨some 61, .load 4 true (.t 3), none⟩,
    ⟨none, .store 4 (.t 6) (.t 61), none⟩,
    ⟨some 7, .mv (.c (.int .i64 0)), none⟩])
  (.ret))))))
theorem k_disk_Write : FnIs AP n_disk_Write c_disk_Write 62 [.cell 6 4 true, .tmp 7] := fnIs_of (fn := Go.Proofs.Try.f20) Go.Proofs.Try.func20 (by kernel_rfl) (by kernel_rfl) (by kernel_rfl) (by kernel_rfl) (by kernel_rfl)
theorem a_disk_Write {x0 x1 x2 : V} {H : List Entry} {K : KV} (h : Wf H → awp AP H.length c_disk_Write (finW H.length [.cell 6 4 true, .tmp 7] K) ([x0, x1, x2] ++ List.replicate 59 undefV) H) : BCall AP n_disk_Write [x0, x1, x2] H K := k_disk_Write.call (by kernel_rfl) h
/-- tryst/trystref17.Write: 81 slots -/
def c_trystref17_Write : AC := .seq (.ops [⟨some 3, .box (.t 0), none⟩,
    ⟨some 6, .alloc [.nilsl, .nilsl, .int .i64 0, .bool false], none⟩,
    ⟨some 7, .mv (.c (.int .i64 0)), none⟩])
  (.seq (.seq (.ops [⟨some 12, .load 4 true (.t 3), none⟩,
    ⟨some 13, .call (.c (.fn n_trystref17_May [] [])) [(.t 12)], none⟩,
    ⟨some 14, .un .not (.t 13), none⟩,
    ⟨some 15, .mv (.t 14), none⟩,
    ⟨some 16, .mv (.t 2), some (15, false)⟩,
    ⟨some 17, .bin .eql (.t 16) (.c (.str [])), some (15, false)⟩,
    ⟨some 18, .pick (.t 15) (.c (.bool true)) (.t 17), none⟩,
    ⟨some 19, .mv (.t 18), none⟩,
    ⟨some 20, .mv (.t 2), some (19, false)⟩,
    ⟨some 21, .len 0 (.t 20), some (19, false)⟩,
    ⟨some 22, .bin .rem (.t 21) (.c (.int .i64 64)), some (19, false)⟩,
    ⟨some 23, .bin .neq (.t 22) (.c (.int .i64 0)), some (19, false)⟩,
    ⟨some 24, .pick (.t 19) (.c (.bool true)) (.t 23), none⟩])
  (.cond (.t 24) (.seq (.ops [⟨some 25, .build [.nilsl, .nilsl, .int .i64 0, .bool false] [], none⟩,
    ⟨none, .store 4 (.t 6) (.t 25), none⟩,
    ⟨some 7, .mv (.c (.int .i64 1)), none⟩])
  (.ret)) (.skip)))
  (.seq (.ops [⟨some 26, .mv (.t 2), none⟩,
    ⟨some 27, .len 0 (.t 26), none⟩,
    ⟨some 28, .bin .quo (.t 27) (.c (.int .i64 64)), none⟩,
    ⟨some 8, .mv (.t 28), none⟩])
  (.seq (.seq (.ops [⟨some 29, .mv (.t 1), none⟩,
    ⟨some 30, .bin .lss (.t 29) (.c (.int .i64 0)), none⟩,
    ⟨some 31, .mv (.t 30), none⟩,
    ⟨some 32, .mv (.t 1), some (31, false)⟩,
    ⟨some 33, .fad 0 (.t 3), some (31, false)⟩,
    ⟨some 34, .load 1 false (.t 33), some (31, false)⟩,
    ⟨some 35, .len 1 (.t 34), some (31, false)⟩,
    ⟨some 36, .bin .gtr (.t 32) (.t 35), some (31, false)⟩,
    ⟨some 37, .pick (.t 31) (.c (.bool true)) (.t 36), none⟩,
    ⟨some 38, .mv (.t 37), none⟩,
    ⟨some 39, .mv (.t 8), some (38, false)⟩,
    ⟨some 40, .fad 0 (.t 3), some (38, false)⟩,
    ⟨some 41, .load 1 false (.t 40), some (38, false)⟩,
    ⟨some 42, .len 1 (.t 41), some (38, false)⟩,
    ⟨some 43, .mv (.t 1), some (38, false)⟩,
    ⟨some 44, .bin .sub (.t 42) (.t 43), some (38, false)⟩,
    ⟨some 45, .bin .gtr (.t 39) (.t 44), some (38, false)⟩,
    ⟨some 46, .pick (.t 38) (.c (.bool true)) (.t 45), none⟩])
  (.cond (.t 46) (.seq (.ops [⟨some 47, .build [.nilsl, .nilsl, .int .i64 0, .bool false] [], none⟩,
    ⟨none, .store 4 (.t 6) (.t 47), none⟩,
    ⟨some 7, .mv (.c (.int .i64 12)), none⟩])
  (.ret)) (.skip)))
  (.seq (.seq (.ops [⟨some 9, .mv (.c (.int .i64 0)), none⟩])
  (.block 0 (.loop (.seq (.seq (.ops [⟨some 48, .mv (.t 9), none⟩,
    ⟨some 49, .mv (.t 8), none⟩,
    ⟨some 50, .bin .lss (.t 48) (.t 49), none⟩])
  (.cond (.t 50) (.skip) (.exit 0)))
  (.seq (.block 1 (.seq (.ops [⟨some 54, .load 4 true (.t 3), none⟩,
    ⟨some 55, .call (.c (.fn n_trystref17_burns [] [])) [(.t 54)], none⟩,
    ⟨some 53, .mv (.t 55), none⟩,
    ⟨some 56, .ext (.t 53) 0, none⟩,
    ⟨some 57, .ext (.t 53) 1, none⟩,
    ⟨some 10, .alloc [.nilsl, .nilsl, .int .i64 0, .bool false], none⟩,
    ⟨none, .store 4 (.t 10) (.t 56), none⟩,
    ⟨some 11, .mv (.t 57), none⟩])
  (.seq (.ops [⟨some 58, .load 4 true (.t 10), none⟩,
    ⟨none, .store 4 (.t 3) (.t 58), none⟩])
  (.seq (.seq (.ops [⟨some 59, .mv (.t 11), none⟩,
    ⟨some 60, .un .not (.t 59), none⟩])
  (.cond (.t 60) (.seq (.ops [⟨some 61, .load 4 true (.t 3), none⟩,
    ⟨none, .store 4 (.t 6) (.t 61), none⟩,
    ⟨some 7, .mv (.c (.int .i64 10)), none⟩])
  (.ret)) (.skip)))
  (.draw [⟨some 62, .bslm 2 true [], none⟩,
    ⟨some 63, .fad 1 (.t 3), none⟩,
    ⟨some 64, .load 1 false (.t 63), none⟩,
    ⟨some 65, .app 53 2 24 true (.t 62) (.t 64), none⟩,
    ⟨some 66, .mv (.t 1), none⟩,
    ⟨some 67, .mv (.t 9), none⟩,
    ⟨some 68, .bin .add (.t 66) (.t 67), none⟩,
    ⟨some 69, .mv (.t 2), none⟩,
    ⟨some 70, .mv (.t 9), none⟩,
    ⟨some 71, .bin .mul (.c (.int .i64 64)) (.t 70), none⟩,
    ⟨some 72, .mv (.t 9), none⟩,
    ⟨some 73, .bin .mul (.c (.int .i64 64)) (.t 72), none⟩,
    ⟨some 74, .bin .add (.t 73) (.c (.int .i64 64)), none⟩,
    ⟨some 75, .sls (.t 69) (some (.t 71)) (some (.t 74)), none⟩,
    ⟨some 76, .build [.int .i64 0, .str []] [(0, 1, (.t 68)), (1, 1, (.t 75))], none⟩,
    ⟨some 77, .bslm 2 true [(.t 76)], none⟩,
    ⟨some 78, .app 53 2 24 true (.t 65) (.t 77), none⟩,
    ⟨some 79, .fad 1 (.t 3), none⟩,
    ⟨none, .store 1 (.t 79) (.t 78), none⟩])))))
  (.ops [⟨some 51, .mv (.t 9), none⟩,
    ⟨some 52, .bin .add (.t 51) (.c (.int .i64 1)), none⟩,
    ⟨some 9, .mv (.t 52), none⟩]))))))
  (.seq (.ops [⟨some 80, .load 4 true (.t 3), none⟩,
    ⟨none, .store 4 (.t 6) (.t 80), none⟩,
    ⟨some 7, .mv (.c (.int .i64 0)), none⟩])
  (.ret))))))
theorem k_trystref17_Write : FnIs AP n_trystref17_Write c_trystref17_Write 81 [.cell 6 4 true, .tmp 7] := fnIs_of (fn := Go.Proofs.Try.f21) Go.Proofs.Try.func21 (by kernel_rfl) (by kernel_rfl) (by kernel_rfl) (by kernel_rfl) (by kernel_rfl)
theorem a_trystref17_Write {x0 x1 x2 : V} {H : List Entry} {K : KV} (h : Wf H → awp AP H.length c_trystref17_Write (finW H.length [.cell 6 4 true, .tmp 7] K) ([x0, x1, x2] ++ List.replicate 78 undefV) H) : BCall AP n_trystref17_Write [x0, x1, x2] H K := k_trystref17_Write.call (by kernel_rfl) h
/-- tryst/disk.Flush: 13 slots -/
def c_disk_Flush : AC := .seq (.ops [⟨some 1, .box (.t 0), none⟩,
    ⟨some 2, .alloc [.nilsl, .nilsl, .int .i64 0, .bool false], none⟩,
    ⟨some 3, .mv (.c (.int .i64 0)), none⟩])
  (.seq (.seq (.ops [⟨some 4, .load 4 true (.t 1), none⟩,
    ⟨some 5, .call (.c (.fn n_disk_May [] [])) [(.t 4)], none⟩,
    ⟨some 6, .un .not (.t 5), none⟩])
  (.cond (.t 6) (.seq (.ops [⟨some 7, .build [.nilsl, .nilsl, .int .i64 0, .bool false] [], none⟩,
    ⟨none, .store 4 (.t 2) (.t 7), none⟩,
    ⟨some 3, .mv (.c (.int .i64 1)), none⟩])
  (.ret)) (.skip)))
  (.seq (.seq (.ops [⟨some 8, .call (.c (.fn n_disk_burn [] [])) [(.t 1)], none⟩,
    ⟨some 9, .un .not (.t 8), none⟩])
  (.cond (.t 9) (.seq (.ops [⟨some 10, .load 4 true (.t 1), none⟩,
    ⟨none, .store 4 (.t 2) (.t 10), none⟩,
    ⟨some 3, .mv (.c (.int .i64 10)), none⟩])
  (.ret)) (.skip)))
  (.seq (.ops [⟨some 11, .load 4 true (.t 1), none⟩,
    ⟨some 12, .call (.c (.fn n_disk_settled [] [])) [(.t 11), (.c (.fn n_disk_Flush_1 [] []))], none⟩,
    ⟨none, .store 4 (.t 2) (.t 12), none⟩,
    ⟨some 3, .mv (.c (.int .i64 0)), none⟩])
  (.ret))))
theorem k_disk_Flush : FnIs AP n_disk_Flush c_disk_Flush 13 [.cell 2 4 true, .tmp 3] := fnIs_of (fn := Go.Proofs.Try.f22) Go.Proofs.Try.func22 (by kernel_rfl) (by kernel_rfl) (by kernel_rfl) (by kernel_rfl) (by kernel_rfl)
theorem a_disk_Flush {x0 : V} {H : List Entry} {K : KV} (h : Wf H → awp AP H.length c_disk_Flush (finW H.length [.cell 2 4 true, .tmp 3] K) ([x0] ++ List.replicate 12 undefV) H) : BCall AP n_disk_Flush [x0] H K := k_disk_Flush.call (by kernel_rfl) h
/-- tryst/trystref17.Flush: 38 slots -/
def c_trystref17_Flush : AC := .seq (.ops [⟨some 1, .box (.t 0), none⟩,
    ⟨some 2, .alloc [.nilsl, .nilsl, .int .i64 0, .bool false], none⟩,
    ⟨some 3, .mv (.c (.int .i64 0)), none⟩])
  (.seq (.seq (.ops [⟨some 7, .load 4 true (.t 1), none⟩,
    ⟨some 8, .call (.c (.fn n_trystref17_May [] [])) [(.t 7)], none⟩,
    ⟨some 9, .un .not (.t 8), none⟩])
  (.cond (.t 9) (.seq (.ops [⟨some 10, .build [.nilsl, .nilsl, .int .i64 0, .bool false] [], none⟩,
    ⟨none, .store 4 (.t 2) (.t 10), none⟩,
    ⟨some 3, .mv (.c (.int .i64 1)), none⟩])
  (.ret)) (.skip)))
  (.seq (.ops [⟨some 12, .load 4 true (.t 1), none⟩,
    ⟨some 13, .call (.c (.fn n_trystref17_burns [] [])) [(.t 12)], none⟩,
    ⟨some 11, .mv (.t 13), none⟩,
    ⟨some 14, .ext (.t 11) 0, none⟩,
    ⟨some 15, .ext (.t 11) 1, none⟩,
    ⟨none, .store 4 (.t 1) (.t 14), none⟩,
    ⟨some 4, .mv (.t 15), none⟩])
  (.seq (.seq (.ops [⟨some 16, .mv (.t 4), none⟩,
    ⟨some 17, .un .not (.t 16), none⟩])
  (.cond (.t 17) (.seq (.ops [⟨some 18, .load 4 true (.t 1), none⟩,
    ⟨none, .store 4 (.t 2) (.t 18), none⟩,
    ⟨some 3, .mv (.c (.int .i64 10)), none⟩])
  (.ret)) (.skip)))
  (.seq (.ops [⟨some 19, .fad 2 (.t 1), none⟩,
    ⟨some 20, .load 1 false (.t 19), none⟩,
    ⟨some 21, .build [.nilsl, .nilsl, .int .i64 0, .bool false] [(2, 1, (.t 20))], none⟩,
    ⟨some 5, .alloc [.nilsl, .nilsl, .int .i64 0, .bool false], none⟩,
    ⟨none, .store 4 (.t 5) (.t 21), none⟩])
  (.seq (.seq (.ops [⟨some 6, .mv (.c (.int .i64 0)), none⟩])
  (.block 0 (.loop (.seq (.seq (.ops [⟨some 22, .mv (.t 6), none⟩,
    ⟨some 23, .fad 0 (.t 1), none⟩,
    ⟨some 24, .load 1 false (.t 23), none⟩,
    ⟨some 25, .len 1 (.t 24), none⟩,
    ⟨some 26, .bin .lss (.t 22) (.t 25), none⟩])
  (.cond (.t 26) (.skip) (.exit 0)))
  (.seq (.block 1 (.draw [⟨some 29, .fad 0 (.t 5), none⟩,
    ⟨some 30, .load 1 false (.t 29), none⟩,
    ⟨some 31, .load 4 true (.t 1), none⟩,
    ⟨some 32, .mv (.t 6), none⟩,
    ⟨some 33, .dcall (.c (.fn n_trystref17_cell [] [])) [(.t 31), (.t 32)], none⟩,
    ⟨some 34, .bslm 1 false [(.t 33)], none⟩,
    ⟨some 35, .app 9 1 16 false (.t 30) (.t 34), none⟩,
    ⟨some 36, .fad 0 (.t 5), none⟩,
    ⟨none, .store 1 (.t 36) (.t 35), none⟩]))
  (.ops [⟨some 27, .mv (.t 6), none⟩,
    ⟨some 28, .bin .add (.t 27) (.c (.int .i64 1)), none⟩,
    ⟨some 6, .mv (.t 28), none⟩]))))))
  (.seq (.ops [⟨some 37, .load 4 true (.t 5), none⟩,
    ⟨none, .store 4 (.t 2) (.t 37), none⟩,
    ⟨some 3, .mv (.c (.int .i64 0)), none⟩])
  (.ret)))))))
theorem k_trystref17_Flush : FnIs AP n_trystref17_Flush c_trystref17_Flush 38 [.cell 2 4 true, .tmp 3] := fnIs_of (fn := Go.Proofs.Try.f23) Go.Proofs.Try.func23 (by kernel_rfl) (by kernel_rfl) (by kernel_rfl) (by kernel_rfl) (by kernel_rfl)
theorem a_trystref17_Flush {x0 : V} {H : List Entry} {K : KV} (h : Wf H → awp AP H.length c_trystref17_Flush (finW H.length [.cell 2 4 true, .tmp 3] K) ([x0] ++ List.replicate 37 undefV) H) : BCall AP n_trystref17_Flush [x0] H K := k_trystref17_Flush.call (by kernel_rfl) h
/-- tryst/disk.Fuel: 17 slots -/
def c_disk_Fuel : AC := .seq (.ops [⟨some 2, .box (.t 0), none⟩,
    ⟨some 4, .alloc [.nilsl, .nilsl, .int .i64 0, .bool false], none⟩,
    ⟨some 5, .mv (.c (.int .i64 0)), none⟩])
  (.seq (.seq (.ops [⟨some 6, .load 4 true (.t 2), none⟩,
    ⟨some 7, .call (.c (.fn n_disk_May [] [])) [(.t 6)], none⟩,
    ⟨some 8, .un .not (.t 7), none⟩,
    ⟨some 9, .mv (.t 8), none⟩,
    ⟨some 10, .mv (.t 1), some (9, false)⟩,
    ⟨some 11, .bin .lss (.t 10) (.c (.int .i64 (-1))), some (9, false)⟩,
    ⟨some 12, .pick (.t 9) (.c (.bool true)) (.t 11), none⟩])
  (.cond (.t 12) (.seq (.ops [⟨some 13, .build [.nilsl, .nilsl, .int .i64 0, .bool false] [], none⟩,
    ⟨none, .store 4 (.t 4) (.t 13), none⟩,
    ⟨some 5, .mv (.c (.int .i64 1)), none⟩])
  (.ret)) (.skip)))
  (.seq (.ops [⟨some 14, .mv (.t 1), none⟩,
    ⟨some 15, .fad 2 (.t 2), none⟩,
    ⟨none, .store 1 (.t 15) (.t 14), none⟩])
  (.seq (.ops [⟨some 16, .load 4 true (.t 2), none⟩,
    ⟨none, .store 4 (.t 4) (.t 16), none⟩,
    ⟨some 5, .mv (.c (.int .i64 0)), none⟩])
  (.ret))))
theorem k_disk_Fuel : FnIs AP n_disk_Fuel c_disk_Fuel 17 [.cell 4 4 true, .tmp 5] := fnIs_of (fn := Go.Proofs.Try.f24) Go.Proofs.Try.func24 (by kernel_rfl) (by kernel_rfl) (by kernel_rfl) (by kernel_rfl) (by kernel_rfl)
theorem a_disk_Fuel {x0 x1 : V} {H : List Entry} {K : KV} (h : Wf H → awp AP H.length c_disk_Fuel (finW H.length [.cell 4 4 true, .tmp 5] K) ([x0, x1] ++ List.replicate 15 undefV) H) : BCall AP n_disk_Fuel [x0, x1] H K := k_disk_Fuel.call (by kernel_rfl) h
/-- tryst/disk.Crash: 18 slots -/
def c_disk_Crash : AC := .seq (.ops [⟨some 2, .box (.t 0), none⟩,
    ⟨some 3, .box (.t 1), none⟩,
    ⟨some 4, .alloc [.nilsl, .nilsl, .int .i64 0, .bool false], none⟩])
  (.seq (.seq (.ops [⟨some 6, .load 4 true (.t 2), none⟩,
    ⟨some 7, .call (.c (.fn n_disk_May [] [])) [(.t 6)], none⟩,
    ⟨some 8, .un .not (.t 7), none⟩])
  (.cond (.t 8) (.seq (.ops [⟨some 9, .build [.nilsl, .nilsl, .int .i64 0, .bool false] [], none⟩,
    ⟨none, .store 4 (.t 4) (.t 9), none⟩])
  (.ret)) (.skip)))
  (.seq (.ops [⟨some 10, .load 3 true (.t 3), none⟩,
    ⟨some 11, .mkfn n_disk_loss_after [(.t 10)] [], none⟩,
    ⟨some 5, .mv (.t 11), none⟩])
  (.seq (.ops [⟨some 12, .load 4 true (.t 2), none⟩,
    ⟨some 13, .mv (.t 5), none⟩,
    ⟨some 14, .call (.c (.fn n_disk_settled [] [])) [(.t 12), (.t 13)], none⟩,
    ⟨none, .store 4 (.t 2) (.t 14), none⟩])
  (.seq (.ops [⟨some 15, .fad 3 (.t 2), none⟩,
    ⟨none, .store 1 (.t 15) (.c (.bool false)), none⟩])
  (.seq (.ops [⟨some 16, .fad 2 (.t 2), none⟩,
    ⟨none, .store 1 (.t 16) (.c (.int .i64 (-1))), none⟩])
  (.seq (.ops [⟨some 17, .load 4 true (.t 2), none⟩,
    ⟨none, .store 4 (.t 4) (.t 17), none⟩])
  (.ret)))))))
theorem k_disk_Crash : FnIs AP n_disk_Crash c_disk_Crash 18 [.cell 4 4 true] := fnIs_of (fn := Go.Proofs.Try.f25) Go.Proofs.Try.func25 (by kernel_rfl) (by kernel_rfl) (by kernel_rfl) (by kernel_rfl) (by kernel_rfl)
theorem a_disk_Crash {x0 x1 : V} {H : List Entry} {K : KV} (h : Wf H → awp AP H.length c_disk_Crash (finW H.length [.cell 4 4 true] K) ([x0, x1] ++ List.replicate 16 undefV) H) : BCall AP n_disk_Crash [x0, x1] H K := k_disk_Crash.call (by kernel_rfl) h
/-- tryst/trystref17.Crash: 87 slots -/
def c_trystref17_Crash : AC := .seq (.ops [⟨some 2, .box (.t 0), none⟩,
    ⟨some 3, .box (.t 1), none⟩,
    ⟨some 4, .alloc [.nilsl, .nilsl, .int .i64 0, .bool false], none⟩])
  (.seq (.seq (.ops [⟨some 13, .load 4 true (.t 2), none⟩,
    ⟨some 14, .call (.c (.fn n_trystref17_May [] [])) [(.t 13)], none⟩,
    ⟨some 15, .un .not (.t 14), none⟩])
  (.cond (.t 15) (.seq (.ops [⟨some 16, .build [.nilsl, .nilsl, .int .i64 0, .bool false] [], none⟩,
    ⟨none, .store 4 (.t 4) (.t 16), none⟩])
  (.ret)) (.skip)))
  (.seq (.ops [⟨some 17, .bsl 1 false [], none⟩,
    ⟨some 18, .fad 0 (.t 2), none⟩,
    ⟨some 19, .load 1 false (.t 18), none⟩,
    ⟨some 20, .app 9 1 16 false (.t 17) (.t 19), none⟩,
    ⟨some 21, .build [.nilsl, .nilsl, .int .i64 0, .bool false] [(0, 1, (.t 20)), (2, 1, (.c (.int .i64 (-1))))], none⟩,
    ⟨some 5, .alloc [.nilsl, .nilsl, .int .i64 0, .bool false], none⟩,
    ⟨none, .store 4 (.t 5) (.t 21), none⟩])
  (.seq (.seq (.ops [⟨some 6, .mv (.c (.int .i64 0)), none⟩])
  (.block 0 (.loop (.seq (.seq (.ops [⟨some 22, .mv (.t 6), none⟩,
    ⟨some 23, .fad 1 (.t 2), none⟩,
    ⟨some 24, .load 1 false (.t 23), none⟩,
    ⟨some 25, .len 1 (.t 24), none⟩,
    ⟨some 26, .bin .lss (.t 22) (.t 25), none⟩])
  (.cond (.t 26) (.skip) (.exit 0)))
  (.seq (.block 1 (.seq (.ops [⟨some 29, .fad 1 (.t 2), none⟩,
    ⟨some 30, .load 1 false (.t 29), none⟩,
    ⟨some 31, .mv (.t 6), none⟩,
    ⟨some 32, .iad 2 true (.t 30) (.t 31), none⟩,
    ⟨some 33, .load 2 true (.t 32), none⟩,
    ⟨some 7, .alloc [.int .i64 0, .str []], none⟩,
    ⟨none, .store 2 (.t 7) (.t 33), none⟩])
  (.seq (.ops [⟨some 34, .fad 0 (.t 3), none⟩,
    ⟨some 35, .load 1 false (.t 34), none⟩,
    ⟨some 8, .mv (.t 35), none⟩])
  (.seq (.seq (.ops [⟨some 9, .mv (.c (.int .i64 0)), none⟩])
  (.block 2 (.loop (.seq (.seq (.ops [⟨some 36, .mv (.t 9), none⟩,
    ⟨some 37, .mv (.t 6), none⟩,
    ⟨some 38, .bin .rem (.t 37) (.c (.int .i64 64)), none⟩,
    ⟨some 39, .bin .lss (.t 36) (.t 38), none⟩])
  (.cond (.t 39) (.skip) (.exit 2)))
  (.seq (.block 3 (.ops [⟨some 42, .mv (.t 8), none⟩,
    ⟨some 43, .bin .quo (.t 42) (.c (.int .u64 2)), none⟩,
    ⟨some 8, .mv (.t 43), none⟩]))
  (.ops [⟨some 40, .mv (.t 9), none⟩,
    ⟨some 41, .bin .add (.t 40) (.c (.int .i64 1)), none⟩,
    ⟨some 9, .mv (.t 41), none⟩]))))))
  (.seq (.ops [⟨some 10, .mv (.c (.int .i64 0)), none⟩])
  (.seq (.seq (.ops [⟨some 44, .mv (.t 8), none⟩,
    ⟨some 45, .bin .rem (.t 44) (.c (.int .u64 2)), none⟩,
    ⟨some 46, .bin .eql (.t 45) (.c (.int .u64 1)), none⟩])
  (.cond (.t 46) (.ops [⟨some 10, .mv (.c (.int .i64 64)), none⟩]) (.skip)))
  (.seq (.seq (.ops [⟨some 47, .mv (.t 6), none⟩,
    ⟨some 48, .fad 1 (.t 3), none⟩,
    ⟨some 49, .load 1 false (.t 48), none⟩,
    ⟨some 50, .bin .eql (.t 47) (.t 49), none⟩])
  (.cond (.t 50) (.ops [⟨some 51, .fad 2 (.t 3), none⟩,
    ⟨some 52, .load 1 false (.t 51), none⟩,
    ⟨some 10, .mv (.t 52), none⟩]) (.skip)))
  (.seq (.ops [⟨some 11, .mv (.c (.str [])), none⟩])
  (.seq (.seq (.ops [⟨some 12, .mv (.c (.int .i64 0)), none⟩])
  (.block 4 (.loop (.seq (.seq (.ops [⟨some 53, .mv (.t 12), none⟩,
    ⟨some 54, .bin .lss (.t 53) (.c (.int .i64 64)), none⟩])
  (.cond (.t 54) (.skip) (.exit 4)))
  (.seq (.block 5 (.seq (.ops [⟨some 57, .mv (.t 12), none⟩,
    ⟨some 58, .mv (.t 10), none⟩,
    ⟨some 59, .bin .lss (.t 57) (.t 58), none⟩])
  (.cond (.t 59) (.ops [⟨some 60, .mv (.t 11), none⟩,
    ⟨some 61, .fad 1 (.t 7), none⟩,
    ⟨some 62, .load 1 false (.t 61), none⟩,
    ⟨some 63, .mv (.t 12), none⟩,
    ⟨some 64, .mv (.t 12), none⟩,
    ⟨some 65, .bin .add (.t 64) (.c (.int .i64 1)), none⟩,
    ⟨some 66, .sls (.t 62) (some (.t 63)) (some (.t 65)), none⟩,
    ⟨some 67, .bin .add (.t 60) (.t 66), none⟩,
    ⟨some 11, .mv (.t 67), none⟩]) (.ops [⟨some 68, .mv (.t 11), none⟩,
    ⟨some 69, .fad 0 (.t 5), none⟩,
    ⟨some 70, .load 1 false (.t 69), none⟩,
    ⟨some 71, .fad 0 (.t 7), none⟩,
    ⟨some 72, .load 1 false (.t 71), none⟩,
    ⟨some 73, .iad 1 false (.t 70) (.t 72), none⟩,
    ⟨some 74, .load 1 false (.t 73), none⟩,
    ⟨some 75, .mv (.t 12), none⟩,
    ⟨some 76, .mv (.t 12), none⟩,
    ⟨some 77, .bin .add (.t 76) (.c (.int .i64 1)), none⟩,
    ⟨some 78, .sls (.t 74) (some (.t 75)) (some (.t 77)), none⟩,
    ⟨some 79, .bin .add (.t 68) (.t 78), none⟩,
    ⟨some 11, .mv (.t 79), none⟩]))))
  (.ops [⟨some 55, .mv (.t 12), none⟩,
    ⟨some 56, .bin .add (.t 55) (.c (.int .i64 1)), none⟩,
    ⟨some 12, .mv (.t 56), none⟩]))))))
  (.ops [⟨some 80, .fad 0 (.t 5), none⟩,
    ⟨some 81, .load 1 false (.t 80), none⟩,
    ⟨some 82, .fad 0 (.t 7), none⟩,
    ⟨some 83, .load 1 false (.t 82), none⟩,
    ⟨some 84, .mv (.t 11), none⟩,
    ⟨some 85, .iad 1 false (.t 81) (.t 83), none⟩,
    ⟨none, .store 1 (.t 85) (.t 84), none⟩]))))))))))
  (.ops [⟨some 27, .mv (.t 6), none⟩,
    ⟨some 28, .bin .add (.t 27) (.c (.int .i64 1)), none⟩,
    ⟨some 6, .mv (.t 28), none⟩]))))))
  (.seq (.ops [⟨some 86, .load 4 true (.t 5), none⟩,
    ⟨none, .store 4 (.t 4) (.t 86), none⟩])
  (.ret)))))
theorem k_trystref17_Crash : FnIs AP n_trystref17_Crash c_trystref17_Crash 87 [.cell 4 4 true] := fnIs_of (fn := Go.Proofs.Try.f26) Go.Proofs.Try.func26 (by kernel_rfl) (by kernel_rfl) (by kernel_rfl) (by kernel_rfl) (by kernel_rfl)
theorem a_trystref17_Crash {x0 x1 : V} {H : List Entry} {K : KV} (h : Wf H → awp AP H.length c_trystref17_Crash (finW H.length [.cell 4 4 true] K) ([x0, x1] ++ List.replicate 85 undefV) H) : BCall AP n_trystref17_Crash [x0, x1] H K := k_trystref17_Crash.call (by kernel_rfl) h
/-- tryst/trystlaw17.All: 22 slots -/
def c_trystlaw17_All : AC := .seq (.ops [⟨some 4, .mv (.c (.str [])), none⟩])
  (.seq (.ops [⟨some 7, .mv (.t 1), none⟩,
    ⟨some 8, .bin .mul (.c (.int .i64 64)) (.t 7), none⟩,
    ⟨some 9, .mks 5 1 false [.int .u8 0] 1 (.t 8) (.t 8), none⟩,
    ⟨some 5, .mv (.t 9), none⟩])
  (.seq (.seq (.ops [⟨some 6, .mv (.c (.int .i64 0)), none⟩])
  (.block 0 (.loop (.seq (.seq (.ops [⟨some 10, .mv (.t 6), none⟩,
    ⟨some 11, .mv (.t 5), none⟩,
    ⟨some 12, .len 1 (.t 11), none⟩,
    ⟨some 13, .bin .lss (.t 10) (.t 12), none⟩])
  (.cond (.t 13) (.skip) (.exit 0)))
  (.seq (.block 1 (.ops [⟨some 16, .mv (.t 5), none⟩,
    ⟨some 17, .mv (.t 6), none⟩,
    ⟨some 18, .mv (.t 0), none⟩,
    ⟨some 19, .iad 1 false (.t 16) (.t 17), none⟩,
    ⟨none, .store 1 (.t 19) (.t 18), none⟩]))
  (.ops [⟨some 14, .mv (.t 6), none⟩,
    ⟨some 15, .bin .add (.t 14) (.c (.int .i64 1)), none⟩,
    ⟨some 6, .mv (.t 15), none⟩]))))))
  (.seq (.ops [⟨some 20, .mv (.t 5), none⟩,
    ⟨some 21, .b2s (.t 20), none⟩,
    ⟨some 4, .mv (.t 21), none⟩])
  (.ret))))
theorem k_trystlaw17_All : FnIs AP n_trystlaw17_All c_trystlaw17_All 22 (rsT [4]) := fnIs_of (fn := Go.Proofs.Try.f27) Go.Proofs.Try.func27 (by kernel_rfl) (by kernel_rfl) (by kernel_rfl) (by kernel_rfl) (by kernel_rfl)
theorem a_trystlaw17_All {x0 x1 : V} {H : List Entry} {K : KV} (h : Wf H → awp AP H.length c_trystlaw17_All (finW H.length (rsT [4]) K) ([x0, x1] ++ List.replicate 20 undefV) H) : BCall AP n_trystlaw17_All [x0, x1] H K := k_trystlaw17_All.call (by kernel_rfl) h
/-- tryst/disk.hasCells: 29 slots -/
def c_disk_hasCells : AC := .seq (.ops [⟨some 3, .box (.t 0), none⟩,
    ⟨some 6, .mv (.c (.bool false)), none⟩])
  (.seq (.ops [⟨some 7, .mv (.t 1), none⟩,
    ⟨some 8, .bin .geq (.t 7) (.c (.int .i64 0)), none⟩,
    ⟨some 9, .mv (.t 8), none⟩,
    ⟨some 10, .mv (.t 2), some (9, true)⟩,
    ⟨some 11, .bin .geq (.t 10) (.c (.int .i64 0)), some (9, true)⟩,
    ⟨some 12, .pick (.t 9) (.t 11) (.c (.bool false)), none⟩,
    ⟨some 13, .mv (.t 12), none⟩,
    ⟨some 14, .mv (.t 1), some (13, true)⟩,
    ⟨some 15, .fad 0 (.t 3), some (13, true)⟩,
    ⟨some 16, .load 1 false (.t 15), some (13, true)⟩,
    ⟨some 17, .len 1 (.t 16), some (13, true)⟩,
    ⟨some 18, .bin .leq (.t 14) (.t 17), some (13, true)⟩,
    ⟨some 19, .pick (.t 13) (.t 18) (.c (.bool false)), none⟩,
    ⟨some 20, .mv (.t 19), none⟩,
    ⟨some 21, .mv (.t 2), some (20, true)⟩,
    ⟨some 22, .fad 0 (.t 3), some (20, true)⟩,
    ⟨some 23, .load 1 false (.t 22), some (20, true)⟩,
    ⟨some 24, .len 1 (.t 23), some (20, true)⟩,
    ⟨some 25, .mv (.t 1), some (20, true)⟩,
    ⟨some 26, .bin .sub (.t 24) (.t 25), some (20, true)⟩,
    ⟨some 27, .bin .leq (.t 21) (.t 26), some (20, true)⟩,
    ⟨some 28, .pick (.t 20) (.t 27) (.c (.bool false)), none⟩,
    ⟨some 6, .mv (.t 28), none⟩])
  (.ret))
theorem k_disk_hasCells : FnIs AP n_disk_hasCells c_disk_hasCells 29 (rsT [6]) := fnIs_of (fn := Go.Proofs.Try.f28) Go.Proofs.Try.func28 (by kernel_rfl) (by kernel_rfl) (by kernel_rfl) (by kernel_rfl) (by kernel_rfl)
theorem a_disk_hasCells {x0 x1 x2 : V} {H : List Entry} {K : KV} (h : Wf H → awp AP H.length c_disk_hasCells (finW H.length (rsT [6]) K) ([x0, x1, x2] ++ List.replicate 26 undefV) H) : BCall AP n_disk_hasCells [x0, x1, x2] H K := k_disk_hasCells.call (by kernel_rfl) h
/-- strings.Join: 75 slots -/
def c_strings_Join : AC := .seq (.ops [⟨some 4, .mv (.c (.str [])), none⟩])
  (.seq (.seq (.ops [⟨some 11, .mv (.t 0), none⟩,
    ⟨some 12, .len 1 (.t 11), none⟩])
  (.block 0 (.seq (.ops [⟨some 14, .bin .eql (.t 12) (.c (.int .i64 0)), none⟩,
    ⟨some 13, .mv (.t 14), none⟩])
  (.cond (.t 13) (.seq (.ops [⟨some 4, .mv (.c (.str [])), none⟩])
  (.ret)) (.seq (.ops [⟨some 16, .bin .eql (.t 12) (.c (.int .i64 1)), none⟩,
    ⟨some 15, .mv (.t 16), none⟩])
  (.cond (.t 15) (.seq (.ops [⟨some 17, .mv (.t 0), none⟩,
    ⟨some 18, .iad 1 false (.t 17) (.c (.int .i64 0)), none⟩,
    ⟨some 19, .load 1 false (.t 18), none⟩,
    ⟨some 4, .mv (.t 19), none⟩])
  (.ret)) (.skip)))))))
  (.seq (.ops [⟨some 5, .mv (.c (.int .i64 0)), none⟩])
  (.seq (.seq (.ops [⟨some 20, .mv (.t 1), none⟩,
    ⟨some 21, .len 0 (.t 20), none⟩,
    ⟨some 22, .bin .gtr (.t 21) (.c (.int .i64 0)), none⟩])
  (.cond (.t 22) (.seq (.seq (.ops [⟨some 23, .mv (.t 1), none⟩,
    ⟨some 24, .len 0 (.t 23), none⟩,
    ⟨some 25, .mv (.t 0), none⟩,
    ⟨some 26, .len 1 (.t 25), none⟩,
    ⟨some 27, .bin .sub (.t 26) (.c (.int .i64 1)), none⟩,
    ⟨some 28, .bin .quo (.c (.int .i64 9223372036854775807)) (.t 27), none⟩,
    ⟨some 29, .bin .geq (.t 24) (.t 28), none⟩])
  (.cond (.t 29) (.bad) (.skip)))
  (.ops [⟨some 31, .mv (.t 5), none⟩,
    ⟨some 32, .mv (.t 1), none⟩,
    ⟨some 33, .len 0 (.t 32), none⟩,
    ⟨some 34, .mv (.t 0), none⟩,
    ⟨some 35, .len 1 (.t 34), none⟩,
    ⟨some 36, .bin .sub (.t 35) (.c (.int .i64 1)), none⟩,
    ⟨some 37, .bin .mul (.t 33) (.t 36), none⟩,
    ⟨some 38, .bin .add (.t 31) (.t 37), none⟩,
    ⟨some 5, .mv (.t 38), none⟩])) (.skip)))
  (.seq (.seq (.ops [⟨some 39, .mv (.t 0), none⟩,
    ⟨some 40, .len 1 (.t 39), none⟩,
    ⟨some 41, .mv (.c (.int .i64 0)), none⟩])
  (.block 1 (.loop (.seq (.ops [⟨some 42, .bin .lss (.t 41) (.t 40), none⟩])
  (.seq (.cond (.t 42) (.skip) (.exit 1))
  (.seq (.block 2 (.seq (.ops [⟨some 43, .iad 1 false (.t 39) (.t 41), none⟩,
    ⟨some 44, .load 1 false (.t 43), none⟩,
    ⟨some 7, .mv (.t 44), none⟩])
  (.seq (.seq (.ops [⟨some 45, .mv (.t 7), none⟩,
    ⟨some 46, .len 0 (.t 45), none⟩,
    ⟨some 47, .mv (.t 5), none⟩,
    ⟨some 48, .bin .sub (.c (.int .i64 9223372036854775807)) (.t 47), none⟩,
    ⟨some 49, .bin .gtr (.t 46) (.t 48), none⟩])
  (.cond (.t 49) (.bad) (.skip)))
  (.ops [⟨some 51, .mv (.t 5), none⟩,
    ⟨some 52, .mv (.t 7), none⟩,
    ⟨some 53, .len 0 (.t 52), none⟩,
    ⟨some 54, .bin .add (.t 51) (.t 53), none⟩,
    ⟨some 5, .mv (.t 54), none⟩]))))
  (.ops [⟨some 55, .bin .add (.t 41) (.c (.int .i64 1)), none⟩,
    ⟨some 41, .mv (.t 55), none⟩])))))))
  (.seq (.ops [⟨some 8, .alloc [.nilp, .nilsl], none⟩])
  (.seq (.ops [⟨some 56, .mv (.t 5), none⟩,
    ⟨some 57, .call (.c (.fn n_strings_Builder_Grow [] [])) [(.t 8), (.t 56)], none⟩])
  (.seq (.ops [⟨some 58, .mv (.t 0), none⟩,
    ⟨some 59, .iad 1 false (.t 58) (.c (.int .i64 0)), none⟩,
    ⟨some 60, .load 1 false (.t 59), none⟩,
    ⟨some 61, .call (.c (.fn n_strings_Builder_WriteString [] [])) [(.t 8), (.t 60)], none⟩])
  (.seq (.seq (.ops [⟨some 62, .mv (.t 0), none⟩,
    ⟨some 63, .slc 1 (.t 62) (some (.c (.int .i64 1))) none none, none⟩,
    ⟨some 64, .len 1 (.t 63), none⟩,
    ⟨some 65, .mv (.c (.int .i64 0)), none⟩])
  (.block 3 (.loop (.seq (.ops [⟨some 66, .bin .lss (.t 65) (.t 64), none⟩])
  (.seq (.cond (.t 66) (.skip) (.exit 3))
  (.seq (.block 4 (.seq (.ops [⟨some 67, .iad 1 false (.t 63) (.t 65), none⟩,
    ⟨some 68, .load 1 false (.t 67), none⟩,
    ⟨some 10, .mv (.t 68), none⟩])
  (.seq (.ops [⟨some 69, .mv (.t 1), none⟩,
    ⟨some 70, .call (.c (.fn n_strings_Builder_WriteString [] [])) [(.t 8), (.t 69)], none⟩])
  (.ops [⟨some 71, .mv (.t 10), none⟩,
    ⟨some 72, .call (.c (.fn n_strings_Builder_WriteString [] [])) [(.t 8), (.t 71)], none⟩]))))
  (.ops [⟨some 73, .bin .add (.t 65) (.c (.int .i64 1)), none⟩,
    ⟨some 65, .mv (.t 73), none⟩])))))))
  (.seq (.ops [⟨some 74, .call (.c (.fn n_strings_Builder_String [] [])) [(.t 8)], none⟩,
    ⟨some 4, .mv (.t 74), none⟩])
  (.ret))))))))))
theorem k_strings_Join : FnIs AP n_strings_Join c_strings_Join 75 (rsT [4]) := fnIs_of (fn := Go.Proofs.Try.f29) Go.Proofs.Try.func29 (by kernel_rfl) (by kernel_rfl) (by kernel_rfl) (by kernel_rfl) (by kernel_rfl)
theorem a_strings_Join {x0 x1 : V} {H : List Entry} {K : KV} (h : Wf H → awp AP H.length c_strings_Join (finW H.length (rsT [4]) K) ([x0, x1] ++ List.replicate 73 undefV) H) : BCall AP n_strings_Join [x0, x1] H K := k_strings_Join.call (by kernel_rfl) h
-- 29 strings.Join: [strings.go:479, strings.go:479, strings.go:485, strings.go:485]
/-- tryst/trystref17.cell: 33 slots -/
def c_trystref17_cell : AC := .seq (.ops [⟨some 2, .box (.t 0), none⟩,
    ⟨some 4, .mv (.c (.str [])), none⟩])
  (.seq (.seq (.ops [⟨some 6, .fad 1 (.t 2), none⟩,
    ⟨some 7, .load 1 false (.t 6), none⟩,
    ⟨some 8, .len 1 (.t 7), none⟩,
    ⟨some 9, .bin .sub (.t 8) (.c (.int .i64 1)), none⟩,
    ⟨some 5, .mv (.t 9), none⟩])
  (.block 0 (.loop (.seq (.seq (.ops [⟨some 10, .mv (.t 5), none⟩,
    ⟨some 11, .bin .geq (.t 10) (.c (.int .i64 0)), none⟩])
  (.cond (.t 11) (.skip) (.exit 0)))
  (.seq (.block 1 (.seq (.ops [⟨some 14, .fad 1 (.t 2), none⟩,
    ⟨some 15, .load 1 false (.t 14), none⟩,
    ⟨some 16, .mv (.t 5), none⟩,
    ⟨some 17, .iad 2 true (.t 15) (.t 16), none⟩,
    ⟨some 18, .fad 0 (.t 17), none⟩,
    ⟨some 19, .load 1 false (.t 18), none⟩,
    ⟨some 20, .mv (.t 1), none⟩,
    ⟨some 21, .bin .eql (.t 19) (.t 20), none⟩])
  (.cond (.t 21) (.seq (.ops [⟨some 22, .fad 1 (.t 2), none⟩,
    ⟨some 23, .load 1 false (.t 22), none⟩,
    ⟨some 24, .mv (.t 5), none⟩,
    ⟨some 25, .iad 2 true (.t 23) (.t 24), none⟩,
    ⟨some 26, .fad 1 (.t 25), none⟩,
    ⟨some 27, .load 1 false (.t 26), none⟩,
    ⟨some 4, .mv (.t 27), none⟩])
  (.ret)) (.skip))))
  (.ops [⟨some 12, .mv (.t 5), none⟩,
    ⟨some 13, .bin .sub (.t 12) (.c (.int .i64 1)), none⟩,
    ⟨some 5, .mv (.t 13), none⟩]))))))
  (.seq (.ops [⟨some 28, .fad 0 (.t 2), none⟩,
    ⟨some 29, .load 1 false (.t 28), none⟩,
    ⟨some 30, .mv (.t 1), none⟩,
    ⟨some 31, .iad 1 false (.t 29) (.t 30), none⟩,
    ⟨some 32, .load 1 false (.t 31), none⟩,
    ⟨some 4, .mv (.t 32), none⟩])
  (.ret)))
theorem k_trystref17_cell : FnIs AP n_trystref17_cell c_trystref17_cell 33 (rsT [4]) := fnIs_of (fn := Go.Proofs.Try.f30) Go.Proofs.Try.func30 (by kernel_rfl) (by kernel_rfl) (by kernel_rfl) (by kernel_rfl) (by kernel_rfl)
theorem a_trystref17_cell {x0 x1 : V} {H : List Entry} {K : KV} (h : Wf H → awp AP H.length c_trystref17_cell (finW H.length (rsT [4]) K) ([x0, x1] ++ List.replicate 31 undefV) H) : BCall AP n_trystref17_cell [x0, x1] H K := k_trystref17_cell.call (by kernel_rfl) h
/-- tryst/disk.May$1: 6 slots -/
def c_disk_May_1 : AC := .seq (.ops [⟨some 2, .mv (.c (.bool false)), none⟩])
  (.seq (.ops [⟨some 3, .mv (.t 0), none⟩,
    ⟨some 4, .len 0 (.t 3), none⟩,
    ⟨some 5, .bin .neq (.t 4) (.c (.int .i64 64)), none⟩,
    ⟨some 2, .mv (.t 5), none⟩])
  (.ret))
theorem k_disk_May_1 : FnIs AP n_disk_May_1 c_disk_May_1 6 (rsT [2]) := fnIs_of (fn := Go.Proofs.Try.f31) Go.Proofs.Try.func31 (by kernel_rfl) (by kernel_rfl) (by kernel_rfl) (by kernel_rfl) (by kernel_rfl)
theorem a_disk_May_1 {x0 : V} {H : List Entry} {K : KV} (h : Wf H → awp AP H.length c_disk_May_1 (finW H.length (rsT [2]) K) ([x0] ++ List.replicate 5 undefV) H) : BCall AP n_disk_May_1 [x0] H K := k_disk_May_1.call (by kernel_rfl) h
/-- tryst/disk.May$2: 16 slots -/
def c_disk_May_2 : AC := .seq (.ops [⟨some 3, .box (.t 0), none⟩,
    ⟨some 4, .mv (.c (.bool false)), none⟩])
  (.seq (.ops [⟨some 5, .load 4 true (.t 1), none⟩,
    ⟨some 6, .fad 0 (.t 3), none⟩,
    ⟨some 7, .load 1 false (.t 6), none⟩,
    ⟨some 8, .call (.c (.fn n_disk_hasCells [] [])) [(.t 5), (.t 7), (.c (.int .i64 1))], none⟩,
    ⟨some 9, .un .not (.t 8), none⟩,
    ⟨some 10, .mv (.t 9), none⟩,
    ⟨some 11, .load 1 false (.t 2), some (10, false)⟩,
    ⟨some 12, .fad 1 (.t 3), some (10, false)⟩,
    ⟨some 13, .load 1 false (.t 12), some (10, false)⟩,
    ⟨some 14, .call (.t 11) [(.t 13)], some (10, false)⟩,
    ⟨some 15, .pick (.t 10) (.c (.bool true)) (.t 14), none⟩,
    ⟨some 4, .mv (.t 15), none⟩])
  (.ret))
theorem k_disk_May_2 : FnIs AP n_disk_May_2 c_disk_May_2 16 (rsT [4]) := fnIs_of (fn := Go.Proofs.Try.f32) Go.Proofs.Try.func32 (by kernel_rfl) (by kernel_rfl) (by kernel_rfl) (by kernel_rfl) (by kernel_rfl)
theorem a_disk_May_2 {x0 x1 x2 : V} {H : List Entry} {K : KV} (h : Wf H → awp AP H.length c_disk_May_2 (finW H.length (rsT [4]) K) ([x0, x1, x2] ++ List.replicate 13 undefV) H) : BCall AP n_disk_May_2 [x0, x1, x2] H K := k_disk_May_2.call (by kernel_rfl) h
/-- tryst/disk.isCount: 9 slots -/
def c_disk_isCount : AC := .seq (.ops [⟨some 2, .mv (.c (.bool false)), none⟩])
  (.seq (.ops [⟨some 3, .mv (.t 0), none⟩,
    ⟨some 4, .bin .geq (.t 3) (.c (.int .i64 1)), none⟩,
    ⟨some 5, .mv (.t 4), none⟩,
    ⟨some 6, .mv (.t 0), some (5, true)⟩,
    ⟨some 7, .bin .leq (.t 6) (.c (.int .i64 6000)), some (5, true)⟩,
    ⟨some 8, .pick (.t 5) (.t 7) (.c (.bool false)), none⟩,
    ⟨some 2, .mv (.t 8), none⟩])
  (.ret))
theorem k_disk_isCount : FnIs AP n_disk_isCount c_disk_isCount 9 (rsT [2]) := fnIs_of (fn := Go.Proofs.Try.f33) Go.Proofs.Try.func33 (by kernel_rfl) (by kernel_rfl) (by kernel_rfl) (by kernel_rfl) (by kernel_rfl)
theorem a_disk_isCount {x0 : V} {H : List Entry} {K : KV} (h : Wf H → awp AP H.length c_disk_isCount (finW H.length (rsT [2]) K) ([x0] ++ List.replicate 8 undefV) H) : BCall AP n_disk_isCount [x0] H K := k_disk_isCount.call (by kernel_rfl) h
/-- slices.ContainsFunc[[]string,string]: 9 slots -/
def c_slices_ContainsFunc_string_string : AC := .seq (.ops [⟨some 4, .mv (.c (.bool false)), none⟩])
  (.seq (.ops [⟨some 5, .mv (.t 0), none⟩,
    ⟨some 6, .mv (.t 1), none⟩,
    ⟨some 7, .call (.c (.fn n_slices_IndexFunc_string_string [] [])) [(.t 5), (.t 6)], none⟩,
    ⟨some 8, .bin .geq (.t 7) (.c (.int .i64 0)), none⟩,
    ⟨some 4, .mv (.t 8), none⟩])
  (.ret))
theorem k_slices_ContainsFunc_string_string : FnIs AP n_slices_ContainsFunc_string_string c_slices_ContainsFunc_string_string 9 (rsT [4]) := fnIs_of (fn := Go.Proofs.Try.f34) Go.Proofs.Try.func34 (by kernel_rfl) (by kernel_rfl) (by kernel_rfl) (by kernel_rfl) (by kernel_rfl)
theorem a_slices_ContainsFunc_string_string {x0 x1 : V} {H : List Entry} {K : KV} (h : Wf H → awp AP H.length c_slices_ContainsFunc_string_string (finW H.length (rsT [4]) K) ([x0, x1] ++ List.replicate 7 undefV) H) : BCall AP n_slices_ContainsFunc_string_string [x0, x1] H K := k_slices_ContainsFunc_string_string.call (by kernel_rfl) h
/-- slices.ContainsFunc[[]tryst/api.Wait,tryst/api.Wait]: 9 slots -/
def c_slices_ContainsFunc_api_Wait_api_Wait : AC := .seq (.ops [⟨some 4, .mv (.c (.bool false)), none⟩])
  (.seq (.ops [⟨some 5, .mv (.t 0), none⟩,
    ⟨some 6, .mv (.t 1), none⟩,
    ⟨some 7, .call (.c (.fn n_slices_IndexFunc_api_Wait_api_Wait [] [])) [(.t 5), (.t 6)], none⟩,
    ⟨some 8, .bin .geq (.t 7) (.c (.int .i64 0)), none⟩,
    ⟨some 4, .mv (.t 8), none⟩])
  (.ret))
theorem k_slices_ContainsFunc_api_Wait_api_Wait : FnIs AP n_slices_ContainsFunc_api_Wait_api_Wait c_slices_ContainsFunc_api_Wait_api_Wait 9 (rsT [4]) := fnIs_of (fn := Go.Proofs.Try.f35) Go.Proofs.Try.func35 (by kernel_rfl) (by kernel_rfl) (by kernel_rfl) (by kernel_rfl) (by kernel_rfl)
theorem a_slices_ContainsFunc_api_Wait_api_Wait {x0 x1 : V} {H : List Entry} {K : KV} (h : Wf H → awp AP H.length c_slices_ContainsFunc_api_Wait_api_Wait (finW H.length (rsT [4]) K) ([x0, x1] ++ List.replicate 7 undefV) H) : BCall AP n_slices_ContainsFunc_api_Wait_api_Wait [x0, x1] H K := k_slices_ContainsFunc_api_Wait_api_Wait.call (by kernel_rfl) h
/-- strings.Repeat: 125 slots -/
def c_strings_Repeat : AC := .seq (.ops [⟨some 4, .mv (.c (.str [])), none⟩])
  (.seq (.seq (.ops [⟨some 11, .mv (.t 1), none⟩])
  (.block 0 (.seq (.ops [⟨some 13, .bin .eql (.t 11) (.c (.int .i64 0)), none⟩,
    ⟨some 12, .mv (.t 13), none⟩])
  (.cond (.t 12) (.seq (.ops [⟨some 4, .mv (.c (.str [])), none⟩])
  (.ret)) (.seq (.ops [⟨some 15, .bin .eql (.t 11) (.c (.int .i64 1)), none⟩,
    ⟨some 14, .mv (.t 15), none⟩])
  (.cond (.t 14) (.seq (.ops [⟨some 16, .mv (.t 0), none⟩,
    ⟨some 4, .mv (.t 16), none⟩])
  (.ret)) (.skip)))))))
  (.seq (.seq (.ops [⟨some 17, .mv (.t 1), none⟩,
    ⟨some 18, .bin .lss (.t 17) (.c (.int .i64 0)), none⟩])
  (.cond (.t 18) (.bad) (.skip)))
  (.seq (.ops [⟨some 21, .mv (.t 0), none⟩,
    ⟨some 22, .len 0 (.t 21), none⟩,
    ⟨some 23, .cvi .u64 (.t 22), none⟩,
    ⟨some 24, .mv (.t 1), none⟩,
    ⟨some 25, .cvi .u64 (.t 24), none⟩,
    ⟨some 26, .call (.c (.fn n_math_bits_Mul [] [])) [(.t 23), (.t 25)], none⟩,
    ⟨some 20, .mv (.t 26), none⟩,
    ⟨some 27, .ext (.t 20) 0, none⟩,
    ⟨some 28, .ext (.t 20) 1, none⟩,
    ⟨some 5, .mv (.t 27), none⟩,
    ⟨some 6, .mv (.t 28), none⟩])
  (.seq (.seq (.ops [⟨some 29, .mv (.t 5), none⟩,
    ⟨some 30, .bin .gtr (.t 29) (.c (.int .u64 0)), none⟩,
    ⟨some 31, .mv (.t 30), none⟩,
    ⟨some 32, .mv (.t 6), some (31, false)⟩,
    ⟨some 33, .bin .gtr (.t 32) (.c (.int .u64 9223372036854775807)), some (31, false)⟩,
    ⟨some 34, .pick (.t 31) (.c (.bool true)) (.t 33), none⟩])
  (.cond (.t 34) (.bad) (.skip)))
  (.seq (.ops [⟨some 36, .mv (.t 6), none⟩,
    ⟨some 37, .cvi .i64 (.t 36), none⟩,
    ⟨some 7, .mv (.t 37), none⟩])
  (.seq (.seq (.ops [⟨some 38, .mv (.t 0), none⟩,
    ⟨some 39, .len 0 (.t 38), none⟩,
    ⟨some 40, .bin .eql (.t 39) (.c (.int .i64 0)), none⟩])
  (.cond (.t 40) (.seq (.ops [⟨some 4, .mv (.c (.str [])), none⟩])
  (.ret)) (.skip)))
  (.seq (.seq (.ops [⟨some 41, .mv (.t 0), none⟩,
    ⟨some 42, .ixs (.t 41) (.c (.int .i64 0)), none⟩])
  (.block 1 (.seq (.seq (.ops [⟨some 44, .bin .eql (.t 42) (.c (.int .u8 32)), none⟩,
    ⟨some 43, .mv (.t 44), none⟩])
  (.cond (.t 43) (.skip) (.seq (.ops [⟨some 45, .bin .eql (.t 42) (.c (.int .u8 45)), none⟩,
    ⟨some 43, .mv (.t 45), none⟩])
  (.cond (.t 43) (.skip) (.seq (.ops [⟨some 46, .bin .eql (.t 42) (.c (.int .u8 48)), none⟩,
    ⟨some 43, .mv (.t 46), none⟩])
  (.cond (.t 43) (.skip) (.seq (.ops [⟨some 47, .bin .eql (.t 42) (.c (.int .u8 61)), none⟩,
    ⟨some 43, .mv (.t 47), none⟩])
  (.cond (.t 43) (.skip) (.ops [⟨some 48, .bin .eql (.t 42) (.c (.int .u8 9)), none⟩,
    ⟨some 43, .mv (.t 48), none⟩])))))))))
  (.cond (.t 43) (.block 2 (.seq (.ops [⟨some 50, .mv (.t 7), none⟩,
    ⟨some 51, .bin .leq (.t 50) (.c (.int .i64 128)), none⟩,
    ⟨some 52, .mv (.t 51), none⟩,
    ⟨some 53, .mv (.t 0), some (52, true)⟩,
    ⟨some 54, .call (.c (.fn n_strings_HasPrefix [] [])) [(.c (.str [32, 32, 32, 32, 32, 32, 32, 32, 32, 32, 32, 32, 32, 32, 32, 32, 32, 32, 32, 32, 32, 32, 32, 32, 32, 32, 32, 32, 32, 32, 32, 32, 32, 32, 32, 32, 32, 32, 32, 32, 32, 32, 32, 32, 32, 32, 32, 32, 32, 32, 32, 32, 32, 32, 32, 32, 32, 32, 32, 32, 32, 32, 32, 32, 32, 32, 32, 32, 32, 32, 32, 32, 32, 32, 32, 32, 32, 32, 32, 32, 32, 32, 32, 32, 32, 32, 32, 32, 32, 32, 32, 32, 32, 32, 32, 32, 32, 32, 32, 32, 32, 32, 32, 32, 32, 32, 32, 32, 32, 32, 32, 32, 32, 32, 32, 32, 32, 32, 32, 32, 32, 32, 32, 32, 32, 32, 32, 32])), (.t 53)], some (52, true)⟩,
    ⟨some 55, .pick (.t 52) (.t 54) (.c (.bool false)), none⟩,
    ⟨some 49, .mv (.t 55), none⟩])
  (.cond (.t 49) (.seq (.ops [⟨some 56, .mv (.t 7), none⟩,
    ⟨some 57, .sls (.c (.str [32, 32, 32, 32, 32, 32, 32, 32, 32, 32, 32, 32, 32, 32, 32, 32, 32, 32, 32, 32, 32, 32, 32, 32, 32, 32, 32, 32, 32, 32, 32, 32, 32, 32, 32, 32, 32, 32, 32, 32, 32, 32, 32, 32, 32, 32, 32, 32, 32, 32, 32, 32, 32, 32, 32, 32, 32, 32, 32, 32, 32, 32, 32, 32, 32, 32, 32, 32, 32, 32, 32, 32, 32, 32, 32, 32, 32, 32, 32, 32, 32, 32, 32, 32, 32, 32, 32, 32, 32, 32, 32, 32, 32, 32, 32, 32, 32, 32, 32, 32, 32, 32, 32, 32, 32, 32, 32, 32, 32, 32, 32, 32, 32, 32, 32, 32, 32, 32, 32, 32, 32, 32, 32, 32, 32, 32, 32, 32])) none (some (.t 56)), none⟩,
    ⟨some 4, .mv (.t 57), none⟩])
  (.ret)) (.seq (.ops [⟨some 59, .mv (.t 7), none⟩,
    ⟨some 60, .bin .leq (.t 59) (.c (.int .i64 128)), none⟩,
    ⟨some 61, .mv (.t 60), none⟩,
    ⟨some 62, .mv (.t 0), some (61, true)⟩,
    ⟨some 63, .call (.c (.fn n_strings_HasPrefix [] [])) [(.c (.str [45, 45, 45, 45, 45, 45, 45, 45, 45, 45, 45, 45, 45, 45, 45, 45, 45, 45, 45, 45, 45, 45, 45, 45, 45, 45, 45, 45, 45, 45, 45, 45, 45, 45, 45, 45, 45, 45, 45, 45, 45, 45, 45, 45, 45, 45, 45, 45, 45, 45, 45, 45, 45, 45, 45, 45, 45, 45, 45, 45, 45, 45, 45, 45, 45, 45, 45, 45, 45, 45, 45, 45, 45, 45, 45, 45, 45, 45, 45, 45, 45, 45, 45, 45, 45, 45, 45, 45, 45, 45, 45, 45, 45, 45, 45, 45, 45, 45, 45, 45, 45, 45, 45, 45, 45, 45, 45, 45, 45, 45, 45, 45, 45, 45, 45, 45, 45, 45, 45, 45, 45, 45, 45, 45, 45, 45, 45, 45])), (.t 62)], some (61, true)⟩,
    ⟨some 64, .pick (.t 61) (.t 63) (.c (.bool false)), none⟩,
    ⟨some 58, .mv (.t 64), none⟩])
  (.cond (.t 58) (.seq (.ops [⟨some 65, .mv (.t 7), none⟩,
    ⟨some 66, .sls (.c (.str [45, 45, 45, 45, 45, 45, 45, 45, 45, 45, 45, 45, 45, 45, 45, 45, 45, 45, 45, 45, 45, 45, 45, 45, 45, 45, 45, 45, 45, 45, 45, 45, 45, 45, 45, 45, 45, 45, 45, 45, 45, 45, 45, 45, 45, 45, 45, 45, 45, 45, 45, 45, 45, 45, 45, 45, 45, 45, 45, 45, 45, 45, 45, 45, 45, 45, 45, 45, 45, 45, 45, 45, 45, 45, 45, 45, 45, 45, 45, 45, 45, 45, 45, 45, 45, 45, 45, 45, 45, 45, 45, 45, 45, 45, 45, 45, 45, 45, 45, 45, 45, 45, 45, 45, 45, 45, 45, 45, 45, 45, 45, 45, 45, 45, 45, 45, 45, 45, 45, 45, 45, 45, 45, 45, 45, 45, 45, 45])) none (some (.t 65)), none⟩,
    ⟨some 4, .mv (.t 66), none⟩])
  (.ret)) (.seq (.ops [⟨some 68, .mv (.t 7), none⟩,
    ⟨some 69, .bin .leq (.t 68) (.c (.int .i64 64)), none⟩,
    ⟨some 70, .mv (.t 69), none⟩,
    ⟨some 71, .mv (.t 0), some (70, true)⟩,
    ⟨some 72, .call (.c (.fn n_strings_HasPrefix [] [])) [(.c (.str [48, 48, 48, 48, 48, 48, 48, 48, 48, 48, 48, 48, 48, 48, 48, 48, 48, 48, 48, 48, 48, 48, 48, 48, 48, 48, 48, 48, 48, 48, 48, 48, 48, 48, 48, 48, 48, 48, 48, 48, 48, 48, 48, 48, 48, 48, 48, 48, 48, 48, 48, 48, 48, 48, 48, 48, 48, 48, 48, 48, 48, 48, 48, 48])), (.t 71)], some (70, true)⟩,
    ⟨some 73, .pick (.t 70) (.t 72) (.c (.bool false)), none⟩,
    ⟨some 67, .mv (.t 73), none⟩])
  (.cond (.t 67) (.seq (.ops [⟨some 74, .mv (.t 7), none⟩,
    ⟨some 75, .sls (.c (.str [48, 48, 48, 48, 48, 48, 48, 48, 48, 48, 48, 48, 48, 48, 48, 48, 48, 48, 48, 48, 48, 48, 48, 48, 48, 48, 48, 48, 48, 48, 48, 48, 48, 48, 48, 48, 48, 48, 48, 48, 48, 48, 48, 48, 48, 48, 48, 48, 48, 48, 48, 48, 48, 48, 48, 48, 48, 48, 48, 48, 48, 48, 48, 48])) none (some (.t 74)), none⟩,
    ⟨some 4, .mv (.t 75), none⟩])
  (.ret)) (.seq (.ops [⟨some 77, .mv (.t 7), none⟩,
    ⟨some 78, .bin .leq (.t 77) (.c (.int .i64 128)), none⟩,
    ⟨some 79, .mv (.t 78), none⟩,
    ⟨some 80, .mv (.t 0), some (79, true)⟩,
    ⟨some 81, .call (.c (.fn n_strings_HasPrefix [] [])) [(.c (.str [61, 61, 61, 61, 61, 61, 61, 61, 61, 61, 61, 61, 61, 61, 61, 61, 61, 61, 61, 61, 61, 61, 61, 61, 61, 61, 61, 61, 61, 61, 61, 61, 61, 61, 61, 61, 61, 61, 61, 61, 61, 61, 61, 61, 61, 61, 61, 61, 61, 61, 61, 61, 61, 61, 61, 61, 61, 61, 61, 61, 61, 61, 61, 61, 61, 61, 61, 61, 61, 61, 61, 61, 61, 61, 61, 61, 61, 61, 61, 61, 61, 61, 61, 61, 61, 61, 61, 61, 61, 61, 61, 61, 61, 61, 61, 61, 61, 61, 61, 61, 61, 61, 61, 61, 61, 61, 61, 61, 61, 61, 61, 61, 61, 61, 61, 61, 61, 61, 61, 61, 61, 61, 61, 61, 61, 61, 61, 61])), (.t 80)], some (79, true)⟩,
    ⟨some 82, .pick (.t 79) (.t 81) (.c (.bool false)), none⟩,
    ⟨some 76, .mv (.t 82), none⟩])
  (.cond (.t 76) (.seq (.ops [⟨some 83, .mv (.t 7), none⟩,
    ⟨some 84, .sls (.c (.str [61, 61, 61, 61, 61, 61, 61, 61, 61, 61, 61, 61, 61, 61, 61, 61, 61, 61, 61, 61, 61, 61, 61, 61, 61, 61, 61, 61, 61, 61, 61, 61, 61, 61, 61, 61, 61, 61, 61, 61, 61, 61, 61, 61, 61, 61, 61, 61, 61, 61, 61, 61, 61, 61, 61, 61, 61, 61, 61, 61, 61, 61, 61, 61, 61, 61, 61, 61, 61, 61, 61, 61, 61, 61, 61, 61, 61, 61, 61, 61, 61, 61, 61, 61, 61, 61, 61, 61, 61, 61, 61, 61, 61, 61, 61, 61, 61, 61, 61, 61, 61, 61, 61, 61, 61, 61, 61, 61, 61, 61, 61, 61, 61, 61, 61, 61, 61, 61, 61, 61, 61, 61, 61, 61, 61, 61, 61, 61])) none (some (.t 83)), none⟩,
    ⟨some 4, .mv (.t 84), none⟩])
  (.ret)) (.seq (.ops [⟨some 86, .mv (.t 7), none⟩,
    ⟨some 87, .bin .leq (.t 86) (.c (.int .i64 64)), none⟩,
    ⟨some 88, .mv (.t 87), none⟩,
    ⟨some 89, .mv (.t 0), some (88, true)⟩,
    ⟨some 90, .call (.c (.fn n_strings_HasPrefix [] [])) [(.c (.str [9, 9, 9, 9, 9, 9, 9, 9, 9, 9, 9, 9, 9, 9, 9, 9, 9, 9, 9, 9, 9, 9, 9, 9, 9, 9, 9, 9, 9, 9, 9, 9, 9, 9, 9, 9, 9, 9, 9, 9, 9, 9, 9, 9, 9, 9, 9, 9, 9, 9, 9, 9, 9, 9, 9, 9, 9, 9, 9, 9, 9, 9, 9, 9])), (.t 89)], some (88, true)⟩,
    ⟨some 91, .pick (.t 88) (.t 90) (.c (.bool false)), none⟩,
    ⟨some 85, .mv (.t 91), none⟩])
  (.cond (.t 85) (.seq (.ops [⟨some 92, .mv (.t 7), none⟩,
    ⟨some 93, .sls (.c (.str [9, 9, 9, 9, 9, 9, 9, 9, 9, 9, 9, 9, 9, 9, 9, 9, 9, 9, 9, 9, 9, 9, 9, 9, 9, 9, 9, 9, 9, 9, 9, 9, 9, 9, 9, 9, 9, 9, 9, 9, 9, 9, 9, 9, 9, 9, 9, 9, 9, 9, 9, 9, 9, 9, 9, 9, 9, 9, 9, 9, 9, 9, 9, 9])) none (some (.t 92)), none⟩,
    ⟨some 4, .mv (.t 93), none⟩])
  (.ret)) (.skip)))))))))))) (.skip)))))
  (.seq (.ops [⟨some 94, .mv (.t 7), none⟩,
    ⟨some 8, .mv (.t 94), none⟩])
  (.seq (.seq (.ops [⟨some 95, .mv (.t 7), none⟩,
    ⟨some 96, .bin .gtr (.t 95) (.c (.int .i64 8192)), none⟩])
  (.cond (.t 96) (.seq (.ops [⟨some 97, .mv (.t 0), none⟩,
    ⟨some 98, .len 0 (.t 97), none⟩,
    ⟨some 99, .bin .quo (.c (.int .i64 8192)) (.t 98), none⟩,
    ⟨some 100, .mv (.t 0), none⟩,
    ⟨some 101, .len 0 (.t 100), none⟩,
    ⟨some 102, .bin .mul (.t 99) (.t 101), none⟩,
    ⟨some 8, .mv (.t 102), none⟩])
  (.seq (.ops [⟨some 103, .mv (.t 8), none⟩,
    ⟨some 104, .bin .eql (.t 103) (.c (.int .i64 0)), none⟩])
  (.cond (.t 104) (.ops [⟨some 105, .mv (.t 0), none⟩,
    ⟨some 106, .len 0 (.t 105), none⟩,
    ⟨some 8, .mv (.t 106), none⟩]) (.skip)))) (.skip)))
  (.seq (.ops [⟨some 9, .alloc [.nilp, .nilsl], none⟩])
  (.seq (.ops [⟨some 107, .mv (.t 7), none⟩,
    ⟨some 108, .call (.c (.fn n_strings_Builder_Grow [] [])) [(.t 9), (.t 107)], none⟩])
  (.seq (.ops [⟨some 109, .mv (.t 0), none⟩,
    ⟨some 110, .call (.c (.fn n_strings_Builder_WriteString [] [])) [(.t 9), (.t 109)], none⟩])
  (.seq (.block 3 (.loop (.seq (.seq (.ops [⟨some 111, .call (.c (.fn n_strings_Builder_Len [] [])) [(.t 9)], none⟩,
    ⟨some 112, .mv (.t 7), none⟩,
    ⟨some 113, .bin .lss (.t 111) (.t 112), none⟩])
  (.cond (.t 113) (.skip) (.exit 3)))
  (.block 4 (.seq (.ops [⟨some 114, .mv (.t 7), none⟩,
    ⟨some 115, .call (.c (.fn n_strings_Builder_Len [] [])) [(.t 9)], none⟩,
    ⟨some 116, .bin .sub (.t 114) (.t 115), none⟩,
    ⟨some 117, .call (.c (.fn n_strings_Builder_Len [] [])) [(.t 9)], none⟩,
    ⟨some 118, .mv (.t 8), none⟩,
    ⟨some 119, .mnx true [(.t 116), (.t 117), (.t 118)], none⟩,
    ⟨some 10, .mv (.t 119), none⟩])
  (.ops [⟨some 120, .call (.c (.fn n_strings_Builder_String [] [])) [(.t 9)], none⟩,
    ⟨some 121, .mv (.t 10), none⟩,
    ⟨some 122, .sls (.t 120) none (some (.t 121)), none⟩,
    ⟨some 123, .call (.c (.fn n_strings_Builder_WriteString [] [])) [(.t 9), (.t 122)], none⟩]))))))
  (.seq (.ops [⟨some 124, .call (.c (.fn n_strings_Builder_String [] [])) [(.t 9)], none⟩,
    ⟨some 4, .mv (.t 124), none⟩])
  (.ret)))))))))))))))
theorem k_strings_Repeat : FnIs AP n_strings_Repeat c_strings_Repeat 125 (rsT [4]) := fnIs_of (fn := Go.Proofs.Try.f36) Go.Proofs.Try.func36 (by kernel_rfl) (by kernel_rfl) (by kernel_rfl) (by kernel_rfl) (by kernel_rfl)
theorem a_strings_Repeat {x0 x1 : V} {H : List Entry} {K : KV} (h : Wf H → awp AP H.length c_strings_Repeat (finW H.length (rsT [4]) K) ([x0, x1] ++ List.replicate 123 undefV) H) : BCall AP n_strings_Repeat [x0, x1] H K := k_strings_Repeat.call (by kernel_rfl) h
-- 36 strings.Repeat: [strings.go:609, strings.go:609, strings.go:613, strings.go:613]
/-- slices.Repeat[[]string,string]: 48 slots -/
def c_slices_Repeat_string_string : AC := .seq (.ops [⟨some 4, .mv (.c (.nilsl)), none⟩])
  (.seq (.seq (.ops [⟨some 9, .mv (.t 1), none⟩,
    ⟨some 10, .bin .lss (.t 9) (.c (.int .i64 0)), none⟩])
  (.cond (.t 10) (.bad) (.skip)))
  (.seq (.ops [⟨some 13, .mv (.t 0), none⟩,
    ⟨some 14, .len 1 (.t 13), none⟩,
    ⟨some 15, .cvi .u64 (.t 14), none⟩,
    ⟨some 16, .mv (.t 1), none⟩,
    ⟨some 17, .cvi .u64 (.t 16), none⟩,
    ⟨some 18, .call (.c (.fn n_math_bits_Mul [] [])) [(.t 15), (.t 17)], none⟩,
    ⟨some 12, .mv (.t 18), none⟩,
    ⟨some 19, .ext (.t 12) 0, none⟩,
    ⟨some 20, .ext (.t 12) 1, none⟩,
    ⟨some 5, .mv (.t 19), none⟩,
    ⟨some 6, .mv (.t 20), none⟩])
  (.seq (.seq (.ops [⟨some 21, .mv (.t 5), none⟩,
    ⟨some 22, .bin .gtr (.t 21) (.c (.int .u64 0)), none⟩,
    ⟨some 23, .mv (.t 22), none⟩,
    ⟨some 24, .mv (.t 6), some (23, false)⟩,
    ⟨some 25, .bin .gtr (.t 24) (.c (.int .u64 9223372036854775807)), some (23, false)⟩,
    ⟨some 26, .pick (.t 23) (.c (.bool true)) (.t 25), none⟩])
  (.cond (.t 26) (.bad) (.skip)))
  (.seq (.ops [⟨some 28, .mv (.t 6), none⟩,
    ⟨some 29, .cvi .i64 (.t 28), none⟩,
    ⟨some 30, .mks 9 1 false [.str []] 16 (.t 29) (.t 29), none⟩,
    ⟨some 7, .mv (.t 30), none⟩])
  (.seq (.ops [⟨some 31, .mv (.t 7), none⟩,
    ⟨some 32, .mv (.t 0), none⟩,
    ⟨some 33, .copy 1 (.t 31) (.t 32), none⟩,
    ⟨some 8, .mv (.t 33), none⟩])
  (.seq (.block 0 (.loop (.seq (.seq (.ops [⟨some 34, .mv (.t 8), none⟩,
    ⟨some 35, .mv (.t 7), none⟩,
    ⟨some 36, .len 1 (.t 35), none⟩,
    ⟨some 37, .bin .lss (.t 34) (.t 36), none⟩])
  (.cond (.t 37) (.skip) (.exit 0)))
  (.block 1 (.draw [⟨some 38, .mv (.t 8), none⟩,
    ⟨some 39, .mv (.t 7), none⟩,
    ⟨some 40, .mv (.t 8), none⟩,
    ⟨some 41, .slcm 1 (.t 39) (some (.t 40)) none none, none⟩,
    ⟨some 42, .mv (.t 7), none⟩,
    ⟨some 43, .mv (.t 8), none⟩,
    ⟨some 44, .slcm 1 (.t 42) none (some (.t 43)) none, none⟩,
    ⟨some 45, .copy 1 (.t 41) (.t 44), none⟩,
    ⟨some 46, .bin .add (.t 38) (.t 45), none⟩,
    ⟨some 8, .mv (.t 46), none⟩])))))
  (.seq (.ops [⟨some 47, .mv (.t 7), none⟩,
    ⟨some 4, .mv (.t 47), none⟩])
  (.ret))))))))
theorem k_slices_Repeat_string_string : FnIs AP n_slices_Repeat_string_string c_slices_Repeat_string_string 48 (rsT [4]) := fnIs_of (fn := Go.Proofs.Try.f37) Go.Proofs.Try.func37 (by kernel_rfl) (by kernel_rfl) (by kernel_rfl) (by kernel_rfl) (by kernel_rfl)
theorem a_slices_Repeat_string_string {x0 x1 : V} {H : List Entry} {K : KV} (h : Wf H → awp AP H.length c_slices_Repeat_string_string (finW H.length (rsT [4]) K) ([x0, x1] ++ List.replicate 46 undefV) H) : BCall AP n_slices_Repeat_string_string [x0, x1] H K := k_slices_Repeat_string_string.call (by kernel_rfl) h
-- 37 slices.Repeat[[]string,string]: [slices.go:516, slices.go:516, slices.go:522, slices.go:522]
/-- tryst/trystref17.Blank: 7 slots -/
def c_trystref17_Blank : AC := .seq (.ops [⟨some 2, .mv (.c (.str [])), none⟩])
  (.seq (.ops [⟨some 3, .mv (.t 0), none⟩,
    ⟨some 4, .bin .mul (.c (.int .i64 64)) (.t 3), none⟩,
    ⟨some 5, .mks 5 1 false [.int .u8 0] 1 (.t 4) (.t 4), none⟩,
    ⟨some 6, .b2s (.t 5), none⟩,
    ⟨some 2, .mv (.t 6), none⟩])
  (.ret))
theorem k_trystref17_Blank : FnIs AP n_trystref17_Blank c_trystref17_Blank 7 (rsT [2]) := fnIs_of (fn := Go.Proofs.Try.f38) Go.Proofs.Try.func38 (by kernel_rfl) (by kernel_rfl) (by kernel_rfl) (by kernel_rfl) (by kernel_rfl)
theorem a_trystref17_Blank {x0 : V} {H : List Entry} {K : KV} (h : Wf H → awp AP H.length c_trystref17_Blank (finW H.length (rsT [2]) K) ([x0] ++ List.replicate 6 undefV) H) : BCall AP n_trystref17_Blank [x0] H K := k_trystref17_Blank.call (by kernel_rfl) h
/-- slices.Clone[[]tryst/api.Wait,tryst/api.Wait]: 8 slots -/
def c_slices_Clone_api_Wait_api_Wait : AC := .seq (.ops [⟨some 2, .mv (.c (.nilsl)), none⟩])
  (.seq (.seq (.ops [⟨some 3, .mv (.t 0), none⟩,
    ⟨some 4, .cnil 0 false (.t 3) (.c (.nilsl)), none⟩])
  (.cond (.t 4) (.seq (.ops [⟨some 2, .mv (.c (.nilsl)), none⟩])
  (.ret)) (.skip)))
  (.seq (.ops [⟨some 5, .bsl 2 true [], none⟩,
    ⟨some 6, .mv (.t 0), none⟩,
    ⟨some 7, .app 53 2 24 true (.t 5) (.t 6), none⟩,
    ⟨some 2, .mv (.t 7), none⟩])
  (.ret)))
theorem k_slices_Clone_api_Wait_api_Wait : FnIs AP n_slices_Clone_api_Wait_api_Wait c_slices_Clone_api_Wait_api_Wait 8 (rsT [2]) := fnIs_of (fn := Go.Proofs.Try.f39) Go.Proofs.Try.func39 (by kernel_rfl) (by kernel_rfl) (by kernel_rfl) (by kernel_rfl) (by kernel_rfl)
theorem a_slices_Clone_api_Wait_api_Wait {x0 : V} {H : List Entry} {K : KV} (h : Wf H → awp AP H.length c_slices_Clone_api_Wait_api_Wait (finW H.length (rsT [2]) K) ([x0] ++ List.replicate 7 undefV) H) : BCall AP n_slices_Clone_api_Wait_api_Wait [x0] H K := k_slices_Clone_api_Wait_api_Wait.call (by kernel_rfl) h
/-- tryst/disk.burn: 29 slots -/
def c_disk_burn : AC := .seq (.ops [⟨some 2, .mv (.c (.bool false)), none⟩])
  (.seq (.seq (.ops [⟨some 3, .mv (.t 0), none⟩,
    ⟨some 4, .nck (.t 3), none⟩,
    ⟨some 5, .fad 3 (.t 4), none⟩,
    ⟨some 6, .load 1 false (.t 5), none⟩,
    ⟨some 7, .mv (.t 6), none⟩,
    ⟨some 8, .mv (.t 0), some (7, false)⟩,
    ⟨some 9, .nck (.t 8), some (7, false)⟩,
    ⟨some 10, .fad 2 (.t 9), some (7, false)⟩,
    ⟨some 11, .load 1 false (.t 10), some (7, false)⟩,
    ⟨some 12, .bin .eql (.t 11) (.c (.int .i64 0)), some (7, false)⟩,
    ⟨some 13, .pick (.t 7) (.c (.bool true)) (.t 12), none⟩])
  (.cond (.t 13) (.seq (.ops [⟨some 14, .mv (.t 0), none⟩,
    ⟨some 15, .nck (.t 14), none⟩,
    ⟨some 16, .fad 3 (.t 15), none⟩,
    ⟨none, .store 1 (.t 16) (.c (.bool true)), none⟩])
  (.seq (.ops [⟨some 2, .mv (.c (.bool false)), none⟩])
  (.ret))) (.skip)))
  (.seq (.seq (.ops [⟨some 17, .mv (.t 0), none⟩,
    ⟨some 18, .nck (.t 17), none⟩,
    ⟨some 19, .fad 2 (.t 18), none⟩,
    ⟨some 20, .load 1 false (.t 19), none⟩,
    ⟨some 21, .bin .gtr (.t 20) (.c (.int .i64 0)), none⟩])
  (.cond (.t 21) (.ops [⟨some 22, .mv (.t 0), none⟩,
    ⟨some 23, .nck (.t 22), none⟩,
    ⟨some 24, .fad 2 (.t 23), none⟩,
    ⟨some 25, .load 1 false (.t 24), none⟩,
    ⟨some 26, .bin .sub (.t 25) (.c (.int .i64 1)), none⟩,
    ⟨some 27, .nck (.t 22), none⟩,
    ⟨some 28, .fad 2 (.t 27), none⟩,
    ⟨none, .store 1 (.t 28) (.t 26), none⟩]) (.skip)))
  (.seq (.ops [⟨some 2, .mv (.c (.bool true)), none⟩])
  (.ret))))
theorem k_disk_burn : FnIs AP n_disk_burn c_disk_burn 29 (rsT [2]) := fnIs_of (fn := Go.Proofs.Try.f40) Go.Proofs.Try.func40 (by kernel_rfl) (by kernel_rfl) (by kernel_rfl) (by kernel_rfl) (by kernel_rfl)
theorem a_disk_burn {x0 : V} {H : List Entry} {K : KV} (h : Wf H → awp AP H.length c_disk_burn (finW H.length (rsT [2]) K) ([x0] ++ List.replicate 28 undefV) H) : BCall AP n_disk_burn [x0] H K := k_disk_burn.call (by kernel_rfl) h
/-- tryst/trystref17.burns: 21 slots -/
def c_trystref17_burns : AC := .seq (.ops [⟨some 1, .box (.t 0), none⟩,
    ⟨some 2, .alloc [.nilsl, .nilsl, .int .i64 0, .bool false], none⟩,
    ⟨some 3, .mv (.c (.bool false)), none⟩])
  (.seq (.seq (.ops [⟨some 4, .fad 3 (.t 1), none⟩,
    ⟨some 5, .load 1 false (.t 4), none⟩,
    ⟨some 6, .mv (.t 5), none⟩,
    ⟨some 7, .fad 2 (.t 1), some (6, false)⟩,
    ⟨some 8, .load 1 false (.t 7), some (6, false)⟩,
    ⟨some 9, .bin .eql (.t 8) (.c (.int .i64 0)), some (6, false)⟩,
    ⟨some 10, .pick (.t 6) (.c (.bool true)) (.t 9), none⟩])
  (.cond (.t 10) (.seq (.ops [⟨some 11, .fad 3 (.t 1), none⟩,
    ⟨none, .store 1 (.t 11) (.c (.bool true)), none⟩])
  (.seq (.ops [⟨some 12, .load 4 true (.t 1), none⟩,
    ⟨none, .store 4 (.t 2) (.t 12), none⟩,
    ⟨some 3, .mv (.c (.bool false)), none⟩])
  (.ret))) (.skip)))
  (.seq (.seq (.ops [⟨some 13, .fad 2 (.t 1), none⟩,
    ⟨some 14, .load 1 false (.t 13), none⟩,
    ⟨some 15, .bin .gtr (.t 14) (.c (.int .i64 0)), none⟩])
  (.cond (.t 15) (.ops [⟨some 16, .fad 2 (.t 1), none⟩,
    ⟨some 17, .load 1 false (.t 16), none⟩,
    ⟨some 18, .bin .sub (.t 17) (.c (.int .i64 1)), none⟩,
    ⟨some 19, .fad 2 (.t 1), none⟩,
    ⟨none, .store 1 (.t 19) (.t 18), none⟩]) (.skip)))
  (.seq (.ops [⟨some 20, .load 4 true (.t 1), none⟩,
    ⟨none, .store 4 (.t 2) (.t 20), none⟩,
    ⟨some 3, .mv (.c (.bool true)), none⟩])
  (.ret))))
theorem k_trystref17_burns : FnIs AP n_trystref17_burns c_trystref17_burns 21 [.cell 2 4 true, .tmp 3] := fnIs_of (fn := Go.Proofs.Try.f41) Go.Proofs.Try.func41 (by kernel_rfl) (by kernel_rfl) (by kernel_rfl) (by kernel_rfl) (by kernel_rfl)
theorem a_trystref17_burns {x0 : V} {H : List Entry} {K : KV} (h : Wf H → awp AP H.length c_trystref17_burns (finW H.length [.cell 2 4 true, .tmp 3] K) ([x0] ++ List.replicate 20 undefV) H) : BCall AP n_trystref17_burns [x0] H K := k_trystref17_burns.call (by kernel_rfl) h
/-- tryst/disk.settled: 43 slots -/
def c_disk_settled : AC := .seq (.ops [⟨some 2, .box (.t 0), none⟩,
    ⟨some 4, .alloc [.nilsl, .nilsl, .int .i64 0, .bool false], none⟩])
  (.seq (.ops [⟨some 8, .fad 0 (.t 2), none⟩,
    ⟨some 9, .load 1 false (.t 8), none⟩,
    ⟨some 10, .len 1 (.t 9), none⟩,
    ⟨some 11, .mks 9 1 false [.str []] 16 (.t 10) (.t 10), none⟩,
    ⟨some 5, .mv (.t 11), none⟩])
  (.seq (.ops [⟨some 12, .mv (.t 5), none⟩,
    ⟨some 13, .fad 0 (.t 2), none⟩,
    ⟨some 14, .load 1 false (.t 13), none⟩,
    ⟨some 15, .copy 1 (.t 12) (.t 14), none⟩])
  (.seq (.seq (.ops [⟨some 16, .fad 1 (.t 2), none⟩,
    ⟨some 17, .load 1 false (.t 16), none⟩,
    ⟨some 18, .len 1 (.t 17), none⟩,
    ⟨some 19, .mv (.c (.int .i64 0)), none⟩])
  (.block 0 (.loop (.seq (.ops [⟨some 20, .bin .lss (.t 19) (.t 18), none⟩])
  (.seq (.cond (.t 20) (.skip) (.exit 0))
  (.seq (.block 1 (.seq (.ops [⟨some 21, .mv (.t 19), none⟩,
    ⟨some 22, .iad 2 true (.t 17) (.t 19), none⟩,
    ⟨some 23, .load 2 true (.t 22), none⟩,
    ⟨some 7, .alloc [.int .i64 0, .str []], none⟩,
    ⟨some 6, .mv (.t 21), none⟩,
    ⟨none, .store 2 (.t 7) (.t 23), none⟩])
  (.draw [⟨some 24, .mv (.t 5), none⟩,
    ⟨some 25, .fad 0 (.t 7), none⟩,
    ⟨some 26, .load 1 false (.t 25), none⟩,
    ⟨some 27, .mv (.t 1), none⟩,
    ⟨some 28, .mv (.t 6), none⟩,
    ⟨some 29, .mv (.t 5), none⟩,
    ⟨some 30, .fad 0 (.t 7), none⟩,
    ⟨some 31, .load 1 false (.t 30), none⟩,
    ⟨some 32, .iad 1 false (.t 29) (.t 31), none⟩,
    ⟨some 33, .load 1 false (.t 32), none⟩,
    ⟨some 34, .fad 1 (.t 7), none⟩,
    ⟨some 35, .load 1 false (.t 34), none⟩,
    ⟨some 36, .dcall (.t 27) [(.t 28), (.t 33), (.t 35)], none⟩,
    ⟨some 37, .iad 1 false (.t 24) (.t 26), none⟩,
    ⟨none, .store 1 (.t 37) (.t 36), none⟩])))
  (.ops [⟨some 38, .bin .add (.t 19) (.c (.int .i64 1)), none⟩,
    ⟨some 19, .mv (.t 38), none⟩])))))))
  (.seq (.ops [⟨some 39, .mv (.t 5), none⟩,
    ⟨some 40, .fad 0 (.t 2), none⟩,
    ⟨none, .store 1 (.t 40) (.t 39), none⟩])
  (.seq (.ops [⟨some 41, .fad 1 (.t 2), none⟩,
    ⟨none, .store 1 (.t 41) (.c (.nilsl)), none⟩])
  (.seq (.ops [⟨some 42, .load 4 true (.t 2), none⟩,
    ⟨none, .store 4 (.t 4) (.t 42), none⟩])
  (.ret)))))))
theorem k_disk_settled : FnIs AP n_disk_settled c_disk_settled 43 [.cell 4 4 true] := fnIs_of (fn := Go.Proofs.Try.f42) Go.Proofs.Try.func42 (by kernel_rfl) (by kernel_rfl) (by kernel_rfl) (by kernel_rfl) (by kernel_rfl)
theorem a_disk_settled {x0 x1 : V} {H : List Entry} {K : KV} (h : Wf H → awp AP H.length c_disk_settled (finW H.length [.cell 4 4 true] K) ([x0, x1] ++ List.replicate 41 undefV) H) : BCall AP n_disk_settled [x0, x1] H K := k_disk_settled.call (by kernel_rfl) h
/-- tryst/disk.Flush$1: 8 slots -/
def c_disk_Flush_1 : AC := .seq (.ops [⟨some 6, .mv (.c (.str [])), none⟩])
  (.seq (.ops [⟨some 7, .mv (.t 2), none⟩,
    ⟨some 6, .mv (.t 7), none⟩])
  (.ret))
theorem k_disk_Flush_1 : FnIs AP n_disk_Flush_1 c_disk_Flush_1 8 (rsT [6]) := fnIs_of (fn := Go.Proofs.Try.f43) Go.Proofs.Try.func43 (by kernel_rfl) (by kernel_rfl) (by kernel_rfl) (by kernel_rfl) (by kernel_rfl)
theorem a_disk_Flush_1 {x0 x1 x2 : V} {H : List Entry} {K : KV} (h : Wf H → awp AP H.length c_disk_Flush_1 (finW H.length (rsT [6]) K) ([x0, x1, x2] ++ List.replicate 5 undefV) H) : BCall AP n_disk_Flush_1 [x0, x1, x2] H K := k_disk_Flush_1.call (by kernel_rfl) h
/-- (tryst/disk.loss).after: 30 slots -/
def c_disk_loss_after : AC := .seq (.ops [⟨some 4, .box (.t 0), none⟩,
    ⟨some 8, .mv (.c (.str [])), none⟩])
  (.seq (.seq (.ops [⟨some 10, .mv (.t 1), none⟩,
    ⟨some 11, .fad 1 (.t 4), none⟩,
    ⟨some 12, .load 1 false (.t 11), none⟩,
    ⟨some 13, .bin .eql (.t 10) (.t 12), none⟩])
  (.cond (.t 13) (.seq (.ops [⟨some 14, .fad 2 (.t 4), none⟩,
    ⟨some 15, .load 1 false (.t 14), none⟩,
    ⟨some 16, .mnx false [(.t 15), (.c (.int .i64 0))], none⟩,
    ⟨some 17, .mnx true [(.t 16), (.c (.int .i64 64))], none⟩,
    ⟨some 9, .mv (.t 17), none⟩])
  (.seq (.draw [⟨some 18, .mv (.t 3), none⟩,
    ⟨some 19, .mv (.t 9), none⟩,
    ⟨some 20, .sls (.t 18) none (some (.t 19)), none⟩,
    ⟨some 21, .mv (.t 2), none⟩,
    ⟨some 22, .mv (.t 9), none⟩,
    ⟨some 23, .sls (.t 21) (some (.t 22)) none, none⟩,
    ⟨some 24, .bin .add (.t 20) (.t 23), none⟩,
    ⟨some 8, .mv (.t 24), none⟩])
  (.ret))) (.skip)))
  (.seq (.seq (.ops [⟨some 25, .load 3 true (.t 4), none⟩,
    ⟨some 26, .mv (.t 1), none⟩,
    ⟨some 27, .call (.c (.fn n_disk_loss_keeps [] [])) [(.t 25), (.t 26)], none⟩])
  (.cond (.t 27) (.seq (.ops [⟨some 28, .mv (.t 3), none⟩,
    ⟨some 8, .mv (.t 28), none⟩])
  (.ret)) (.skip)))
  (.seq (.ops [⟨some 29, .mv (.t 2), none⟩,
    ⟨some 8, .mv (.t 29), none⟩])
  (.ret))))
theorem k_disk_loss_after : FnIs AP n_disk_loss_after c_disk_loss_after 30 (rsT [8]) := fnIs_of (fn := Go.Proofs.Try.f44) Go.Proofs.Try.func44 (by kernel_rfl) (by kernel_rfl) (by kernel_rfl) (by kernel_rfl) (by kernel_rfl)
theorem a_disk_loss_after {x0 x1 x2 x3 : V} {H : List Entry} {K : KV} (h : Wf H → awp AP H.length c_disk_loss_after (finW H.length (rsT [8]) K) ([x0, x1, x2, x3] ++ List.replicate 26 undefV) H) : BCall AP n_disk_loss_after [x0, x1, x2, x3] H K := k_disk_loss_after.call (by kernel_rfl) h
/-- (*strings.Builder).Grow: 25 slots -/
def c_strings_Builder_Grow : AC := .seq (.ops [⟨some 4, .mv (.t 0), none⟩,
    ⟨some 5, .call (.c (.fn n_strings_Builder_copyCheck [] [])) [(.t 4)], none⟩])
  (.seq (.seq (.ops [⟨some 6, .mv (.t 1), none⟩,
    ⟨some 7, .bin .lss (.t 6) (.c (.int .i64 0)), none⟩])
  (.cond (.t 7) (.bad) (.skip)))
  (.seq (.bad)
  (.cond (.t 21) (.ops [⟨some 22, .mv (.t 0), none⟩,
    ⟨some 23, .mv (.t 1), none⟩,
    ⟨some 24, .call (.c (.fn n_strings_Builder_grow [] [])) [(.t 22), (.t 23)], none⟩]) (.skip))))
theorem k_strings_Builder_Grow : FnIs AP n_strings_Builder_Grow c_strings_Builder_Grow 25 (rsT []) := fnIs_of (fn := Go.Proofs.Try.f45) Go.Proofs.Try.func45 (by kernel_rfl) (by kernel_rfl) (by kernel_rfl) (by kernel_rfl) (by kernel_rfl)
theorem a_strings_Builder_Grow {x0 x1 : V} {H : List Entry} {K : KV} (h : Wf H → awp AP H.length c_strings_Builder_Grow (finW H.length (rsT []) K) ([x0, x1] ++ List.replicate 23 undefV) H) : BCall AP n_strings_Builder_Grow [x0, x1] H K := k_strings_Builder_Grow.call (by kernel_rfl) h
-- 45 (*strings.Builder).Grow: [builder.go:78, builder.go:78, builder.go:80]
/-- (*strings.Builder).WriteString: 19 slots -/
def c_strings_Builder_WriteString : AC := .seq (.bad)
  (.seq (.ops [⟨some 6, .mv (.t 0), none⟩,
    ⟨some 7, .call (.c (.fn n_strings_Builder_copyCheck [] [])) [(.t 6)], none⟩])
  (.seq (.ops [⟨some 8, .mv (.t 0), none⟩,
    ⟨some 9, .mv (.t 0), none⟩,
    ⟨some 10, .nck (.t 9), none⟩,
    ⟨some 11, .fad 1 (.t 10), none⟩,
    ⟨some 12, .load 1 false (.t 11), none⟩,
    ⟨some 13, .mv (.t 1), none⟩,
    ⟨some 14, .apps 5 1 (.t 12) (.t 13), none⟩,
    ⟨some 15, .nck (.t 8), none⟩,
    ⟨some 16, .fad 1 (.t 15), none⟩,
    ⟨none, .store 1 (.t 16) (.t 14), none⟩])
  (.seq (.bad)
  (.ret))))
theorem k_strings_Builder_WriteString : FnIs AP n_strings_Builder_WriteString c_strings_Builder_WriteString 19 (rsT [4, 5]) := fnIs_of (fn := Go.Proofs.Try.f46) Go.Proofs.Try.func46 (by kernel_rfl) (by kernel_rfl) (by kernel_rfl) (by kernel_rfl) (by kernel_rfl)
theorem a_strings_Builder_WriteString {x0 x1 : V} {H : List Entry} {K : KV} (h : Wf H → awp AP H.length c_strings_Builder_WriteString (finW H.length (rsT [4, 5]) K) ([x0, x1] ++ List.replicate 17 undefV) H) : BCall AP n_strings_Builder_WriteString [x0, x1] H K := k_strings_Builder_WriteString.call (by kernel_rfl) h
-- 46 (*strings.Builder).WriteString: [builder.go:112, builder.go:115]
/-- (*strings.Builder).String: 14 slots -/
def c_strings_Builder_String : AC := .seq (.ops [⟨some 2, .mv (.c (.str [])), none⟩])
  (.seq (.bad)
  (.ret))
theorem k_strings_Builder_String : FnIs AP n_strings_Builder_String c_strings_Builder_String 14 (rsT [2]) := fnIs_of (fn := Go.Proofs.Try.f47) Go.Proofs.Try.func47 (by kernel_rfl) (by kernel_rfl) (by kernel_rfl) (by kernel_rfl) (by kernel_rfl)
theorem a_strings_Builder_String {x0 : V} {H : List Entry} {K : KV} (h : Wf H → awp AP H.length c_strings_Builder_String (finW H.length (rsT [2]) K) ([x0] ++ List.replicate 13 undefV) H) : BCall AP n_strings_Builder_String [x0] H K := k_strings_Builder_String.call (by kernel_rfl) h
-- 47 (*strings.Builder).String: [builder.go:47, builder.go:47]
/-- slices.IndexFunc[[]string,string]: 19 slots -/
def c_slices_IndexFunc_string_string : AC := .seq (.ops [⟨some 4, .mv (.c (.int .i64 0)), none⟩])
  (.seq (.seq (.ops [⟨some 6, .mv (.t 0), none⟩,
    ⟨some 7, .len 1 (.t 6), none⟩,
    ⟨some 8, .mv (.c (.int .i64 0)), none⟩])
  (.block 0 (.loop (.seq (.ops [⟨some 9, .bin .lss (.t 8) (.t 7), none⟩])
  (.seq (.cond (.t 9) (.skip) (.exit 0))
  (.seq (.block 1 (.seq (.ops [⟨some 10, .mv (.t 8), none⟩,
    ⟨some 5, .mv (.t 10), none⟩])
  (.seq (.ops [⟨some 11, .mv (.t 1), none⟩,
    ⟨some 12, .mv (.t 0), none⟩,
    ⟨some 13, .mv (.t 5), none⟩,
    ⟨some 14, .iad 1 false (.t 12) (.t 13), none⟩,
    ⟨some 15, .load 1 false (.t 14), none⟩,
    ⟨some 16, .call (.t 11) [(.t 15)], none⟩])
  (.cond (.t 16) (.seq (.ops [⟨some 17, .mv (.t 5), none⟩,
    ⟨some 4, .mv (.t 17), none⟩])
  (.ret)) (.skip)))))
  (.ops [⟨some 18, .bin .add (.t 8) (.c (.int .i64 1)), none⟩,
    ⟨some 8, .mv (.t 18), none⟩])))))))
  (.seq (.ops [⟨some 4, .mv (.c (.int .i64 (-1))), none⟩])
  (.ret)))
theorem k_slices_IndexFunc_string_string : FnIs AP n_slices_IndexFunc_string_string c_slices_IndexFunc_string_string 19 (rsT [4]) := fnIs_of (fn := Go.Proofs.Try.f48) Go.Proofs.Try.func48 (by kernel_rfl) (by kernel_rfl) (by kernel_rfl) (by kernel_rfl) (by kernel_rfl)
theorem a_slices_IndexFunc_string_string {x0 x1 : V} {H : List Entry} {K : KV} (h : Wf H → awp AP H.length c_slices_IndexFunc_string_string (finW H.length (rsT [4]) K) ([x0, x1] ++ List.replicate 17 undefV) H) : BCall AP n_slices_IndexFunc_string_string [x0, x1] H K := k_slices_IndexFunc_string_string.call (by kernel_rfl) h
/-- slices.IndexFunc[[]tryst/api.Wait,tryst/api.Wait]: 19 slots -/
def c_slices_IndexFunc_api_Wait_api_Wait : AC := .seq (.ops [⟨some 4, .mv (.c (.int .i64 0)), none⟩])
  (.seq (.seq (.ops [⟨some 6, .mv (.t 0), none⟩,
    ⟨some 7, .len 1 (.t 6), none⟩,
    ⟨some 8, .mv (.c (.int .i64 0)), none⟩])
  (.block 0 (.loop (.seq (.ops [⟨some 9, .bin .lss (.t 8) (.t 7), none⟩])
  (.seq (.cond (.t 9) (.skip) (.exit 0))
  (.seq (.block 1 (.seq (.ops [⟨some 10, .mv (.t 8), none⟩,
    ⟨some 5, .mv (.t 10), none⟩])
  (.seq (.ops [⟨some 11, .mv (.t 1), none⟩,
    ⟨some 12, .mv (.t 0), none⟩,
    ⟨some 13, .mv (.t 5), none⟩,
    ⟨some 14, .iad 2 true (.t 12) (.t 13), none⟩,
    ⟨some 15, .load 2 true (.t 14), none⟩,
    ⟨some 16, .call (.t 11) [(.t 15)], none⟩])
  (.cond (.t 16) (.seq (.ops [⟨some 17, .mv (.t 5), none⟩,
    ⟨some 4, .mv (.t 17), none⟩])
  (.ret)) (.skip)))))
  (.ops [⟨some 18, .bin .add (.t 8) (.c (.int .i64 1)), none⟩,
    ⟨some 8, .mv (.t 18), none⟩])))))))
  (.seq (.ops [⟨some 4, .mv (.c (.int .i64 (-1))), none⟩])
  (.ret)))
theorem k_slices_IndexFunc_api_Wait_api_Wait : FnIs AP n_slices_IndexFunc_api_Wait_api_Wait c_slices_IndexFunc_api_Wait_api_Wait 19 (rsT [4]) := fnIs_of (fn := Go.Proofs.Try.f49) Go.Proofs.Try.func49 (by kernel_rfl) (by kernel_rfl) (by kernel_rfl) (by kernel_rfl) (by kernel_rfl)
theorem a_slices_IndexFunc_api_Wait_api_Wait {x0 x1 : V} {H : List Entry} {K : KV} (h : Wf H → awp AP H.length c_slices_IndexFunc_api_Wait_api_Wait (finW H.length (rsT [4]) K) ([x0, x1] ++ List.replicate 17 undefV) H) : BCall AP n_slices_IndexFunc_api_Wait_api_Wait [x0, x1] H K := k_slices_IndexFunc_api_Wait_api_Wait.call (by kernel_rfl) h
/-- math/bits.Mul: 30 slots -/
def c_math_bits_Mul : AC := .seq (.ops [⟨some 4, .mv (.c (.int .u64 0)), none⟩,
    ⟨some 5, .mv (.c (.int .u64 0)), none⟩])
  (.seq (.cond (.c (.bool false)) (.seq (.ops [⟨some 11, .mv (.t 0), none⟩,
    ⟨some 12, .cvi .u32 (.t 11), none⟩,
    ⟨some 13, .mv (.t 1), none⟩,
    ⟨some 14, .cvi .u32 (.t 13), none⟩,
    ⟨some 15, .call (.c (.fn n_math_bits_Mul32 [] [])) [(.t 12), (.t 14)], none⟩,
    ⟨some 10, .mv (.t 15), none⟩,
    ⟨some 16, .ext (.t 10) 0, none⟩,
    ⟨some 17, .ext (.t 10) 1, none⟩,
    ⟨some 6, .mv (.t 16), none⟩,
    ⟨some 7, .mv (.t 17), none⟩])
  (.seq (.ops [⟨some 18, .mv (.t 6), none⟩,
    ⟨some 19, .cvi .u64 (.t 18), none⟩,
    ⟨some 20, .mv (.t 7), none⟩,
    ⟨some 21, .cvi .u64 (.t 20), none⟩,
    ⟨some 4, .mv (.t 19), none⟩,
    ⟨some 5, .mv (.t 21), none⟩])
  (.ret))) (.skip))
  (.seq (.ops [⟨some 23, .mv (.t 0), none⟩,
    ⟨some 24, .mv (.t 1), none⟩,
    ⟨some 25, .call (.c (.fn n_math_bits_Mul64 [] [])) [(.t 23), (.t 24)], none⟩,
    ⟨some 22, .mv (.t 25), none⟩,
    ⟨some 26, .ext (.t 22) 0, none⟩,
    ⟨some 27, .ext (.t 22) 1, none⟩,
    ⟨some 8, .mv (.t 26), none⟩,
    ⟨some 9, .mv (.t 27), none⟩])
  (.seq (.ops [⟨some 28, .mv (.t 8), none⟩,
    ⟨some 29, .mv (.t 9), none⟩,
    ⟨some 4, .mv (.t 28), none⟩,
    ⟨some 5, .mv (.t 29), none⟩])
  (.ret))))
theorem k_math_bits_Mul : FnIs AP n_math_bits_Mul c_math_bits_Mul 30 (rsT [4, 5]) := fnIs_of (fn := Go.Proofs.Try.f50) Go.Proofs.Try.func50 (by kernel_rfl) (by kernel_rfl) (by kernel_rfl) (by kernel_rfl) (by kernel_rfl)
theorem a_math_bits_Mul {x0 x1 : V} {H : List Entry} {K : KV} (h : Wf H → awp AP H.length c_math_bits_Mul (finW H.length (rsT [4, 5]) K) ([x0, x1] ++ List.replicate 28 undefV) H) : BCall AP n_math_bits_Mul [x0, x1] H K := k_math_bits_Mul.call (by kernel_rfl) h
/-- strings.HasPrefix: 8 slots -/
def c_strings_HasPrefix : AC := .seq (.ops [⟨some 4, .mv (.c (.bool false)), none⟩])
  (.seq (.ops [⟨some 5, .mv (.t 0), none⟩,
    ⟨some 6, .mv (.t 1), none⟩,
    ⟨some 7, .call (.c (.fn n_internal_stringslite_HasPrefix [] [])) [(.t 5), (.t 6)], none⟩,
    ⟨some 4, .mv (.t 7), none⟩])
  (.ret))
theorem k_strings_HasPrefix : FnIs AP n_strings_HasPrefix c_strings_HasPrefix 8 (rsT [4]) := fnIs_of (fn := Go.Proofs.Try.f51) Go.Proofs.Try.func51 (by kernel_rfl) (by kernel_rfl) (by kernel_rfl) (by kernel_rfl) (by kernel_rfl)
theorem a_strings_HasPrefix {x0 x1 : V} {H : List Entry} {K : KV} (h : Wf H → awp AP H.length c_strings_HasPrefix (finW H.length (rsT [4]) K) ([x0, x1] ++ List.replicate 6 undefV) H) : BCall AP n_strings_HasPrefix [x0, x1] H K := k_strings_HasPrefix.call (by kernel_rfl) h
/-- (*strings.Builder).Len: 8 slots -/
def c_strings_Builder_Len : AC := .seq (.ops [⟨some 2, .mv (.c (.int .i64 0)), none⟩])
  (.seq (.ops [⟨some 3, .mv (.t 0), none⟩,
    ⟨some 4, .nck (.t 3), none⟩,
    ⟨some 5, .fad 1 (.t 4), none⟩,
    ⟨some 6, .load 1 false (.t 5), none⟩,
    ⟨some 7, .len 1 (.t 6), none⟩,
    ⟨some 2, .mv (.t 7), none⟩])
  (.ret))
theorem k_strings_Builder_Len : FnIs AP n_strings_Builder_Len c_strings_Builder_Len 8 (rsT [2]) := fnIs_of (fn := Go.Proofs.Try.f52) Go.Proofs.Try.func52 (by kernel_rfl) (by kernel_rfl) (by kernel_rfl) (by kernel_rfl) (by kernel_rfl)
theorem a_strings_Builder_Len {x0 : V} {H : List Entry} {K : KV} (h : Wf H → awp AP H.length c_strings_Builder_Len (finW H.length (rsT [2]) K) ([x0] ++ List.replicate 7 undefV) H) : BCall AP n_strings_Builder_Len [x0] H K := k_strings_Builder_Len.call (by kernel_rfl) h
/-- (tryst/disk.loss).keeps: 12 slots -/
def c_disk_loss_keeps : AC := .seq (.ops [⟨some 2, .box (.t 0), none⟩,
    ⟨some 4, .mv (.c (.bool false)), none⟩])
  (.seq (.ops [⟨some 5, .fad 0 (.t 2), none⟩,
    ⟨some 6, .load 1 false (.t 5), none⟩,
    ⟨some 7, .mv (.t 1), none⟩,
    ⟨some 8, .bin .rem (.t 7) (.c (.int .i64 64)), none⟩,
    ⟨some 9, .bin .shr (.t 6) (.t 8), none⟩,
    ⟨some 10, .bin .and (.t 9) (.c (.int .u64 1)), none⟩,
    ⟨some 11, .bin .eql (.t 10) (.c (.int .u64 1)), none⟩,
    ⟨some 4, .mv (.t 11), none⟩])
  (.ret))
theorem k_disk_loss_keeps : FnIs AP n_disk_loss_keeps c_disk_loss_keeps 12 (rsT [4]) := fnIs_of (fn := Go.Proofs.Try.f53) Go.Proofs.Try.func53 (by kernel_rfl) (by kernel_rfl) (by kernel_rfl) (by kernel_rfl) (by kernel_rfl)
theorem a_disk_loss_keeps {x0 x1 : V} {H : List Entry} {K : KV} (h : Wf H → awp AP H.length c_disk_loss_keeps (finW H.length (rsT [4]) K) ([x0, x1] ++ List.replicate 10 undefV) H) : BCall AP n_disk_loss_keeps [x0, x1] H K := k_disk_loss_keeps.call (by kernel_rfl) h
/-- (*strings.Builder).copyCheck: 20 slots -/
def c_strings_Builder_copyCheck : AC := .seq (.ops [⟨some 2, .mv (.t 0), none⟩,
    ⟨some 3, .nck (.t 2), none⟩,
    ⟨some 4, .fad 0 (.t 3), none⟩,
    ⟨some 5, .load 1 false (.t 4), none⟩,
    ⟨some 6, .cnil 1 false (.t 5) (.c (.nilp)), none⟩])
  (.cond (.t 6) (.bad) (.seq (.ops [⟨some 14, .mv (.t 0), none⟩,
    ⟨some 15, .nck (.t 14), none⟩,
    ⟨some 16, .fad 0 (.t 15), none⟩,
    ⟨some 17, .load 1 false (.t 16), none⟩,
    ⟨some 18, .mv (.t 0), none⟩,
    ⟨some 19, .cnil 1 true (.t 17) (.t 18), none⟩])
  (.cond (.t 19) (.bad) (.skip))))
theorem k_strings_Builder_copyCheck : FnIs AP n_strings_Builder_copyCheck c_strings_Builder_copyCheck 20 (rsT []) := fnIs_of (fn := Go.Proofs.Try.f54) Go.Proofs.Try.func54 (by kernel_rfl) (by kernel_rfl) (by kernel_rfl) (by kernel_rfl) (by kernel_rfl)
theorem a_strings_Builder_copyCheck {x0 : V} {H : List Entry} {K : KV} (h : Wf H → awp AP H.length c_strings_Builder_copyCheck (finW H.length (rsT []) K) ([x0] ++ List.replicate 19 undefV) H) : BCall AP n_strings_Builder_copyCheck [x0] H K := k_strings_Builder_copyCheck.call (by kernel_rfl) h
-- 54 (*strings.Builder).copyCheck: [builder.go:39, builder.go:39, refuse]
/-- (*strings.Builder).grow: 30 slots -/
def c_strings_Builder_grow : AC := .seq (.bad)
  (.seq (.ops [⟨some 20, .mv (.t 4), none⟩,
    ⟨some 21, .mv (.t 0), none⟩,
    ⟨some 22, .nck (.t 21), none⟩,
    ⟨some 23, .fad 1 (.t 22), none⟩,
    ⟨some 24, .load 1 false (.t 23), none⟩,
    ⟨some 25, .copy 1 (.t 20) (.t 24), none⟩])
  (.ops [⟨some 26, .mv (.t 0), none⟩,
    ⟨some 27, .mv (.t 4), none⟩,
    ⟨some 28, .nck (.t 26), none⟩,
    ⟨some 29, .fad 1 (.t 28), none⟩,
    ⟨none, .store 1 (.t 29) (.t 27), none⟩]))
theorem k_strings_Builder_grow : FnIs AP n_strings_Builder_grow c_strings_Builder_grow 30 (rsT []) := fnIs_of (fn := Go.Proofs.Try.f55) Go.Proofs.Try.func55 (by kernel_rfl) (by kernel_rfl) (by kernel_rfl) (by kernel_rfl) (by kernel_rfl)
theorem a_strings_Builder_grow {x0 x1 : V} {H : List Entry} {K : KV} (h : Wf H → awp AP H.length c_strings_Builder_grow (finW H.length (rsT []) K) ([x0, x1] ++ List.replicate 28 undefV) H) : BCall AP n_strings_Builder_grow [x0, x1] H K := k_strings_Builder_grow.call (by kernel_rfl) h
-- 55 (*strings.Builder).grow: [builder.go:67]
/-- math/bits.Mul32: 17 slots -/
def c_math_bits_Mul32 : AC := .seq (.ops [⟨some 4, .mv (.c (.int .u32 0)), none⟩,
    ⟨some 5, .mv (.c (.int .u32 0)), none⟩])
  (.seq (.ops [⟨some 7, .mv (.t 0), none⟩,
    ⟨some 8, .cvi .u64 (.t 7), none⟩,
    ⟨some 9, .mv (.t 1), none⟩,
    ⟨some 10, .cvi .u64 (.t 9), none⟩,
    ⟨some 11, .bin .mul (.t 8) (.t 10), none⟩,
    ⟨some 6, .mv (.t 11), none⟩])
  (.seq (.ops [⟨some 12, .mv (.t 6), none⟩,
    ⟨some 13, .bin .shr (.t 12) (.c (.int .u64 32)), none⟩,
    ⟨some 14, .cvi .u32 (.t 13), none⟩,
    ⟨some 15, .mv (.t 6), none⟩,
    ⟨some 16, .cvi .u32 (.t 15), none⟩,
    ⟨some 4, .mv (.t 14), none⟩,
    ⟨some 5, .mv (.t 16), none⟩])
  (.ret)))
theorem k_math_bits_Mul32 : FnIs AP n_math_bits_Mul32 c_math_bits_Mul32 17 (rsT [4, 5]) := fnIs_of (fn := Go.Proofs.Try.f56) Go.Proofs.Try.func56 (by kernel_rfl) (by kernel_rfl) (by kernel_rfl) (by kernel_rfl) (by kernel_rfl)
theorem a_math_bits_Mul32 {x0 x1 : V} {H : List Entry} {K : KV} (h : Wf H → awp AP H.length c_math_bits_Mul32 (finW H.length (rsT [4, 5]) K) ([x0, x1] ++ List.replicate 15 undefV) H) : BCall AP n_math_bits_Mul32 [x0, x1] H K := k_math_bits_Mul32.call (by kernel_rfl) h
/-- math/bits.Mul64: 51 slots -/
def c_math_bits_Mul64 : AC := .seq (.ops [⟨some 4, .mv (.c (.int .u64 0)), none⟩,
    ⟨some 5, .mv (.c (.int .u64 0)), none⟩])
  (.seq (.ops [⟨some 14, .mv (.t 0), none⟩,
    ⟨some 15, .bin .and (.t 14) (.c (.int .u64 4294967295)), none⟩,
    ⟨some 6, .mv (.t 15), none⟩])
  (.seq (.ops [⟨some 16, .mv (.t 0), none⟩,
    ⟨some 17, .bin .shr (.t 16) (.c (.int .u64 32)), none⟩,
    ⟨some 7, .mv (.t 17), none⟩])
  (.seq (.ops [⟨some 18, .mv (.t 1), none⟩,
    ⟨some 19, .bin .and (.t 18) (.c (.int .u64 4294967295)), none⟩,
    ⟨some 8, .mv (.t 19), none⟩])
  (.seq (.ops [⟨some 20, .mv (.t 1), none⟩,
    ⟨some 21, .bin .shr (.t 20) (.c (.int .u64 32)), none⟩,
    ⟨some 9, .mv (.t 21), none⟩])
  (.seq (.ops [⟨some 22, .mv (.t 6), none⟩,
    ⟨some 23, .mv (.t 8), none⟩,
    ⟨some 24, .bin .mul (.t 22) (.t 23), none⟩,
    ⟨some 10, .mv (.t 24), none⟩])
  (.seq (.ops [⟨some 25, .mv (.t 7), none⟩,
    ⟨some 26, .mv (.t 8), none⟩,
    ⟨some 27, .bin .mul (.t 25) (.t 26), none⟩,
    ⟨some 28, .mv (.t 10), none⟩,
    ⟨some 29, .bin .shr (.t 28) (.c (.int .u64 32)), none⟩,
    ⟨some 30, .bin .add (.t 27) (.t 29), none⟩,
    ⟨some 11, .mv (.t 30), none⟩])
  (.seq (.ops [⟨some 31, .mv (.t 11), none⟩,
    ⟨some 32, .bin .and (.t 31) (.c (.int .u64 4294967295)), none⟩,
    ⟨some 12, .mv (.t 32), none⟩])
  (.seq (.ops [⟨some 33, .mv (.t 11), none⟩,
    ⟨some 34, .bin .shr (.t 33) (.c (.int .u64 32)), none⟩,
    ⟨some 13, .mv (.t 34), none⟩])
  (.seq (.ops [⟨some 35, .mv (.t 12), none⟩,
    ⟨some 36, .mv (.t 6), none⟩,
    ⟨some 37, .mv (.t 9), none⟩,
    ⟨some 38, .bin .mul (.t 36) (.t 37), none⟩,
    ⟨some 39, .bin .add (.t 35) (.t 38), none⟩,
    ⟨some 12, .mv (.t 39), none⟩])
  (.seq (.ops [⟨some 40, .mv (.t 7), none⟩,
    ⟨some 41, .mv (.t 9), none⟩,
    ⟨some 42, .bin .mul (.t 40) (.t 41), none⟩,
    ⟨some 43, .mv (.t 13), none⟩,
    ⟨some 44, .bin .add (.t 42) (.t 43), none⟩,
    ⟨some 45, .mv (.t 12), none⟩,
    ⟨some 46, .bin .shr (.t 45) (.c (.int .u64 32)), none⟩,
    ⟨some 47, .bin .add (.t 44) (.t 46), none⟩,
    ⟨some 4, .mv (.t 47), none⟩])
  (.seq (.ops [⟨some 48, .mv (.t 0), none⟩,
    ⟨some 49, .mv (.t 1), none⟩,
    ⟨some 50, .bin .mul (.t 48) (.t 49), none⟩,
    ⟨some 5, .mv (.t 50), none⟩])
  (.ret))))))))))))
theorem k_math_bits_Mul64 : FnIs AP n_math_bits_Mul64 c_math_bits_Mul64 51 (rsT [4, 5]) := fnIs_of (fn := Go.Proofs.Try.f57) Go.Proofs.Try.func57 (by kernel_rfl) (by kernel_rfl) (by kernel_rfl) (by kernel_rfl) (by kernel_rfl)
theorem a_math_bits_Mul64 {x0 x1 : V} {H : List Entry} {K : KV} (h : Wf H → awp AP H.length c_math_bits_Mul64 (finW H.length (rsT [4, 5]) K) ([x0, x1] ++ List.replicate 49 undefV) H) : BCall AP n_math_bits_Mul64 [x0, x1] H K := k_math_bits_Mul64.call (by kernel_rfl) h
/-- internal/stringslite.HasPrefix: 18 slots -/
def c_internal_stringslite_HasPrefix : AC := .seq (.ops [⟨some 4, .mv (.c (.bool false)), none⟩])
  (.seq (.ops [⟨some 5, .mv (.t 0), none⟩,
    ⟨some 6, .len 0 (.t 5), none⟩,
    ⟨some 7, .mv (.t 1), none⟩,
    ⟨some 8, .len 0 (.t 7), none⟩,
    ⟨some 9, .bin .geq (.t 6) (.t 8), none⟩,
    ⟨some 10, .mv (.t 9), none⟩,
    ⟨some 11, .mv (.t 0), some (10, true)⟩,
    ⟨some 12, .mv (.t 1), some (10, true)⟩,
    ⟨some 13, .len 0 (.t 12), some (10, true)⟩,
    ⟨some 14, .sls (.t 11) none (some (.t 13)), some (10, true)⟩,
    ⟨some 15, .mv (.t 1), some (10, true)⟩,
    ⟨some 16, .bin .eql (.t 14) (.t 15), some (10, true)⟩,
    ⟨some 17, .pick (.t 10) (.t 16) (.c (.bool false)), none⟩,
    ⟨some 4, .mv (.t 17), none⟩])
  (.ret))
theorem k_internal_stringslite_HasPrefix : FnIs AP n_internal_stringslite_HasPrefix c_internal_stringslite_HasPrefix 18 (rsT [4]) := fnIs_of (fn := Go.Proofs.Try.f58) Go.Proofs.Try.func58 (by kernel_rfl) (by kernel_rfl) (by kernel_rfl) (by kernel_rfl) (by kernel_rfl)
theorem a_internal_stringslite_HasPrefix {x0 x1 : V} {H : List Entry} {K : KV} (h : Wf H → awp AP H.length c_internal_stringslite_HasPrefix (finW H.length (rsT [4]) K) ([x0, x1] ++ List.replicate 16 undefV) H) : BCall AP n_internal_stringslite_HasPrefix [x0, x1] H K := k_internal_stringslite_HasPrefix.call (by kernel_rfl) h
def tab : List (FuncId × Fn) := [(n_trystlaw17_DiskReads, ⟨c_trystlaw17_DiskReads, 85, (rsT [6])⟩), (n_trystlaw17_DiskWrites, ⟨c_trystlaw17_DiskWrites, 72, (rsT [6])⟩), (n_trystlaw17_DiskCrashes, ⟨c_trystlaw17_DiskCrashes, 64, (rsT [6])⟩), (n_trystlaw17_DiskHolds, ⟨c_trystlaw17_DiskHolds, 192, (rsT [6])⟩), (n_trystlaw17_DiskFuels, ⟨c_trystlaw17_DiskFuels, 124, (rsT [4])⟩), (n_trystlaw17_DiskTears, ⟨c_trystlaw17_DiskTears, 93, (rsT [6])⟩), (n_trystlaw17_Few, ⟨c_trystlaw17_Few, 34, [.cell 2 4 true]⟩), (n_disk_Read, ⟨c_disk_Read, 62, (rsT [6, 7])⟩), (n_trystref17_Read, ⟨c_trystref17_Read, 51, (rsT [6, 7])⟩), (n_disk_May, ⟨c_disk_May, 29, (rsT [2])⟩), (n_trystref17_May, ⟨c_trystref17_May, 78, (rsT [2])⟩), (n_disk_New, ⟨c_disk_New, 15, [.cell 2 4 true, .tmp 3]⟩), (n_trystlaw17_awake, ⟨c_trystlaw17_awake, 76, (rsT [0])⟩), (n_trystref17_Same, ⟨c_trystref17_Same, 73, (rsT [4])⟩), (n_trystref17_New, ⟨c_trystref17_New, 18, [.cell 2 4 true]⟩), (n_trystlaw17_octets, ⟨c_trystlaw17_octets, 9, (rsT [2])⟩), (n_trystlaw17_own, ⟨c_trystlaw17_own, 14, [.cell 2 4 true]⟩), (n_disk_Write, ⟨c_disk_Write, 62, [.cell 6 4 true, .tmp 7]⟩), (n_trystref17_Write, ⟨c_trystref17_Write, 81, [.cell 6 4 true, .tmp 7]⟩), (n_disk_Flush, ⟨c_disk_Flush, 13, [.cell 2 4 true, .tmp 3]⟩), (n_trystref17_Flush, ⟨c_trystref17_Flush, 38, [.cell 2 4 true, .tmp 3]⟩), (n_disk_Fuel, ⟨c_disk_Fuel, 17, [.cell 4 4 true, .tmp 5]⟩), (n_disk_Crash, ⟨c_disk_Crash, 18, [.cell 4 4 true]⟩), (n_trystref17_Crash, ⟨c_trystref17_Crash, 87, [.cell 4 4 true]⟩), (n_trystlaw17_All, ⟨c_trystlaw17_All, 22, (rsT [4])⟩), (n_disk_hasCells, ⟨c_disk_hasCells, 29, (rsT [6])⟩), (n_strings_Join, ⟨c_strings_Join, 75, (rsT [4])⟩), (n_trystref17_cell, ⟨c_trystref17_cell, 33, (rsT [4])⟩), (n_disk_May_1, ⟨c_disk_May_1, 6, (rsT [2])⟩), (n_disk_May_2, ⟨c_disk_May_2, 16, (rsT [4])⟩), (n_disk_isCount, ⟨c_disk_isCount, 9, (rsT [2])⟩), (n_slices_ContainsFunc_string_string, ⟨c_slices_ContainsFunc_string_string, 9, (rsT [4])⟩), (n_slices_ContainsFunc_api_Wait_api_Wait, ⟨c_slices_ContainsFunc_api_Wait_api_Wait, 9, (rsT [4])⟩), (n_strings_Repeat, ⟨c_strings_Repeat, 125, (rsT [4])⟩), (n_slices_Repeat_string_string, ⟨c_slices_Repeat_string_string, 48, (rsT [4])⟩), (n_trystref17_Blank, ⟨c_trystref17_Blank, 7, (rsT [2])⟩), (n_slices_Clone_api_Wait_api_Wait, ⟨c_slices_Clone_api_Wait_api_Wait, 8, (rsT [2])⟩), (n_disk_burn, ⟨c_disk_burn, 29, (rsT [2])⟩), (n_trystref17_burns, ⟨c_trystref17_burns, 21, [.cell 2 4 true, .tmp 3]⟩), (n_disk_settled, ⟨c_disk_settled, 43, [.cell 4 4 true]⟩), (n_disk_Flush_1, ⟨c_disk_Flush_1, 8, (rsT [6])⟩), (n_disk_loss_after, ⟨c_disk_loss_after, 30, (rsT [8])⟩), (n_strings_Builder_Grow, ⟨c_strings_Builder_Grow, 25, (rsT [])⟩), (n_strings_Builder_WriteString, ⟨c_strings_Builder_WriteString, 19, (rsT [4, 5])⟩), (n_strings_Builder_String, ⟨c_strings_Builder_String, 14, (rsT [2])⟩), (n_slices_IndexFunc_string_string, ⟨c_slices_IndexFunc_string_string, 19, (rsT [4])⟩), (n_slices_IndexFunc_api_Wait_api_Wait, ⟨c_slices_IndexFunc_api_Wait_api_Wait, 19, (rsT [4])⟩), (n_math_bits_Mul, ⟨c_math_bits_Mul, 30, (rsT [4, 5])⟩), (n_strings_HasPrefix, ⟨c_strings_HasPrefix, 8, (rsT [4])⟩), (n_strings_Builder_Len, ⟨c_strings_Builder_Len, 8, (rsT [2])⟩), (n_disk_loss_keeps, ⟨c_disk_loss_keeps, 12, (rsT [4])⟩), (n_strings_Builder_copyCheck, ⟨c_strings_Builder_copyCheck, 20, (rsT [])⟩), (n_strings_Builder_grow, ⟨c_strings_Builder_grow, 30, (rsT [])⟩), (n_math_bits_Mul32, ⟨c_math_bits_Mul32, 17, (rsT [4, 5])⟩), (n_math_bits_Mul64, ⟨c_math_bits_Mul64, 51, (rsT [4, 5])⟩), (n_internal_stringslite_HasPrefix, ⟨c_internal_stringslite_HasPrefix, 18, (rsT [4])⟩)]
theorem tabOk : TabOk AP tab := ⟨k_trystlaw17_DiskReads, k_trystlaw17_DiskWrites, k_trystlaw17_DiskCrashes, k_trystlaw17_DiskHolds, k_trystlaw17_DiskFuels, k_trystlaw17_DiskTears, k_trystlaw17_Few, k_disk_Read, k_trystref17_Read, k_disk_May, k_trystref17_May, k_disk_New, k_trystlaw17_awake, k_trystref17_Same, k_trystref17_New, k_trystlaw17_octets, k_trystlaw17_own, k_disk_Write, k_trystref17_Write, k_disk_Flush, k_trystref17_Flush, k_disk_Fuel, k_disk_Crash, k_trystref17_Crash, k_trystlaw17_All, k_disk_hasCells, k_strings_Join, k_trystref17_cell, k_disk_May_1, k_disk_May_2, k_disk_isCount, k_slices_ContainsFunc_string_string, k_slices_ContainsFunc_api_Wait_api_Wait, k_strings_Repeat, k_slices_Repeat_string_string, k_trystref17_Blank, k_slices_Clone_api_Wait_api_Wait, k_disk_burn, k_trystref17_burns, k_disk_settled, k_disk_Flush_1, k_disk_loss_after, k_strings_Builder_Grow, k_strings_Builder_WriteString, k_strings_Builder_String, k_slices_IndexFunc_string_string, k_slices_IndexFunc_api_Wait_api_Wait, k_math_bits_Mul, k_strings_HasPrefix, k_strings_Builder_Len, k_disk_loss_keeps, k_strings_Builder_copyCheck, k_strings_Builder_grow, k_math_bits_Mul32, k_math_bits_Mul64, k_internal_stringslite_HasPrefix, trivial⟩
end
end Go.Av
