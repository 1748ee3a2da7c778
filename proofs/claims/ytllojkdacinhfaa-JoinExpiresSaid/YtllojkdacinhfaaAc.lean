/- A part of a way to reckon what a Go program does without its memory (Ac). -/
import Derived.Test.YtllojkdacinhfaaAvRun
import Derived.Test.YtllojkdacinhfaaProg
namespace Go.Av
open Go
set_option autoImplicit false
set_option linter.all false
noncomputable section
noncomputable abbrev AP : Program := Go.Proofs.Try.prog
abbrev n_gosem_cut_init : FuncId := 2
abbrev n_trystlaw09_JoinFeeds : FuncId := 3
abbrev n_trystlaw09_JoinExpires : FuncId := 4
abbrev n_trystlaw09_JoinOnce : FuncId := 5
abbrev n_trystlaw09_JoinWaits : FuncId := 6
abbrev n_trystlaw09_JoinLate : FuncId := 7
abbrev n_trystlaw09_JoinAll : FuncId := 8
abbrev n_trystlaw09_JoinBound : FuncId := 9
abbrev n_trystlaw09_JoinAny : FuncId := 10
abbrev n_trystlaw09_Kind : FuncId := 11
abbrev n_trystlaw09_Few : FuncId := 12
abbrev n_join_Feed : FuncId := 13
abbrev n_trystref09_Feed : FuncId := 14
abbrev n_trystref09_Same : FuncId := 15
abbrev n_join_May : FuncId := 16
abbrev n_trystref09_May : FuncId := 17
abbrev n_join_Check : FuncId := 18
abbrev n_trystref09_Check : FuncId := 19
abbrev n_trystlaw09_awake : FuncId := 20
abbrev n_join_Expire : FuncId := 21
abbrev n_trystref09_Expire : FuncId := 22
abbrev n_join_mayKept : FuncId := 23
abbrev n_join_isLate : FuncId := 24
abbrev n_join_hasId : FuncId := 25
abbrev n_join_meeting : FuncId := 26
abbrev n_join_taken : FuncId := 27
abbrev n_trystref09_Firing : FuncId := 28
abbrev n_join_mayNeed : FuncId := 29
abbrev n_join_mayWait : FuncId := 30
abbrev n_join_isTime : FuncId := 31
abbrev n_list_Place_api_Kept : FuncId := 32
abbrev n_join_Expire_1 : FuncId := 33
abbrev n_slices_Clone_api_Kept_api_Kept : FuncId := 34
abbrev n_slices_ContainsFunc_api_Kept_api_Kept : FuncId := 35
abbrev n_join_hasId_1 : FuncId := 36
abbrev n_join_meeting_1 : FuncId := 37
abbrev n_join_firstOfEach : FuncId := 38
abbrev n_join_meeting_2 : FuncId := 39
abbrev n_join_first : FuncId := 40
abbrev n_join_meeting_3 : FuncId := 41
abbrev n_join_mayWait_1 : FuncId := 42
abbrev n_slices_IndexFunc_api_Kept_api_Kept : FuncId := 43
abbrev n_join_firstOfEach_1 : FuncId := 44
abbrev n_slices_Sort_int_int : FuncId := 45
abbrev n_slices_pdqsortOrdered_int : FuncId := 46
abbrev n_math_bits_Len : FuncId := 47
abbrev n_slices_insertionSortOrdered_int : FuncId := 48
abbrev n_slices_heapSortOrdered_int : FuncId := 49
abbrev n_slices_breakPatternsOrdered_int : FuncId := 50
abbrev n_slices_choosePivotOrdered_int : FuncId := 51
abbrev n_slices_reverseRangeOrdered_int : FuncId := 52
abbrev n_slices_partialInsertionSortOrdered_int : FuncId := 53
abbrev n_cmp_Less_int : FuncId := 54
abbrev n_slices_partitionEqualOrdered_int : FuncId := 55
abbrev n_slices_partitionOrdered_int : FuncId := 56
abbrev n_math_bits_Len32 : FuncId := 57
abbrev n_math_bits_Len64 : FuncId := 58
abbrev n_slices_siftDownOrdered_int : FuncId := 59
abbrev n_slices_nextPowerOfTwo : FuncId := 60
abbrev n_slices_xorshift_Next : FuncId := 61
abbrev n_slices_medianAdjacentOrdered_int : FuncId := 62
abbrev n_slices_medianOrdered_int : FuncId := 63
abbrev n_cmp_isNaN_int : FuncId := 64
abbrev n_slices_order2Ordered_int : FuncId := 65
/-- tryst/trystlaw09.JoinFeeds: 83 slots -/
def c_trystlaw09_JoinFeeds : AC := .seq (.ops [⟨some 3, .box (.t 0), none⟩,
    ⟨some 5, .box (.t 2), none⟩,
    ⟨some 6, .mv (.c (.bool false)), none⟩])
  (.seq (.ops [⟨some 16, .load 4 true (.t 3), none⟩,
    ⟨some 17, .call (.c (.fn n_trystlaw09_Kind [] [])) [(.t 16)], none⟩,
    ⟨some 18, .mv (.t 1), none⟩,
    ⟨some 19, .call (.c (.fn n_trystlaw09_Few [] [])) [(.t 18)], none⟩,
    ⟨none, .store 4 (.t 3) (.t 17), none⟩,
    ⟨some 1, .mv (.t 19), none⟩])
  (.seq (.ops [⟨some 20, .mv (.t 1), none⟩,
    ⟨some 21, .call (.c (.fn n_trystlaw09_Few [] [])) [(.t 20)], none⟩,
    ⟨some 7, .mv (.t 21), none⟩])
  (.seq (.ops [⟨some 23, .load 4 true (.t 3), none⟩,
    ⟨some 24, .mv (.t 1), none⟩,
    ⟨some 25, .load 3 true (.t 5), none⟩,
    ⟨some 26, .call (.c (.fn n_join_Feed [] [])) [(.t 23), (.t 24), (.t 25)], none⟩,
    ⟨some 22, .mv (.t 26), none⟩,
    ⟨some 27, .ext (.t 22) 0, none⟩,
    ⟨some 28, .ext (.t 22) 1, none⟩,
    ⟨some 29, .ext (.t 22) 2, none⟩,
    ⟨some 30, .ext (.t 22) 3, none⟩,
    ⟨some 8, .mv (.t 27), none⟩,
    ⟨some 9, .mv (.t 28), none⟩,
    ⟨some 10, .mv (.t 29), none⟩,
    ⟨some 11, .mv (.t 30), none⟩])
  (.seq (.ops [⟨some 32, .load 4 true (.t 3), none⟩,
    ⟨some 33, .mv (.t 1), none⟩,
    ⟨some 34, .load 3 true (.t 5), none⟩,
    ⟨some 35, .call (.c (.fn n_trystref09_Feed [] [])) [(.t 32), (.t 33), (.t 34)], none⟩,
    ⟨some 31, .mv (.t 35), none⟩,
    ⟨some 36, .ext (.t 31) 0, none⟩,
    ⟨some 37, .ext (.t 31) 1, none⟩,
    ⟨some 38, .ext (.t 31) 2, none⟩,
    ⟨some 39, .ext (.t 31) 3, none⟩,
    ⟨some 12, .mv (.t 36), none⟩,
    ⟨some 13, .mv (.t 37), none⟩,
    ⟨some 14, .mv (.t 38), none⟩,
    ⟨some 15, .mv (.t 39), none⟩])
  (.seq (.draw [⟨some 40, .mv (.t 8), none⟩,
    ⟨some 41, .mv (.t 12), none⟩,
    ⟨some 42, .dcall (.c (.fn n_trystref09_Same [] [])) [(.t 40), (.t 41)], none⟩,
    ⟨some 43, .mv (.t 42), none⟩,
    ⟨some 44, .mv (.t 9), some (43, true)⟩,
    ⟨some 45, .mv (.t 13), some (43, true)⟩,
    ⟨some 46, .dcall (.c (.fn n_trystref09_Same [] [])) [(.t 44), (.t 45)], some (43, true)⟩,
    ⟨some 47, .pick (.t 43) (.t 46) (.c (.bool false)), none⟩,
    ⟨some 48, .mv (.t 47), none⟩,
    ⟨some 49, .mv (.t 10), some (48, true)⟩,
    ⟨some 50, .mv (.t 14), some (48, true)⟩,
    ⟨some 51, .dcall (.c (.fn n_trystref09_Same [] [])) [(.t 49), (.t 50)], some (48, true)⟩,
    ⟨some 52, .pick (.t 48) (.t 51) (.c (.bool false)), none⟩,
    ⟨some 53, .mv (.t 52), none⟩,
    ⟨some 54, .mv (.t 11), some (53, true)⟩,
    ⟨some 55, .mv (.t 15), some (53, true)⟩,
    ⟨some 56, .bin .eql (.t 54) (.t 55), some (53, true)⟩,
    ⟨some 57, .pick (.t 53) (.t 56) (.c (.bool false)), none⟩,
    ⟨some 58, .mv (.t 57), none⟩,
    ⟨some 59, .load 4 true (.t 3), some (58, true)⟩,
    ⟨some 60, .dcall (.c (.fn n_join_May [] [])) [(.t 59)], some (58, true)⟩,
    ⟨some 61, .load 4 true (.t 3), some (58, true)⟩,
    ⟨some 62, .dcall (.c (.fn n_trystref09_May [] [])) [(.t 61)], some (58, true)⟩,
    ⟨some 63, .binb false (.t 60) (.t 62), some (58, true)⟩,
    ⟨some 64, .pick (.t 58) (.t 63) (.c (.bool false)), none⟩,
    ⟨some 65, .mv (.t 64), none⟩,
    ⟨some 66, .load 4 true (.t 3), some (65, true)⟩,
    ⟨some 67, .mv (.t 1), some (65, true)⟩,
    ⟨some 68, .dcall (.c (.fn n_join_Check [] [])) [(.t 66), (.t 67)], some (65, true)⟩,
    ⟨some 69, .bin .eql (.t 68) (.c (.int .i64 0)), some (65, true)⟩,
    ⟨some 70, .load 4 true (.t 3), some (65, true)⟩,
    ⟨some 71, .mv (.t 1), some (65, true)⟩,
    ⟨some 72, .dcall (.c (.fn n_trystref09_Check [] [])) [(.t 70), (.t 71)], some (65, true)⟩,
    ⟨some 73, .binb false (.t 69) (.t 72), some (65, true)⟩,
    ⟨some 74, .pick (.t 65) (.t 73) (.c (.bool false)), none⟩,
    ⟨some 75, .mv (.t 74), none⟩,
    ⟨some 76, .mv (.t 1), some (75, true)⟩,
    ⟨some 77, .mv (.t 7), some (75, true)⟩,
    ⟨some 78, .dcall (.c (.fn n_trystref09_Same [] [])) [(.t 76), (.t 77)], some (75, true)⟩,
    ⟨some 79, .pick (.t 75) (.t 78) (.c (.bool false)), none⟩,
    ⟨some 80, .mv (.t 79), none⟩,
    ⟨some 81, .dcall (.c (.fn n_trystlaw09_awake [] [])) [], some (80, true)⟩,
    ⟨some 82, .pick (.t 80) (.t 81) (.c (.bool false)), none⟩,
    ⟨some 6, .mv (.t 82), none⟩])
  (.ret))))))
theorem k_trystlaw09_JoinFeeds : FnIs AP n_trystlaw09_JoinFeeds c_trystlaw09_JoinFeeds 83 (rsT [6]) := fnIs_of (fn := Go.Proofs.Try.f3) Go.Proofs.Try.func3 (by kernel_rfl) (by kernel_rfl) (by kernel_rfl) (by kernel_rfl) (by kernel_rfl)
theorem a_trystlaw09_JoinFeeds {x0 x1 x2 : V} {H : List Entry} {K : KV} (h : Wf H → awp AP H.length c_trystlaw09_JoinFeeds (finW H.length (rsT [6]) K) ([x0, x1, x2] ++ List.replicate 80 undefV) H) : BCall AP n_trystlaw09_JoinFeeds [x0, x1, x2] H K := k_trystlaw09_JoinFeeds.call (by kernel_rfl) h
/-- tryst/trystlaw09.JoinExpires: 87 slots -/
def c_trystlaw09_JoinExpires : AC := .seq (.ops [⟨some 3, .box (.t 0), none⟩,
    ⟨some 6, .mv (.c (.bool false)), none⟩])
  (.seq (.ops [⟨some 12, .load 4 true (.t 3), none⟩,
    ⟨some 13, .call (.c (.fn n_trystlaw09_Kind [] [])) [(.t 12)], none⟩,
    ⟨some 14, .mv (.t 1), none⟩,
    ⟨some 15, .call (.c (.fn n_trystlaw09_Few [] [])) [(.t 14)], none⟩,
    ⟨none, .store 4 (.t 3) (.t 13), none⟩,
    ⟨some 1, .mv (.t 15), none⟩])
  (.seq (.ops [⟨some 17, .load 4 true (.t 3), none⟩,
    ⟨some 18, .mv (.t 1), none⟩,
    ⟨some 19, .mv (.t 2), none⟩,
    ⟨some 20, .call (.c (.fn n_join_Expire [] [])) [(.t 17), (.t 18), (.t 19)], none⟩,
    ⟨some 16, .mv (.t 20), none⟩,
    ⟨some 21, .ext (.t 16) 0, none⟩,
    ⟨some 22, .ext (.t 16) 1, none⟩,
    ⟨some 23, .ext (.t 16) 2, none⟩,
    ⟨some 7, .mv (.t 21), none⟩,
    ⟨some 8, .mv (.t 22), none⟩,
    ⟨some 9, .mv (.t 23), none⟩])
  (.seq (.seq (.ops [⟨some 24, .load 4 true (.t 3), none⟩,
    ⟨some 25, .mv (.t 1), none⟩,
    ⟨some 26, .call (.c (.fn n_trystref09_Check [] [])) [(.t 24), (.t 25)], none⟩,
    ⟨some 27, .un .not (.t 26), none⟩,
    ⟨some 28, .mv (.t 27), none⟩,
    ⟨some 29, .mv (.t 2), some (28, false)⟩,
    ⟨some 30, .bin .lss (.t 29) (.c (.int .i64 0)), some (28, false)⟩,
    ⟨some 31, .pick (.t 28) (.c (.bool true)) (.t 30), none⟩,
    ⟨some 32, .mv (.t 31), none⟩,
    ⟨some 33, .mv (.t 2), some (32, false)⟩,
    ⟨some 34, .bin .gtr (.t 33) (.c (.int .i64 1099511627775)), some (32, false)⟩,
    ⟨some 35, .pick (.t 32) (.c (.bool true)) (.t 34), none⟩,
    ⟨some 36, .mv (.t 35), none⟩,
    ⟨some 37, .mv (.t 1), some (36, false)⟩,
    ⟨some 38, .len 1 (.t 37), some (36, false)⟩,
    ⟨some 39, .bin .gtr (.t 38) (.c (.int .i64 0)), some (36, false)⟩,
    ⟨some 40, .mv (.t 39), some (36, false)⟩,
    ⟨some 41, .mv (.t 2), some (40, true)⟩,
    ⟨some 42, .mv (.t 1), some (40, true)⟩,
    ⟨some 43, .mv (.t 1), some (40, true)⟩,
    ⟨some 44, .len 1 (.t 43), some (40, true)⟩,
    ⟨some 45, .bin .sub (.t 44) (.c (.int .i64 1)), some (40, true)⟩,
    ⟨some 46, .iad 3 true (.t 42) (.t 45), some (40, true)⟩,
    ⟨some 47, .fad 2 (.t 46), some (40, true)⟩,
    ⟨some 48, .load 1 false (.t 47), some (40, true)⟩,
    ⟨some 49, .bin .lss (.t 41) (.t 48), some (40, true)⟩,
    ⟨some 50, .pick (.t 40) (.t 49) (.c (.bool false)), some (36, false)⟩,
    ⟨some 51, .pick (.t 36) (.c (.bool true)) (.t 50), none⟩])
  (.cond (.t 51) (.seq (.ops [⟨some 52, .mv (.t 7), none⟩,
    ⟨some 53, .len 1 (.t 52), none⟩,
    ⟨some 54, .mv (.t 8), none⟩,
    ⟨some 55, .len 1 (.t 54), none⟩,
    ⟨some 56, .bin .add (.t 53) (.t 55), none⟩,
    ⟨some 57, .bin .eql (.t 56) (.c (.int .i64 0)), none⟩,
    ⟨some 58, .mv (.t 57), none⟩,
    ⟨some 59, .mv (.t 9), some (58, true)⟩,
    ⟨some 60, .bin .eql (.t 59) (.c (.int .i64 1)), some (58, true)⟩,
    ⟨some 61, .pick (.t 58) (.t 60) (.c (.bool false)), none⟩,
    ⟨some 62, .mv (.t 61), none⟩,
    ⟨some 63, .call (.c (.fn n_trystlaw09_awake [] [])) [], some (62, true)⟩,
    ⟨some 64, .pick (.t 62) (.t 63) (.c (.bool false)), none⟩,
    ⟨some 6, .mv (.t 64), none⟩])
  (.ret)) (.skip)))
  (.seq (.ops [⟨some 66, .load 4 true (.t 3), none⟩,
    ⟨some 67, .mv (.t 1), none⟩,
    ⟨some 68, .mv (.t 2), none⟩,
    ⟨some 69, .call (.c (.fn n_trystref09_Expire [] [])) [(.t 66), (.t 67), (.t 68)], none⟩,
    ⟨some 65, .mv (.t 69), none⟩,
    ⟨some 70, .ext (.t 65) 0, none⟩,
    ⟨some 71, .ext (.t 65) 1, none⟩,
    ⟨some 10, .mv (.t 70), none⟩,
    ⟨some 11, .mv (.t 71), none⟩])
  (.seq (.ops [⟨some 72, .mv (.t 7), none⟩,
    ⟨some 73, .mv (.t 10), none⟩,
    ⟨some 74, .call (.c (.fn n_trystref09_Same [] [])) [(.t 72), (.t 73)], none⟩,
    ⟨some 75, .mv (.t 74), none⟩,
    ⟨some 76, .mv (.t 8), some (75, true)⟩,
    ⟨some 77, .mv (.t 11), some (75, true)⟩,
    ⟨some 78, .call (.c (.fn n_trystref09_Same [] [])) [(.t 76), (.t 77)], some (75, true)⟩,
    ⟨some 79, .pick (.t 75) (.t 78) (.c (.bool false)), none⟩,
    ⟨some 80, .mv (.t 79), none⟩,
    ⟨some 81, .mv (.t 9), some (80, true)⟩,
    ⟨some 82, .bin .eql (.t 81) (.c (.int .i64 0)), some (80, true)⟩,
    ⟨some 83, .pick (.t 80) (.t 82) (.c (.bool false)), none⟩,
    ⟨some 84, .mv (.t 83), none⟩,
    ⟨some 85, .call (.c (.fn n_trystlaw09_awake [] [])) [], some (84, true)⟩,
    ⟨some 86, .pick (.t 84) (.t 85) (.c (.bool false)), none⟩,
    ⟨some 6, .mv (.t 86), none⟩])
  (.ret))))))
theorem k_trystlaw09_JoinExpires : FnIs AP n_trystlaw09_JoinExpires c_trystlaw09_JoinExpires 87 (rsT [6]) := fnIs_of (fn := Go.Proofs.Try.f4) Go.Proofs.Try.func4 (by kernel_rfl) (by kernel_rfl) (by kernel_rfl) (by kernel_rfl) (by kernel_rfl)
theorem a_trystlaw09_JoinExpires {x0 x1 x2 : V} {H : List Entry} {K : KV} (h : Wf H → awp AP H.length c_trystlaw09_JoinExpires (finW H.length (rsT [6]) K) ([x0, x1, x2] ++ List.replicate 84 undefV) H) : BCall AP n_trystlaw09_JoinExpires [x0, x1, x2] H K := k_trystlaw09_JoinExpires.call (by kernel_rfl) h
-- 5 tryst/trystlaw09.JoinOnce: [law.go:90, law.go:90]
/-- tryst/trystlaw09.JoinWaits: 112 slots -/
def c_trystlaw09_JoinWaits : AC := .seq (.ops [⟨some 6, .mv (.c (.bool false)), none⟩])
  (.seq (.ops [⟨some 15, .mv (.t 0), none⟩,
    ⟨some 16, .bin .rem (.t 15) (.c (.int .u8 20)), none⟩,
    ⟨some 17, .cvi .i64 (.t 16), none⟩,
    ⟨some 18, .bin .add (.c (.int .i64 1)) (.t 17), none⟩,
    ⟨some 19, .build [.str [], .int .i64 0, .int .i64 0, .int .i64 0] [(0, 1, (.c (.str [99, 111, 117, 110, 116]))), (1, 1, (.c (.int .i64 6))), (2, 1, (.t 18)), (3, 1, (.c (.int .i64 1073741824)))], none⟩,
    ⟨some 7, .alloc [.str [], .int .i64 0, .int .i64 0, .int .i64 0], none⟩,
    ⟨none, .store 4 (.t 7) (.t 19), none⟩])
  (.seq (.ops [⟨some 8, .mv (.c (.nilsl)), none⟩])
  (.seq (.seq (.ops [⟨some 9, .mv (.c (.int .i64 0)), none⟩])
  (.block 0 (.loop (.seq (.seq (.ops [⟨some 20, .mv (.t 9), none⟩,
    ⟨some 21, .mv (.t 1), none⟩,
    ⟨some 22, .bin .rem (.t 21) (.c (.int .u8 90)), none⟩,
    ⟨some 23, .cvi .i64 (.t 22), none⟩,
    ⟨some 24, .bin .lss (.t 20) (.t 23), none⟩])
  (.cond (.t 24) (.skip) (.exit 0)))
  (.seq (.block 1 (.seq (.ops [⟨some 27, .mv (.t 9), none⟩,
    ⟨some 28, .cvi .u64 (.t 27), none⟩,
    ⟨some 29, .mv (.t 9), none⟩,
    ⟨some 30, .build [.int .i64 0, .int .u64 0, .int .i64 0] [(1, 1, (.t 28)), (2, 1, (.t 29))], none⟩,
    ⟨some 10, .alloc [.int .i64 0, .int .u64 0, .int .i64 0], none⟩,
    ⟨none, .store 3 (.t 10) (.t 30), none⟩])
  (.seq (.seq (.ops [⟨some 31, .mv (.t 9), none⟩,
    ⟨some 32, .mv (.t 2), none⟩,
    ⟨some 33, .len 1 (.t 32), none⟩,
    ⟨some 34, .bin .lss (.t 31) (.t 33), none⟩])
  (.cond (.t 34) (.ops [⟨some 35, .mv (.t 2), none⟩,
    ⟨some 36, .mv (.t 9), none⟩,
    ⟨some 37, .iad 1 false (.t 35) (.t 36), none⟩,
    ⟨some 38, .load 1 false (.t 37), none⟩,
    ⟨some 39, .bin .rem (.t 38) (.c (.int .u8 6)), none⟩,
    ⟨some 40, .cvi .i64 (.t 39), none⟩,
    ⟨some 41, .fad 0 (.t 10), none⟩,
    ⟨none, .store 1 (.t 41) (.t 40), none⟩]) (.skip)))
  (.seq (.ops [⟨some 43, .load 4 true (.t 7), none⟩,
    ⟨some 44, .mv (.t 8), none⟩,
    ⟨some 45, .load 3 true (.t 10), none⟩,
    ⟨some 46, .call (.c (.fn n_join_Feed [] [])) [(.t 43), (.t 44), (.t 45)], none⟩,
    ⟨some 42, .mv (.t 46), none⟩,
    ⟨some 47, .ext (.t 42) 0, none⟩,
    ⟨some 48, .ext (.t 42) 1, none⟩,
    ⟨some 49, .ext (.t 42) 2, none⟩,
    ⟨some 50, .ext (.t 42) 3, none⟩,
    ⟨some 11, .mv (.t 47), none⟩,
    ⟨some 12, .mv (.t 48), none⟩,
    ⟨some 13, .mv (.t 49), none⟩,
    ⟨some 14, .mv (.t 50), none⟩])
  (.seq (.seq (.ops [⟨some 51, .mv (.t 14), none⟩,
    ⟨some 52, .bin .neq (.t 51) (.c (.int .i64 0)), none⟩,
    ⟨some 53, .mv (.t 52), none⟩,
    ⟨some 54, .mv (.t 13), some (53, false)⟩,
    ⟨some 55, .len 1 (.t 54), some (53, false)⟩,
    ⟨some 56, .bin .neq (.t 55) (.c (.int .i64 0)), some (53, false)⟩,
    ⟨some 57, .pick (.t 53) (.c (.bool true)) (.t 56), none⟩])
  (.cond (.t 57) (.seq (.ops [⟨some 6, .mv (.c (.bool false)), none⟩])
  (.ret)) (.skip)))
  (.seq (.seq (.ops [⟨some 58, .mv (.t 9), none⟩,
    ⟨some 59, .bin .add (.t 58) (.c (.int .i64 1)), none⟩,
    ⟨some 60, .fad 2 (.t 7), none⟩,
    ⟨some 61, .load 1 false (.t 60), none⟩,
    ⟨some 62, .bin .rem (.t 59) (.t 61), none⟩,
    ⟨some 63, .bin .eql (.t 62) (.c (.int .i64 0)), none⟩])
  (.cond (.t 63) (.seq (.draw [⟨some 64, .mv (.t 12), none⟩,
    ⟨some 65, .len 1 (.t 64), none⟩,
    ⟨some 66, .fad 2 (.t 7), none⟩,
    ⟨some 67, .load 1 false (.t 66), none⟩,
    ⟨some 68, .bin .neq (.t 65) (.t 67), none⟩,
    ⟨some 69, .mv (.t 68), none⟩,
    ⟨some 70, .mv (.t 11), some (69, false)⟩,
    ⟨some 71, .len 1 (.t 70), some (69, false)⟩,
    ⟨some 72, .bin .neq (.t 71) (.c (.int .i64 0)), some (69, false)⟩,
    ⟨some 73, .pick (.t 69) (.c (.bool true)) (.t 72), none⟩,
    ⟨some 74, .mv (.t 73), none⟩,
    ⟨some 75, .mv (.t 12), some (74, false)⟩,
    ⟨some 76, .iad 3 true (.t 75) (.c (.int .i64 0)), some (74, false)⟩,
    ⟨some 77, .fad 1 (.t 76), some (74, false)⟩,
    ⟨some 78, .load 1 false (.t 77), some (74, false)⟩,
    ⟨some 79, .mv (.t 9), some (74, false)⟩,
    ⟨some 80, .bin .add (.t 79) (.c (.int .i64 1)), some (74, false)⟩,
    ⟨some 81, .fad 2 (.t 7), some (74, false)⟩,
    ⟨some 82, .load 1 false (.t 81), some (74, false)⟩,
    ⟨some 83, .bin .sub (.t 80) (.t 82), some (74, false)⟩,
    ⟨some 84, .cvi .u64 (.t 83), some (74, false)⟩,
    ⟨some 85, .bin .neq (.t 78) (.t 84), some (74, false)⟩,
    ⟨some 86, .pick (.t 74) (.c (.bool true)) (.t 85), none⟩,
    ⟨some 87, .mv (.t 86), none⟩,
    ⟨some 88, .mv (.t 12), some (87, false)⟩,
    ⟨some 89, .mv (.t 12), some (87, false)⟩,
    ⟨some 90, .len 1 (.t 89), some (87, false)⟩,
    ⟨some 91, .bin .sub (.t 90) (.c (.int .i64 1)), some (87, false)⟩,
    ⟨some 92, .iad 3 true (.t 88) (.t 91), some (87, false)⟩,
    ⟨some 93, .load 3 true (.t 92), some (87, false)⟩,
    ⟨some 94, .load 3 true (.t 10), some (87, false)⟩,
    ⟨some 95, .eqa true [1, 1, 1] (.t 93) (.t 94), some (87, false)⟩,
    ⟨some 96, .pick (.t 87) (.c (.bool true)) (.t 95), none⟩])
  (.cond (.t 96) (.seq (.ops [⟨some 6, .mv (.c (.bool false)), none⟩])
  (.ret)) (.skip))) (.seq (.ops [⟨some 97, .mv (.t 12), none⟩,
    ⟨some 98, .len 1 (.t 97), none⟩,
    ⟨some 99, .bin .neq (.t 98) (.c (.int .i64 0)), none⟩,
    ⟨some 100, .mv (.t 99), none⟩,
    ⟨some 101, .mv (.t 11), some (100, false)⟩,
    ⟨some 102, .len 1 (.t 101), some (100, false)⟩,
    ⟨some 103, .mv (.t 9), some (100, false)⟩,
    ⟨some 104, .bin .add (.t 103) (.c (.int .i64 1)), some (100, false)⟩,
    ⟨some 105, .fad 2 (.t 7), some (100, false)⟩,
    ⟨some 106, .load 1 false (.t 105), some (100, false)⟩,
    ⟨some 107, .bin .rem (.t 104) (.t 106), some (100, false)⟩,
    ⟨some 108, .bin .neq (.t 102) (.t 107), some (100, false)⟩,
    ⟨some 109, .pick (.t 100) (.c (.bool true)) (.t 108), none⟩])
  (.cond (.t 109) (.seq (.ops [⟨some 6, .mv (.c (.bool false)), none⟩])
  (.ret)) (.skip)))))
  (.ops [⟨some 110, .mv (.t 11), none⟩,
    ⟨some 8, .mv (.t 110), none⟩])))))))
  (.ops [⟨some 25, .mv (.t 9), none⟩,
    ⟨some 26, .bin .add (.t 25) (.c (.int .i64 1)), none⟩,
    ⟨some 9, .mv (.t 26), none⟩]))))))
  (.seq (.ops [⟨some 111, .call (.c (.fn n_trystlaw09_awake [] [])) [], none⟩,
    ⟨some 6, .mv (.t 111), none⟩])
  (.ret)))))
theorem k_trystlaw09_JoinWaits : FnIs AP n_trystlaw09_JoinWaits c_trystlaw09_JoinWaits 112 (rsT [6]) := fnIs_of (fn := Go.Proofs.Try.f6) Go.Proofs.Try.func6 (by kernel_rfl) (by kernel_rfl) (by kernel_rfl) (by kernel_rfl) (by kernel_rfl)
theorem a_trystlaw09_JoinWaits {x0 x1 x2 : V} {H : List Entry} {K : KV} (h : Wf H → awp AP H.length c_trystlaw09_JoinWaits (finW H.length (rsT [6]) K) ([x0, x1, x2] ++ List.replicate 109 undefV) H) : BCall AP n_trystlaw09_JoinWaits [x0, x1, x2] H K := k_trystlaw09_JoinWaits.call (by kernel_rfl) h
/-- tryst/trystlaw09.JoinLate: 87 slots -/
def c_trystlaw09_JoinLate : AC := .seq (.ops [⟨some 3, .box (.t 0), none⟩,
    ⟨some 5, .box (.t 2), none⟩,
    ⟨some 6, .mv (.c (.bool false)), none⟩])
  (.seq (.ops [⟨some 18, .load 4 true (.t 3), none⟩,
    ⟨some 19, .call (.c (.fn n_trystlaw09_Kind [] [])) [(.t 18)], none⟩,
    ⟨some 20, .mv (.t 1), none⟩,
    ⟨some 21, .call (.c (.fn n_trystlaw09_Few [] [])) [(.t 20)], none⟩,
    ⟨none, .store 4 (.t 3) (.t 19), none⟩,
    ⟨some 1, .mv (.t 21), none⟩])
  (.seq (.ops [⟨some 23, .load 4 true (.t 3), none⟩,
    ⟨some 24, .mv (.t 1), none⟩,
    ⟨some 25, .fad 2 (.t 5), none⟩,
    ⟨some 26, .load 1 false (.t 25), none⟩,
    ⟨some 27, .call (.c (.fn n_join_Expire [] [])) [(.t 23), (.t 24), (.t 26)], none⟩,
    ⟨some 22, .mv (.t 27), none⟩,
    ⟨some 28, .ext (.t 22) 0, none⟩,
    ⟨some 29, .ext (.t 22) 1, none⟩,
    ⟨some 30, .ext (.t 22) 2, none⟩,
    ⟨some 7, .mv (.t 28), none⟩,
    ⟨some 8, .mv (.t 29), none⟩,
    ⟨some 9, .mv (.t 30), none⟩])
  (.seq (.ops [⟨some 32, .load 4 true (.t 3), none⟩,
    ⟨some 33, .mv (.t 1), none⟩,
    ⟨some 34, .load 3 true (.t 5), none⟩,
    ⟨some 35, .call (.c (.fn n_join_Feed [] [])) [(.t 32), (.t 33), (.t 34)], none⟩,
    ⟨some 31, .mv (.t 35), none⟩,
    ⟨some 36, .ext (.t 31) 0, none⟩,
    ⟨some 37, .ext (.t 31) 1, none⟩,
    ⟨some 38, .ext (.t 31) 2, none⟩,
    ⟨some 39, .ext (.t 31) 3, none⟩,
    ⟨some 10, .mv (.t 36), none⟩,
    ⟨some 11, .mv (.t 37), none⟩,
    ⟨some 12, .mv (.t 38), none⟩,
    ⟨some 13, .mv (.t 39), none⟩])
  (.seq (.seq (.ops [⟨some 40, .mv (.t 9), none⟩,
    ⟨some 41, .bin .neq (.t 40) (.c (.int .i64 0)), none⟩,
    ⟨some 42, .mv (.t 41), none⟩,
    ⟨some 43, .mv (.t 13), some (42, false)⟩,
    ⟨some 44, .bin .neq (.t 43) (.c (.int .i64 0)), some (42, false)⟩,
    ⟨some 45, .pick (.t 42) (.c (.bool true)) (.t 44), none⟩,
    ⟨some 46, .mv (.t 45), none⟩,
    ⟨some 47, .load 4 true (.t 3), some (46, false)⟩,
    ⟨some 48, .mv (.t 7), some (46, false)⟩,
    ⟨some 49, .call (.c (.fn n_join_Check [] [])) [(.t 47), (.t 48)], some (46, false)⟩,
    ⟨some 50, .bin .neq (.t 49) (.c (.int .i64 0)), some (46, false)⟩,
    ⟨some 51, .pick (.t 46) (.c (.bool true)) (.t 50), none⟩])
  (.cond (.t 51) (.seq (.ops [⟨some 52, .call (.c (.fn n_trystlaw09_awake [] [])) [], none⟩,
    ⟨some 6, .mv (.t 52), none⟩])
  (.ret)) (.skip)))
  (.seq (.ops [⟨some 54, .load 4 true (.t 3), none⟩,
    ⟨some 55, .mv (.t 7), none⟩,
    ⟨some 56, .load 3 true (.t 5), none⟩,
    ⟨some 57, .call (.c (.fn n_join_Feed [] [])) [(.t 54), (.t 55), (.t 56)], none⟩,
    ⟨some 53, .mv (.t 57), none⟩,
    ⟨some 58, .ext (.t 53) 0, none⟩,
    ⟨some 59, .ext (.t 53) 1, none⟩,
    ⟨some 60, .ext (.t 53) 2, none⟩,
    ⟨some 61, .ext (.t 53) 3, none⟩,
    ⟨some 14, .mv (.t 58), none⟩,
    ⟨some 15, .mv (.t 59), none⟩,
    ⟨some 16, .mv (.t 60), none⟩,
    ⟨some 17, .mv (.t 61), none⟩])
  (.seq (.ops [⟨some 62, .mv (.t 17), none⟩,
    ⟨some 63, .bin .eql (.t 62) (.c (.int .i64 0)), none⟩,
    ⟨some 64, .mv (.t 63), none⟩,
    ⟨some 65, .mv (.t 10), some (64, true)⟩,
    ⟨some 66, .mv (.t 14), some (64, true)⟩,
    ⟨some 67, .call (.c (.fn n_trystref09_Same [] [])) [(.t 65), (.t 66)], some (64, true)⟩,
    ⟨some 68, .pick (.t 64) (.t 67) (.c (.bool false)), none⟩,
    ⟨some 69, .mv (.t 68), none⟩,
    ⟨some 70, .mv (.t 11), some (69, true)⟩,
    ⟨some 71, .mv (.t 15), some (69, true)⟩,
    ⟨some 72, .call (.c (.fn n_trystref09_Same [] [])) [(.t 70), (.t 71)], some (69, true)⟩,
    ⟨some 73, .pick (.t 69) (.t 72) (.c (.bool false)), none⟩,
    ⟨some 74, .mv (.t 73), none⟩,
    ⟨some 75, .mv (.t 16), some (74, true)⟩,
    ⟨some 76, .len 1 (.t 75), some (74, true)⟩,
    ⟨some 77, .bin .eql (.t 76) (.c (.int .i64 0)), some (74, true)⟩,
    ⟨some 78, .pick (.t 74) (.t 77) (.c (.bool false)), none⟩,
    ⟨some 79, .mv (.t 78), none⟩,
    ⟨some 80, .mv (.t 12), some (79, true)⟩,
    ⟨some 81, .mv (.t 8), some (79, true)⟩,
    ⟨some 82, .call (.c (.fn n_trystref09_Same [] [])) [(.t 80), (.t 81)], some (79, true)⟩,
    ⟨some 83, .pick (.t 79) (.t 82) (.c (.bool false)), none⟩,
    ⟨some 84, .mv (.t 83), none⟩,
    ⟨some 85, .call (.c (.fn n_trystlaw09_awake [] [])) [], some (84, true)⟩,
    ⟨some 86, .pick (.t 84) (.t 85) (.c (.bool false)), none⟩,
    ⟨some 6, .mv (.t 86), none⟩])
  (.ret)))))))
theorem k_trystlaw09_JoinLate : FnIs AP n_trystlaw09_JoinLate c_trystlaw09_JoinLate 87 (rsT [6]) := fnIs_of (fn := Go.Proofs.Try.f7) Go.Proofs.Try.func7 (by kernel_rfl) (by kernel_rfl) (by kernel_rfl) (by kernel_rfl) (by kernel_rfl)
theorem a_trystlaw09_JoinLate {x0 x1 x2 : V} {H : List Entry} {K : KV} (h : Wf H → awp AP H.length c_trystlaw09_JoinLate (finW H.length (rsT [6]) K) ([x0, x1, x2] ++ List.replicate 84 undefV) H) : BCall AP n_trystlaw09_JoinLate [x0, x1, x2] H K := k_trystlaw09_JoinLate.call (by kernel_rfl) h
/-- tryst/trystlaw09.JoinAll: 117 slots -/
def c_trystlaw09_JoinAll : AC := .seq (.ops [⟨some 6, .mv (.c (.bool false)), none⟩])
  (.seq (.ops [⟨some 22, .mv (.t 0), none⟩,
    ⟨some 23, .bin .rem (.t 22) (.c (.int .u8 6)), none⟩,
    ⟨some 24, .cvi .i64 (.t 23), none⟩,
    ⟨some 25, .bin .add (.c (.int .i64 1)) (.t 24), none⟩,
    ⟨some 7, .mv (.t 25), none⟩])
  (.seq (.ops [⟨some 26, .mv (.t 7), none⟩,
    ⟨some 27, .build [.str [], .int .i64 0, .int .i64 0, .int .i64 0] [(0, 1, (.c (.str [97, 108, 108]))), (1, 1, (.t 26)), (3, 1, (.c (.int .i64 100)))], none⟩,
    ⟨some 8, .alloc [.str [], .int .i64 0, .int .i64 0, .int .i64 0], none⟩,
    ⟨none, .store 4 (.t 8) (.t 27), none⟩])
  (.seq (.ops [⟨some 9, .mv (.c (.nilsl)), none⟩])
  (.seq (.ops [⟨some 10, .mv (.c (.int .u64 0)), none⟩])
  (.seq (.seq (.ops [⟨some 11, .mv (.c (.int .i64 0)), none⟩])
  (.block 0 (.loop (.seq (.seq (.ops [⟨some 28, .mv (.t 11), none⟩,
    ⟨some 29, .mv (.t 7), none⟩,
    ⟨some 30, .bin .lss (.t 28) (.t 29), none⟩])
  (.cond (.t 30) (.skip) (.exit 0)))
  (.seq (.block 1 (.seq (.ops [⟨some 33, .mv (.t 11), none⟩,
    ⟨some 34, .mv (.t 1), none⟩,
    ⟨some 35, .cvi .i64 (.t 34), none⟩,
    ⟨some 36, .bin .add (.t 33) (.t 35), none⟩,
    ⟨some 37, .mv (.t 7), none⟩,
    ⟨some 38, .bin .rem (.t 36) (.t 37), none⟩,
    ⟨some 12, .mv (.t 38), none⟩])
  (.seq (.seq (.ops [⟨some 39, .mv (.t 2), none⟩,
    ⟨some 40, .mv (.t 39), none⟩,
    ⟨some 41, .mv (.t 11), some (40, true)⟩,
    ⟨some 42, .mv (.t 7), some (40, true)⟩,
    ⟨some 43, .bin .sub (.t 42) (.c (.int .i64 1)), some (40, true)⟩,
    ⟨some 44, .bin .lss (.t 41) (.t 43), some (40, true)⟩,
    ⟨some 45, .pick (.t 40) (.t 44) (.c (.bool false)), none⟩])
  (.cond (.t 45) (.seq (.ops [⟨some 46, .mv (.t 10), none⟩,
    ⟨some 47, .bin .add (.t 46) (.c (.int .u64 1)), none⟩,
    ⟨some 10, .mv (.t 47), none⟩])
  (.seq (.ops [⟨some 49, .load 4 true (.t 8), none⟩,
    ⟨some 50, .mv (.t 9), none⟩,
    ⟨some 51, .mv (.t 12), none⟩,
    ⟨some 52, .mv (.t 10), none⟩,
    ⟨some 53, .mv (.t 11), none⟩,
    ⟨some 54, .build [.int .i64 0, .int .u64 0, .int .i64 0] [(0, 1, (.t 51)), (1, 1, (.t 52)), (2, 1, (.t 53))], none⟩,
    ⟨some 55, .call (.c (.fn n_join_Feed [] [])) [(.t 49), (.t 50), (.t 54)], none⟩,
    ⟨some 48, .mv (.t 55), none⟩,
    ⟨some 56, .ext (.t 48) 0, none⟩,
    ⟨some 57, .ext (.t 48) 1, none⟩,
    ⟨some 58, .ext (.t 48) 2, none⟩,
    ⟨some 59, .ext (.t 48) 3, none⟩,
    ⟨some 13, .mv (.t 56), none⟩,
    ⟨some 14, .mv (.t 57), none⟩,
    ⟨some 15, .mv (.t 58), none⟩,
    ⟨some 16, .mv (.t 59), none⟩])
  (.seq (.seq (.ops [⟨some 60, .mv (.t 16), none⟩,
    ⟨some 61, .bin .neq (.t 60) (.c (.int .i64 0)), none⟩,
    ⟨some 62, .mv (.t 61), none⟩,
    ⟨some 63, .mv (.t 14), some (62, false)⟩,
    ⟨some 64, .len 1 (.t 63), some (62, false)⟩,
    ⟨some 65, .bin .neq (.t 64) (.c (.int .i64 0)), some (62, false)⟩,
    ⟨some 66, .pick (.t 62) (.c (.bool true)) (.t 65), none⟩])
  (.cond (.t 66) (.seq (.ops [⟨some 6, .mv (.c (.bool false)), none⟩])
  (.ret)) (.skip)))
  (.ops [⟨some 67, .mv (.t 13), none⟩,
    ⟨some 9, .mv (.t 67), none⟩])))) (.skip)))
  (.seq (.ops [⟨some 68, .mv (.t 10), none⟩,
    ⟨some 69, .bin .add (.t 68) (.c (.int .u64 1)), none⟩,
    ⟨some 10, .mv (.t 69), none⟩])
  (.seq (.ops [⟨some 71, .load 4 true (.t 8), none⟩,
    ⟨some 72, .mv (.t 9), none⟩,
    ⟨some 73, .mv (.t 12), none⟩,
    ⟨some 74, .mv (.t 10), none⟩,
    ⟨some 75, .mv (.t 11), none⟩,
    ⟨some 76, .build [.int .i64 0, .int .u64 0, .int .i64 0] [(0, 1, (.t 73)), (1, 1, (.t 74)), (2, 1, (.t 75))], none⟩,
    ⟨some 77, .call (.c (.fn n_join_Feed [] [])) [(.t 71), (.t 72), (.t 76)], none⟩,
    ⟨some 70, .mv (.t 77), none⟩,
    ⟨some 78, .ext (.t 70) 0, none⟩,
    ⟨some 79, .ext (.t 70) 1, none⟩,
    ⟨some 80, .ext (.t 70) 2, none⟩,
    ⟨some 81, .ext (.t 70) 3, none⟩,
    ⟨some 17, .mv (.t 78), none⟩,
    ⟨some 18, .mv (.t 79), none⟩,
    ⟨some 19, .mv (.t 80), none⟩,
    ⟨some 20, .mv (.t 81), none⟩])
  (.seq (.seq (.ops [⟨some 82, .mv (.t 20), none⟩,
    ⟨some 83, .bin .neq (.t 82) (.c (.int .i64 0)), none⟩,
    ⟨some 84, .mv (.t 83), none⟩,
    ⟨some 85, .mv (.t 18), some (84, false)⟩,
    ⟨some 86, .len 1 (.t 85), some (84, false)⟩,
    ⟨some 87, .mv (.t 7), some (84, false)⟩,
    ⟨some 88, .bin .eql (.t 86) (.t 87), some (84, false)⟩,
    ⟨some 89, .mv (.t 11), some (84, false)⟩,
    ⟨some 90, .mv (.t 7), some (84, false)⟩,
    ⟨some 91, .bin .sub (.t 90) (.c (.int .i64 1)), some (84, false)⟩,
    ⟨some 92, .bin .eql (.t 89) (.t 91), some (84, false)⟩,
    ⟨some 93, .binb true (.t 88) (.t 92), some (84, false)⟩,
    ⟨some 94, .pick (.t 84) (.c (.bool true)) (.t 93), none⟩,
    ⟨some 95, .mv (.t 94), none⟩,
    ⟨some 96, .mv (.t 18), some (95, false)⟩,
    ⟨some 97, .len 1 (.t 96), some (95, false)⟩,
    ⟨some 98, .bin .neq (.t 97) (.c (.int .i64 0)), some (95, false)⟩,
    ⟨some 99, .mv (.t 98), some (95, false)⟩,
    ⟨some 100, .mv (.t 11), some (99, true)⟩,
    ⟨some 101, .mv (.t 7), some (99, true)⟩,
    ⟨some 102, .bin .sub (.t 101) (.c (.int .i64 1)), some (99, true)⟩,
    ⟨some 103, .bin .lss (.t 100) (.t 102), some (99, true)⟩,
    ⟨some 104, .pick (.t 99) (.t 103) (.c (.bool false)), some (95, false)⟩,
    ⟨some 105, .pick (.t 95) (.c (.bool true)) (.t 104), none⟩])
  (.cond (.t 105) (.seq (.ops [⟨some 6, .mv (.c (.bool false)), none⟩])
  (.ret)) (.skip)))
  (.ops [⟨some 106, .mv (.t 17), none⟩,
    ⟨some 9, .mv (.t 106), none⟩])))))))
  (.ops [⟨some 31, .mv (.t 11), none⟩,
    ⟨some 32, .bin .add (.t 31) (.c (.int .i64 1)), none⟩,
    ⟨some 11, .mv (.t 32), none⟩]))))))
  (.seq (.ops [⟨some 21, .mv (.c (.int .i64 0)), none⟩])
  (.seq (.seq (.ops [⟨some 107, .mv (.t 2), none⟩])
  (.cond (.t 107) (.ops [⟨some 108, .mv (.t 7), none⟩,
    ⟨some 109, .bin .sub (.t 108) (.c (.int .i64 1)), none⟩,
    ⟨some 21, .mv (.t 109), none⟩]) (.skip)))
  (.seq (.ops [⟨some 110, .mv (.t 9), none⟩,
    ⟨some 111, .len 1 (.t 110), none⟩,
    ⟨some 112, .mv (.t 21), none⟩,
    ⟨some 113, .bin .eql (.t 111) (.t 112), none⟩,
    ⟨some 114, .mv (.t 113), none⟩,
    ⟨some 115, .call (.c (.fn n_trystlaw09_awake [] [])) [], some (114, true)⟩,
    ⟨some 116, .pick (.t 114) (.t 115) (.c (.bool false)), none⟩,
    ⟨some 6, .mv (.t 116), none⟩])
  (.ret)))))))))
theorem k_trystlaw09_JoinAll : FnIs AP n_trystlaw09_JoinAll c_trystlaw09_JoinAll 117 (rsT [6]) := fnIs_of (fn := Go.Proofs.Try.f8) Go.Proofs.Try.func8 (by kernel_rfl) (by kernel_rfl) (by kernel_rfl) (by kernel_rfl) (by kernel_rfl)
theorem a_trystlaw09_JoinAll {x0 x1 x2 : V} {H : List Entry} {K : KV} (h : Wf H → awp AP H.length c_trystlaw09_JoinAll (finW H.length (rsT [6]) K) ([x0, x1, x2] ++ List.replicate 114 undefV) H) : BCall AP n_trystlaw09_JoinAll [x0, x1, x2] H K := k_trystlaw09_JoinAll.call (by kernel_rfl) h
/-- tryst/trystlaw09.JoinBound: 88 slots -/
def c_trystlaw09_JoinBound : AC := .seq (.ops [⟨some 4, .mv (.c (.bool false)), none⟩])
  (.seq (.ops [⟨some 18, .mv (.t 0), none⟩,
    ⟨some 19, .cvi .i64 (.t 18), none⟩,
    ⟨some 20, .build [.str [], .int .i64 0, .int .i64 0, .int .i64 0] [(0, 1, (.c (.str [97, 108, 108]))), (1, 1, (.c (.int .i64 2))), (3, 1, (.t 19))], none⟩,
    ⟨some 5, .alloc [.str [], .int .i64 0, .int .i64 0, .int .i64 0], none⟩,
    ⟨none, .store 4 (.t 5) (.t 20), none⟩])
  (.seq (.ops [⟨some 22, .load 4 true (.t 5), none⟩,
    ⟨some 23, .mv (.t 1), none⟩,
    ⟨some 24, .cvi .i64 (.t 23), none⟩,
    ⟨some 25, .build [.int .i64 0, .int .u64 0, .int .i64 0] [(1, 1, (.c (.int .u64 1))), (2, 1, (.t 24))], none⟩,
    ⟨some 26, .call (.c (.fn n_join_Feed [] [])) [(.t 22), (.c (.nilsl)), (.t 25)], none⟩,
    ⟨some 21, .mv (.t 26), none⟩,
    ⟨some 27, .ext (.t 21) 0, none⟩,
    ⟨some 28, .ext (.t 21) 1, none⟩,
    ⟨some 29, .ext (.t 21) 2, none⟩,
    ⟨some 30, .ext (.t 21) 3, none⟩,
    ⟨some 6, .mv (.t 27), none⟩,
    ⟨some 7, .mv (.t 28), none⟩,
    ⟨some 8, .mv (.t 29), none⟩,
    ⟨some 9, .mv (.t 30), none⟩])
  (.seq (.ops [⟨some 32, .load 4 true (.t 5), none⟩,
    ⟨some 33, .mv (.t 6), none⟩,
    ⟨some 34, .mv (.t 1), none⟩,
    ⟨some 35, .cvi .i64 (.t 34), none⟩,
    ⟨some 36, .mv (.t 0), none⟩,
    ⟨some 37, .cvi .i64 (.t 36), none⟩,
    ⟨some 38, .bin .add (.t 35) (.t 37), none⟩,
    ⟨some 39, .build [.int .i64 0, .int .u64 0, .int .i64 0] [(0, 1, (.c (.int .i64 1))), (1, 1, (.c (.int .u64 2))), (2, 1, (.t 38))], none⟩,
    ⟨some 40, .call (.c (.fn n_join_Feed [] [])) [(.t 32), (.t 33), (.t 39)], none⟩,
    ⟨some 31, .mv (.t 40), none⟩,
    ⟨some 41, .ext (.t 31) 0, none⟩,
    ⟨some 42, .ext (.t 31) 1, none⟩,
    ⟨some 43, .ext (.t 31) 2, none⟩,
    ⟨some 44, .ext (.t 31) 3, none⟩,
    ⟨some 10, .mv (.t 41), none⟩,
    ⟨some 11, .mv (.t 42), none⟩,
    ⟨some 12, .mv (.t 43), none⟩,
    ⟨some 13, .mv (.t 44), none⟩])
  (.seq (.ops [⟨some 46, .load 4 true (.t 5), none⟩,
    ⟨some 47, .mv (.t 6), none⟩,
    ⟨some 48, .mv (.t 1), none⟩,
    ⟨some 49, .cvi .i64 (.t 48), none⟩,
    ⟨some 50, .mv (.t 0), none⟩,
    ⟨some 51, .cvi .i64 (.t 50), none⟩,
    ⟨some 52, .bin .add (.t 49) (.t 51), none⟩,
    ⟨some 53, .bin .add (.t 52) (.c (.int .i64 1)), none⟩,
    ⟨some 54, .build [.int .i64 0, .int .u64 0, .int .i64 0] [(0, 1, (.c (.int .i64 1))), (1, 1, (.c (.int .u64 2))), (2, 1, (.t 53))], none⟩,
    ⟨some 55, .call (.c (.fn n_join_Feed [] [])) [(.t 46), (.t 47), (.t 54)], none⟩,
    ⟨some 45, .mv (.t 55), none⟩,
    ⟨some 56, .ext (.t 45) 0, none⟩,
    ⟨some 57, .ext (.t 45) 1, none⟩,
    ⟨some 58, .ext (.t 45) 2, none⟩,
    ⟨some 59, .ext (.t 45) 3, none⟩,
    ⟨some 14, .mv (.t 56), none⟩,
    ⟨some 15, .mv (.t 57), none⟩,
    ⟨some 16, .mv (.t 58), none⟩,
    ⟨some 17, .mv (.t 59), none⟩])
  (.seq (.ops [⟨some 60, .mv (.t 9), none⟩,
    ⟨some 61, .bin .eql (.t 60) (.c (.int .i64 0)), none⟩,
    ⟨some 62, .mv (.t 61), none⟩,
    ⟨some 63, .mv (.t 13), some (62, true)⟩,
    ⟨some 64, .bin .eql (.t 63) (.c (.int .i64 0)), some (62, true)⟩,
    ⟨some 65, .pick (.t 62) (.t 64) (.c (.bool false)), none⟩,
    ⟨some 66, .mv (.t 65), none⟩,
    ⟨some 67, .mv (.t 17), some (66, true)⟩,
    ⟨some 68, .bin .eql (.t 67) (.c (.int .i64 0)), some (66, true)⟩,
    ⟨some 69, .pick (.t 66) (.t 68) (.c (.bool false)), none⟩,
    ⟨some 70, .mv (.t 69), none⟩,
    ⟨some 71, .mv (.t 11), some (70, true)⟩,
    ⟨some 72, .len 1 (.t 71), some (70, true)⟩,
    ⟨some 73, .bin .eql (.t 72) (.c (.int .i64 2)), some (70, true)⟩,
    ⟨some 74, .pick (.t 70) (.t 73) (.c (.bool false)), none⟩,
    ⟨some 75, .mv (.t 74), none⟩,
    ⟨some 76, .mv (.t 15), some (75, true)⟩,
    ⟨some 77, .len 1 (.t 76), some (75, true)⟩,
    ⟨some 78, .bin .eql (.t 77) (.c (.int .i64 0)), some (75, true)⟩,
    ⟨some 79, .pick (.t 75) (.t 78) (.c (.bool false)), none⟩,
    ⟨some 80, .mv (.t 79), none⟩,
    ⟨some 81, .mv (.t 16), some (80, true)⟩,
    ⟨some 82, .len 1 (.t 81), some (80, true)⟩,
    ⟨some 83, .bin .eql (.t 82) (.c (.int .i64 1)), some (80, true)⟩,
    ⟨some 84, .pick (.t 80) (.t 83) (.c (.bool false)), none⟩,
    ⟨some 85, .mv (.t 84), none⟩,
    ⟨some 86, .call (.c (.fn n_trystlaw09_awake [] [])) [], some (85, true)⟩,
    ⟨some 87, .pick (.t 85) (.t 86) (.c (.bool false)), none⟩,
    ⟨some 4, .mv (.t 87), none⟩])
  (.ret))))))
theorem k_trystlaw09_JoinBound : FnIs AP n_trystlaw09_JoinBound c_trystlaw09_JoinBound 88 (rsT [4]) := fnIs_of (fn := Go.Proofs.Try.f9) Go.Proofs.Try.func9 (by kernel_rfl) (by kernel_rfl) (by kernel_rfl) (by kernel_rfl) (by kernel_rfl)
theorem a_trystlaw09_JoinBound {x0 x1 : V} {H : List Entry} {K : KV} (h : Wf H → awp AP H.length c_trystlaw09_JoinBound (finW H.length (rsT [4]) K) ([x0, x1] ++ List.replicate 86 undefV) H) : BCall AP n_trystlaw09_JoinBound [x0, x1] H K := k_trystlaw09_JoinBound.call (by kernel_rfl) h
/-- tryst/trystlaw09.JoinAny: 81 slots -/
def c_trystlaw09_JoinAny : AC := .seq (.ops [⟨some 4, .mv (.c (.bool false)), none⟩])
  (.seq (.ops [⟨some 12, .build [.str [], .int .i64 0, .int .i64 0, .int .i64 0] [(0, 1, (.c (.str [97, 110, 121]))), (1, 1, (.c (.int .i64 6))), (3, 1, (.c (.int .i64 3)))], none⟩,
    ⟨some 5, .alloc [.str [], .int .i64 0, .int .i64 0, .int .i64 0], none⟩,
    ⟨none, .store 4 (.t 5) (.t 12), none⟩])
  (.seq (.seq (.ops [⟨some 13, .mv (.t 1), none⟩])
  (.cond (.t 13) (.ops [⟨some 14, .fad 0 (.t 5), none⟩,
    ⟨none, .store 1 (.t 14) (.c (.str [99, 111, 117, 110, 116])), none⟩,
    ⟨some 15, .fad 2 (.t 5), none⟩,
    ⟨none, .store 1 (.t 15) (.c (.int .i64 1)), none⟩]) (.skip)))
  (.seq (.seq (.ops [⟨some 6, .mv (.c (.int .i64 0)), none⟩])
  (.block 0 (.loop (.seq (.seq (.ops [⟨some 16, .mv (.t 6), none⟩,
    ⟨some 17, .mv (.t 0), none⟩,
    ⟨some 18, .len 1 (.t 17), none⟩,
    ⟨some 19, .bin .lss (.t 16) (.t 18), none⟩,
    ⟨some 20, .mv (.t 19), none⟩,
    ⟨some 21, .mv (.t 6), some (20, true)⟩,
    ⟨some 22, .bin .lss (.t 21) (.c (.int .i64 20)), some (20, true)⟩,
    ⟨some 23, .pick (.t 20) (.t 22) (.c (.bool false)), none⟩])
  (.cond (.t 23) (.skip) (.exit 0)))
  (.seq (.block 1 (.seq (.ops [⟨some 26, .mv (.t 0), none⟩,
    ⟨some 27, .mv (.t 6), none⟩,
    ⟨some 28, .iad 3 true (.t 26) (.t 27), none⟩,
    ⟨some 29, .load 3 true (.t 28), none⟩,
    ⟨some 7, .alloc [.int .i64 0, .int .u64 0, .int .i64 0], none⟩,
    ⟨none, .store 3 (.t 7) (.t 29), none⟩])
  (.seq (.ops [⟨some 31, .load 4 true (.t 5), none⟩,
    ⟨some 32, .load 3 true (.t 7), none⟩,
    ⟨some 33, .call (.c (.fn n_join_Feed [] [])) [(.t 31), (.c (.nilsl)), (.t 32)], none⟩,
    ⟨some 30, .mv (.t 33), none⟩,
    ⟨some 34, .ext (.t 30) 0, none⟩,
    ⟨some 35, .ext (.t 30) 1, none⟩,
    ⟨some 36, .ext (.t 30) 2, none⟩,
    ⟨some 37, .ext (.t 30) 3, none⟩,
    ⟨some 8, .mv (.t 34), none⟩,
    ⟨some 9, .mv (.t 35), none⟩,
    ⟨some 10, .mv (.t 36), none⟩,
    ⟨some 11, .mv (.t 37), none⟩])
  (.seq (.seq (.ops [⟨some 38, .fad 0 (.t 7), none⟩,
    ⟨some 39, .load 1 false (.t 38), none⟩,
    ⟨some 40, .bin .lss (.t 39) (.c (.int .i64 0)), none⟩,
    ⟨some 41, .mv (.t 40), none⟩,
    ⟨some 42, .fad 0 (.t 7), some (41, false)⟩,
    ⟨some 43, .load 1 false (.t 42), some (41, false)⟩,
    ⟨some 44, .bin .gtr (.t 43) (.c (.int .i64 5)), some (41, false)⟩,
    ⟨some 45, .pick (.t 41) (.c (.bool true)) (.t 44), none⟩,
    ⟨some 46, .mv (.t 45), none⟩,
    ⟨some 47, .fad 2 (.t 7), some (46, false)⟩,
    ⟨some 48, .load 1 false (.t 47), some (46, false)⟩,
    ⟨some 49, .bin .lss (.t 48) (.c (.int .i64 0)), some (46, false)⟩,
    ⟨some 50, .pick (.t 46) (.c (.bool true)) (.t 49), none⟩,
    ⟨some 51, .mv (.t 50), none⟩,
    ⟨some 52, .fad 2 (.t 7), some (51, false)⟩,
    ⟨some 53, .load 1 false (.t 52), some (51, false)⟩,
    ⟨some 54, .bin .gtr (.t 53) (.c (.int .i64 1099511627775)), some (51, false)⟩,
    ⟨some 55, .pick (.t 51) (.c (.bool true)) (.t 54), none⟩])
  (.cond (.t 55) (.seq (.seq (.ops [⟨some 56, .mv (.t 11), none⟩,
    ⟨some 57, .bin .neq (.t 56) (.c (.int .i64 1)), none⟩,
    ⟨some 58, .mv (.t 57), none⟩,
    ⟨some 59, .mv (.t 9), some (58, false)⟩,
    ⟨some 60, .len 1 (.t 59), some (58, false)⟩,
    ⟨some 61, .bin .neq (.t 60) (.c (.int .i64 0)), some (58, false)⟩,
    ⟨some 62, .pick (.t 58) (.c (.bool true)) (.t 61), none⟩])
  (.cond (.t 62) (.seq (.ops [⟨some 4, .mv (.c (.bool false)), none⟩])
  (.ret)) (.skip)))
  (.exit 1)) (.skip)))
  (.seq (.ops [⟨some 63, .mv (.t 11), none⟩,
    ⟨some 64, .bin .neq (.t 63) (.c (.int .i64 0)), none⟩,
    ⟨some 65, .mv (.t 64), none⟩,
    ⟨some 66, .mv (.t 8), some (65, false)⟩,
    ⟨some 67, .len 1 (.t 66), some (65, false)⟩,
    ⟨some 68, .mv (.t 10), some (65, false)⟩,
    ⟨some 69, .len 1 (.t 68), some (65, false)⟩,
    ⟨some 70, .bin .add (.t 67) (.t 69), some (65, false)⟩,
    ⟨some 71, .bin .neq (.t 70) (.c (.int .i64 0)), some (65, false)⟩,
    ⟨some 72, .pick (.t 65) (.c (.bool true)) (.t 71), none⟩,
    ⟨some 73, .mv (.t 72), none⟩,
    ⟨some 74, .mv (.t 9), some (73, false)⟩,
    ⟨some 75, .load 3 true (.t 7), some (73, false)⟩,
    ⟨some 76, .bsl 3 true [(.t 75)], some (73, false)⟩,
    ⟨some 77, .call (.c (.fn n_trystref09_Same [] [])) [(.t 74), (.t 76)], some (73, false)⟩,
    ⟨some 78, .un .not (.t 77), some (73, false)⟩,
    ⟨some 79, .pick (.t 73) (.c (.bool true)) (.t 78), none⟩])
  (.cond (.t 79) (.seq (.ops [⟨some 4, .mv (.c (.bool false)), none⟩])
  (.ret)) (.skip)))))))
  (.ops [⟨some 24, .mv (.t 6), none⟩,
    ⟨some 25, .bin .add (.t 24) (.c (.int .i64 1)), none⟩,
    ⟨some 6, .mv (.t 25), none⟩]))))))
  (.seq (.ops [⟨some 80, .call (.c (.fn n_trystlaw09_awake [] [])) [], none⟩,
    ⟨some 4, .mv (.t 80), none⟩])
  (.ret)))))
theorem k_trystlaw09_JoinAny : FnIs AP n_trystlaw09_JoinAny c_trystlaw09_JoinAny 81 (rsT [4]) := fnIs_of (fn := Go.Proofs.Try.f10) Go.Proofs.Try.func10 (by kernel_rfl) (by kernel_rfl) (by kernel_rfl) (by kernel_rfl) (by kernel_rfl)
theorem a_trystlaw09_JoinAny {x0 x1 : V} {H : List Entry} {K : KV} (h : Wf H → awp AP H.length c_trystlaw09_JoinAny (finW H.length (rsT [4]) K) ([x0, x1] ++ List.replicate 79 undefV) H) : BCall AP n_trystlaw09_JoinAny [x0, x1] H K := k_trystlaw09_JoinAny.call (by kernel_rfl) h
/-- tryst/trystlaw09.Kind: 12 slots -/
def c_trystlaw09_Kind : AC := .seq (.ops [⟨some 1, .box (.t 0), none⟩,
    ⟨some 2, .alloc [.str [], .int .i64 0, .int .i64 0, .int .i64 0], none⟩])
  (.seq (.seq (.ops [⟨some 3, .fad 0 (.t 1), none⟩,
    ⟨some 4, .load 1 false (.t 3), none⟩,
    ⟨some 5, .len 0 (.t 4), none⟩,
    ⟨some 6, .bin .gtr (.t 5) (.c (.int .i64 10)), none⟩])
  (.cond (.t 6) (.ops [⟨some 7, .fad 0 (.t 1), none⟩,
    ⟨some 8, .load 1 false (.t 7), none⟩,
    ⟨some 9, .sls (.t 8) none (some (.c (.int .i64 10))), none⟩,
    ⟨some 10, .fad 0 (.t 1), none⟩,
    ⟨none, .store 1 (.t 10) (.t 9), none⟩]) (.skip)))
  (.seq (.ops [⟨some 11, .load 4 true (.t 1), none⟩,
    ⟨none, .store 4 (.t 2) (.t 11), none⟩])
  (.ret)))
theorem k_trystlaw09_Kind : FnIs AP n_trystlaw09_Kind c_trystlaw09_Kind 12 [.cell 2 4 true] := fnIs_of (fn := Go.Proofs.Try.f11) Go.Proofs.Try.func11 (by kernel_rfl) (by kernel_rfl) (by kernel_rfl) (by kernel_rfl) (by kernel_rfl)
theorem a_trystlaw09_Kind {x0 : V} {H : List Entry} {K : KV} (h : Wf H → awp AP H.length c_trystlaw09_Kind (finW H.length [.cell 2 4 true] K) ([x0] ++ List.replicate 11 undefV) H) : BCall AP n_trystlaw09_Kind [x0] H K := k_trystlaw09_Kind.call (by kernel_rfl) h
/-- tryst/trystlaw09.Few: 11 slots -/
def c_trystlaw09_Few : AC := .seq (.ops [⟨some 2, .mv (.c (.nilsl)), none⟩])
  (.seq (.seq (.ops [⟨some 3, .mv (.t 0), none⟩,
    ⟨some 4, .len 1 (.t 3), none⟩,
    ⟨some 5, .bin .gtr (.t 4) (.c (.int .i64 31)), none⟩])
  (.cond (.t 5) (.ops [⟨some 6, .mv (.t 0), none⟩,
    ⟨some 7, .slc 3 (.t 6) none (some (.c (.int .i64 31))) none, none⟩,
    ⟨some 0, .mv (.t 7), none⟩]) (.skip)))
  (.seq (.ops [⟨some 8, .bsl 3 true [], none⟩,
    ⟨some 9, .mv (.t 0), none⟩,
    ⟨some 10, .app 27 3 24 true (.t 8) (.t 9), none⟩,
    ⟨some 2, .mv (.t 10), none⟩])
  (.ret)))
theorem k_trystlaw09_Few : FnIs AP n_trystlaw09_Few c_trystlaw09_Few 11 (rsT [2]) := fnIs_of (fn := Go.Proofs.Try.f12) Go.Proofs.Try.func12 (by kernel_rfl) (by kernel_rfl) (by kernel_rfl) (by kernel_rfl) (by kernel_rfl)
theorem a_trystlaw09_Few {x0 : V} {H : List Entry} {K : KV} (h : Wf H → awp AP H.length c_trystlaw09_Few (finW H.length (rsT [2]) K) ([x0] ++ List.replicate 10 undefV) H) : BCall AP n_trystlaw09_Few [x0] H K := k_trystlaw09_Few.call (by kernel_rfl) h
/-- tryst/join.Feed: 69 slots -/
def c_join_Feed : AC := .seq (.ops [⟨some 3, .box (.t 0), none⟩,
    ⟨some 5, .box (.t 2), none⟩,
    ⟨some 6, .mv (.c (.nilsl)), none⟩,
    ⟨some 7, .mv (.c (.nilsl)), none⟩,
    ⟨some 8, .mv (.c (.nilsl)), none⟩,
    ⟨some 9, .mv (.c (.int .i64 0)), none⟩])
  (.seq (.seq (.ops [⟨some 15, .load 4 true (.t 3), none⟩,
    ⟨some 16, .mv (.t 1), none⟩,
    ⟨some 17, .call (.c (.fn n_join_Check [] [])) [(.t 15), (.t 16)], none⟩,
    ⟨some 18, .bin .neq (.t 17) (.c (.int .i64 0)), none⟩,
    ⟨some 19, .mv (.t 18), none⟩,
    ⟨some 20, .load 4 true (.t 3), some (19, false)⟩,
    ⟨some 21, .load 3 true (.t 5), some (19, false)⟩,
    ⟨some 22, .call (.c (.fn n_join_mayKept [] [])) [(.t 20), (.t 21)], some (19, false)⟩,
    ⟨some 23, .un .not (.t 22), some (19, false)⟩,
    ⟨some 24, .pick (.t 19) (.c (.bool true)) (.t 23), none⟩])
  (.cond (.t 24) (.seq (.ops [⟨some 6, .mv (.c (.nilsl)), none⟩,
    ⟨some 7, .mv (.c (.nilsl)), none⟩,
    ⟨some 8, .mv (.c (.nilsl)), none⟩,
    ⟨some 9, .mv (.c (.int .i64 1)), none⟩])
  (.ret)) (.skip)))
  (.seq (.seq (.ops [⟨some 25, .mv (.t 1), none⟩,
    ⟨some 26, .fad 2 (.t 5), none⟩,
    ⟨some 27, .load 1 false (.t 26), none⟩,
    ⟨some 28, .call (.c (.fn n_join_isLate [] [])) [(.t 25), (.t 27)], none⟩])
  (.cond (.t 28) (.seq (.ops [⟨some 6, .mv (.c (.nilsl)), none⟩,
    ⟨some 7, .mv (.c (.nilsl)), none⟩,
    ⟨some 8, .mv (.c (.nilsl)), none⟩,
    ⟨some 9, .mv (.c (.int .i64 8)), none⟩])
  (.ret)) (.skip)))
  (.seq (.seq (.ops [⟨some 29, .mv (.t 1), none⟩,
    ⟨some 30, .fad 1 (.t 5), none⟩,
    ⟨some 31, .load 1 false (.t 30), none⟩,
    ⟨some 32, .call (.c (.fn n_join_hasId [] [])) [(.t 29), (.t 31)], none⟩])
  (.cond (.t 32) (.seq (.ops [⟨some 6, .mv (.c (.nilsl)), none⟩,
    ⟨some 7, .mv (.c (.nilsl)), none⟩,
    ⟨some 8, .mv (.c (.nilsl)), none⟩,
    ⟨some 9, .mv (.c (.int .i64 5)), none⟩])
  (.ret)) (.skip)))
  (.seq (.ops [⟨some 34, .load 4 true (.t 3), none⟩,
    ⟨some 35, .mv (.t 1), none⟩,
    ⟨some 36, .fad 2 (.t 5), none⟩,
    ⟨some 37, .load 1 false (.t 36), none⟩,
    ⟨some 38, .call (.c (.fn n_join_Expire [] [])) [(.t 34), (.t 35), (.t 37)], none⟩,
    ⟨some 33, .mv (.t 38), none⟩,
    ⟨some 39, .ext (.t 33) 0, none⟩,
    ⟨some 40, .ext (.t 33) 1, none⟩,
    ⟨some 41, .ext (.t 33) 2, none⟩,
    ⟨some 10, .mv (.t 39), none⟩,
    ⟨some 11, .mv (.t 40), none⟩,
    ⟨some 12, .mv (.t 41), none⟩])
  (.seq (.seq (.ops [⟨some 42, .mv (.t 12), none⟩,
    ⟨some 43, .bin .neq (.t 42) (.c (.int .i64 0)), none⟩])
  (.cond (.t 43) (.seq (.ops [⟨some 44, .mv (.t 12), none⟩,
    ⟨some 6, .mv (.c (.nilsl)), none⟩,
    ⟨some 7, .mv (.c (.nilsl)), none⟩,
    ⟨some 8, .mv (.c (.nilsl)), none⟩,
    ⟨some 9, .mv (.t 44), none⟩])
  (.ret)) (.skip)))
  (.seq (.ops [⟨some 45, .mv (.t 10), none⟩,
    ⟨some 46, .load 3 true (.t 5), none⟩,
    ⟨some 47, .bsl 3 true [(.t 46)], none⟩,
    ⟨some 48, .app 27 3 24 true (.t 45) (.t 47), none⟩,
    ⟨some 10, .mv (.t 48), none⟩])
  (.seq (.ops [⟨some 49, .load 4 true (.t 3), none⟩,
    ⟨some 50, .mv (.t 10), none⟩,
    ⟨some 51, .call (.c (.fn n_join_meeting [] [])) [(.t 49), (.t 50)], none⟩,
    ⟨some 13, .mv (.t 51), none⟩])
  (.seq (.seq (.ops [⟨some 52, .mv (.t 13), none⟩,
    ⟨some 53, .len 1 (.t 52), none⟩,
    ⟨some 54, .bin .eql (.t 53) (.c (.int .i64 0)), none⟩,
    ⟨some 55, .mv (.t 54), none⟩,
    ⟨some 56, .mv (.t 10), some (55, true)⟩,
    ⟨some 57, .len 1 (.t 56), some (55, true)⟩,
    ⟨some 58, .bin .eql (.t 57) (.c (.int .i64 30)), some (55, true)⟩,
    ⟨some 59, .pick (.t 55) (.t 58) (.c (.bool false)), none⟩])
  (.cond (.t 59) (.seq (.ops [⟨some 6, .mv (.c (.nilsl)), none⟩,
    ⟨some 7, .mv (.c (.nilsl)), none⟩,
    ⟨some 8, .mv (.c (.nilsl)), none⟩,
    ⟨some 9, .mv (.c (.int .i64 6)), none⟩])
  (.ret)) (.skip)))
  (.seq (.ops [⟨some 61, .mv (.t 10), none⟩,
    ⟨some 62, .mv (.t 13), none⟩,
    ⟨some 63, .call (.c (.fn n_join_taken [] [])) [(.t 61), (.t 62)], none⟩,
    ⟨some 60, .mv (.t 63), none⟩,
    ⟨some 64, .ext (.t 60) 0, none⟩,
    ⟨some 65, .ext (.t 60) 1, none⟩,
    ⟨some 10, .mv (.t 64), none⟩,
    ⟨some 14, .mv (.t 65), none⟩])
  (.seq (.ops [⟨some 66, .mv (.t 10), none⟩,
    ⟨some 67, .mv (.t 14), none⟩,
    ⟨some 68, .mv (.t 11), none⟩,
    ⟨some 6, .mv (.t 66), none⟩,
    ⟨some 7, .mv (.t 67), none⟩,
    ⟨some 8, .mv (.t 68), none⟩,
    ⟨some 9, .mv (.c (.int .i64 0)), none⟩])
  (.ret)))))))))))
theorem k_join_Feed : FnIs AP n_join_Feed c_join_Feed 69 (rsT [6, 7, 8, 9]) := fnIs_of (fn := Go.Proofs.Try.f13) Go.Proofs.Try.func13 (by kernel_rfl) (by kernel_rfl) (by kernel_rfl) (by kernel_rfl) (by kernel_rfl)
theorem a_join_Feed {x0 x1 x2 : V} {H : List Entry} {K : KV} (h : Wf H → awp AP H.length c_join_Feed (finW H.length (rsT [6, 7, 8, 9]) K) ([x0, x1, x2] ++ List.replicate 66 undefV) H) : BCall AP n_join_Feed [x0, x1, x2] H K := k_join_Feed.call (by kernel_rfl) h
/-- tryst/trystref09.Feed: 128 slots -/
def c_trystref09_Feed : AC := .seq (.ops [⟨some 3, .box (.t 0), none⟩,
    ⟨some 5, .box (.t 2), none⟩,
    ⟨some 6, .mv (.c (.nilsl)), none⟩,
    ⟨some 7, .mv (.c (.nilsl)), none⟩,
    ⟨some 8, .mv (.c (.nilsl)), none⟩,
    ⟨some 9, .mv (.c (.int .i64 0)), none⟩])
  (.seq (.seq (.ops [⟨some 18, .load 4 true (.t 3), none⟩,
    ⟨some 19, .mv (.t 1), none⟩,
    ⟨some 20, .call (.c (.fn n_trystref09_Check [] [])) [(.t 18), (.t 19)], none⟩,
    ⟨some 21, .un .not (.t 20), none⟩,
    ⟨some 22, .mv (.t 21), none⟩,
    ⟨some 23, .fad 0 (.t 5), some (22, false)⟩,
    ⟨some 24, .load 1 false (.t 23), some (22, false)⟩,
    ⟨some 25, .bin .lss (.t 24) (.c (.int .i64 0)), some (22, false)⟩,
    ⟨some 26, .pick (.t 22) (.c (.bool true)) (.t 25), none⟩,
    ⟨some 27, .mv (.t 26), none⟩,
    ⟨some 28, .fad 0 (.t 5), some (27, false)⟩,
    ⟨some 29, .load 1 false (.t 28), some (27, false)⟩,
    ⟨some 30, .fad 1 (.t 3), some (27, false)⟩,
    ⟨some 31, .load 1 false (.t 30), some (27, false)⟩,
    ⟨some 32, .bin .geq (.t 29) (.t 31), some (27, false)⟩,
    ⟨some 33, .pick (.t 27) (.c (.bool true)) (.t 32), none⟩,
    ⟨some 34, .mv (.t 33), none⟩,
    ⟨some 35, .fad 2 (.t 5), some (34, false)⟩,
    ⟨some 36, .load 1 false (.t 35), some (34, false)⟩,
    ⟨some 37, .bin .lss (.t 36) (.c (.int .i64 0)), some (34, false)⟩,
    ⟨some 38, .pick (.t 34) (.c (.bool true)) (.t 37), none⟩,
    ⟨some 39, .mv (.t 38), none⟩,
    ⟨some 40, .fad 2 (.t 5), some (39, false)⟩,
    ⟨some 41, .load 1 false (.t 40), some (39, false)⟩,
    ⟨some 42, .bin .gtr (.t 41) (.c (.int .i64 1099511627775)), some (39, false)⟩,
    ⟨some 43, .pick (.t 39) (.c (.bool true)) (.t 42), none⟩])
  (.cond (.t 43) (.seq (.ops [⟨some 6, .mv (.c (.nilsl)), none⟩,
    ⟨some 7, .mv (.c (.nilsl)), none⟩,
    ⟨some 8, .mv (.c (.nilsl)), none⟩,
    ⟨some 9, .mv (.c (.int .i64 1)), none⟩])
  (.ret)) (.skip)))
  (.seq (.seq (.draw [⟨some 44, .mv (.t 1), none⟩,
    ⟨some 45, .len 1 (.t 44), none⟩,
    ⟨some 46, .bin .gtr (.t 45) (.c (.int .i64 0)), none⟩,
    ⟨some 47, .mv (.t 46), none⟩,
    ⟨some 48, .fad 2 (.t 5), some (47, true)⟩,
    ⟨some 49, .load 1 false (.t 48), some (47, true)⟩,
    ⟨some 50, .mv (.t 1), some (47, true)⟩,
    ⟨some 51, .mv (.t 1), some (47, true)⟩,
    ⟨some 52, .len 1 (.t 51), some (47, true)⟩,
    ⟨some 53, .bin .sub (.t 52) (.c (.int .i64 1)), some (47, true)⟩,
    ⟨some 54, .iad 3 true (.t 50) (.t 53), some (47, true)⟩,
    ⟨some 55, .fad 2 (.t 54), some (47, true)⟩,
    ⟨some 56, .load 1 false (.t 55), some (47, true)⟩,
    ⟨some 57, .bin .lss (.t 49) (.t 56), some (47, true)⟩,
    ⟨some 58, .pick (.t 47) (.t 57) (.c (.bool false)), none⟩])
  (.cond (.t 58) (.seq (.ops [⟨some 6, .mv (.c (.nilsl)), none⟩,
    ⟨some 7, .mv (.c (.nilsl)), none⟩,
    ⟨some 8, .mv (.c (.nilsl)), none⟩,
    ⟨some 9, .mv (.c (.int .i64 8)), none⟩])
  (.ret)) (.skip)))
  (.seq (.seq (.ops [⟨some 10, .mv (.c (.int .i64 0)), none⟩])
  (.block 0 (.loop (.seq (.seq (.ops [⟨some 59, .mv (.t 10), none⟩,
    ⟨some 60, .mv (.t 1), none⟩,
    ⟨some 61, .len 1 (.t 60), none⟩,
    ⟨some 62, .bin .lss (.t 59) (.t 61), none⟩])
  (.cond (.t 62) (.skip) (.exit 0)))
  (.seq (.block 1 (.seq (.draw [⟨some 65, .mv (.t 1), none⟩,
    ⟨some 66, .mv (.t 10), none⟩,
    ⟨some 67, .iad 3 true (.t 65) (.t 66), none⟩,
    ⟨some 68, .fad 1 (.t 67), none⟩,
    ⟨some 69, .load 1 false (.t 68), none⟩,
    ⟨some 70, .fad 1 (.t 5), none⟩,
    ⟨some 71, .load 1 false (.t 70), none⟩,
    ⟨some 72, .bin .eql (.t 69) (.t 71), none⟩])
  (.cond (.t 72) (.seq (.ops [⟨some 6, .mv (.c (.nilsl)), none⟩,
    ⟨some 7, .mv (.c (.nilsl)), none⟩,
    ⟨some 8, .mv (.c (.nilsl)), none⟩,
    ⟨some 9, .mv (.c (.int .i64 5)), none⟩])
  (.ret)) (.skip))))
  (.ops [⟨some 63, .mv (.t 10), none⟩,
    ⟨some 64, .bin .add (.t 63) (.c (.int .i64 1)), none⟩,
    ⟨some 10, .mv (.t 64), none⟩]))))))
  (.seq (.ops [⟨some 74, .load 4 true (.t 3), none⟩,
    ⟨some 75, .mv (.t 1), none⟩,
    ⟨some 76, .fad 2 (.t 5), none⟩,
    ⟨some 77, .load 1 false (.t 76), none⟩,
    ⟨some 78, .call (.c (.fn n_trystref09_Expire [] [])) [(.t 74), (.t 75), (.t 77)], none⟩,
    ⟨some 73, .mv (.t 78), none⟩,
    ⟨some 79, .ext (.t 73) 0, none⟩,
    ⟨some 80, .ext (.t 73) 1, none⟩,
    ⟨some 11, .mv (.t 79), none⟩,
    ⟨some 12, .mv (.t 80), none⟩])
  (.seq (.ops [⟨some 81, .mv (.t 11), none⟩,
    ⟨some 82, .load 3 true (.t 5), none⟩,
    ⟨some 83, .bsl 3 true [(.t 82)], none⟩,
    ⟨some 84, .app 27 3 24 true (.t 81) (.t 83), none⟩,
    ⟨some 11, .mv (.t 84), none⟩])
  (.seq (.ops [⟨some 86, .load 4 true (.t 3), none⟩,
    ⟨some 87, .mv (.t 11), none⟩,
    ⟨some 88, .call (.c (.fn n_trystref09_Firing [] [])) [(.t 86), (.t 87)], none⟩,
    ⟨some 85, .mv (.t 88), none⟩,
    ⟨some 89, .ext (.t 85) 0, none⟩,
    ⟨some 90, .ext (.t 85) 1, none⟩,
    ⟨some 13, .mv (.t 89), none⟩,
    ⟨some 14, .mv (.t 90), none⟩])
  (.seq (.seq (.ops [⟨some 91, .mv (.t 14), none⟩,
    ⟨some 92, .un .not (.t 91), none⟩,
    ⟨some 93, .mv (.t 92), none⟩,
    ⟨some 94, .mv (.t 11), some (93, true)⟩,
    ⟨some 95, .len 1 (.t 94), some (93, true)⟩,
    ⟨some 96, .bin .geq (.t 95) (.c (.int .i64 30)), some (93, true)⟩,
    ⟨some 97, .pick (.t 93) (.t 96) (.c (.bool false)), none⟩])
  (.cond (.t 97) (.seq (.ops [⟨some 6, .mv (.c (.nilsl)), none⟩,
    ⟨some 7, .mv (.c (.nilsl)), none⟩,
    ⟨some 8, .mv (.c (.nilsl)), none⟩,
    ⟨some 9, .mv (.c (.int .i64 6)), none⟩])
  (.ret)) (.skip)))
  (.seq (.ops [⟨some 15, .mv (.c (.nilsl)), none⟩,
    ⟨some 16, .mv (.c (.nilsl)), none⟩])
  (.seq (.seq (.ops [⟨some 17, .mv (.c (.int .i64 0)), none⟩])
  (.block 2 (.loop (.seq (.seq (.ops [⟨some 98, .mv (.t 17), none⟩,
    ⟨some 99, .mv (.t 11), none⟩,
    ⟨some 100, .len 1 (.t 99), none⟩,
    ⟨some 101, .bin .lss (.t 98) (.t 100), none⟩])
  (.cond (.t 101) (.skip) (.exit 2)))
  (.seq (.block 3 (.seq (.ops [⟨some 104, .mv (.t 14), none⟩,
    ⟨some 105, .mv (.t 104), none⟩,
    ⟨some 106, .mv (.t 13), some (105, true)⟩,
    ⟨some 107, .mv (.t 17), some (105, true)⟩,
    ⟨some 108, .iad 1 false (.t 106) (.t 107), some (105, true)⟩,
    ⟨some 109, .load 1 false (.t 108), some (105, true)⟩,
    ⟨some 110, .pick (.t 105) (.t 109) (.c (.bool false)), none⟩])
  (.cond (.t 110) (.ops [⟨some 111, .mv (.t 16), none⟩,
    ⟨some 112, .mv (.t 11), none⟩,
    ⟨some 113, .mv (.t 17), none⟩,
    ⟨some 114, .iad 3 true (.t 112) (.t 113), none⟩,
    ⟨some 115, .load 3 true (.t 114), none⟩,
    ⟨some 116, .bsl 3 true [(.t 115)], none⟩,
    ⟨some 117, .app 27 3 24 true (.t 111) (.t 116), none⟩,
    ⟨some 16, .mv (.t 117), none⟩]) (.ops [⟨some 118, .mv (.t 15), none⟩,
    ⟨some 119, .mv (.t 11), none⟩,
    ⟨some 120, .mv (.t 17), none⟩,
    ⟨some 121, .iad 3 true (.t 119) (.t 120), none⟩,
    ⟨some 122, .load 3 true (.t 121), none⟩,
    ⟨some 123, .bsl 3 true [(.t 122)], none⟩,
    ⟨some 124, .app 27 3 24 true (.t 118) (.t 123), none⟩,
    ⟨some 15, .mv (.t 124), none⟩]))))
  (.ops [⟨some 102, .mv (.t 17), none⟩,
    ⟨some 103, .bin .add (.t 102) (.c (.int .i64 1)), none⟩,
    ⟨some 17, .mv (.t 103), none⟩]))))))
  (.seq (.ops [⟨some 125, .mv (.t 15), none⟩,
    ⟨some 126, .mv (.t 16), none⟩,
    ⟨some 127, .mv (.t 12), none⟩,
    ⟨some 6, .mv (.t 125), none⟩,
    ⟨some 7, .mv (.t 126), none⟩,
    ⟨some 8, .mv (.t 127), none⟩,
    ⟨some 9, .mv (.c (.int .i64 0)), none⟩])
  (.ret)))))))))))
theorem k_trystref09_Feed : FnIs AP n_trystref09_Feed c_trystref09_Feed 128 (rsT [6, 7, 8, 9]) := fnIs_of (fn := Go.Proofs.Try.f14) Go.Proofs.Try.func14 (by kernel_rfl) (by kernel_rfl) (by kernel_rfl) (by kernel_rfl) (by kernel_rfl)
theorem a_trystref09_Feed {x0 x1 x2 : V} {H : List Entry} {K : KV} (h : Wf H → awp AP H.length c_trystref09_Feed (finW H.length (rsT [6, 7, 8, 9]) K) ([x0, x1, x2] ++ List.replicate 125 undefV) H) : BCall AP n_trystref09_Feed [x0, x1, x2] H K := k_trystref09_Feed.call (by kernel_rfl) h
/-- tryst/trystref09.Same: 26 slots -/
def c_trystref09_Same : AC := .seq (.ops [⟨some 4, .mv (.c (.bool false)), none⟩])
  (.seq (.seq (.ops [⟨some 6, .mv (.t 0), none⟩,
    ⟨some 7, .len 1 (.t 6), none⟩,
    ⟨some 8, .mv (.t 1), none⟩,
    ⟨some 9, .len 1 (.t 8), none⟩,
    ⟨some 10, .bin .neq (.t 7) (.t 9), none⟩])
  (.cond (.t 10) (.seq (.ops [⟨some 4, .mv (.c (.bool false)), none⟩])
  (.ret)) (.skip)))
  (.seq (.seq (.ops [⟨some 5, .mv (.c (.int .i64 0)), none⟩])
  (.block 0 (.loop (.seq (.seq (.ops [⟨some 11, .mv (.t 5), none⟩,
    ⟨some 12, .mv (.t 0), none⟩,
    ⟨some 13, .len 1 (.t 12), none⟩,
    ⟨some 14, .bin .lss (.t 11) (.t 13), none⟩])
  (.cond (.t 14) (.skip) (.exit 0)))
  (.seq (.block 1 (.seq (.draw [⟨some 17, .mv (.t 0), none⟩,
    ⟨some 18, .mv (.t 5), none⟩,
    ⟨some 19, .iad 3 true (.t 17) (.t 18), none⟩,
    ⟨some 20, .load 3 true (.t 19), none⟩,
    ⟨some 21, .mv (.t 1), none⟩,
    ⟨some 22, .mv (.t 5), none⟩,
    ⟨some 23, .iad 3 true (.t 21) (.t 22), none⟩,
    ⟨some 24, .load 3 true (.t 23), none⟩,
    ⟨some 25, .eqa true [1, 1, 1] (.t 20) (.t 24), none⟩])
  (.cond (.t 25) (.seq (.ops [⟨some 4, .mv (.c (.bool false)), none⟩])
  (.ret)) (.skip))))
  (.ops [⟨some 15, .mv (.t 5), none⟩,
    ⟨some 16, .bin .add (.t 15) (.c (.int .i64 1)), none⟩,
    ⟨some 5, .mv (.t 16), none⟩]))))))
  (.seq (.ops [⟨some 4, .mv (.c (.bool true)), none⟩])
  (.ret))))
theorem k_trystref09_Same : FnIs AP n_trystref09_Same c_trystref09_Same 26 (rsT [4]) := fnIs_of (fn := Go.Proofs.Try.f15) Go.Proofs.Try.func15 (by kernel_rfl) (by kernel_rfl) (by kernel_rfl) (by kernel_rfl) (by kernel_rfl)
theorem a_trystref09_Same {x0 x1 : V} {H : List Entry} {K : KV} (h : Wf H → awp AP H.length c_trystref09_Same (finW H.length (rsT [4]) K) ([x0, x1] ++ List.replicate 24 undefV) H) : BCall AP n_trystref09_Same [x0, x1] H K := k_trystref09_Same.call (by kernel_rfl) h
/-- tryst/join.May: 25 slots -/
def c_join_May : AC := .seq (.ops [⟨some 1, .box (.t 0), none⟩,
    ⟨some 2, .mv (.c (.bool false)), none⟩])
  (.seq (.ops [⟨some 3, .load 4 true (.t 1), none⟩,
    ⟨some 4, .call (.c (.fn n_join_mayNeed [] [])) [(.t 3)], none⟩,
    ⟨some 5, .mv (.t 4), none⟩,
    ⟨some 6, .fad 1 (.t 1), some (5, true)⟩,
    ⟨some 7, .load 1 false (.t 6), some (5, true)⟩,
    ⟨some 8, .bin .geq (.t 7) (.c (.int .i64 1)), some (5, true)⟩,
    ⟨some 9, .pick (.t 5) (.t 8) (.c (.bool false)), none⟩,
    ⟨some 10, .mv (.t 9), none⟩,
    ⟨some 11, .fad 1 (.t 1), some (10, true)⟩,
    ⟨some 12, .load 1 false (.t 11), some (10, true)⟩,
    ⟨some 13, .bin .leq (.t 12) (.c (.int .i64 6)), some (10, true)⟩,
    ⟨some 14, .pick (.t 10) (.t 13) (.c (.bool false)), none⟩,
    ⟨some 15, .mv (.t 14), none⟩,
    ⟨some 16, .fad 3 (.t 1), some (15, true)⟩,
    ⟨some 17, .load 1 false (.t 16), some (15, true)⟩,
    ⟨some 18, .bin .geq (.t 17) (.c (.int .i64 0)), some (15, true)⟩,
    ⟨some 19, .pick (.t 15) (.t 18) (.c (.bool false)), none⟩,
    ⟨some 20, .mv (.t 19), none⟩,
    ⟨some 21, .fad 3 (.t 1), some (20, true)⟩,
    ⟨some 22, .load 1 false (.t 21), some (20, true)⟩,
    ⟨some 23, .bin .leq (.t 22) (.c (.int .i64 1073741824)), some (20, true)⟩,
    ⟨some 24, .pick (.t 20) (.t 23) (.c (.bool false)), none⟩,
    ⟨some 2, .mv (.t 24), none⟩])
  (.ret))
theorem k_join_May : FnIs AP n_join_May c_join_May 25 (rsT [2]) := fnIs_of (fn := Go.Proofs.Try.f16) Go.Proofs.Try.func16 (by kernel_rfl) (by kernel_rfl) (by kernel_rfl) (by kernel_rfl) (by kernel_rfl)
theorem a_join_May {x0 : V} {H : List Entry} {K : KV} (h : Wf H → awp AP H.length c_join_May (finW H.length (rsT [2]) K) ([x0] ++ List.replicate 24 undefV) H) : BCall AP n_join_May [x0] H K := k_join_May.call (by kernel_rfl) h
/-- tryst/trystref09.May: 45 slots -/
def c_trystref09_May : AC := .seq (.ops [⟨some 1, .box (.t 0), none⟩,
    ⟨some 2, .mv (.c (.bool false)), none⟩])
  (.seq (.seq (.ops [⟨some 3, .fad 0 (.t 1), none⟩,
    ⟨some 4, .load 1 false (.t 3), none⟩,
    ⟨some 5, .bin .eql (.t 4) (.c (.str [99, 111, 117, 110, 116])), none⟩])
  (.cond (.t 5) (.seq (.ops [⟨some 6, .fad 2 (.t 1), none⟩,
    ⟨some 7, .load 1 false (.t 6), none⟩,
    ⟨some 8, .bin .lss (.t 7) (.c (.int .i64 1)), none⟩,
    ⟨some 9, .mv (.t 8), none⟩,
    ⟨some 10, .fad 2 (.t 1), some (9, false)⟩,
    ⟨some 11, .load 1 false (.t 10), some (9, false)⟩,
    ⟨some 12, .bin .gtr (.t 11) (.c (.int .i64 30)), some (9, false)⟩,
    ⟨some 13, .pick (.t 9) (.c (.bool true)) (.t 12), none⟩])
  (.cond (.t 13) (.seq (.ops [⟨some 2, .mv (.c (.bool false)), none⟩])
  (.ret)) (.skip))) (.seq (.ops [⟨some 14, .fad 0 (.t 1), none⟩,
    ⟨some 15, .load 1 false (.t 14), none⟩,
    ⟨some 16, .bin .neq (.t 15) (.c (.str [97, 108, 108])), none⟩,
    ⟨some 17, .mv (.t 16), none⟩,
    ⟨some 18, .fad 0 (.t 1), some (17, true)⟩,
    ⟨some 19, .load 1 false (.t 18), some (17, true)⟩,
    ⟨some 20, .bin .neq (.t 19) (.c (.str [97, 110, 121])), some (17, true)⟩,
    ⟨some 21, .pick (.t 17) (.t 20) (.c (.bool false)), none⟩,
    ⟨some 22, .mv (.t 21), none⟩,
    ⟨some 23, .fad 2 (.t 1), some (22, false)⟩,
    ⟨some 24, .load 1 false (.t 23), some (22, false)⟩,
    ⟨some 25, .bin .neq (.t 24) (.c (.int .i64 0)), some (22, false)⟩,
    ⟨some 26, .pick (.t 22) (.c (.bool true)) (.t 25), none⟩])
  (.cond (.t 26) (.seq (.ops [⟨some 2, .mv (.c (.bool false)), none⟩])
  (.ret)) (.skip)))))
  (.seq (.ops [⟨some 27, .fad 1 (.t 1), none⟩,
    ⟨some 28, .load 1 false (.t 27), none⟩,
    ⟨some 29, .bin .leq (.c (.int .i64 1)) (.t 28), none⟩,
    ⟨some 30, .mv (.t 29), none⟩,
    ⟨some 31, .fad 1 (.t 1), some (30, true)⟩,
    ⟨some 32, .load 1 false (.t 31), some (30, true)⟩,
    ⟨some 33, .bin .leq (.t 32) (.c (.int .i64 6)), some (30, true)⟩,
    ⟨some 34, .pick (.t 30) (.t 33) (.c (.bool false)), none⟩,
    ⟨some 35, .mv (.t 34), none⟩,
    ⟨some 36, .fad 3 (.t 1), some (35, true)⟩,
    ⟨some 37, .load 1 false (.t 36), some (35, true)⟩,
    ⟨some 38, .bin .leq (.c (.int .i64 0)) (.t 37), some (35, true)⟩,
    ⟨some 39, .pick (.t 35) (.t 38) (.c (.bool false)), none⟩,
    ⟨some 40, .mv (.t 39), none⟩,
    ⟨some 41, .fad 3 (.t 1), some (40, true)⟩,
    ⟨some 42, .load 1 false (.t 41), some (40, true)⟩,
    ⟨some 43, .bin .leq (.t 42) (.c (.int .i64 1073741824)), some (40, true)⟩,
    ⟨some 44, .pick (.t 40) (.t 43) (.c (.bool false)), none⟩,
    ⟨some 2, .mv (.t 44), none⟩])
  (.ret)))
theorem k_trystref09_May : FnIs AP n_trystref09_May c_trystref09_May 45 (rsT [2]) := fnIs_of (fn := Go.Proofs.Try.f17) Go.Proofs.Try.func17 (by kernel_rfl) (by kernel_rfl) (by kernel_rfl) (by kernel_rfl) (by kernel_rfl)
theorem a_trystref09_May {x0 : V} {H : List Entry} {K : KV} (h : Wf H → awp AP H.length c_trystref09_May (finW H.length (rsT [2]) K) ([x0] ++ List.replicate 44 undefV) H) : BCall AP n_trystref09_May [x0] H K := k_trystref09_May.call (by kernel_rfl) h
/-- tryst/join.Check: 14 slots -/
def c_join_Check : AC := .seq (.ops [⟨some 2, .box (.t 0), none⟩,
    ⟨some 4, .mv (.c (.int .i64 0)), none⟩])
  (.seq (.seq (.ops [⟨some 5, .load 4 true (.t 2), none⟩,
    ⟨some 6, .call (.c (.fn n_join_May [] [])) [(.t 5)], none⟩,
    ⟨some 7, .un .not (.t 6), none⟩,
    ⟨some 8, .mv (.t 7), none⟩,
    ⟨some 9, .load 4 true (.t 2), some (8, false)⟩,
    ⟨some 10, .mv (.t 1), some (8, false)⟩,
    ⟨some 11, .call (.c (.fn n_join_mayWait [] [])) [(.t 9), (.t 10)], some (8, false)⟩,
    ⟨some 12, .un .not (.t 11), some (8, false)⟩,
    ⟨some 13, .pick (.t 8) (.c (.bool true)) (.t 12), none⟩])
  (.cond (.t 13) (.seq (.ops [⟨some 4, .mv (.c (.int .i64 1)), none⟩])
  (.ret)) (.skip)))
  (.seq (.ops [⟨some 4, .mv (.c (.int .i64 0)), none⟩])
  (.ret)))
theorem k_join_Check : FnIs AP n_join_Check c_join_Check 14 (rsT [4]) := fnIs_of (fn := Go.Proofs.Try.f18) Go.Proofs.Try.func18 (by kernel_rfl) (by kernel_rfl) (by kernel_rfl) (by kernel_rfl) (by kernel_rfl)
theorem a_join_Check {x0 x1 : V} {H : List Entry} {K : KV} (h : Wf H → awp AP H.length c_join_Check (finW H.length (rsT [4]) K) ([x0, x1] ++ List.replicate 12 undefV) H) : BCall AP n_join_Check [x0, x1] H K := k_join_Check.call (by kernel_rfl) h
/-- tryst/trystref09.Check: 97 slots -/
def c_trystref09_Check : AC := .seq (.ops [⟨some 2, .box (.t 0), none⟩,
    ⟨some 4, .mv (.c (.bool false)), none⟩])
  (.seq (.seq (.ops [⟨some 9, .load 4 true (.t 2), none⟩,
    ⟨some 10, .call (.c (.fn n_trystref09_May [] [])) [(.t 9)], none⟩,
    ⟨some 11, .un .not (.t 10), none⟩,
    ⟨some 12, .mv (.t 11), none⟩,
    ⟨some 13, .mv (.t 1), some (12, false)⟩,
    ⟨some 14, .len 1 (.t 13), some (12, false)⟩,
    ⟨some 15, .bin .geq (.t 14) (.c (.int .i64 30)), some (12, false)⟩,
    ⟨some 16, .pick (.t 12) (.c (.bool true)) (.t 15), none⟩])
  (.cond (.t 16) (.seq (.ops [⟨some 4, .mv (.c (.bool false)), none⟩])
  (.ret)) (.skip)))
  (.seq (.seq (.ops [⟨some 5, .mv (.c (.int .i64 0)), none⟩])
  (.block 0 (.loop (.seq (.seq (.ops [⟨some 17, .mv (.t 5), none⟩,
    ⟨some 18, .mv (.t 1), none⟩,
    ⟨some 19, .len 1 (.t 18), none⟩,
    ⟨some 20, .bin .lss (.t 17) (.t 19), none⟩])
  (.cond (.t 20) (.skip) (.exit 0)))
  (.seq (.block 1 (.seq (.seq (.draw [⟨some 23, .mv (.t 1), none⟩,
    ⟨some 24, .mv (.t 5), none⟩,
    ⟨some 25, .iad 3 true (.t 23) (.t 24), none⟩,
    ⟨some 26, .fad 0 (.t 25), none⟩,
    ⟨some 27, .load 1 false (.t 26), none⟩,
    ⟨some 28, .bin .lss (.t 27) (.c (.int .i64 0)), none⟩,
    ⟨some 29, .mv (.t 28), none⟩,
    ⟨some 30, .mv (.t 1), some (29, false)⟩,
    ⟨some 31, .mv (.t 5), some (29, false)⟩,
    ⟨some 32, .iad 3 true (.t 30) (.t 31), some (29, false)⟩,
    ⟨some 33, .fad 0 (.t 32), some (29, false)⟩,
    ⟨some 34, .load 1 false (.t 33), some (29, false)⟩,
    ⟨some 35, .fad 1 (.t 2), some (29, false)⟩,
    ⟨some 36, .load 1 false (.t 35), some (29, false)⟩,
    ⟨some 37, .bin .geq (.t 34) (.t 36), some (29, false)⟩,
    ⟨some 38, .pick (.t 29) (.c (.bool true)) (.t 37), none⟩,
    ⟨some 39, .mv (.t 38), none⟩,
    ⟨some 40, .mv (.t 1), some (39, false)⟩,
    ⟨some 41, .mv (.t 5), some (39, false)⟩,
    ⟨some 42, .iad 3 true (.t 40) (.t 41), some (39, false)⟩,
    ⟨some 43, .fad 2 (.t 42), some (39, false)⟩,
    ⟨some 44, .load 1 false (.t 43), some (39, false)⟩,
    ⟨some 45, .bin .lss (.t 44) (.c (.int .i64 0)), some (39, false)⟩,
    ⟨some 46, .pick (.t 39) (.c (.bool true)) (.t 45), none⟩,
    ⟨some 47, .mv (.t 46), none⟩,
    ⟨some 48, .mv (.t 1), some (47, false)⟩,
    ⟨some 49, .mv (.t 5), some (47, false)⟩,
    ⟨some 50, .iad 3 true (.t 48) (.t 49), some (47, false)⟩,
    ⟨some 51, .fad 2 (.t 50), some (47, false)⟩,
    ⟨some 52, .load 1 false (.t 51), some (47, false)⟩,
    ⟨some 53, .bin .gtr (.t 52) (.c (.int .i64 1099511627775)), some (47, false)⟩,
    ⟨some 54, .pick (.t 47) (.c (.bool true)) (.t 53), none⟩,
    ⟨some 55, .mv (.t 54), none⟩,
    ⟨some 56, .mv (.t 5), some (55, false)⟩,
    ⟨some 57, .bin .gtr (.t 56) (.c (.int .i64 0)), some (55, false)⟩,
    ⟨some 58, .mv (.t 57), some (55, false)⟩,
    ⟨some 59, .mv (.t 1), some (58, true)⟩,
    ⟨some 60, .mv (.t 5), some (58, true)⟩,
    ⟨some 61, .bin .sub (.t 60) (.c (.int .i64 1)), some (58, true)⟩,
    ⟨some 62, .iad 3 true (.t 59) (.t 61), some (58, true)⟩,
    ⟨some 63, .fad 2 (.t 62), some (58, true)⟩,
    ⟨some 64, .load 1 false (.t 63), some (58, true)⟩,
    ⟨some 65, .mv (.t 1), some (58, true)⟩,
    ⟨some 66, .mv (.t 5), some (58, true)⟩,
    ⟨some 67, .iad 3 true (.t 65) (.t 66), some (58, true)⟩,
    ⟨some 68, .fad 2 (.t 67), some (58, true)⟩,
    ⟨some 69, .load 1 false (.t 68), some (58, true)⟩,
    ⟨some 70, .bin .gtr (.t 64) (.t 69), some (58, true)⟩,
    ⟨some 71, .pick (.t 58) (.t 70) (.c (.bool false)), some (55, false)⟩,
    ⟨some 72, .pick (.t 55) (.c (.bool true)) (.t 71), none⟩])
  (.cond (.t 72) (.seq (.ops [⟨some 4, .mv (.c (.bool false)), none⟩])
  (.ret)) (.skip)))
  (.seq (.ops [⟨some 6, .mv (.c (.int .i64 0)), none⟩])
  (.block 2 (.loop (.seq (.seq (.ops [⟨some 73, .mv (.t 6), none⟩,
    ⟨some 74, .mv (.t 5), none⟩,
    ⟨some 75, .bin .lss (.t 73) (.t 74), none⟩])
  (.cond (.t 75) (.skip) (.exit 2)))
  (.seq (.block 3 (.seq (.draw [⟨some 78, .mv (.t 1), none⟩,
    ⟨some 79, .mv (.t 6), none⟩,
    ⟨some 80, .iad 3 true (.t 78) (.t 79), none⟩,
    ⟨some 81, .fad 1 (.t 80), none⟩,
    ⟨some 82, .load 1 false (.t 81), none⟩,
    ⟨some 83, .mv (.t 1), none⟩,
    ⟨some 84, .mv (.t 5), none⟩,
    ⟨some 85, .iad 3 true (.t 83) (.t 84), none⟩,
    ⟨some 86, .fad 1 (.t 85), none⟩,
    ⟨some 87, .load 1 false (.t 86), none⟩,
    ⟨some 88, .bin .eql (.t 82) (.t 87), none⟩])
  (.cond (.t 88) (.seq (.ops [⟨some 4, .mv (.c (.bool false)), none⟩])
  (.ret)) (.skip))))
  (.ops [⟨some 76, .mv (.t 6), none⟩,
    ⟨some 77, .bin .add (.t 76) (.c (.int .i64 1)), none⟩,
    ⟨some 6, .mv (.t 77), none⟩]))))))))
  (.ops [⟨some 21, .mv (.t 5), none⟩,
    ⟨some 22, .bin .add (.t 21) (.c (.int .i64 1)), none⟩,
    ⟨some 5, .mv (.t 22), none⟩]))))))
  (.seq (.ops [⟨some 90, .load 4 true (.t 2), none⟩,
    ⟨some 91, .mv (.t 1), none⟩,
    ⟨some 92, .call (.c (.fn n_trystref09_Firing [] [])) [(.t 90), (.t 91)], none⟩,
    ⟨some 89, .mv (.t 92), none⟩,
    ⟨some 93, .ext (.t 89) 0, none⟩,
    ⟨some 94, .ext (.t 89) 1, none⟩,
    ⟨some 7, .mv (.t 93), none⟩,
    ⟨some 8, .mv (.t 94), none⟩])
  (.seq (.ops [⟨some 95, .mv (.t 8), none⟩,
    ⟨some 96, .un .not (.t 95), none⟩,
    ⟨some 4, .mv (.t 96), none⟩])
  (.ret)))))
theorem k_trystref09_Check : FnIs AP n_trystref09_Check c_trystref09_Check 97 (rsT [4]) := fnIs_of (fn := Go.Proofs.Try.f19) Go.Proofs.Try.func19 (by kernel_rfl) (by kernel_rfl) (by kernel_rfl) (by kernel_rfl) (by kernel_rfl)
theorem a_trystref09_Check {x0 x1 : V} {H : List Entry} {K : KV} (h : Wf H → awp AP H.length c_trystref09_Check (finW H.length (rsT [4]) K) ([x0, x1] ++ List.replicate 95 undefV) H) : BCall AP n_trystref09_Check [x0, x1] H K := k_trystref09_Check.call (by kernel_rfl) h
/-- tryst/trystlaw09.awake: 91 slots -/
def c_trystlaw09_awake : AC := .seq (.ops [⟨some 0, .mv (.c (.bool false)), none⟩])
  (.seq (.ops [⟨some 18, .build [.str [], .int .i64 0, .int .i64 0, .int .i64 0] [(0, 1, (.c (.str [97, 108, 108]))), (1, 1, (.c (.int .i64 2))), (3, 1, (.c (.int .i64 9)))], none⟩,
    ⟨some 1, .alloc [.str [], .int .i64 0, .int .i64 0, .int .i64 0], none⟩,
    ⟨none, .store 4 (.t 1) (.t 18), none⟩])
  (.seq (.ops [⟨some 20, .load 4 true (.t 1), none⟩,
    ⟨some 21, .build [.int .i64 0, .int .u64 0, .int .i64 0] [(1, 1, (.c (.int .u64 1)))], none⟩,
    ⟨some 22, .call (.c (.fn n_join_Feed [] [])) [(.t 20), (.c (.nilsl)), (.t 21)], none⟩,
    ⟨some 19, .mv (.t 22), none⟩,
    ⟨some 23, .ext (.t 19) 0, none⟩,
    ⟨some 24, .ext (.t 19) 1, none⟩,
    ⟨some 25, .ext (.t 19) 2, none⟩,
    ⟨some 26, .ext (.t 19) 3, none⟩,
    ⟨some 2, .mv (.t 23), none⟩,
    ⟨some 3, .mv (.t 24), none⟩,
    ⟨some 4, .mv (.t 25), none⟩,
    ⟨some 5, .mv (.t 26), none⟩])
  (.seq (.ops [⟨some 28, .load 4 true (.t 1), none⟩,
    ⟨some 29, .mv (.t 2), none⟩,
    ⟨some 30, .build [.int .i64 0, .int .u64 0, .int .i64 0] [(1, 1, (.c (.int .u64 2)))], none⟩,
    ⟨some 31, .call (.c (.fn n_join_Feed [] [])) [(.t 28), (.t 29), (.t 30)], none⟩,
    ⟨some 27, .mv (.t 31), none⟩,
    ⟨some 32, .ext (.t 27) 0, none⟩,
    ⟨some 33, .ext (.t 27) 1, none⟩,
    ⟨some 34, .ext (.t 27) 2, none⟩,
    ⟨some 35, .ext (.t 27) 3, none⟩,
    ⟨some 6, .mv (.t 32), none⟩,
    ⟨some 7, .mv (.t 33), none⟩,
    ⟨some 8, .mv (.t 34), none⟩,
    ⟨some 9, .mv (.t 35), none⟩])
  (.seq (.ops [⟨some 37, .load 4 true (.t 1), none⟩,
    ⟨some 38, .mv (.t 6), none⟩,
    ⟨some 39, .build [.int .i64 0, .int .u64 0, .int .i64 0] [(0, 1, (.c (.int .i64 1))), (1, 1, (.c (.int .u64 3)))], none⟩,
    ⟨some 40, .call (.c (.fn n_join_Feed [] [])) [(.t 37), (.t 38), (.t 39)], none⟩,
    ⟨some 36, .mv (.t 40), none⟩,
    ⟨some 41, .ext (.t 36) 0, none⟩,
    ⟨some 42, .ext (.t 36) 1, none⟩,
    ⟨some 43, .ext (.t 36) 2, none⟩,
    ⟨some 44, .ext (.t 36) 3, none⟩,
    ⟨some 10, .mv (.t 41), none⟩,
    ⟨some 11, .mv (.t 42), none⟩,
    ⟨some 12, .mv (.t 43), none⟩,
    ⟨some 13, .mv (.t 44), none⟩])
  (.seq (.ops [⟨some 46, .build [.str [], .int .i64 0, .int .i64 0, .int .i64 0] [(0, 1, (.c (.str [97, 110, 121]))), (1, 1, (.c (.int .i64 1)))], none⟩,
    ⟨some 47, .build [.int .i64 0, .int .u64 0, .int .i64 0] [(1, 1, (.c (.int .u64 1)))], none⟩,
    ⟨some 48, .call (.c (.fn n_join_Feed [] [])) [(.t 46), (.c (.nilsl)), (.t 47)], none⟩,
    ⟨some 45, .mv (.t 48), none⟩,
    ⟨some 49, .ext (.t 45) 0, none⟩,
    ⟨some 50, .ext (.t 45) 1, none⟩,
    ⟨some 51, .ext (.t 45) 2, none⟩,
    ⟨some 52, .ext (.t 45) 3, none⟩,
    ⟨some 14, .mv (.t 49), none⟩,
    ⟨some 15, .mv (.t 50), none⟩,
    ⟨some 16, .mv (.t 51), none⟩,
    ⟨some 17, .mv (.t 52), none⟩])
  (.seq (.ops [⟨some 53, .mv (.t 5), none⟩,
    ⟨some 54, .bin .eql (.t 53) (.c (.int .i64 0)), none⟩,
    ⟨some 55, .mv (.t 54), none⟩,
    ⟨some 56, .mv (.t 9), some (55, true)⟩,
    ⟨some 57, .bin .eql (.t 56) (.c (.int .i64 0)), some (55, true)⟩,
    ⟨some 58, .pick (.t 55) (.t 57) (.c (.bool false)), none⟩,
    ⟨some 59, .mv (.t 58), none⟩,
    ⟨some 60, .mv (.t 13), some (59, true)⟩,
    ⟨some 61, .bin .eql (.t 60) (.c (.int .i64 0)), some (59, true)⟩,
    ⟨some 62, .pick (.t 59) (.t 61) (.c (.bool false)), none⟩,
    ⟨some 63, .mv (.t 62), none⟩,
    ⟨some 64, .mv (.t 17), some (63, true)⟩,
    ⟨some 65, .bin .eql (.t 64) (.c (.int .i64 0)), some (63, true)⟩,
    ⟨some 66, .pick (.t 63) (.t 65) (.c (.bool false)), none⟩,
    ⟨some 67, .mv (.t 66), none⟩,
    ⟨some 68, .mv (.t 10), some (67, true)⟩,
    ⟨some 69, .build [.int .i64 0, .int .u64 0, .int .i64 0] [(1, 1, (.c (.int .u64 2)))], some (67, true)⟩,
    ⟨some 70, .bsl 3 true [(.t 69)], some (67, true)⟩,
    ⟨some 71, .call (.c (.fn n_trystref09_Same [] [])) [(.t 68), (.t 70)], some (67, true)⟩,
    ⟨some 72, .pick (.t 67) (.t 71) (.c (.bool false)), none⟩,
    ⟨some 73, .mv (.t 72), none⟩,
    ⟨some 74, .mv (.t 11), some (73, true)⟩,
    ⟨some 75, .build [.int .i64 0, .int .u64 0, .int .i64 0] [(1, 1, (.c (.int .u64 1)))], some (73, true)⟩,
    ⟨some 76, .build [.int .i64 0, .int .u64 0, .int .i64 0] [(0, 1, (.c (.int .i64 1))), (1, 1, (.c (.int .u64 3)))], some (73, true)⟩,
    ⟨some 77, .bsl 3 true [(.t 75), (.t 76)], some (73, true)⟩,
    ⟨some 78, .call (.c (.fn n_trystref09_Same [] [])) [(.t 74), (.t 77)], some (73, true)⟩,
    ⟨some 79, .pick (.t 73) (.t 78) (.c (.bool false)), none⟩,
    ⟨some 80, .mv (.t 79), none⟩,
    ⟨some 81, .mv (.t 15), some (80, true)⟩,
    ⟨some 82, .len 1 (.t 81), some (80, true)⟩,
    ⟨some 83, .bin .eql (.t 82) (.c (.int .i64 1)), some (80, true)⟩,
    ⟨some 84, .pick (.t 80) (.t 83) (.c (.bool false)), none⟩,
    ⟨some 85, .mv (.t 84), none⟩,
    ⟨some 86, .pick (.t 85) (.c (.bool true)) (.c (.bool false)), none⟩,
    ⟨some 87, .mv (.t 86), none⟩,
    ⟨some 88, .pick (.t 87) (.c (.bool true)) (.c (.bool false)), none⟩,
    ⟨some 89, .mv (.t 88), none⟩,
    ⟨some 90, .pick (.t 89) (.c (.bool true)) (.c (.bool false)), none⟩,
    ⟨some 0, .mv (.t 90), none⟩])
  (.ret)))))))
theorem k_trystlaw09_awake : FnIs AP n_trystlaw09_awake c_trystlaw09_awake 91 (rsT [0]) := fnIs_of (fn := Go.Proofs.Try.f20) Go.Proofs.Try.func20 (by kernel_rfl) (by kernel_rfl) (by kernel_rfl) (by kernel_rfl) (by kernel_rfl)
theorem a_trystlaw09_awake {H : List Entry} {K : KV} (h : Wf H → awp AP H.length c_trystlaw09_awake (finW H.length (rsT [0]) K) ([] ++ List.replicate 91 undefV) H) : BCall AP n_trystlaw09_awake [] H K := k_trystlaw09_awake.call (by kernel_rfl) h
/-- tryst/join.Expire: 35 slots -/
def c_join_Expire : AC := .seq (.ops [⟨some 3, .box (.t 0), none⟩,
    ⟨some 5, .box (.t 2), none⟩,
    ⟨some 6, .mv (.c (.nilsl)), none⟩,
    ⟨some 7, .mv (.c (.nilsl)), none⟩,
    ⟨some 8, .mv (.c (.int .i64 0)), none⟩])
  (.seq (.seq (.ops [⟨some 10, .load 4 true (.t 3), none⟩,
    ⟨some 11, .mv (.t 1), none⟩,
    ⟨some 12, .call (.c (.fn n_join_Check [] [])) [(.t 10), (.t 11)], none⟩,
    ⟨some 13, .bin .neq (.t 12) (.c (.int .i64 0)), none⟩,
    ⟨some 14, .mv (.t 13), none⟩,
    ⟨some 15, .load 1 false (.t 5), some (14, false)⟩,
    ⟨some 16, .call (.c (.fn n_join_isTime [] [])) [(.t 15)], some (14, false)⟩,
    ⟨some 17, .un .not (.t 16), some (14, false)⟩,
    ⟨some 18, .pick (.t 14) (.c (.bool true)) (.t 17), none⟩,
    ⟨some 19, .mv (.t 18), none⟩,
    ⟨some 20, .mv (.t 1), some (19, false)⟩,
    ⟨some 21, .load 1 false (.t 5), some (19, false)⟩,
    ⟨some 22, .call (.c (.fn n_join_isLate [] [])) [(.t 20), (.t 21)], some (19, false)⟩,
    ⟨some 23, .pick (.t 19) (.c (.bool true)) (.t 22), none⟩])
  (.cond (.t 23) (.seq (.ops [⟨some 6, .mv (.c (.nilsl)), none⟩,
    ⟨some 7, .mv (.c (.nilsl)), none⟩,
    ⟨some 8, .mv (.c (.int .i64 1)), none⟩])
  (.ret)) (.skip)))
  (.seq (.ops [⟨some 24, .mv (.t 1), none⟩,
    ⟨some 25, .mkfn n_join_Expire_1 [] [(.t 3), (.t 5)], none⟩,
    ⟨some 26, .call (.c (.fn n_list_Place_api_Kept [] [])) [(.t 24), (.t 25)], none⟩,
    ⟨some 9, .mv (.t 26), none⟩])
  (.seq (.draw [⟨some 27, .mv (.t 1), none⟩,
    ⟨some 28, .mv (.t 9), none⟩,
    ⟨some 29, .slcm 3 (.t 27) (some (.t 28)) none none, none⟩,
    ⟨some 30, .dcall (.c (.fn n_slices_Clone_api_Kept_api_Kept [] [])) [(.t 29)], none⟩,
    ⟨some 31, .mv (.t 1), none⟩,
    ⟨some 32, .mv (.t 9), none⟩,
    ⟨some 33, .slcm 3 (.t 31) none (some (.t 32)) none, none⟩,
    ⟨some 34, .dcall (.c (.fn n_slices_Clone_api_Kept_api_Kept [] [])) [(.t 33)], none⟩,
    ⟨some 6, .mv (.t 30), none⟩,
    ⟨some 7, .mv (.t 34), none⟩,
    ⟨some 8, .mv (.c (.int .i64 0)), none⟩])
  (.ret))))
theorem k_join_Expire : FnIs AP n_join_Expire c_join_Expire 35 (rsT [6, 7, 8]) := fnIs_of (fn := Go.Proofs.Try.f21) Go.Proofs.Try.func21 (by kernel_rfl) (by kernel_rfl) (by kernel_rfl) (by kernel_rfl) (by kernel_rfl)
theorem a_join_Expire {x0 x1 x2 : V} {H : List Entry} {K : KV} (h : Wf H → awp AP H.length c_join_Expire (finW H.length (rsT [6, 7, 8]) K) ([x0, x1, x2] ++ List.replicate 32 undefV) H) : BCall AP n_join_Expire [x0, x1, x2] H K := k_join_Expire.call (by kernel_rfl) h
/-- tryst/trystref09.Expire: 43 slots -/
def c_trystref09_Expire : AC := .seq (.ops [⟨some 3, .box (.t 0), none⟩,
    ⟨some 6, .mv (.c (.nilsl)), none⟩,
    ⟨some 7, .mv (.c (.nilsl)), none⟩])
  (.seq (.ops [⟨some 8, .mv (.c (.nilsl)), none⟩,
    ⟨some 9, .mv (.c (.nilsl)), none⟩])
  (.seq (.seq (.ops [⟨some 10, .mv (.c (.int .i64 0)), none⟩])
  (.block 0 (.loop (.seq (.seq (.ops [⟨some 11, .mv (.t 10), none⟩,
    ⟨some 12, .mv (.t 1), none⟩,
    ⟨some 13, .len 1 (.t 12), none⟩,
    ⟨some 14, .bin .lss (.t 11) (.t 13), none⟩])
  (.cond (.t 14) (.skip) (.exit 0)))
  (.seq (.block 1 (.seq (.draw [⟨some 17, .mv (.t 1), none⟩,
    ⟨some 18, .mv (.t 10), none⟩,
    ⟨some 19, .iad 3 true (.t 17) (.t 18), none⟩,
    ⟨some 20, .fad 2 (.t 19), none⟩,
    ⟨some 21, .load 1 false (.t 20), none⟩,
    ⟨some 22, .fad 3 (.t 3), none⟩,
    ⟨some 23, .load 1 false (.t 22), none⟩,
    ⟨some 24, .bin .add (.t 21) (.t 23), none⟩,
    ⟨some 25, .mv (.t 2), none⟩,
    ⟨some 26, .bin .lss (.t 24) (.t 25), none⟩])
  (.cond (.t 26) (.ops [⟨some 27, .mv (.t 9), none⟩,
    ⟨some 28, .mv (.t 1), none⟩,
    ⟨some 29, .mv (.t 10), none⟩,
    ⟨some 30, .iad 3 true (.t 28) (.t 29), none⟩,
    ⟨some 31, .load 3 true (.t 30), none⟩,
    ⟨some 32, .bsl 3 true [(.t 31)], none⟩,
    ⟨some 33, .app 27 3 24 true (.t 27) (.t 32), none⟩,
    ⟨some 9, .mv (.t 33), none⟩]) (.ops [⟨some 34, .mv (.t 8), none⟩,
    ⟨some 35, .mv (.t 1), none⟩,
    ⟨some 36, .mv (.t 10), none⟩,
    ⟨some 37, .iad 3 true (.t 35) (.t 36), none⟩,
    ⟨some 38, .load 3 true (.t 37), none⟩,
    ⟨some 39, .bsl 3 true [(.t 38)], none⟩,
    ⟨some 40, .app 27 3 24 true (.t 34) (.t 39), none⟩,
    ⟨some 8, .mv (.t 40), none⟩]))))
  (.ops [⟨some 15, .mv (.t 10), none⟩,
    ⟨some 16, .bin .add (.t 15) (.c (.int .i64 1)), none⟩,
    ⟨some 10, .mv (.t 16), none⟩]))))))
  (.seq (.ops [⟨some 41, .mv (.t 8), none⟩,
    ⟨some 42, .mv (.t 9), none⟩,
    ⟨some 6, .mv (.t 41), none⟩,
    ⟨some 7, .mv (.t 42), none⟩])
  (.ret))))
theorem k_trystref09_Expire : FnIs AP n_trystref09_Expire c_trystref09_Expire 43 (rsT [6, 7]) := fnIs_of (fn := Go.Proofs.Try.f22) Go.Proofs.Try.func22 (by kernel_rfl) (by kernel_rfl) (by kernel_rfl) (by kernel_rfl) (by kernel_rfl)
theorem a_trystref09_Expire {x0 x1 x2 : V} {H : List Entry} {K : KV} (h : Wf H → awp AP H.length c_trystref09_Expire (finW H.length (rsT [6, 7]) K) ([x0, x1, x2] ++ List.replicate 40 undefV) H) : BCall AP n_trystref09_Expire [x0, x1, x2] H K := k_trystref09_Expire.call (by kernel_rfl) h
/-- tryst/join.mayKept: 20 slots -/
def c_join_mayKept : AC := .seq (.ops [⟨some 2, .box (.t 0), none⟩,
    ⟨some 3, .box (.t 1), none⟩,
    ⟨some 4, .mv (.c (.bool false)), none⟩])
  (.seq (.ops [⟨some 5, .fad 0 (.t 3), none⟩,
    ⟨some 6, .load 1 false (.t 5), none⟩,
    ⟨some 7, .bin .geq (.t 6) (.c (.int .i64 0)), none⟩,
    ⟨some 8, .mv (.t 7), none⟩,
    ⟨some 9, .fad 0 (.t 3), some (8, true)⟩,
    ⟨some 10, .load 1 false (.t 9), some (8, true)⟩,
    ⟨some 11, .fad 1 (.t 2), some (8, true)⟩,
    ⟨some 12, .load 1 false (.t 11), some (8, true)⟩,
    ⟨some 13, .bin .lss (.t 10) (.t 12), some (8, true)⟩,
    ⟨some 14, .pick (.t 8) (.t 13) (.c (.bool false)), none⟩,
    ⟨some 15, .mv (.t 14), none⟩,
    ⟨some 16, .fad 2 (.t 3), some (15, true)⟩,
    ⟨some 17, .load 1 false (.t 16), some (15, true)⟩,
    ⟨some 18, .call (.c (.fn n_join_isTime [] [])) [(.t 17)], some (15, true)⟩,
    ⟨some 19, .pick (.t 15) (.t 18) (.c (.bool false)), none⟩,
    ⟨some 4, .mv (.t 19), none⟩])
  (.ret))
theorem k_join_mayKept : FnIs AP n_join_mayKept c_join_mayKept 20 (rsT [4]) := fnIs_of (fn := Go.Proofs.Try.f23) Go.Proofs.Try.func23 (by kernel_rfl) (by kernel_rfl) (by kernel_rfl) (by kernel_rfl) (by kernel_rfl)
theorem a_join_mayKept {x0 x1 : V} {H : List Entry} {K : KV} (h : Wf H → awp AP H.length c_join_mayKept (finW H.length (rsT [4]) K) ([x0, x1] ++ List.replicate 18 undefV) H) : BCall AP n_join_mayKept [x0, x1] H K := k_join_mayKept.call (by kernel_rfl) h
/-- tryst/join.isLate: 19 slots -/
def c_join_isLate : AC := .seq (.ops [⟨some 4, .mv (.c (.bool false)), none⟩])
  (.seq (.ops [⟨some 5, .mv (.t 0), none⟩,
    ⟨some 6, .len 1 (.t 5), none⟩,
    ⟨some 7, .bin .gtr (.t 6) (.c (.int .i64 0)), none⟩,
    ⟨some 8, .mv (.t 7), none⟩,
    ⟨some 9, .mv (.t 1), some (8, true)⟩,
    ⟨some 10, .mv (.t 0), some (8, true)⟩,
    ⟨some 11, .mv (.t 0), some (8, true)⟩,
    ⟨some 12, .len 1 (.t 11), some (8, true)⟩,
    ⟨some 13, .bin .sub (.t 12) (.c (.int .i64 1)), some (8, true)⟩,
    ⟨some 14, .iad 3 true (.t 10) (.t 13), some (8, true)⟩,
    ⟨some 15, .fad 2 (.t 14), some (8, true)⟩,
    ⟨some 16, .load 1 false (.t 15), some (8, true)⟩,
    ⟨some 17, .bin .lss (.t 9) (.t 16), some (8, true)⟩,
    ⟨some 18, .pick (.t 8) (.t 17) (.c (.bool false)), none⟩,
    ⟨some 4, .mv (.t 18), none⟩])
  (.ret))
theorem k_join_isLate : FnIs AP n_join_isLate c_join_isLate 19 (rsT [4]) := fnIs_of (fn := Go.Proofs.Try.f24) Go.Proofs.Try.func24 (by kernel_rfl) (by kernel_rfl) (by kernel_rfl) (by kernel_rfl) (by kernel_rfl)
theorem a_join_isLate {x0 x1 : V} {H : List Entry} {K : KV} (h : Wf H → awp AP H.length c_join_isLate (finW H.length (rsT [4]) K) ([x0, x1] ++ List.replicate 17 undefV) H) : BCall AP n_join_isLate [x0, x1] H K := k_join_isLate.call (by kernel_rfl) h
/-- tryst/join.hasId: 8 slots -/
def c_join_hasId : AC := .seq (.ops [⟨some 3, .box (.t 1), none⟩,
    ⟨some 4, .mv (.c (.bool false)), none⟩])
  (.seq (.ops [⟨some 5, .mv (.t 0), none⟩,
    ⟨some 6, .mkfn n_join_hasId_1 [] [(.t 3)], none⟩,
    ⟨some 7, .call (.c (.fn n_slices_ContainsFunc_api_Kept_api_Kept [] [])) [(.t 5), (.t 6)], none⟩,
    ⟨some 4, .mv (.t 7), none⟩])
  (.ret))
theorem k_join_hasId : FnIs AP n_join_hasId c_join_hasId 8 (rsT [4]) := fnIs_of (fn := Go.Proofs.Try.f25) Go.Proofs.Try.func25 (by kernel_rfl) (by kernel_rfl) (by kernel_rfl) (by kernel_rfl) (by kernel_rfl)
theorem a_join_hasId {x0 x1 : V} {H : List Entry} {K : KV} (h : Wf H → awp AP H.length c_join_hasId (finW H.length (rsT [4]) K) ([x0, x1] ++ List.replicate 6 undefV) H) : BCall AP n_join_hasId [x0, x1] H K := k_join_hasId.call (by kernel_rfl) h
/-- tryst/join.meeting: 16 slots -/
def c_join_meeting : AC := .seq (.ops [⟨some 2, .box (.t 0), none⟩,
    ⟨some 3, .box (.t 1), none⟩,
    ⟨some 4, .mv (.c (.nilsl)), none⟩])
  (.seq (.ops [⟨some 6, .mkm, none⟩,
    ⟨some 7, .mkfn n_join_meeting_1 [] [(.t 2), (.t 3)], none⟩,
    ⟨none, .mput false [2] (.t 6) (.c (.str [97, 108, 108])) (.t 7), none⟩,
    ⟨some 8, .mkfn n_join_meeting_2 [] [(.t 3)], none⟩,
    ⟨none, .mput false [2] (.t 6) (.c (.str [97, 110, 121])) (.t 8), none⟩,
    ⟨some 9, .mkfn n_join_meeting_3 [] [(.t 2), (.t 3)], none⟩,
    ⟨none, .mput false [2] (.t 6) (.c (.str [99, 111, 117, 110, 116])) (.t 9), none⟩,
    ⟨some 10, .mv (.t 6), none⟩,
    ⟨some 5, .mv (.t 10), none⟩])
  (.seq (.ops [⟨some 11, .mv (.t 5), none⟩,
    ⟨some 12, .fad 0 (.t 2), none⟩,
    ⟨some 13, .load 1 false (.t 12), none⟩,
    ⟨some 14, .mget false [2] (.nilfn) false (.t 11) (.t 13), none⟩,
    ⟨some 15, .call (.t 14) [], none⟩,
    ⟨some 4, .mv (.t 15), none⟩])
  (.ret)))
theorem k_join_meeting : FnIs AP n_join_meeting c_join_meeting 16 (rsT [4]) := fnIs_of (fn := Go.Proofs.Try.f26) Go.Proofs.Try.func26 (by kernel_rfl) (by kernel_rfl) (by kernel_rfl) (by kernel_rfl) (by kernel_rfl)
theorem a_join_meeting {x0 x1 : V} {H : List Entry} {K : KV} (h : Wf H → awp AP H.length c_join_meeting (finW H.length (rsT [4]) K) ([x0, x1] ++ List.replicate 14 undefV) H) : BCall AP n_join_meeting [x0, x1] H K := k_join_meeting.call (by kernel_rfl) h
/-- tryst/join.taken: 38 slots -/
def c_join_taken : AC := .seq (.ops [⟨some 4, .mv (.c (.nilsl)), none⟩,
    ⟨some 5, .mv (.c (.nilsl)), none⟩])
  (.seq (.seq (.ops [⟨some 8, .mv (.t 0), none⟩,
    ⟨some 9, .len 1 (.t 8), none⟩,
    ⟨some 10, .mv (.c (.int .i64 0)), none⟩])
  (.block 0 (.loop (.seq (.ops [⟨some 11, .bin .lss (.t 10) (.t 9), none⟩])
  (.seq (.cond (.t 11) (.skip) (.exit 0))
  (.seq (.block 1 (.seq (.ops [⟨some 12, .mv (.t 10), none⟩,
    ⟨some 13, .iad 3 true (.t 8) (.t 10), none⟩,
    ⟨some 14, .load 3 true (.t 13), none⟩,
    ⟨some 7, .alloc [.int .i64 0, .int .u64 0, .int .i64 0], none⟩,
    ⟨some 6, .mv (.t 12), none⟩,
    ⟨none, .store 3 (.t 7) (.t 14), none⟩])
  (.seq (.ops [⟨some 15, .mv (.t 1), none⟩,
    ⟨some 16, .len 1 (.t 15), none⟩,
    ⟨some 17, .bin .gtr (.t 16) (.c (.int .i64 0)), none⟩,
    ⟨some 18, .mv (.t 17), none⟩,
    ⟨some 19, .mv (.t 1), some (18, true)⟩,
    ⟨some 20, .iad 1 false (.t 19) (.c (.int .i64 0)), some (18, true)⟩,
    ⟨some 21, .load 1 false (.t 20), some (18, true)⟩,
    ⟨some 22, .mv (.t 6), some (18, true)⟩,
    ⟨some 23, .bin .eql (.t 21) (.t 22), some (18, true)⟩,
    ⟨some 24, .pick (.t 18) (.t 23) (.c (.bool false)), none⟩])
  (.cond (.t 24) (.seq (.ops [⟨some 25, .mv (.t 1), none⟩,
    ⟨some 26, .slc 1 (.t 25) (some (.c (.int .i64 1))) none none, none⟩,
    ⟨some 1, .mv (.t 26), none⟩])
  (.ops [⟨some 27, .mv (.t 5), none⟩,
    ⟨some 28, .load 3 true (.t 7), none⟩,
    ⟨some 29, .bsl 3 true [(.t 28)], none⟩,
    ⟨some 30, .app 27 3 24 true (.t 27) (.t 29), none⟩,
    ⟨some 5, .mv (.t 30), none⟩])) (.ops [⟨some 31, .mv (.t 4), none⟩,
    ⟨some 32, .load 3 true (.t 7), none⟩,
    ⟨some 33, .bsl 3 true [(.t 32)], none⟩,
    ⟨some 34, .app 27 3 24 true (.t 31) (.t 33), none⟩,
    ⟨some 4, .mv (.t 34), none⟩])))))
  (.ops [⟨some 35, .bin .add (.t 10) (.c (.int .i64 1)), none⟩,
    ⟨some 10, .mv (.t 35), none⟩])))))))
  (.seq (.ops [⟨some 36, .mv (.t 4), none⟩,
    ⟨some 37, .mv (.t 5), none⟩,
    ⟨some 4, .mv (.t 36), none⟩,
    ⟨some 5, .mv (.t 37), none⟩])
  (.ret)))
theorem k_join_taken : FnIs AP n_join_taken c_join_taken 38 (rsT [4, 5]) := fnIs_of (fn := Go.Proofs.Try.f27) Go.Proofs.Try.func27 (by kernel_rfl) (by kernel_rfl) (by kernel_rfl) (by kernel_rfl) (by kernel_rfl)
theorem a_join_taken {x0 x1 : V} {H : List Entry} {K : KV} (h : Wf H → awp AP H.length c_join_taken (finW H.length (rsT [4, 5]) K) ([x0, x1] ++ List.replicate 36 undefV) H) : BCall AP n_join_taken [x0, x1] H K := k_join_taken.call (by kernel_rfl) h
/-- tryst/trystref09.Firing: 89 slots -/
def c_trystref09_Firing : AC := .seq (.ops [⟨some 2, .box (.t 0), none⟩,
    ⟨some 4, .mv (.c (.nilsl)), none⟩,
    ⟨some 5, .mv (.c (.bool false)), none⟩])
  (.seq (.ops [⟨some 12, .mv (.t 1), none⟩,
    ⟨some 13, .len 1 (.t 12), none⟩,
    ⟨some 14, .mks 4 1 false [.bool false] 1 (.t 13) (.t 13), none⟩,
    ⟨some 6, .mv (.t 14), none⟩])
  (.seq (.ops [⟨some 7, .mv (.c (.int .i64 0)), none⟩])
  (.seq (.seq (.ops [⟨some 8, .mv (.c (.int .i64 0)), none⟩])
  (.block 0 (.loop (.seq (.seq (.ops [⟨some 15, .mv (.t 8), none⟩,
    ⟨some 16, .mv (.t 1), none⟩,
    ⟨some 17, .len 1 (.t 16), none⟩,
    ⟨some 18, .bin .lss (.t 15) (.t 17), none⟩])
  (.cond (.t 18) (.skip) (.exit 0)))
  (.seq (.block 1 (.seq (.ops [⟨some 9, .mv (.c (.bool true)), none⟩])
  (.seq (.seq (.ops [⟨some 10, .mv (.c (.int .i64 0)), none⟩])
  (.block 2 (.loop (.seq (.seq (.ops [⟨some 21, .mv (.t 10), none⟩,
    ⟨some 22, .mv (.t 8), none⟩,
    ⟨some 23, .bin .lss (.t 21) (.t 22), none⟩])
  (.cond (.t 23) (.skip) (.exit 2)))
  (.seq (.block 3 (.draw [⟨some 26, .mv (.t 9), none⟩,
    ⟨some 27, .mv (.t 26), none⟩,
    ⟨some 28, .mv (.t 1), some (27, true)⟩,
    ⟨some 29, .mv (.t 10), some (27, true)⟩,
    ⟨some 30, .iad 3 true (.t 28) (.t 29), some (27, true)⟩,
    ⟨some 31, .fad 0 (.t 30), some (27, true)⟩,
    ⟨some 32, .load 1 false (.t 31), some (27, true)⟩,
    ⟨some 33, .mv (.t 1), some (27, true)⟩,
    ⟨some 34, .mv (.t 8), some (27, true)⟩,
    ⟨some 35, .iad 3 true (.t 33) (.t 34), some (27, true)⟩,
    ⟨some 36, .fad 0 (.t 35), some (27, true)⟩,
    ⟨some 37, .load 1 false (.t 36), some (27, true)⟩,
    ⟨some 38, .bin .neq (.t 32) (.t 37), some (27, true)⟩,
    ⟨some 39, .pick (.t 27) (.t 38) (.c (.bool false)), none⟩,
    ⟨some 9, .mv (.t 39), none⟩]))
  (.ops [⟨some 24, .mv (.t 10), none⟩,
    ⟨some 25, .bin .add (.t 24) (.c (.int .i64 1)), none⟩,
    ⟨some 10, .mv (.t 25), none⟩]))))))
  (.seq (.ops [⟨some 40, .mv (.t 6), none⟩,
    ⟨some 41, .mv (.t 8), none⟩,
    ⟨some 42, .fad 0 (.t 2), none⟩,
    ⟨some 43, .load 1 false (.t 42), none⟩,
    ⟨some 44, .bin .eql (.t 43) (.c (.str [97, 108, 108])), none⟩,
    ⟨some 45, .mv (.t 44), none⟩,
    ⟨some 46, .mv (.t 9), some (45, true)⟩,
    ⟨some 47, .pick (.t 45) (.t 46) (.c (.bool false)), none⟩,
    ⟨some 48, .mv (.t 47), none⟩,
    ⟨some 49, .fad 0 (.t 2), some (48, false)⟩,
    ⟨some 50, .load 1 false (.t 49), some (48, false)⟩,
    ⟨some 51, .bin .eql (.t 50) (.c (.str [97, 110, 121])), some (48, false)⟩,
    ⟨some 52, .mv (.t 51), some (48, false)⟩,
    ⟨some 53, .mv (.t 8), some (52, true)⟩,
    ⟨some 54, .bin .eql (.t 53) (.c (.int .i64 0)), some (52, true)⟩,
    ⟨some 55, .pick (.t 52) (.t 54) (.c (.bool false)), some (48, false)⟩,
    ⟨some 56, .pick (.t 48) (.c (.bool true)) (.t 55), none⟩,
    ⟨some 57, .mv (.t 56), none⟩,
    ⟨some 58, .fad 0 (.t 2), some (57, false)⟩,
    ⟨some 59, .load 1 false (.t 58), some (57, false)⟩,
    ⟨some 60, .bin .eql (.t 59) (.c (.str [99, 111, 117, 110, 116])), some (57, false)⟩,
    ⟨some 61, .mv (.t 60), some (57, false)⟩,
    ⟨some 62, .mv (.t 8), some (61, true)⟩,
    ⟨some 63, .fad 2 (.t 2), some (61, true)⟩,
    ⟨some 64, .load 1 false (.t 63), some (61, true)⟩,
    ⟨some 65, .bin .lss (.t 62) (.t 64), some (61, true)⟩,
    ⟨some 66, .pick (.t 61) (.t 65) (.c (.bool false)), some (57, false)⟩,
    ⟨some 67, .pick (.t 57) (.c (.bool true)) (.t 66), none⟩,
    ⟨some 68, .iad 1 false (.t 40) (.t 41), none⟩,
    ⟨none, .store 1 (.t 68) (.t 67), none⟩])
  (.seq (.ops [⟨some 69, .mv (.t 6), none⟩,
    ⟨some 70, .mv (.t 8), none⟩,
    ⟨some 71, .iad 1 false (.t 69) (.t 70), none⟩,
    ⟨some 72, .load 1 false (.t 71), none⟩])
  (.cond (.t 72) (.ops [⟨some 73, .mv (.t 7), none⟩,
    ⟨some 74, .bin .add (.t 73) (.c (.int .i64 1)), none⟩,
    ⟨some 7, .mv (.t 74), none⟩]) (.skip)))))))
  (.ops [⟨some 19, .mv (.t 8), none⟩,
    ⟨some 20, .bin .add (.t 19) (.c (.int .i64 1)), none⟩,
    ⟨some 8, .mv (.t 20), none⟩]))))))
  (.seq (.ops [⟨some 11, .mv (.c (.int .i64 1)), none⟩])
  (.seq (.seq (.ops [⟨some 75, .fad 0 (.t 2), none⟩,
    ⟨some 76, .load 1 false (.t 75), none⟩,
    ⟨some 77, .bin .eql (.t 76) (.c (.str [97, 108, 108])), none⟩])
  (.cond (.t 77) (.ops [⟨some 78, .fad 1 (.t 2), none⟩,
    ⟨some 79, .load 1 false (.t 78), none⟩,
    ⟨some 11, .mv (.t 79), none⟩]) (.skip)))
  (.seq (.seq (.ops [⟨some 80, .fad 0 (.t 2), none⟩,
    ⟨some 81, .load 1 false (.t 80), none⟩,
    ⟨some 82, .bin .eql (.t 81) (.c (.str [99, 111, 117, 110, 116])), none⟩])
  (.cond (.t 82) (.ops [⟨some 83, .fad 2 (.t 2), none⟩,
    ⟨some 84, .load 1 false (.t 83), none⟩,
    ⟨some 11, .mv (.t 84), none⟩]) (.skip)))
  (.seq (.ops [⟨some 85, .mv (.t 6), none⟩,
    ⟨some 86, .mv (.t 7), none⟩,
    ⟨some 87, .mv (.t 11), none⟩,
    ⟨some 88, .bin .geq (.t 86) (.t 87), none⟩,
    ⟨some 4, .mv (.t 85), none⟩,
    ⟨some 5, .mv (.t 88), none⟩])
  (.ret))))))))
theorem k_trystref09_Firing : FnIs AP n_trystref09_Firing c_trystref09_Firing 89 (rsT [4, 5]) := fnIs_of (fn := Go.Proofs.Try.f28) Go.Proofs.Try.func28 (by kernel_rfl) (by kernel_rfl) (by kernel_rfl) (by kernel_rfl) (by kernel_rfl)
theorem a_trystref09_Firing {x0 x1 : V} {H : List Entry} {K : KV} (h : Wf H → awp AP H.length c_trystref09_Firing (finW H.length (rsT [4, 5]) K) ([x0, x1] ++ List.replicate 87 undefV) H) : BCall AP n_trystref09_Firing [x0, x1] H K := k_trystref09_Firing.call (by kernel_rfl) h
/-- tryst/join.mayNeed: 21 slots -/
def c_join_mayNeed : AC := .seq (.ops [⟨some 1, .box (.t 0), none⟩,
    ⟨some 2, .mv (.c (.bool false)), none⟩])
  (.seq (.seq (.ops [⟨some 3, .fad 0 (.t 1), none⟩,
    ⟨some 4, .load 1 false (.t 3), none⟩])
  (.block 0 (.seq (.ops [⟨some 6, .bin .eql (.t 4) (.c (.str [99, 111, 117, 110, 116])), none⟩,
    ⟨some 5, .mv (.t 6), none⟩])
  (.cond (.t 5) (.seq (.ops [⟨some 7, .fad 2 (.t 1), none⟩,
    ⟨some 8, .load 1 false (.t 7), none⟩,
    ⟨some 9, .bin .geq (.t 8) (.c (.int .i64 1)), none⟩,
    ⟨some 10, .mv (.t 9), none⟩,
    ⟨some 11, .fad 2 (.t 1), some (10, true)⟩,
    ⟨some 12, .load 1 false (.t 11), some (10, true)⟩,
    ⟨some 13, .bin .leq (.t 12) (.c (.int .i64 30)), some (10, true)⟩,
    ⟨some 14, .pick (.t 10) (.t 13) (.c (.bool false)), none⟩,
    ⟨some 2, .mv (.t 14), none⟩])
  (.ret)) (.seq (.seq (.ops [⟨some 16, .bin .eql (.t 4) (.c (.str [97, 108, 108])), none⟩,
    ⟨some 15, .mv (.t 16), none⟩])
  (.cond (.t 15) (.skip) (.ops [⟨some 17, .bin .eql (.t 4) (.c (.str [97, 110, 121])), none⟩,
    ⟨some 15, .mv (.t 17), none⟩])))
  (.cond (.t 15) (.seq (.ops [⟨some 18, .fad 2 (.t 1), none⟩,
    ⟨some 19, .load 1 false (.t 18), none⟩,
    ⟨some 20, .bin .eql (.t 19) (.c (.int .i64 0)), none⟩,
    ⟨some 2, .mv (.t 20), none⟩])
  (.ret)) (.skip)))))))
  (.seq (.ops [⟨some 2, .mv (.c (.bool false)), none⟩])
  (.ret)))
theorem k_join_mayNeed : FnIs AP n_join_mayNeed c_join_mayNeed 21 (rsT [2]) := fnIs_of (fn := Go.Proofs.Try.f29) Go.Proofs.Try.func29 (by kernel_rfl) (by kernel_rfl) (by kernel_rfl) (by kernel_rfl) (by kernel_rfl)
theorem a_join_mayNeed {x0 : V} {H : List Entry} {K : KV} (h : Wf H → awp AP H.length c_join_mayNeed (finW H.length (rsT [2]) K) ([x0] ++ List.replicate 20 undefV) H) : BCall AP n_join_mayNeed [x0] H K := k_join_mayNeed.call (by kernel_rfl) h
/-- tryst/join.mayWait: 49 slots -/
def c_join_mayWait : AC := .seq (.ops [⟨some 2, .box (.t 0), none⟩,
    ⟨some 4, .mv (.c (.bool false)), none⟩])
  (.seq (.seq (.ops [⟨some 7, .mv (.t 1), none⟩,
    ⟨some 8, .len 1 (.t 7), none⟩,
    ⟨some 9, .bin .geq (.t 8) (.c (.int .i64 30)), none⟩,
    ⟨some 10, .mv (.t 9), none⟩,
    ⟨some 11, .mv (.t 1), some (10, false)⟩,
    ⟨some 12, .mkfn n_join_mayWait_1 [] [(.t 2)], some (10, false)⟩,
    ⟨some 13, .call (.c (.fn n_slices_ContainsFunc_api_Kept_api_Kept [] [])) [(.t 11), (.t 12)], some (10, false)⟩,
    ⟨some 14, .pick (.t 10) (.c (.bool true)) (.t 13), none⟩])
  (.cond (.t 14) (.seq (.ops [⟨some 4, .mv (.c (.bool false)), none⟩])
  (.ret)) (.skip)))
  (.seq (.seq (.ops [⟨some 15, .mv (.t 1), none⟩,
    ⟨some 16, .len 1 (.t 15), none⟩,
    ⟨some 17, .mv (.c (.int .i64 0)), none⟩])
  (.block 0 (.loop (.seq (.ops [⟨some 18, .bin .lss (.t 17) (.t 16), none⟩])
  (.seq (.cond (.t 18) (.skip) (.exit 0))
  (.seq (.block 1 (.seq (.ops [⟨some 19, .mv (.t 17), none⟩,
    ⟨some 20, .iad 3 true (.t 15) (.t 17), none⟩,
    ⟨some 21, .load 3 true (.t 20), none⟩,
    ⟨some 6, .alloc [.int .i64 0, .int .u64 0, .int .i64 0], none⟩,
    ⟨some 5, .mv (.t 19), none⟩,
    ⟨none, .store 3 (.t 6) (.t 21), none⟩])
  (.seq (.draw [⟨some 22, .mv (.t 5), none⟩,
    ⟨some 23, .bin .gtr (.t 22) (.c (.int .i64 0)), none⟩,
    ⟨some 24, .mv (.t 23), none⟩,
    ⟨some 25, .fad 2 (.t 6), some (24, true)⟩,
    ⟨some 26, .load 1 false (.t 25), some (24, true)⟩,
    ⟨some 27, .mv (.t 1), some (24, true)⟩,
    ⟨some 28, .mv (.t 5), some (24, true)⟩,
    ⟨some 29, .bin .sub (.t 28) (.c (.int .i64 1)), some (24, true)⟩,
    ⟨some 30, .iad 3 true (.t 27) (.t 29), some (24, true)⟩,
    ⟨some 31, .fad 2 (.t 30), some (24, true)⟩,
    ⟨some 32, .load 1 false (.t 31), some (24, true)⟩,
    ⟨some 33, .bin .lss (.t 26) (.t 32), some (24, true)⟩,
    ⟨some 34, .pick (.t 24) (.t 33) (.c (.bool false)), none⟩,
    ⟨some 35, .mv (.t 34), none⟩,
    ⟨some 36, .mv (.t 1), some (35, false)⟩,
    ⟨some 37, .mv (.t 5), some (35, false)⟩,
    ⟨some 38, .slcm 3 (.t 36) none (some (.t 37)) none, some (35, false)⟩,
    ⟨some 39, .fad 1 (.t 6), some (35, false)⟩,
    ⟨some 40, .load 1 false (.t 39), some (35, false)⟩,
    ⟨some 41, .dcall (.c (.fn n_join_hasId [] [])) [(.t 38), (.t 40)], some (35, false)⟩,
    ⟨some 42, .pick (.t 35) (.c (.bool true)) (.t 41), none⟩])
  (.cond (.t 42) (.seq (.ops [⟨some 4, .mv (.c (.bool false)), none⟩])
  (.ret)) (.skip)))))
  (.ops [⟨some 43, .bin .add (.t 17) (.c (.int .i64 1)), none⟩,
    ⟨some 17, .mv (.t 43), none⟩])))))))
  (.seq (.ops [⟨some 44, .load 4 true (.t 2), none⟩,
    ⟨some 45, .mv (.t 1), none⟩,
    ⟨some 46, .call (.c (.fn n_join_meeting [] [])) [(.t 44), (.t 45)], none⟩,
    ⟨some 47, .len 1 (.t 46), none⟩,
    ⟨some 48, .bin .eql (.t 47) (.c (.int .i64 0)), none⟩,
    ⟨some 4, .mv (.t 48), none⟩])
  (.ret))))
theorem k_join_mayWait : FnIs AP n_join_mayWait c_join_mayWait 49 (rsT [4]) := fnIs_of (fn := Go.Proofs.Try.f30) Go.Proofs.Try.func30 (by kernel_rfl) (by kernel_rfl) (by kernel_rfl) (by kernel_rfl) (by kernel_rfl)
theorem a_join_mayWait {x0 x1 : V} {H : List Entry} {K : KV} (h : Wf H → awp AP H.length c_join_mayWait (finW H.length (rsT [4]) K) ([x0, x1] ++ List.replicate 47 undefV) H) : BCall AP n_join_mayWait [x0, x1] H K := k_join_mayWait.call (by kernel_rfl) h
/-- tryst/join.isTime: 9 slots -/
def c_join_isTime : AC := .seq (.ops [⟨some 2, .mv (.c (.bool false)), none⟩])
  (.seq (.ops [⟨some 3, .mv (.t 0), none⟩,
    ⟨some 4, .bin .geq (.t 3) (.c (.int .i64 0)), none⟩,
    ⟨some 5, .mv (.t 4), none⟩,
    ⟨some 6, .mv (.t 0), some (5, true)⟩,
    ⟨some 7, .bin .leq (.t 6) (.c (.int .i64 1099511627775)), some (5, true)⟩,
    ⟨some 8, .pick (.t 5) (.t 7) (.c (.bool false)), none⟩,
    ⟨some 2, .mv (.t 8), none⟩])
  (.ret))
theorem k_join_isTime : FnIs AP n_join_isTime c_join_isTime 9 (rsT [2]) := fnIs_of (fn := Go.Proofs.Try.f31) Go.Proofs.Try.func31 (by kernel_rfl) (by kernel_rfl) (by kernel_rfl) (by kernel_rfl) (by kernel_rfl)
theorem a_join_isTime {x0 : V} {H : List Entry} {K : KV} (h : Wf H → awp AP H.length c_join_isTime (finW H.length (rsT [2]) K) ([x0] ++ List.replicate 8 undefV) H) : BCall AP n_join_isTime [x0] H K := k_join_isTime.call (by kernel_rfl) h
/-- tryst/list.Place[tryst/api.Kept]: 14 slots -/
def c_list_Place_api_Kept : AC := .seq (.ops [⟨some 4, .mv (.c (.int .i64 0)), none⟩])
  (.seq (.seq (.ops [⟨some 6, .mv (.t 0), none⟩,
    ⟨some 7, .mv (.t 1), none⟩,
    ⟨some 8, .call (.c (.fn n_slices_IndexFunc_api_Kept_api_Kept [] [])) [(.t 6), (.t 7)], none⟩,
    ⟨some 5, .mv (.t 8), none⟩])
  (.seq (.ops [⟨some 9, .mv (.t 5), none⟩,
    ⟨some 10, .bin .geq (.t 9) (.c (.int .i64 0)), none⟩])
  (.cond (.t 10) (.seq (.ops [⟨some 11, .mv (.t 5), none⟩,
    ⟨some 4, .mv (.t 11), none⟩])
  (.ret)) (.skip))))
  (.seq (.ops [⟨some 12, .mv (.t 0), none⟩,
    ⟨some 13, .len 1 (.t 12), none⟩,
    ⟨some 4, .mv (.t 13), none⟩])
  (.ret)))
theorem k_list_Place_api_Kept : FnIs AP n_list_Place_api_Kept c_list_Place_api_Kept 14 (rsT [4]) := fnIs_of (fn := Go.Proofs.Try.f32) Go.Proofs.Try.func32 (by kernel_rfl) (by kernel_rfl) (by kernel_rfl) (by kernel_rfl) (by kernel_rfl)
theorem a_list_Place_api_Kept {x0 x1 : V} {H : List Entry} {K : KV} (h : Wf H → awp AP H.length c_list_Place_api_Kept (finW H.length (rsT [4]) K) ([x0, x1] ++ List.replicate 12 undefV) H) : BCall AP n_list_Place_api_Kept [x0, x1] H K := k_list_Place_api_Kept.call (by kernel_rfl) h
/-- tryst/join.Expire$1: 12 slots -/
def c_join_Expire_1 : AC := .seq (.ops [⟨some 3, .box (.t 0), none⟩,
    ⟨some 4, .mv (.c (.bool false)), none⟩])
  (.seq (.ops [⟨some 5, .fad 2 (.t 3), none⟩,
    ⟨some 6, .load 1 false (.t 5), none⟩,
    ⟨some 7, .fad 3 (.t 1), none⟩,
    ⟨some 8, .load 1 false (.t 7), none⟩,
    ⟨some 9, .bin .add (.t 6) (.t 8), none⟩,
    ⟨some 10, .load 1 false (.t 2), none⟩,
    ⟨some 11, .bin .geq (.t 9) (.t 10), none⟩,
    ⟨some 4, .mv (.t 11), none⟩])
  (.ret))
theorem k_join_Expire_1 : FnIs AP n_join_Expire_1 c_join_Expire_1 12 (rsT [4]) := fnIs_of (fn := Go.Proofs.Try.f33) Go.Proofs.Try.func33 (by kernel_rfl) (by kernel_rfl) (by kernel_rfl) (by kernel_rfl) (by kernel_rfl)
theorem a_join_Expire_1 {x0 x1 x2 : V} {H : List Entry} {K : KV} (h : Wf H → awp AP H.length c_join_Expire_1 (finW H.length (rsT [4]) K) ([x0, x1, x2] ++ List.replicate 9 undefV) H) : BCall AP n_join_Expire_1 [x0, x1, x2] H K := k_join_Expire_1.call (by kernel_rfl) h
/-- slices.Clone[[]tryst/api.Kept,tryst/api.Kept]: 8 slots -/
def c_slices_Clone_api_Kept_api_Kept : AC := .seq (.ops [⟨some 2, .mv (.c (.nilsl)), none⟩])
  (.seq (.seq (.ops [⟨some 3, .mv (.t 0), none⟩,
    ⟨some 4, .cnil 0 false (.t 3) (.c (.nilsl)), none⟩])
  (.cond (.t 4) (.seq (.ops [⟨some 2, .mv (.c (.nilsl)), none⟩])
  (.ret)) (.skip)))
  (.seq (.ops [⟨some 5, .bsl 3 true [], none⟩,
    ⟨some 6, .mv (.t 0), none⟩,
    ⟨some 7, .app 27 3 24 true (.t 5) (.t 6), none⟩,
    ⟨some 2, .mv (.t 7), none⟩])
  (.ret)))
theorem k_slices_Clone_api_Kept_api_Kept : FnIs AP n_slices_Clone_api_Kept_api_Kept c_slices_Clone_api_Kept_api_Kept 8 (rsT [2]) := fnIs_of (fn := Go.Proofs.Try.f34) Go.Proofs.Try.func34 (by kernel_rfl) (by kernel_rfl) (by kernel_rfl) (by kernel_rfl) (by kernel_rfl)
theorem a_slices_Clone_api_Kept_api_Kept {x0 : V} {H : List Entry} {K : KV} (h : Wf H → awp AP H.length c_slices_Clone_api_Kept_api_Kept (finW H.length (rsT [2]) K) ([x0] ++ List.replicate 7 undefV) H) : BCall AP n_slices_Clone_api_Kept_api_Kept [x0] H K := k_slices_Clone_api_Kept_api_Kept.call (by kernel_rfl) h
/-- slices.ContainsFunc[[]tryst/api.Kept,tryst/api.Kept]: 9 slots -/
def c_slices_ContainsFunc_api_Kept_api_Kept : AC := .seq (.ops [⟨some 4, .mv (.c (.bool false)), none⟩])
  (.seq (.ops [⟨some 5, .mv (.t 0), none⟩,
    ⟨some 6, .mv (.t 1), none⟩,
    ⟨some 7, .call (.c (.fn n_slices_IndexFunc_api_Kept_api_Kept [] [])) [(.t 5), (.t 6)], none⟩,
    ⟨some 8, .bin .geq (.t 7) (.c (.int .i64 0)), none⟩,
    ⟨some 4, .mv (.t 8), none⟩])
  (.ret))
theorem k_slices_ContainsFunc_api_Kept_api_Kept : FnIs AP n_slices_ContainsFunc_api_Kept_api_Kept c_slices_ContainsFunc_api_Kept_api_Kept 9 (rsT [4]) := fnIs_of (fn := Go.Proofs.Try.f35) Go.Proofs.Try.func35 (by kernel_rfl) (by kernel_rfl) (by kernel_rfl) (by kernel_rfl) (by kernel_rfl)
theorem a_slices_ContainsFunc_api_Kept_api_Kept {x0 x1 : V} {H : List Entry} {K : KV} (h : Wf H → awp AP H.length c_slices_ContainsFunc_api_Kept_api_Kept (finW H.length (rsT [4]) K) ([x0, x1] ++ List.replicate 7 undefV) H) : BCall AP n_slices_ContainsFunc_api_Kept_api_Kept [x0, x1] H K := k_slices_ContainsFunc_api_Kept_api_Kept.call (by kernel_rfl) h
/-- tryst/join.hasId$1: 8 slots -/
def c_join_hasId_1 : AC := .seq (.ops [⟨some 2, .box (.t 0), none⟩,
    ⟨some 3, .mv (.c (.bool false)), none⟩])
  (.seq (.ops [⟨some 4, .fad 1 (.t 2), none⟩,
    ⟨some 5, .load 1 false (.t 4), none⟩,
    ⟨some 6, .load 1 false (.t 1), none⟩,
    ⟨some 7, .bin .eql (.t 5) (.t 6), none⟩,
    ⟨some 3, .mv (.t 7), none⟩])
  (.ret))
theorem k_join_hasId_1 : FnIs AP n_join_hasId_1 c_join_hasId_1 8 (rsT [3]) := fnIs_of (fn := Go.Proofs.Try.f36) Go.Proofs.Try.func36 (by kernel_rfl) (by kernel_rfl) (by kernel_rfl) (by kernel_rfl) (by kernel_rfl)
theorem a_join_hasId_1 {x0 x1 : V} {H : List Entry} {K : KV} (h : Wf H → awp AP H.length c_join_hasId_1 (finW H.length (rsT [3]) K) ([x0, x1] ++ List.replicate 6 undefV) H) : BCall AP n_join_hasId_1 [x0, x1] H K := k_join_hasId_1.call (by kernel_rfl) h
/-- tryst/join.meeting$1: 7 slots -/
def c_join_meeting_1 : AC := .seq (.ops [⟨some 2, .mv (.c (.nilsl)), none⟩])
  (.seq (.ops [⟨some 3, .fad 1 (.t 0), none⟩,
    ⟨some 4, .load 1 false (.t 3), none⟩,
    ⟨some 5, .load 1 false (.t 1), none⟩,
    ⟨some 6, .call (.c (.fn n_join_firstOfEach [] [])) [(.t 4), (.t 5)], none⟩,
    ⟨some 2, .mv (.t 6), none⟩])
  (.ret))
theorem k_join_meeting_1 : FnIs AP n_join_meeting_1 c_join_meeting_1 7 (rsT [2]) := fnIs_of (fn := Go.Proofs.Try.f37) Go.Proofs.Try.func37 (by kernel_rfl) (by kernel_rfl) (by kernel_rfl) (by kernel_rfl) (by kernel_rfl)
theorem a_join_meeting_1 {x0 x1 : V} {H : List Entry} {K : KV} (h : Wf H → awp AP H.length c_join_meeting_1 (finW H.length (rsT [2]) K) ([x0, x1] ++ List.replicate 5 undefV) H) : BCall AP n_join_meeting_1 [x0, x1] H K := k_join_meeting_1.call (by kernel_rfl) h
/-- tryst/join.firstOfEach: 25 slots -/
def c_join_firstOfEach : AC := .seq (.ops [⟨some 4, .mv (.c (.nilsl)), none⟩])
  (.seq (.ops [⟨some 5, .mv (.c (.nilsl)), none⟩])
  (.seq (.seq (.ops [⟨some 8, .mv (.t 0), none⟩,
    ⟨some 9, .mv (.c (.int .i64 0)), none⟩])
  (.block 0 (.loop (.seq (.ops [⟨some 10, .bin .lss (.t 9) (.t 8), none⟩])
  (.seq (.cond (.t 10) (.skip) (.exit 0))
  (.seq (.block 1 (.seq (.ops [⟨some 11, .mv (.t 9), none⟩,
    ⟨some 6, .alloc [.int .i64 0], none⟩,
    ⟨none, .store 1 (.t 6) (.t 11), none⟩])
  (.seq (.ops [⟨some 12, .mv (.t 1), none⟩,
    ⟨some 13, .mkfn n_join_firstOfEach_1 [] [(.t 6)], none⟩,
    ⟨some 14, .call (.c (.fn n_slices_IndexFunc_api_Kept_api_Kept [] [])) [(.t 12), (.t 13)], none⟩,
    ⟨some 7, .mv (.t 14), none⟩])
  (.seq (.seq (.ops [⟨some 15, .mv (.t 7), none⟩,
    ⟨some 16, .bin .lss (.t 15) (.c (.int .i64 0)), none⟩])
  (.cond (.t 16) (.seq (.ops [⟨some 4, .mv (.c (.nilsl)), none⟩])
  (.ret)) (.skip)))
  (.ops [⟨some 17, .mv (.t 5), none⟩,
    ⟨some 18, .mv (.t 7), none⟩,
    ⟨some 19, .bsl 1 false [(.t 18)], none⟩,
    ⟨some 20, .app 3 1 8 false (.t 17) (.t 19), none⟩,
    ⟨some 5, .mv (.t 20), none⟩])))))
  (.ops [⟨some 21, .bin .add (.t 9) (.c (.int .i64 1)), none⟩,
    ⟨some 9, .mv (.t 21), none⟩])))))))
  (.seq (.ops [⟨some 22, .mv (.t 5), none⟩,
    ⟨some 23, .call (.c (.fn n_slices_Sort_int_int [] [])) [(.t 22)], none⟩])
  (.seq (.ops [⟨some 24, .mv (.t 5), none⟩,
    ⟨some 4, .mv (.t 24), none⟩])
  (.ret)))))
theorem k_join_firstOfEach : FnIs AP n_join_firstOfEach c_join_firstOfEach 25 (rsT [4]) := fnIs_of (fn := Go.Proofs.Try.f38) Go.Proofs.Try.func38 (by kernel_rfl) (by kernel_rfl) (by kernel_rfl) (by kernel_rfl) (by kernel_rfl)
theorem a_join_firstOfEach {x0 x1 : V} {H : List Entry} {K : KV} (h : Wf H → awp AP H.length c_join_firstOfEach (finW H.length (rsT [4]) K) ([x0, x1] ++ List.replicate 23 undefV) H) : BCall AP n_join_firstOfEach [x0, x1] H K := k_join_firstOfEach.call (by kernel_rfl) h
/-- tryst/join.meeting$2: 4 slots -/
def c_join_meeting_2 : AC := .seq (.ops [⟨some 1, .mv (.c (.nilsl)), none⟩])
  (.seq (.ops [⟨some 2, .load 1 false (.t 0), none⟩,
    ⟨some 3, .call (.c (.fn n_join_first [] [])) [(.c (.int .i64 1)), (.t 2)], none⟩,
    ⟨some 1, .mv (.t 3), none⟩])
  (.ret))
theorem k_join_meeting_2 : FnIs AP n_join_meeting_2 c_join_meeting_2 4 (rsT [1]) := fnIs_of (fn := Go.Proofs.Try.f39) Go.Proofs.Try.func39 (by kernel_rfl) (by kernel_rfl) (by kernel_rfl) (by kernel_rfl) (by kernel_rfl)
theorem a_join_meeting_2 {x0 : V} {H : List Entry} {K : KV} (h : Wf H → awp AP H.length c_join_meeting_2 (finW H.length (rsT [1]) K) ([x0] ++ List.replicate 3 undefV) H) : BCall AP n_join_meeting_2 [x0] H K := k_join_meeting_2.call (by kernel_rfl) h
/-- tryst/join.first: 21 slots -/
def c_join_first : AC := .seq (.ops [⟨some 4, .mv (.c (.nilsl)), none⟩])
  (.seq (.seq (.ops [⟨some 7, .mv (.t 1), none⟩,
    ⟨some 8, .len 1 (.t 7), none⟩,
    ⟨some 9, .mv (.t 0), none⟩,
    ⟨some 10, .bin .lss (.t 8) (.t 9), none⟩])
  (.cond (.t 10) (.seq (.ops [⟨some 4, .mv (.c (.nilsl)), none⟩])
  (.ret)) (.skip)))
  (.seq (.ops [⟨some 5, .mv (.c (.nilsl)), none⟩])
  (.seq (.seq (.ops [⟨some 11, .mv (.t 0), none⟩,
    ⟨some 12, .mv (.c (.int .i64 0)), none⟩])
  (.block 0 (.loop (.seq (.ops [⟨some 13, .bin .lss (.t 12) (.t 11), none⟩])
  (.seq (.cond (.t 13) (.skip) (.exit 0))
  (.seq (.block 1 (.seq (.ops [⟨some 14, .mv (.t 12), none⟩,
    ⟨some 6, .mv (.t 14), none⟩])
  (.ops [⟨some 15, .mv (.t 5), none⟩,
    ⟨some 16, .mv (.t 6), none⟩,
    ⟨some 17, .bsl 1 false [(.t 16)], none⟩,
    ⟨some 18, .app 3 1 8 false (.t 15) (.t 17), none⟩,
    ⟨some 5, .mv (.t 18), none⟩])))
  (.ops [⟨some 19, .bin .add (.t 12) (.c (.int .i64 1)), none⟩,
    ⟨some 12, .mv (.t 19), none⟩])))))))
  (.seq (.ops [⟨some 20, .mv (.t 5), none⟩,
    ⟨some 4, .mv (.t 20), none⟩])
  (.ret)))))
theorem k_join_first : FnIs AP n_join_first c_join_first 21 (rsT [4]) := fnIs_of (fn := Go.Proofs.Try.f40) Go.Proofs.Try.func40 (by kernel_rfl) (by kernel_rfl) (by kernel_rfl) (by kernel_rfl) (by kernel_rfl)
theorem a_join_first {x0 x1 : V} {H : List Entry} {K : KV} (h : Wf H → awp AP H.length c_join_first (finW H.length (rsT [4]) K) ([x0, x1] ++ List.replicate 19 undefV) H) : BCall AP n_join_first [x0, x1] H K := k_join_first.call (by kernel_rfl) h
/-- tryst/join.meeting$3: 7 slots -/
def c_join_meeting_3 : AC := .seq (.ops [⟨some 2, .mv (.c (.nilsl)), none⟩])
  (.seq (.ops [⟨some 3, .fad 2 (.t 0), none⟩,
    ⟨some 4, .load 1 false (.t 3), none⟩,
    ⟨some 5, .load 1 false (.t 1), none⟩,
    ⟨some 6, .call (.c (.fn n_join_first [] [])) [(.t 4), (.t 5)], none⟩,
    ⟨some 2, .mv (.t 6), none⟩])
  (.ret))
theorem k_join_meeting_3 : FnIs AP n_join_meeting_3 c_join_meeting_3 7 (rsT [2]) := fnIs_of (fn := Go.Proofs.Try.f41) Go.Proofs.Try.func41 (by kernel_rfl) (by kernel_rfl) (by kernel_rfl) (by kernel_rfl) (by kernel_rfl)
theorem a_join_meeting_3 {x0 x1 : V} {H : List Entry} {K : KV} (h : Wf H → awp AP H.length c_join_meeting_3 (finW H.length (rsT [2]) K) ([x0, x1] ++ List.replicate 5 undefV) H) : BCall AP n_join_meeting_3 [x0, x1] H K := k_join_meeting_3.call (by kernel_rfl) h
/-- tryst/join.mayWait$1: 8 slots -/
def c_join_mayWait_1 : AC := .seq (.ops [⟨some 2, .box (.t 0), none⟩,
    ⟨some 3, .mv (.c (.bool false)), none⟩])
  (.seq (.ops [⟨some 4, .load 4 true (.t 1), none⟩,
    ⟨some 5, .load 3 true (.t 2), none⟩,
    ⟨some 6, .call (.c (.fn n_join_mayKept [] [])) [(.t 4), (.t 5)], none⟩,
    ⟨some 7, .un .not (.t 6), none⟩,
    ⟨some 3, .mv (.t 7), none⟩])
  (.ret))
theorem k_join_mayWait_1 : FnIs AP n_join_mayWait_1 c_join_mayWait_1 8 (rsT [3]) := fnIs_of (fn := Go.Proofs.Try.f42) Go.Proofs.Try.func42 (by kernel_rfl) (by kernel_rfl) (by kernel_rfl) (by kernel_rfl) (by kernel_rfl)
theorem a_join_mayWait_1 {x0 x1 : V} {H : List Entry} {K : KV} (h : Wf H → awp AP H.length c_join_mayWait_1 (finW H.length (rsT [3]) K) ([x0, x1] ++ List.replicate 6 undefV) H) : BCall AP n_join_mayWait_1 [x0, x1] H K := k_join_mayWait_1.call (by kernel_rfl) h
/-- slices.IndexFunc[[]tryst/api.Kept,tryst/api.Kept]: 19 slots -/
def c_slices_IndexFunc_api_Kept_api_Kept : AC := .seq (.ops [⟨some 4, .mv (.c (.int .i64 0)), none⟩])
  (.seq (.seq (.ops [⟨some 6, .mv (.t 0), none⟩,
    ⟨some 7, .len 1 (.t 6), none⟩,
    ⟨some 8, .mv (.c (.int .i64 0)), none⟩])
  (.block 0 (.loop (.seq (.ops [⟨some 9, .bin .lss (.t 8) (.t 7), none⟩])
  (.seq (.cond (.t 9) (.skip) (.exit 0))
  (.seq (.block 1 (.seq (.ops [⟨some 10, .mv (.t 8), none⟩,
    ⟨some 5, .mv (.t 10), none⟩])
  (.seq (.ops [⟨some 11, .mv (.t 1), none⟩,
    ⟨some 12, .mv (.t 0), none⟩,
    ⟨some 13, .mv (.t 5), none⟩,
    ⟨some 14, .iad 3 true (.t 12) (.t 13), none⟩,
    ⟨some 15, .load 3 true (.t 14), none⟩,
    ⟨some 16, .call (.t 11) [(.t 15)], none⟩])
  (.cond (.t 16) (.seq (.ops [⟨some 17, .mv (.t 5), none⟩,
    ⟨some 4, .mv (.t 17), none⟩])
  (.ret)) (.skip)))))
  (.ops [⟨some 18, .bin .add (.t 8) (.c (.int .i64 1)), none⟩,
    ⟨some 8, .mv (.t 18), none⟩])))))))
  (.seq (.ops [⟨some 4, .mv (.c (.int .i64 (-1))), none⟩])
  (.ret)))
theorem k_slices_IndexFunc_api_Kept_api_Kept : FnIs AP n_slices_IndexFunc_api_Kept_api_Kept c_slices_IndexFunc_api_Kept_api_Kept 19 (rsT [4]) := fnIs_of (fn := Go.Proofs.Try.f43) Go.Proofs.Try.func43 (by kernel_rfl) (by kernel_rfl) (by kernel_rfl) (by kernel_rfl) (by kernel_rfl)
theorem a_slices_IndexFunc_api_Kept_api_Kept {x0 x1 : V} {H : List Entry} {K : KV} (h : Wf H → awp AP H.length c_slices_IndexFunc_api_Kept_api_Kept (finW H.length (rsT [4]) K) ([x0, x1] ++ List.replicate 17 undefV) H) : BCall AP n_slices_IndexFunc_api_Kept_api_Kept [x0, x1] H K := k_slices_IndexFunc_api_Kept_api_Kept.call (by kernel_rfl) h
/-- tryst/join.firstOfEach$1: 8 slots -/
def c_join_firstOfEach_1 : AC := .seq (.ops [⟨some 2, .box (.t 0), none⟩,
    ⟨some 3, .mv (.c (.bool false)), none⟩])
  (.seq (.ops [⟨some 4, .fad 0 (.t 2), none⟩,
    ⟨some 5, .load 1 false (.t 4), none⟩,
    ⟨some 6, .load 1 false (.t 1), none⟩,
    ⟨some 7, .bin .eql (.t 5) (.t 6), none⟩,
    ⟨some 3, .mv (.t 7), none⟩])
  (.ret))
theorem k_join_firstOfEach_1 : FnIs AP n_join_firstOfEach_1 c_join_firstOfEach_1 8 (rsT [3]) := fnIs_of (fn := Go.Proofs.Try.f44) Go.Proofs.Try.func44 (by kernel_rfl) (by kernel_rfl) (by kernel_rfl) (by kernel_rfl) (by kernel_rfl)
theorem a_join_firstOfEach_1 {x0 x1 : V} {H : List Entry} {K : KV} (h : Wf H → awp AP H.length c_join_firstOfEach_1 (finW H.length (rsT [3]) K) ([x0, x1] ++ List.replicate 6 undefV) H) : BCall AP n_join_firstOfEach_1 [x0, x1] H K := k_join_firstOfEach_1.call (by kernel_rfl) h
/-- slices.Sort[[]int,int]: 11 slots -/
def c_slices_Sort_int_int : AC := .seq (.ops [⟨some 3, .mv (.t 0), none⟩,
    ⟨some 4, .len 1 (.t 3), none⟩,
    ⟨some 2, .mv (.t 4), none⟩])
  (.ops [⟨some 5, .mv (.t 0), none⟩,
    ⟨some 6, .mv (.t 2), none⟩,
    ⟨some 7, .mv (.t 2), none⟩,
    ⟨some 8, .cvi .u64 (.t 7), none⟩,
    ⟨some 9, .call (.c (.fn n_math_bits_Len [] [])) [(.t 8)], none⟩,
    ⟨some 10, .call (.c (.fn n_slices_pdqsortOrdered_int [] [])) [(.t 5), (.c (.int .i64 0)), (.t 6), (.t 9)], none⟩])
theorem k_slices_Sort_int_int : FnIs AP n_slices_Sort_int_int c_slices_Sort_int_int 11 (rsT []) := fnIs_of (fn := Go.Proofs.Try.f45) Go.Proofs.Try.func45 (by kernel_rfl) (by kernel_rfl) (by kernel_rfl) (by kernel_rfl) (by kernel_rfl)
theorem a_slices_Sort_int_int {x0 : V} {H : List Entry} {K : KV} (h : Wf H → awp AP H.length c_slices_Sort_int_int (finW H.length (rsT []) K) ([x0] ++ List.replicate 10 undefV) H) : BCall AP n_slices_Sort_int_int [x0] H K := k_slices_Sort_int_int.call (by kernel_rfl) h
/-- slices.pdqsortOrdered[int]: 134 slots -/
def c_slices_pdqsortOrdered_int : AC := .seq (.ops [⟨some 8, .mv (.c (.bool true)), none⟩])
  (.seq (.ops [⟨some 9, .mv (.c (.bool true)), none⟩])
  (.block 0 (.loop (.block 1 (.seq (.ops [⟨some 19, .mv (.t 2), none⟩,
    ⟨some 20, .mv (.t 1), none⟩,
    ⟨some 21, .bin .sub (.t 19) (.t 20), none⟩,
    ⟨some 10, .mv (.t 21), none⟩])
  (.seq (.seq (.ops [⟨some 22, .mv (.t 10), none⟩,
    ⟨some 23, .bin .leq (.t 22) (.c (.int .i64 12)), none⟩])
  (.cond (.t 23) (.seq (.ops [⟨some 24, .mv (.t 0), none⟩,
    ⟨some 25, .mv (.t 1), none⟩,
    ⟨some 26, .mv (.t 2), none⟩,
    ⟨some 27, .call (.c (.fn n_slices_insertionSortOrdered_int [] [])) [(.t 24), (.t 25), (.t 26)], none⟩])
  (.ret)) (.skip)))
  (.seq (.seq (.ops [⟨some 28, .mv (.t 3), none⟩,
    ⟨some 29, .bin .eql (.t 28) (.c (.int .i64 0)), none⟩])
  (.cond (.t 29) (.seq (.ops [⟨some 30, .mv (.t 0), none⟩,
    ⟨some 31, .mv (.t 1), none⟩,
    ⟨some 32, .mv (.t 2), none⟩,
    ⟨some 33, .call (.c (.fn n_slices_heapSortOrdered_int [] [])) [(.t 30), (.t 31), (.t 32)], none⟩])
  (.ret)) (.skip)))
  (.seq (.seq (.ops [⟨some 34, .mv (.t 8), none⟩,
    ⟨some 35, .un .not (.t 34), none⟩])
  (.cond (.t 35) (.seq (.ops [⟨some 36, .mv (.t 0), none⟩,
    ⟨some 37, .mv (.t 1), none⟩,
    ⟨some 38, .mv (.t 2), none⟩,
    ⟨some 39, .call (.c (.fn n_slices_breakPatternsOrdered_int [] [])) [(.t 36), (.t 37), (.t 38)], none⟩])
  (.ops [⟨some 40, .mv (.t 3), none⟩,
    ⟨some 41, .bin .sub (.t 40) (.c (.int .i64 1)), none⟩,
    ⟨some 3, .mv (.t 41), none⟩])) (.skip)))
  (.seq (.ops [⟨some 43, .mv (.t 0), none⟩,
    ⟨some 44, .mv (.t 1), none⟩,
    ⟨some 45, .mv (.t 2), none⟩,
    ⟨some 46, .call (.c (.fn n_slices_choosePivotOrdered_int [] [])) [(.t 43), (.t 44), (.t 45)], none⟩,
    ⟨some 42, .mv (.t 46), none⟩,
    ⟨some 47, .ext (.t 42) 0, none⟩,
    ⟨some 48, .ext (.t 42) 1, none⟩,
    ⟨some 11, .mv (.t 47), none⟩,
    ⟨some 12, .mv (.t 48), none⟩])
  (.seq (.seq (.ops [⟨some 49, .mv (.t 12), none⟩,
    ⟨some 50, .bin .eql (.t 49) (.c (.int .i64 2)), none⟩])
  (.cond (.t 50) (.seq (.ops [⟨some 51, .mv (.t 0), none⟩,
    ⟨some 52, .mv (.t 1), none⟩,
    ⟨some 53, .mv (.t 2), none⟩,
    ⟨some 54, .call (.c (.fn n_slices_reverseRangeOrdered_int [] [])) [(.t 51), (.t 52), (.t 53)], none⟩])
  (.seq (.ops [⟨some 55, .mv (.t 2), none⟩,
    ⟨some 56, .bin .sub (.t 55) (.c (.int .i64 1)), none⟩,
    ⟨some 57, .mv (.t 11), none⟩,
    ⟨some 58, .mv (.t 1), none⟩,
    ⟨some 59, .bin .sub (.t 57) (.t 58), none⟩,
    ⟨some 60, .bin .sub (.t 56) (.t 59), none⟩,
    ⟨some 11, .mv (.t 60), none⟩])
  (.ops [⟨some 12, .mv (.c (.int .i64 1)), none⟩]))) (.skip)))
  (.seq (.seq (.ops [⟨some 61, .mv (.t 8), none⟩,
    ⟨some 62, .mv (.t 61), none⟩,
    ⟨some 63, .mv (.t 9), some (62, true)⟩,
    ⟨some 64, .pick (.t 62) (.t 63) (.c (.bool false)), none⟩,
    ⟨some 65, .mv (.t 64), none⟩,
    ⟨some 66, .mv (.t 12), some (65, true)⟩,
    ⟨some 67, .bin .eql (.t 66) (.c (.int .i64 1)), some (65, true)⟩,
    ⟨some 68, .pick (.t 65) (.t 67) (.c (.bool false)), none⟩])
  (.cond (.t 68) (.seq (.ops [⟨some 69, .mv (.t 0), none⟩,
    ⟨some 70, .mv (.t 1), none⟩,
    ⟨some 71, .mv (.t 2), none⟩,
    ⟨some 72, .call (.c (.fn n_slices_partialInsertionSortOrdered_int [] [])) [(.t 69), (.t 70), (.t 71)], none⟩])
  (.cond (.t 72) (.ret) (.skip))) (.skip)))
  (.seq (.seq (.draw [⟨some 73, .mv (.t 1), none⟩,
    ⟨some 74, .bin .gtr (.t 73) (.c (.int .i64 0)), none⟩,
    ⟨some 75, .mv (.t 74), none⟩,
    ⟨some 76, .mv (.t 0), some (75, true)⟩,
    ⟨some 77, .mv (.t 1), some (75, true)⟩,
    ⟨some 78, .bin .sub (.t 77) (.c (.int .i64 1)), some (75, true)⟩,
    ⟨some 79, .iad 1 false (.t 76) (.t 78), some (75, true)⟩,
    ⟨some 80, .load 1 false (.t 79), some (75, true)⟩,
    ⟨some 81, .mv (.t 0), some (75, true)⟩,
    ⟨some 82, .mv (.t 11), some (75, true)⟩,
    ⟨some 83, .iad 1 false (.t 81) (.t 82), some (75, true)⟩,
    ⟨some 84, .load 1 false (.t 83), some (75, true)⟩,
    ⟨some 85, .dcall (.c (.fn n_cmp_Less_int [] [])) [(.t 80), (.t 84)], some (75, true)⟩,
    ⟨some 86, .un .not (.t 85), some (75, true)⟩,
    ⟨some 87, .pick (.t 75) (.t 86) (.c (.bool false)), none⟩])
  (.cond (.t 87) (.seq (.ops [⟨some 88, .mv (.t 0), none⟩,
    ⟨some 89, .mv (.t 1), none⟩,
    ⟨some 90, .mv (.t 2), none⟩,
    ⟨some 91, .mv (.t 11), none⟩,
    ⟨some 92, .call (.c (.fn n_slices_partitionEqualOrdered_int [] [])) [(.t 88), (.t 89), (.t 90), (.t 91)], none⟩,
    ⟨some 13, .mv (.t 92), none⟩])
  (.seq (.ops [⟨some 93, .mv (.t 13), none⟩,
    ⟨some 1, .mv (.t 93), none⟩])
  (.exit 1))) (.skip)))
  (.seq (.ops [⟨some 95, .mv (.t 0), none⟩,
    ⟨some 96, .mv (.t 1), none⟩,
    ⟨some 97, .mv (.t 2), none⟩,
    ⟨some 98, .mv (.t 11), none⟩,
    ⟨some 99, .call (.c (.fn n_slices_partitionOrdered_int [] [])) [(.t 95), (.t 96), (.t 97), (.t 98)], none⟩,
    ⟨some 94, .mv (.t 99), none⟩,
    ⟨some 100, .ext (.t 94) 0, none⟩,
    ⟨some 101, .ext (.t 94) 1, none⟩,
    ⟨some 14, .mv (.t 100), none⟩,
    ⟨some 15, .mv (.t 101), none⟩])
  (.seq (.ops [⟨some 102, .mv (.t 15), none⟩,
    ⟨some 9, .mv (.t 102), none⟩])
  (.seq (.ops [⟨some 103, .mv (.t 14), none⟩,
    ⟨some 104, .mv (.t 1), none⟩,
    ⟨some 105, .bin .sub (.t 103) (.t 104), none⟩,
    ⟨some 106, .mv (.t 2), none⟩,
    ⟨some 107, .mv (.t 14), none⟩,
    ⟨some 108, .bin .sub (.t 106) (.t 107), none⟩,
    ⟨some 16, .mv (.t 105), none⟩,
    ⟨some 17, .mv (.t 108), none⟩])
  (.seq (.ops [⟨some 109, .mv (.t 10), none⟩,
    ⟨some 110, .bin .quo (.t 109) (.c (.int .i64 8)), none⟩,
    ⟨some 18, .mv (.t 110), none⟩])
  (.seq (.ops [⟨some 111, .mv (.t 16), none⟩,
    ⟨some 112, .mv (.t 17), none⟩,
    ⟨some 113, .bin .lss (.t 111) (.t 112), none⟩])
  (.cond (.t 113) (.seq (.ops [⟨some 114, .mv (.t 16), none⟩,
    ⟨some 115, .mv (.t 18), none⟩,
    ⟨some 116, .bin .geq (.t 114) (.t 115), none⟩,
    ⟨some 8, .mv (.t 116), none⟩])
  (.seq (.ops [⟨some 117, .mv (.t 0), none⟩,
    ⟨some 118, .mv (.t 1), none⟩,
    ⟨some 119, .mv (.t 14), none⟩,
    ⟨some 120, .mv (.t 3), none⟩,
    ⟨some 121, .call (.c (.fn n_slices_pdqsortOrdered_int [] [])) [(.t 117), (.t 118), (.t 119), (.t 120)], none⟩])
  (.ops [⟨some 122, .mv (.t 14), none⟩,
    ⟨some 123, .bin .add (.t 122) (.c (.int .i64 1)), none⟩,
    ⟨some 1, .mv (.t 123), none⟩]))) (.seq (.ops [⟨some 124, .mv (.t 17), none⟩,
    ⟨some 125, .mv (.t 18), none⟩,
    ⟨some 126, .bin .geq (.t 124) (.t 125), none⟩,
    ⟨some 8, .mv (.t 126), none⟩])
  (.seq (.ops [⟨some 127, .mv (.t 0), none⟩,
    ⟨some 128, .mv (.t 14), none⟩,
    ⟨some 129, .bin .add (.t 128) (.c (.int .i64 1)), none⟩,
    ⟨some 130, .mv (.t 2), none⟩,
    ⟨some 131, .mv (.t 3), none⟩,
    ⟨some 132, .call (.c (.fn n_slices_pdqsortOrdered_int [] [])) [(.t 127), (.t 129), (.t 130), (.t 131)], none⟩])
  (.ops [⟨some 133, .mv (.t 14), none⟩,
    ⟨some 2, .mv (.t 133), none⟩])))))))))))))))))))))
theorem k_slices_pdqsortOrdered_int : FnIs AP n_slices_pdqsortOrdered_int c_slices_pdqsortOrdered_int 134 (rsT []) := fnIs_of (fn := Go.Proofs.Try.f46) Go.Proofs.Try.func46 (by kernel_rfl) (by kernel_rfl) (by kernel_rfl) (by kernel_rfl) (by kernel_rfl)
theorem a_slices_pdqsortOrdered_int {x0 x1 x2 x3 : V} {H : List Entry} {K : KV} (h : Wf H → awp AP H.length c_slices_pdqsortOrdered_int (finW H.length (rsT []) K) ([x0, x1, x2, x3] ++ List.replicate 130 undefV) H) : BCall AP n_slices_pdqsortOrdered_int [x0, x1, x2, x3] H K := k_slices_pdqsortOrdered_int.call (by kernel_rfl) h
/-- math/bits.Len: 8 slots -/
def c_math_bits_Len : AC := .seq (.ops [⟨some 2, .mv (.c (.int .i64 0)), none⟩])
  (.seq (.cond (.c (.bool false)) (.seq (.ops [⟨some 3, .mv (.t 0), none⟩,
    ⟨some 4, .cvi .u32 (.t 3), none⟩,
    ⟨some 5, .call (.c (.fn n_math_bits_Len32 [] [])) [(.t 4)], none⟩,
    ⟨some 2, .mv (.t 5), none⟩])
  (.ret)) (.skip))
  (.seq (.ops [⟨some 6, .mv (.t 0), none⟩,
    ⟨some 7, .call (.c (.fn n_math_bits_Len64 [] [])) [(.t 6)], none⟩,
    ⟨some 2, .mv (.t 7), none⟩])
  (.ret)))
theorem k_math_bits_Len : FnIs AP n_math_bits_Len c_math_bits_Len 8 (rsT [2]) := fnIs_of (fn := Go.Proofs.Try.f47) Go.Proofs.Try.func47 (by kernel_rfl) (by kernel_rfl) (by kernel_rfl) (by kernel_rfl) (by kernel_rfl)
theorem a_math_bits_Len {x0 : V} {H : List Entry} {K : KV} (h : Wf H → awp AP H.length c_math_bits_Len (finW H.length (rsT [2]) K) ([x0] ++ List.replicate 7 undefV) H) : BCall AP n_math_bits_Len [x0] H K := k_math_bits_Len.call (by kernel_rfl) h
/-- slices.insertionSortOrdered[int]: 49 slots -/
def c_slices_insertionSortOrdered_int : AC := .seq (.ops [⟨some 8, .mv (.t 1), none⟩,
    ⟨some 9, .bin .add (.t 8) (.c (.int .i64 1)), none⟩,
    ⟨some 6, .mv (.t 9), none⟩])
  (.block 0 (.loop (.seq (.seq (.ops [⟨some 10, .mv (.t 6), none⟩,
    ⟨some 11, .mv (.t 2), none⟩,
    ⟨some 12, .bin .lss (.t 10) (.t 11), none⟩])
  (.cond (.t 12) (.skip) (.exit 0)))
  (.seq (.block 1 (.seq (.ops [⟨some 15, .mv (.t 6), none⟩,
    ⟨some 7, .mv (.t 15), none⟩])
  (.block 2 (.loop (.seq (.seq (.draw [⟨some 16, .mv (.t 7), none⟩,
    ⟨some 17, .mv (.t 1), none⟩,
    ⟨some 18, .bin .gtr (.t 16) (.t 17), none⟩,
    ⟨some 19, .mv (.t 18), none⟩,
    ⟨some 20, .mv (.t 0), some (19, true)⟩,
    ⟨some 21, .mv (.t 7), some (19, true)⟩,
    ⟨some 22, .iad 1 false (.t 20) (.t 21), some (19, true)⟩,
    ⟨some 23, .load 1 false (.t 22), some (19, true)⟩,
    ⟨some 24, .mv (.t 0), some (19, true)⟩,
    ⟨some 25, .mv (.t 7), some (19, true)⟩,
    ⟨some 26, .bin .sub (.t 25) (.c (.int .i64 1)), some (19, true)⟩,
    ⟨some 27, .iad 1 false (.t 24) (.t 26), some (19, true)⟩,
    ⟨some 28, .load 1 false (.t 27), some (19, true)⟩,
    ⟨some 29, .dcall (.c (.fn n_cmp_Less_int [] [])) [(.t 23), (.t 28)], some (19, true)⟩,
    ⟨some 30, .pick (.t 19) (.t 29) (.c (.bool false)), none⟩])
  (.cond (.t 30) (.skip) (.exit 2)))
  (.seq (.block 3 (.draw [⟨some 33, .mv (.t 0), none⟩,
    ⟨some 34, .mv (.t 7), none⟩,
    ⟨some 35, .mv (.t 0), none⟩,
    ⟨some 36, .mv (.t 7), none⟩,
    ⟨some 37, .bin .sub (.t 36) (.c (.int .i64 1)), none⟩,
    ⟨some 38, .mv (.t 0), none⟩,
    ⟨some 39, .mv (.t 7), none⟩,
    ⟨some 40, .bin .sub (.t 39) (.c (.int .i64 1)), none⟩,
    ⟨some 41, .iad 1 false (.t 38) (.t 40), none⟩,
    ⟨some 42, .load 1 false (.t 41), none⟩,
    ⟨some 43, .mv (.t 0), none⟩,
    ⟨some 44, .mv (.t 7), none⟩,
    ⟨some 45, .iad 1 false (.t 43) (.t 44), none⟩,
    ⟨some 46, .load 1 false (.t 45), none⟩,
    ⟨some 47, .iad 1 false (.t 33) (.t 34), none⟩,
    ⟨none, .store 1 (.t 47) (.t 42), none⟩,
    ⟨some 48, .iad 1 false (.t 35) (.t 37), none⟩,
    ⟨none, .store 1 (.t 48) (.t 46), none⟩]))
  (.ops [⟨some 31, .mv (.t 7), none⟩,
    ⟨some 32, .bin .sub (.t 31) (.c (.int .i64 1)), none⟩,
    ⟨some 7, .mv (.t 32), none⟩])))))))
  (.ops [⟨some 13, .mv (.t 6), none⟩,
    ⟨some 14, .bin .add (.t 13) (.c (.int .i64 1)), none⟩,
    ⟨some 6, .mv (.t 14), none⟩])))))
theorem k_slices_insertionSortOrdered_int : FnIs AP n_slices_insertionSortOrdered_int c_slices_insertionSortOrdered_int 49 (rsT []) := fnIs_of (fn := Go.Proofs.Try.f48) Go.Proofs.Try.func48 (by kernel_rfl) (by kernel_rfl) (by kernel_rfl) (by kernel_rfl) (by kernel_rfl)
theorem a_slices_insertionSortOrdered_int {x0 x1 x2 : V} {H : List Entry} {K : KV} (h : Wf H → awp AP H.length c_slices_insertionSortOrdered_int (finW H.length (rsT []) K) ([x0, x1, x2] ++ List.replicate 46 undefV) H) : BCall AP n_slices_insertionSortOrdered_int [x0, x1, x2] H K := k_slices_insertionSortOrdered_int.call (by kernel_rfl) h
/-- slices.heapSortOrdered[int]: 56 slots -/
def c_slices_heapSortOrdered_int : AC := .seq (.ops [⟨some 11, .mv (.t 1), none⟩,
    ⟨some 6, .mv (.t 11), none⟩])
  (.seq (.ops [⟨some 7, .mv (.c (.int .i64 0)), none⟩])
  (.seq (.ops [⟨some 12, .mv (.t 2), none⟩,
    ⟨some 13, .mv (.t 1), none⟩,
    ⟨some 14, .bin .sub (.t 12) (.t 13), none⟩,
    ⟨some 8, .mv (.t 14), none⟩])
  (.seq (.seq (.ops [⟨some 15, .mv (.t 8), none⟩,
    ⟨some 16, .bin .sub (.t 15) (.c (.int .i64 1)), none⟩,
    ⟨some 17, .bin .quo (.t 16) (.c (.int .i64 2)), none⟩,
    ⟨some 9, .mv (.t 17), none⟩])
  (.block 0 (.loop (.seq (.seq (.ops [⟨some 18, .mv (.t 9), none⟩,
    ⟨some 19, .bin .geq (.t 18) (.c (.int .i64 0)), none⟩])
  (.cond (.t 19) (.skip) (.exit 0)))
  (.seq (.block 1 (.ops [⟨some 22, .mv (.t 0), none⟩,
    ⟨some 23, .mv (.t 9), none⟩,
    ⟨some 24, .mv (.t 8), none⟩,
    ⟨some 25, .mv (.t 6), none⟩,
    ⟨some 26, .call (.c (.fn n_slices_siftDownOrdered_int [] [])) [(.t 22), (.t 23), (.t 24), (.t 25)], none⟩]))
  (.ops [⟨some 20, .mv (.t 9), none⟩,
    ⟨some 21, .bin .sub (.t 20) (.c (.int .i64 1)), none⟩,
    ⟨some 9, .mv (.t 21), none⟩]))))))
  (.seq (.ops [⟨some 27, .mv (.t 8), none⟩,
    ⟨some 28, .bin .sub (.t 27) (.c (.int .i64 1)), none⟩,
    ⟨some 10, .mv (.t 28), none⟩])
  (.block 2 (.loop (.seq (.seq (.ops [⟨some 29, .mv (.t 10), none⟩,
    ⟨some 30, .bin .geq (.t 29) (.c (.int .i64 0)), none⟩])
  (.cond (.t 30) (.skip) (.exit 2)))
  (.seq (.block 3 (.seq (.draw [⟨some 33, .mv (.t 0), none⟩,
    ⟨some 34, .mv (.t 6), none⟩,
    ⟨some 35, .mv (.t 0), none⟩,
    ⟨some 36, .mv (.t 6), none⟩,
    ⟨some 37, .mv (.t 10), none⟩,
    ⟨some 38, .bin .add (.t 36) (.t 37), none⟩,
    ⟨some 39, .mv (.t 0), none⟩,
    ⟨some 40, .mv (.t 6), none⟩,
    ⟨some 41, .mv (.t 10), none⟩,
    ⟨some 42, .bin .add (.t 40) (.t 41), none⟩,
    ⟨some 43, .iad 1 false (.t 39) (.t 42), none⟩,
    ⟨some 44, .load 1 false (.t 43), none⟩,
    ⟨some 45, .mv (.t 0), none⟩,
    ⟨some 46, .mv (.t 6), none⟩,
    ⟨some 47, .iad 1 false (.t 45) (.t 46), none⟩,
    ⟨some 48, .load 1 false (.t 47), none⟩,
    ⟨some 49, .iad 1 false (.t 33) (.t 34), none⟩,
    ⟨none, .store 1 (.t 49) (.t 44), none⟩,
    ⟨some 50, .iad 1 false (.t 35) (.t 38), none⟩,
    ⟨none, .store 1 (.t 50) (.t 48), none⟩])
  (.ops [⟨some 51, .mv (.t 0), none⟩,
    ⟨some 52, .mv (.t 7), none⟩,
    ⟨some 53, .mv (.t 10), none⟩,
    ⟨some 54, .mv (.t 6), none⟩,
    ⟨some 55, .call (.c (.fn n_slices_siftDownOrdered_int [] [])) [(.t 51), (.t 52), (.t 53), (.t 54)], none⟩])))
  (.ops [⟨some 31, .mv (.t 10), none⟩,
    ⟨some 32, .bin .sub (.t 31) (.c (.int .i64 1)), none⟩,
    ⟨some 10, .mv (.t 32), none⟩])))))))))
theorem k_slices_heapSortOrdered_int : FnIs AP n_slices_heapSortOrdered_int c_slices_heapSortOrdered_int 56 (rsT []) := fnIs_of (fn := Go.Proofs.Try.f49) Go.Proofs.Try.func49 (by kernel_rfl) (by kernel_rfl) (by kernel_rfl) (by kernel_rfl) (by kernel_rfl)
theorem a_slices_heapSortOrdered_int {x0 x1 x2 : V} {H : List Entry} {K : KV} (h : Wf H → awp AP H.length c_slices_heapSortOrdered_int (finW H.length (rsT []) K) ([x0, x1, x2] ++ List.replicate 53 undefV) H) : BCall AP n_slices_heapSortOrdered_int [x0, x1, x2] H K := k_slices_heapSortOrdered_int.call (by kernel_rfl) h
/-- slices.breakPatternsOrdered[int]: 65 slots -/
def c_slices_breakPatternsOrdered_int : AC := .seq (.ops [⟨some 11, .mv (.t 2), none⟩,
    ⟨some 12, .mv (.t 1), none⟩,
    ⟨some 13, .bin .sub (.t 11) (.t 12), none⟩,
    ⟨some 6, .mv (.t 13), none⟩])
  (.seq (.ops [⟨some 14, .mv (.t 6), none⟩,
    ⟨some 15, .bin .geq (.t 14) (.c (.int .i64 8)), none⟩])
  (.cond (.t 15) (.seq (.ops [⟨some 16, .mv (.t 6), none⟩,
    ⟨some 17, .cvi .u64 (.t 16), none⟩,
    ⟨some 7, .alloc [.int .u64 0], none⟩,
    ⟨none, .store 1 (.t 7) (.t 17), none⟩])
  (.seq (.ops [⟨some 18, .mv (.t 6), none⟩,
    ⟨some 19, .call (.c (.fn n_slices_nextPowerOfTwo [] [])) [(.t 18)], none⟩,
    ⟨some 8, .mv (.t 19), none⟩])
  (.seq (.ops [⟨some 20, .mv (.t 1), none⟩,
    ⟨some 21, .mv (.t 6), none⟩,
    ⟨some 22, .bin .quo (.t 21) (.c (.int .i64 4)), none⟩,
    ⟨some 23, .bin .mul (.t 22) (.c (.int .i64 2)), none⟩,
    ⟨some 24, .bin .add (.t 20) (.t 23), none⟩,
    ⟨some 25, .bin .sub (.t 24) (.c (.int .i64 1)), none⟩,
    ⟨some 9, .mv (.t 25), none⟩])
  (.block 0 (.loop (.seq (.seq (.ops [⟨some 26, .mv (.t 9), none⟩,
    ⟨some 27, .mv (.t 1), none⟩,
    ⟨some 28, .mv (.t 6), none⟩,
    ⟨some 29, .bin .quo (.t 28) (.c (.int .i64 4)), none⟩,
    ⟨some 30, .bin .mul (.t 29) (.c (.int .i64 2)), none⟩,
    ⟨some 31, .bin .add (.t 27) (.t 30), none⟩,
    ⟨some 32, .bin .add (.t 31) (.c (.int .i64 1)), none⟩,
    ⟨some 33, .bin .leq (.t 26) (.t 32), none⟩])
  (.cond (.t 33) (.skip) (.exit 0)))
  (.seq (.block 1 (.seq (.ops [⟨some 36, .call (.c (.fn n_slices_xorshift_Next [] [])) [(.t 7)], none⟩,
    ⟨some 37, .mv (.t 8), none⟩,
    ⟨some 38, .bin .sub (.t 37) (.c (.int .u64 1)), none⟩,
    ⟨some 39, .bin .and (.t 36) (.t 38), none⟩,
    ⟨some 40, .cvi .i64 (.t 39), none⟩,
    ⟨some 10, .mv (.t 40), none⟩])
  (.seq (.seq (.ops [⟨some 41, .mv (.t 10), none⟩,
    ⟨some 42, .mv (.t 6), none⟩,
    ⟨some 43, .bin .geq (.t 41) (.t 42), none⟩])
  (.cond (.t 43) (.ops [⟨some 44, .mv (.t 10), none⟩,
    ⟨some 45, .mv (.t 6), none⟩,
    ⟨some 46, .bin .sub (.t 44) (.t 45), none⟩,
    ⟨some 10, .mv (.t 46), none⟩]) (.skip)))
  (.draw [⟨some 47, .mv (.t 0), none⟩,
    ⟨some 48, .mv (.t 9), none⟩,
    ⟨some 49, .mv (.t 0), none⟩,
    ⟨some 50, .mv (.t 1), none⟩,
    ⟨some 51, .mv (.t 10), none⟩,
    ⟨some 52, .bin .add (.t 50) (.t 51), none⟩,
    ⟨some 53, .mv (.t 0), none⟩,
    ⟨some 54, .mv (.t 1), none⟩,
    ⟨some 55, .mv (.t 10), none⟩,
    ⟨some 56, .bin .add (.t 54) (.t 55), none⟩,
    ⟨some 57, .iad 1 false (.t 53) (.t 56), none⟩,
    ⟨some 58, .load 1 false (.t 57), none⟩,
    ⟨some 59, .mv (.t 0), none⟩,
    ⟨some 60, .mv (.t 9), none⟩,
    ⟨some 61, .iad 1 false (.t 59) (.t 60), none⟩,
    ⟨some 62, .load 1 false (.t 61), none⟩,
    ⟨some 63, .iad 1 false (.t 47) (.t 48), none⟩,
    ⟨none, .store 1 (.t 63) (.t 58), none⟩,
    ⟨some 64, .iad 1 false (.t 49) (.t 52), none⟩,
    ⟨none, .store 1 (.t 64) (.t 62), none⟩]))))
  (.ops [⟨some 34, .mv (.t 9), none⟩,
    ⟨some 35, .bin .add (.t 34) (.c (.int .i64 1)), none⟩,
    ⟨some 9, .mv (.t 35), none⟩])))))))) (.skip)))
theorem k_slices_breakPatternsOrdered_int : FnIs AP n_slices_breakPatternsOrdered_int c_slices_breakPatternsOrdered_int 65 (rsT []) := fnIs_of (fn := Go.Proofs.Try.f50) Go.Proofs.Try.func50 (by kernel_rfl) (by kernel_rfl) (by kernel_rfl) (by kernel_rfl) (by kernel_rfl)
theorem a_slices_breakPatternsOrdered_int {x0 x1 x2 : V} {H : List Entry} {K : KV} (h : Wf H → awp AP H.length c_slices_breakPatternsOrdered_int (finW H.length (rsT []) K) ([x0, x1, x2] ++ List.replicate 62 undefV) H) : BCall AP n_slices_breakPatternsOrdered_int [x0, x1, x2] H K := k_slices_breakPatternsOrdered_int.call (by kernel_rfl) h
/-- slices.choosePivotOrdered[int]: 57 slots -/
def c_slices_choosePivotOrdered_int : AC := .seq (.ops [⟨some 6, .mv (.c (.int .i64 0)), none⟩,
    ⟨some 7, .mv (.c (.int .i64 0)), none⟩])
  (.seq (.ops [⟨some 13, .mv (.t 2), none⟩,
    ⟨some 14, .mv (.t 1), none⟩,
    ⟨some 15, .bin .sub (.t 13) (.t 14), none⟩,
    ⟨some 8, .mv (.t 15), none⟩])
  (.seq (.ops [⟨some 9, .alloc [.int .i64 0], none⟩])
  (.seq (.ops [⟨some 16, .mv (.t 1), none⟩,
    ⟨some 17, .mv (.t 8), none⟩,
    ⟨some 18, .bin .quo (.t 17) (.c (.int .i64 4)), none⟩,
    ⟨some 19, .bin .mul (.t 18) (.c (.int .i64 1)), none⟩,
    ⟨some 20, .bin .add (.t 16) (.t 19), none⟩,
    ⟨some 10, .mv (.t 20), none⟩])
  (.seq (.ops [⟨some 21, .mv (.t 1), none⟩,
    ⟨some 22, .mv (.t 8), none⟩,
    ⟨some 23, .bin .quo (.t 22) (.c (.int .i64 4)), none⟩,
    ⟨some 24, .bin .mul (.t 23) (.c (.int .i64 2)), none⟩,
    ⟨some 25, .bin .add (.t 21) (.t 24), none⟩,
    ⟨some 11, .mv (.t 25), none⟩])
  (.seq (.ops [⟨some 26, .mv (.t 1), none⟩,
    ⟨some 27, .mv (.t 8), none⟩,
    ⟨some 28, .bin .quo (.t 27) (.c (.int .i64 4)), none⟩,
    ⟨some 29, .bin .mul (.t 28) (.c (.int .i64 3)), none⟩,
    ⟨some 30, .bin .add (.t 26) (.t 29), none⟩,
    ⟨some 12, .mv (.t 30), none⟩])
  (.seq (.seq (.ops [⟨some 31, .mv (.t 8), none⟩,
    ⟨some 32, .bin .geq (.t 31) (.c (.int .i64 8)), none⟩])
  (.cond (.t 32) (.seq (.seq (.ops [⟨some 33, .mv (.t 8), none⟩,
    ⟨some 34, .bin .geq (.t 33) (.c (.int .i64 50)), none⟩])
  (.cond (.t 34) (.seq (.ops [⟨some 35, .mv (.t 0), none⟩,
    ⟨some 36, .mv (.t 10), none⟩,
    ⟨some 37, .call (.c (.fn n_slices_medianAdjacentOrdered_int [] [])) [(.t 35), (.t 36), (.t 9)], none⟩,
    ⟨some 10, .mv (.t 37), none⟩])
  (.seq (.ops [⟨some 38, .mv (.t 0), none⟩,
    ⟨some 39, .mv (.t 11), none⟩,
    ⟨some 40, .call (.c (.fn n_slices_medianAdjacentOrdered_int [] [])) [(.t 38), (.t 39), (.t 9)], none⟩,
    ⟨some 11, .mv (.t 40), none⟩])
  (.ops [⟨some 41, .mv (.t 0), none⟩,
    ⟨some 42, .mv (.t 12), none⟩,
    ⟨some 43, .call (.c (.fn n_slices_medianAdjacentOrdered_int [] [])) [(.t 41), (.t 42), (.t 9)], none⟩,
    ⟨some 12, .mv (.t 43), none⟩]))) (.skip)))
  (.ops [⟨some 44, .mv (.t 0), none⟩,
    ⟨some 45, .mv (.t 10), none⟩,
    ⟨some 46, .mv (.t 11), none⟩,
    ⟨some 47, .mv (.t 12), none⟩,
    ⟨some 48, .call (.c (.fn n_slices_medianOrdered_int [] [])) [(.t 44), (.t 45), (.t 46), (.t 47), (.t 9)], none⟩,
    ⟨some 11, .mv (.t 48), none⟩])) (.skip)))
  (.seq (.ops [⟨some 49, .load 1 false (.t 9), none⟩])
  (.block 0 (.seq (.ops [⟨some 52, .bin .eql (.t 49) (.c (.int .i64 0)), none⟩,
    ⟨some 51, .mv (.t 52), none⟩])
  (.cond (.t 51) (.seq (.ops [⟨some 53, .mv (.t 11), none⟩,
    ⟨some 6, .mv (.t 53), none⟩,
    ⟨some 7, .mv (.c (.int .i64 1)), none⟩])
  (.ret)) (.seq (.ops [⟨some 55, .bin .eql (.t 49) (.c (.int .i64 12)), none⟩,
    ⟨some 54, .mv (.t 55), none⟩])
  (.cond (.t 54) (.seq (.ops [⟨some 56, .mv (.t 11), none⟩,
    ⟨some 6, .mv (.t 56), none⟩,
    ⟨some 7, .mv (.c (.int .i64 2)), none⟩])
  (.ret)) (.seq (.ops [⟨some 50, .mv (.t 11), none⟩,
    ⟨some 6, .mv (.t 50), none⟩,
    ⟨some 7, .mv (.c (.int .i64 0)), none⟩])
  (.ret))))))))))))))
theorem k_slices_choosePivotOrdered_int : FnIs AP n_slices_choosePivotOrdered_int c_slices_choosePivotOrdered_int 57 (rsT [6, 7]) := fnIs_of (fn := Go.Proofs.Try.f51) Go.Proofs.Try.func51 (by kernel_rfl) (by kernel_rfl) (by kernel_rfl) (by kernel_rfl) (by kernel_rfl)
theorem a_slices_choosePivotOrdered_int {x0 x1 x2 : V} {H : List Entry} {K : KV} (h : Wf H → awp AP H.length c_slices_choosePivotOrdered_int (finW H.length (rsT [6, 7]) K) ([x0, x1, x2] ++ List.replicate 54 undefV) H) : BCall AP n_slices_choosePivotOrdered_int [x0, x1, x2] H K := k_slices_choosePivotOrdered_int.call (by kernel_rfl) h
/-- slices.reverseRangeOrdered[int]: 32 slots -/
def c_slices_reverseRangeOrdered_int : AC := .seq (.ops [⟨some 8, .mv (.t 1), none⟩,
    ⟨some 6, .mv (.t 8), none⟩])
  (.seq (.ops [⟨some 9, .mv (.t 2), none⟩,
    ⟨some 10, .bin .sub (.t 9) (.c (.int .i64 1)), none⟩,
    ⟨some 7, .mv (.t 10), none⟩])
  (.block 0 (.loop (.seq (.seq (.ops [⟨some 11, .mv (.t 6), none⟩,
    ⟨some 12, .mv (.t 7), none⟩,
    ⟨some 13, .bin .lss (.t 11) (.t 12), none⟩])
  (.cond (.t 13) (.skip) (.exit 0)))
  (.block 1 (.seq (.draw [⟨some 14, .mv (.t 0), none⟩,
    ⟨some 15, .mv (.t 6), none⟩,
    ⟨some 16, .mv (.t 0), none⟩,
    ⟨some 17, .mv (.t 7), none⟩,
    ⟨some 18, .mv (.t 0), none⟩,
    ⟨some 19, .mv (.t 7), none⟩,
    ⟨some 20, .iad 1 false (.t 18) (.t 19), none⟩,
    ⟨some 21, .load 1 false (.t 20), none⟩,
    ⟨some 22, .mv (.t 0), none⟩,
    ⟨some 23, .mv (.t 6), none⟩,
    ⟨some 24, .iad 1 false (.t 22) (.t 23), none⟩,
    ⟨some 25, .load 1 false (.t 24), none⟩,
    ⟨some 26, .iad 1 false (.t 14) (.t 15), none⟩,
    ⟨none, .store 1 (.t 26) (.t 21), none⟩,
    ⟨some 27, .iad 1 false (.t 16) (.t 17), none⟩,
    ⟨none, .store 1 (.t 27) (.t 25), none⟩])
  (.seq (.ops [⟨some 28, .mv (.t 6), none⟩,
    ⟨some 29, .bin .add (.t 28) (.c (.int .i64 1)), none⟩,
    ⟨some 6, .mv (.t 29), none⟩])
  (.ops [⟨some 30, .mv (.t 7), none⟩,
    ⟨some 31, .bin .sub (.t 30) (.c (.int .i64 1)), none⟩,
    ⟨some 7, .mv (.t 31), none⟩]))))))))
theorem k_slices_reverseRangeOrdered_int : FnIs AP n_slices_reverseRangeOrdered_int c_slices_reverseRangeOrdered_int 32 (rsT []) := fnIs_of (fn := Go.Proofs.Try.f52) Go.Proofs.Try.func52 (by kernel_rfl) (by kernel_rfl) (by kernel_rfl) (by kernel_rfl) (by kernel_rfl)
theorem a_slices_reverseRangeOrdered_int {x0 x1 x2 : V} {H : List Entry} {K : KV} (h : Wf H → awp AP H.length c_slices_reverseRangeOrdered_int (finW H.length (rsT []) K) ([x0, x1, x2] ++ List.replicate 29 undefV) H) : BCall AP n_slices_reverseRangeOrdered_int [x0, x1, x2] H K := k_slices_reverseRangeOrdered_int.call (by kernel_rfl) h
/-- slices.partialInsertionSortOrdered[int]: 133 slots -/
def c_slices_partialInsertionSortOrdered_int : AC := .seq (.ops [⟨some 6, .mv (.c (.bool false)), none⟩])
  (.seq (.ops [⟨some 11, .mv (.t 1), none⟩,
    ⟨some 12, .bin .add (.t 11) (.c (.int .i64 1)), none⟩,
    ⟨some 7, .mv (.t 12), none⟩])
  (.seq (.seq (.ops [⟨some 8, .mv (.c (.int .i64 0)), none⟩])
  (.block 0 (.loop (.seq (.seq (.ops [⟨some 13, .mv (.t 8), none⟩,
    ⟨some 14, .bin .lss (.t 13) (.c (.int .i64 5)), none⟩])
  (.cond (.t 14) (.skip) (.exit 0)))
  (.seq (.block 1 (.seq (.block 2 (.loop (.seq (.seq (.draw [⟨some 17, .mv (.t 7), none⟩,
    ⟨some 18, .mv (.t 2), none⟩,
    ⟨some 19, .bin .lss (.t 17) (.t 18), none⟩,
    ⟨some 20, .mv (.t 19), none⟩,
    ⟨some 21, .mv (.t 0), some (20, true)⟩,
    ⟨some 22, .mv (.t 7), some (20, true)⟩,
    ⟨some 23, .iad 1 false (.t 21) (.t 22), some (20, true)⟩,
    ⟨some 24, .load 1 false (.t 23), some (20, true)⟩,
    ⟨some 25, .mv (.t 0), some (20, true)⟩,
    ⟨some 26, .mv (.t 7), some (20, true)⟩,
    ⟨some 27, .bin .sub (.t 26) (.c (.int .i64 1)), some (20, true)⟩,
    ⟨some 28, .iad 1 false (.t 25) (.t 27), some (20, true)⟩,
    ⟨some 29, .load 1 false (.t 28), some (20, true)⟩,
    ⟨some 30, .dcall (.c (.fn n_cmp_Less_int [] [])) [(.t 24), (.t 29)], some (20, true)⟩,
    ⟨some 31, .un .not (.t 30), some (20, true)⟩,
    ⟨some 32, .pick (.t 20) (.t 31) (.c (.bool false)), none⟩])
  (.cond (.t 32) (.skip) (.exit 2)))
  (.block 3 (.ops [⟨some 33, .mv (.t 7), none⟩,
    ⟨some 34, .bin .add (.t 33) (.c (.int .i64 1)), none⟩,
    ⟨some 7, .mv (.t 34), none⟩])))))
  (.seq (.seq (.ops [⟨some 35, .mv (.t 7), none⟩,
    ⟨some 36, .mv (.t 2), none⟩,
    ⟨some 37, .bin .eql (.t 35) (.t 36), none⟩])
  (.cond (.t 37) (.seq (.ops [⟨some 6, .mv (.c (.bool true)), none⟩])
  (.ret)) (.skip)))
  (.seq (.seq (.ops [⟨some 38, .mv (.t 2), none⟩,
    ⟨some 39, .mv (.t 1), none⟩,
    ⟨some 40, .bin .sub (.t 38) (.t 39), none⟩,
    ⟨some 41, .bin .lss (.t 40) (.c (.int .i64 50)), none⟩])
  (.cond (.t 41) (.seq (.ops [⟨some 6, .mv (.c (.bool false)), none⟩])
  (.ret)) (.skip)))
  (.seq (.draw [⟨some 42, .mv (.t 0), none⟩,
    ⟨some 43, .mv (.t 7), none⟩,
    ⟨some 44, .mv (.t 0), none⟩,
    ⟨some 45, .mv (.t 7), none⟩,
    ⟨some 46, .bin .sub (.t 45) (.c (.int .i64 1)), none⟩,
    ⟨some 47, .mv (.t 0), none⟩,
    ⟨some 48, .mv (.t 7), none⟩,
    ⟨some 49, .bin .sub (.t 48) (.c (.int .i64 1)), none⟩,
    ⟨some 50, .iad 1 false (.t 47) (.t 49), none⟩,
    ⟨some 51, .load 1 false (.t 50), none⟩,
    ⟨some 52, .mv (.t 0), none⟩,
    ⟨some 53, .mv (.t 7), none⟩,
    ⟨some 54, .iad 1 false (.t 52) (.t 53), none⟩,
    ⟨some 55, .load 1 false (.t 54), none⟩,
    ⟨some 56, .iad 1 false (.t 42) (.t 43), none⟩,
    ⟨none, .store 1 (.t 56) (.t 51), none⟩,
    ⟨some 57, .iad 1 false (.t 44) (.t 46), none⟩,
    ⟨none, .store 1 (.t 57) (.t 55), none⟩])
  (.seq (.seq (.ops [⟨some 58, .mv (.t 7), none⟩,
    ⟨some 59, .mv (.t 1), none⟩,
    ⟨some 60, .bin .sub (.t 58) (.t 59), none⟩,
    ⟨some 61, .bin .geq (.t 60) (.c (.int .i64 2)), none⟩])
  (.cond (.t 61) (.seq (.ops [⟨some 62, .mv (.t 7), none⟩,
    ⟨some 63, .bin .sub (.t 62) (.c (.int .i64 1)), none⟩,
    ⟨some 9, .mv (.t 63), none⟩])
  (.block 4 (.loop (.seq (.seq (.ops [⟨some 64, .mv (.t 9), none⟩,
    ⟨some 65, .bin .geq (.t 64) (.c (.int .i64 1)), none⟩])
  (.cond (.t 65) (.skip) (.exit 4)))
  (.seq (.block 5 (.seq (.seq (.draw [⟨some 68, .mv (.t 0), none⟩,
    ⟨some 69, .mv (.t 9), none⟩,
    ⟨some 70, .iad 1 false (.t 68) (.t 69), none⟩,
    ⟨some 71, .load 1 false (.t 70), none⟩,
    ⟨some 72, .mv (.t 0), none⟩,
    ⟨some 73, .mv (.t 9), none⟩,
    ⟨some 74, .bin .sub (.t 73) (.c (.int .i64 1)), none⟩,
    ⟨some 75, .iad 1 false (.t 72) (.t 74), none⟩,
    ⟨some 76, .load 1 false (.t 75), none⟩,
    ⟨some 77, .dcall (.c (.fn n_cmp_Less_int [] [])) [(.t 71), (.t 76)], none⟩,
    ⟨some 78, .un .not (.t 77), none⟩])
  (.cond (.t 78) (.exit 4) (.skip)))
  (.draw [⟨some 79, .mv (.t 0), none⟩,
    ⟨some 80, .mv (.t 9), none⟩,
    ⟨some 81, .mv (.t 0), none⟩,
    ⟨some 82, .mv (.t 9), none⟩,
    ⟨some 83, .bin .sub (.t 82) (.c (.int .i64 1)), none⟩,
    ⟨some 84, .mv (.t 0), none⟩,
    ⟨some 85, .mv (.t 9), none⟩,
    ⟨some 86, .bin .sub (.t 85) (.c (.int .i64 1)), none⟩,
    ⟨some 87, .iad 1 false (.t 84) (.t 86), none⟩,
    ⟨some 88, .load 1 false (.t 87), none⟩,
    ⟨some 89, .mv (.t 0), none⟩,
    ⟨some 90, .mv (.t 9), none⟩,
    ⟨some 91, .iad 1 false (.t 89) (.t 90), none⟩,
    ⟨some 92, .load 1 false (.t 91), none⟩,
    ⟨some 93, .iad 1 false (.t 79) (.t 80), none⟩,
    ⟨none, .store 1 (.t 93) (.t 88), none⟩,
    ⟨some 94, .iad 1 false (.t 81) (.t 83), none⟩,
    ⟨none, .store 1 (.t 94) (.t 92), none⟩])))
  (.ops [⟨some 66, .mv (.t 9), none⟩,
    ⟨some 67, .bin .sub (.t 66) (.c (.int .i64 1)), none⟩,
    ⟨some 9, .mv (.t 67), none⟩])))))) (.skip)))
  (.seq (.ops [⟨some 95, .mv (.t 2), none⟩,
    ⟨some 96, .mv (.t 7), none⟩,
    ⟨some 97, .bin .sub (.t 95) (.t 96), none⟩,
    ⟨some 98, .bin .geq (.t 97) (.c (.int .i64 2)), none⟩])
  (.cond (.t 98) (.seq (.ops [⟨some 99, .mv (.t 7), none⟩,
    ⟨some 100, .bin .add (.t 99) (.c (.int .i64 1)), none⟩,
    ⟨some 10, .mv (.t 100), none⟩])
  (.block 6 (.loop (.seq (.seq (.ops [⟨some 101, .mv (.t 10), none⟩,
    ⟨some 102, .mv (.t 2), none⟩,
    ⟨some 103, .bin .lss (.t 101) (.t 102), none⟩])
  (.cond (.t 103) (.skip) (.exit 6)))
  (.seq (.block 7 (.seq (.seq (.draw [⟨some 106, .mv (.t 0), none⟩,
    ⟨some 107, .mv (.t 10), none⟩,
    ⟨some 108, .iad 1 false (.t 106) (.t 107), none⟩,
    ⟨some 109, .load 1 false (.t 108), none⟩,
    ⟨some 110, .mv (.t 0), none⟩,
    ⟨some 111, .mv (.t 10), none⟩,
    ⟨some 112, .bin .sub (.t 111) (.c (.int .i64 1)), none⟩,
    ⟨some 113, .iad 1 false (.t 110) (.t 112), none⟩,
    ⟨some 114, .load 1 false (.t 113), none⟩,
    ⟨some 115, .dcall (.c (.fn n_cmp_Less_int [] [])) [(.t 109), (.t 114)], none⟩,
    ⟨some 116, .un .not (.t 115), none⟩])
  (.cond (.t 116) (.exit 6) (.skip)))
  (.draw [⟨some 117, .mv (.t 0), none⟩,
    ⟨some 118, .mv (.t 10), none⟩,
    ⟨some 119, .mv (.t 0), none⟩,
    ⟨some 120, .mv (.t 10), none⟩,
    ⟨some 121, .bin .sub (.t 120) (.c (.int .i64 1)), none⟩,
    ⟨some 122, .mv (.t 0), none⟩,
    ⟨some 123, .mv (.t 10), none⟩,
    ⟨some 124, .bin .sub (.t 123) (.c (.int .i64 1)), none⟩,
    ⟨some 125, .iad 1 false (.t 122) (.t 124), none⟩,
    ⟨some 126, .load 1 false (.t 125), none⟩,
    ⟨some 127, .mv (.t 0), none⟩,
    ⟨some 128, .mv (.t 10), none⟩,
    ⟨some 129, .iad 1 false (.t 127) (.t 128), none⟩,
    ⟨some 130, .load 1 false (.t 129), none⟩,
    ⟨some 131, .iad 1 false (.t 117) (.t 118), none⟩,
    ⟨none, .store 1 (.t 131) (.t 126), none⟩,
    ⟨some 132, .iad 1 false (.t 119) (.t 121), none⟩,
    ⟨none, .store 1 (.t 132) (.t 130), none⟩])))
  (.ops [⟨some 104, .mv (.t 10), none⟩,
    ⟨some 105, .bin .add (.t 104) (.c (.int .i64 1)), none⟩,
    ⟨some 10, .mv (.t 105), none⟩])))))) (.skip)))))))))
  (.ops [⟨some 15, .mv (.t 8), none⟩,
    ⟨some 16, .bin .add (.t 15) (.c (.int .i64 1)), none⟩,
    ⟨some 8, .mv (.t 16), none⟩]))))))
  (.seq (.ops [⟨some 6, .mv (.c (.bool false)), none⟩])
  (.ret))))
theorem k_slices_partialInsertionSortOrdered_int : FnIs AP n_slices_partialInsertionSortOrdered_int c_slices_partialInsertionSortOrdered_int 133 (rsT [6]) := fnIs_of (fn := Go.Proofs.Try.f53) Go.Proofs.Try.func53 (by kernel_rfl) (by kernel_rfl) (by kernel_rfl) (by kernel_rfl) (by kernel_rfl)
theorem a_slices_partialInsertionSortOrdered_int {x0 x1 x2 : V} {H : List Entry} {K : KV} (h : Wf H → awp AP H.length c_slices_partialInsertionSortOrdered_int (finW H.length (rsT [6]) K) ([x0, x1, x2] ++ List.replicate 130 undefV) H) : BCall AP n_slices_partialInsertionSortOrdered_int [x0, x1, x2] H K := k_slices_partialInsertionSortOrdered_int.call (by kernel_rfl) h
/-- cmp.Less[int]: 17 slots -/
def c_cmp_Less_int : AC := .seq (.ops [⟨some 4, .mv (.c (.bool false)), none⟩])
  (.seq (.ops [⟨some 5, .mv (.t 0), none⟩,
    ⟨some 6, .call (.c (.fn n_cmp_isNaN_int [] [])) [(.t 5)], none⟩,
    ⟨some 7, .mv (.t 6), none⟩,
    ⟨some 8, .mv (.t 1), some (7, true)⟩,
    ⟨some 9, .call (.c (.fn n_cmp_isNaN_int [] [])) [(.t 8)], some (7, true)⟩,
    ⟨some 10, .un .not (.t 9), some (7, true)⟩,
    ⟨some 11, .pick (.t 7) (.t 10) (.c (.bool false)), none⟩,
    ⟨some 12, .mv (.t 11), none⟩,
    ⟨some 13, .mv (.t 0), some (12, false)⟩,
    ⟨some 14, .mv (.t 1), some (12, false)⟩,
    ⟨some 15, .bin .lss (.t 13) (.t 14), some (12, false)⟩,
    ⟨some 16, .pick (.t 12) (.c (.bool true)) (.t 15), none⟩,
    ⟨some 4, .mv (.t 16), none⟩])
  (.ret))
theorem k_cmp_Less_int : FnIs AP n_cmp_Less_int c_cmp_Less_int 17 (rsT [4]) := fnIs_of (fn := Go.Proofs.Try.f54) Go.Proofs.Try.func54 (by kernel_rfl) (by kernel_rfl) (by kernel_rfl) (by kernel_rfl) (by kernel_rfl)
theorem a_cmp_Less_int {x0 x1 : V} {H : List Entry} {K : KV} (h : Wf H → awp AP H.length c_cmp_Less_int (finW H.length (rsT [4]) K) ([x0, x1] ++ List.replicate 15 undefV) H) : BCall AP n_cmp_Less_int [x0, x1] H K := k_cmp_Less_int.call (by kernel_rfl) h
/-- slices.partitionEqualOrdered[int]: 84 slots -/
def c_slices_partitionEqualOrdered_int : AC := .seq (.ops [⟨some 8, .mv (.c (.int .i64 0)), none⟩])
  (.seq (.draw [⟨some 11, .mv (.t 0), none⟩,
    ⟨some 12, .mv (.t 1), none⟩,
    ⟨some 13, .mv (.t 0), none⟩,
    ⟨some 14, .mv (.t 3), none⟩,
    ⟨some 15, .mv (.t 0), none⟩,
    ⟨some 16, .mv (.t 3), none⟩,
    ⟨some 17, .iad 1 false (.t 15) (.t 16), none⟩,
    ⟨some 18, .load 1 false (.t 17), none⟩,
    ⟨some 19, .mv (.t 0), none⟩,
    ⟨some 20, .mv (.t 1), none⟩,
    ⟨some 21, .iad 1 false (.t 19) (.t 20), none⟩,
    ⟨some 22, .load 1 false (.t 21), none⟩,
    ⟨some 23, .iad 1 false (.t 11) (.t 12), none⟩,
    ⟨none, .store 1 (.t 23) (.t 18), none⟩,
    ⟨some 24, .iad 1 false (.t 13) (.t 14), none⟩,
    ⟨none, .store 1 (.t 24) (.t 22), none⟩])
  (.seq (.ops [⟨some 25, .mv (.t 1), none⟩,
    ⟨some 26, .bin .add (.t 25) (.c (.int .i64 1)), none⟩,
    ⟨some 27, .mv (.t 2), none⟩,
    ⟨some 28, .bin .sub (.t 27) (.c (.int .i64 1)), none⟩,
    ⟨some 9, .mv (.t 26), none⟩,
    ⟨some 10, .mv (.t 28), none⟩])
  (.seq (.block 0 (.loop (.block 1 (.seq (.block 2 (.loop (.seq (.seq (.draw [⟨some 29, .mv (.t 9), none⟩,
    ⟨some 30, .mv (.t 10), none⟩,
    ⟨some 31, .bin .leq (.t 29) (.t 30), none⟩,
    ⟨some 32, .mv (.t 31), none⟩,
    ⟨some 33, .mv (.t 0), some (32, true)⟩,
    ⟨some 34, .mv (.t 1), some (32, true)⟩,
    ⟨some 35, .iad 1 false (.t 33) (.t 34), some (32, true)⟩,
    ⟨some 36, .load 1 false (.t 35), some (32, true)⟩,
    ⟨some 37, .mv (.t 0), some (32, true)⟩,
    ⟨some 38, .mv (.t 9), some (32, true)⟩,
    ⟨some 39, .iad 1 false (.t 37) (.t 38), some (32, true)⟩,
    ⟨some 40, .load 1 false (.t 39), some (32, true)⟩,
    ⟨some 41, .dcall (.c (.fn n_cmp_Less_int [] [])) [(.t 36), (.t 40)], some (32, true)⟩,
    ⟨some 42, .un .not (.t 41), some (32, true)⟩,
    ⟨some 43, .pick (.t 32) (.t 42) (.c (.bool false)), none⟩])
  (.cond (.t 43) (.skip) (.exit 2)))
  (.block 3 (.ops [⟨some 44, .mv (.t 9), none⟩,
    ⟨some 45, .bin .add (.t 44) (.c (.int .i64 1)), none⟩,
    ⟨some 9, .mv (.t 45), none⟩])))))
  (.seq (.block 4 (.loop (.seq (.seq (.draw [⟨some 46, .mv (.t 9), none⟩,
    ⟨some 47, .mv (.t 10), none⟩,
    ⟨some 48, .bin .leq (.t 46) (.t 47), none⟩,
    ⟨some 49, .mv (.t 48), none⟩,
    ⟨some 50, .mv (.t 0), some (49, true)⟩,
    ⟨some 51, .mv (.t 1), some (49, true)⟩,
    ⟨some 52, .iad 1 false (.t 50) (.t 51), some (49, true)⟩,
    ⟨some 53, .load 1 false (.t 52), some (49, true)⟩,
    ⟨some 54, .mv (.t 0), some (49, true)⟩,
    ⟨some 55, .mv (.t 10), some (49, true)⟩,
    ⟨some 56, .iad 1 false (.t 54) (.t 55), some (49, true)⟩,
    ⟨some 57, .load 1 false (.t 56), some (49, true)⟩,
    ⟨some 58, .dcall (.c (.fn n_cmp_Less_int [] [])) [(.t 53), (.t 57)], some (49, true)⟩,
    ⟨some 59, .pick (.t 49) (.t 58) (.c (.bool false)), none⟩])
  (.cond (.t 59) (.skip) (.exit 4)))
  (.block 5 (.ops [⟨some 60, .mv (.t 10), none⟩,
    ⟨some 61, .bin .sub (.t 60) (.c (.int .i64 1)), none⟩,
    ⟨some 10, .mv (.t 61), none⟩])))))
  (.seq (.seq (.ops [⟨some 62, .mv (.t 9), none⟩,
    ⟨some 63, .mv (.t 10), none⟩,
    ⟨some 64, .bin .gtr (.t 62) (.t 63), none⟩])
  (.cond (.t 64) (.exit 0) (.skip)))
  (.seq (.draw [⟨some 65, .mv (.t 0), none⟩,
    ⟨some 66, .mv (.t 9), none⟩,
    ⟨some 67, .mv (.t 0), none⟩,
    ⟨some 68, .mv (.t 10), none⟩,
    ⟨some 69, .mv (.t 0), none⟩,
    ⟨some 70, .mv (.t 10), none⟩,
    ⟨some 71, .iad 1 false (.t 69) (.t 70), none⟩,
    ⟨some 72, .load 1 false (.t 71), none⟩,
    ⟨some 73, .mv (.t 0), none⟩,
    ⟨some 74, .mv (.t 9), none⟩,
    ⟨some 75, .iad 1 false (.t 73) (.t 74), none⟩,
    ⟨some 76, .load 1 false (.t 75), none⟩,
    ⟨some 77, .iad 1 false (.t 65) (.t 66), none⟩,
    ⟨none, .store 1 (.t 77) (.t 72), none⟩,
    ⟨some 78, .iad 1 false (.t 67) (.t 68), none⟩,
    ⟨none, .store 1 (.t 78) (.t 76), none⟩])
  (.seq (.ops [⟨some 79, .mv (.t 9), none⟩,
    ⟨some 80, .bin .add (.t 79) (.c (.int .i64 1)), none⟩,
    ⟨some 9, .mv (.t 80), none⟩])
  (.ops [⟨some 81, .mv (.t 10), none⟩,
    ⟨some 82, .bin .sub (.t 81) (.c (.int .i64 1)), none⟩,
    ⟨some 10, .mv (.t 82), none⟩])))))))))
  (.seq (.ops [⟨some 83, .mv (.t 9), none⟩,
    ⟨some 8, .mv (.t 83), none⟩])
  (.ret)))))
theorem k_slices_partitionEqualOrdered_int : FnIs AP n_slices_partitionEqualOrdered_int c_slices_partitionEqualOrdered_int 84 (rsT [8]) := fnIs_of (fn := Go.Proofs.Try.f55) Go.Proofs.Try.func55 (by kernel_rfl) (by kernel_rfl) (by kernel_rfl) (by kernel_rfl) (by kernel_rfl)
theorem a_slices_partitionEqualOrdered_int {x0 x1 x2 x3 : V} {H : List Entry} {K : KV} (h : Wf H → awp AP H.length c_slices_partitionEqualOrdered_int (finW H.length (rsT [8]) K) ([x0, x1, x2, x3] ++ List.replicate 80 undefV) H) : BCall AP n_slices_partitionEqualOrdered_int [x0, x1, x2, x3] H K := k_slices_partitionEqualOrdered_int.call (by kernel_rfl) h
/-- slices.partitionOrdered[int]: 168 slots -/
def c_slices_partitionOrdered_int : AC := .seq (.ops [⟨some 8, .mv (.c (.int .i64 0)), none⟩,
    ⟨some 9, .mv (.c (.bool false)), none⟩])
  (.seq (.draw [⟨some 12, .mv (.t 0), none⟩,
    ⟨some 13, .mv (.t 1), none⟩,
    ⟨some 14, .mv (.t 0), none⟩,
    ⟨some 15, .mv (.t 3), none⟩,
    ⟨some 16, .mv (.t 0), none⟩,
    ⟨some 17, .mv (.t 3), none⟩,
    ⟨some 18, .iad 1 false (.t 16) (.t 17), none⟩,
    ⟨some 19, .load 1 false (.t 18), none⟩,
    ⟨some 20, .mv (.t 0), none⟩,
    ⟨some 21, .mv (.t 1), none⟩,
    ⟨some 22, .iad 1 false (.t 20) (.t 21), none⟩,
    ⟨some 23, .load 1 false (.t 22), none⟩,
    ⟨some 24, .iad 1 false (.t 12) (.t 13), none⟩,
    ⟨none, .store 1 (.t 24) (.t 19), none⟩,
    ⟨some 25, .iad 1 false (.t 14) (.t 15), none⟩,
    ⟨none, .store 1 (.t 25) (.t 23), none⟩])
  (.seq (.ops [⟨some 26, .mv (.t 1), none⟩,
    ⟨some 27, .bin .add (.t 26) (.c (.int .i64 1)), none⟩,
    ⟨some 28, .mv (.t 2), none⟩,
    ⟨some 29, .bin .sub (.t 28) (.c (.int .i64 1)), none⟩,
    ⟨some 10, .mv (.t 27), none⟩,
    ⟨some 11, .mv (.t 29), none⟩])
  (.seq (.block 0 (.loop (.seq (.seq (.draw [⟨some 30, .mv (.t 10), none⟩,
    ⟨some 31, .mv (.t 11), none⟩,
    ⟨some 32, .bin .leq (.t 30) (.t 31), none⟩,
    ⟨some 33, .mv (.t 32), none⟩,
    ⟨some 34, .mv (.t 0), some (33, true)⟩,
    ⟨some 35, .mv (.t 10), some (33, true)⟩,
    ⟨some 36, .iad 1 false (.t 34) (.t 35), some (33, true)⟩,
    ⟨some 37, .load 1 false (.t 36), some (33, true)⟩,
    ⟨some 38, .mv (.t 0), some (33, true)⟩,
    ⟨some 39, .mv (.t 1), some (33, true)⟩,
    ⟨some 40, .iad 1 false (.t 38) (.t 39), some (33, true)⟩,
    ⟨some 41, .load 1 false (.t 40), some (33, true)⟩,
    ⟨some 42, .dcall (.c (.fn n_cmp_Less_int [] [])) [(.t 37), (.t 41)], some (33, true)⟩,
    ⟨some 43, .pick (.t 33) (.t 42) (.c (.bool false)), none⟩])
  (.cond (.t 43) (.skip) (.exit 0)))
  (.block 1 (.ops [⟨some 44, .mv (.t 10), none⟩,
    ⟨some 45, .bin .add (.t 44) (.c (.int .i64 1)), none⟩,
    ⟨some 10, .mv (.t 45), none⟩])))))
  (.seq (.block 2 (.loop (.seq (.seq (.draw [⟨some 46, .mv (.t 10), none⟩,
    ⟨some 47, .mv (.t 11), none⟩,
    ⟨some 48, .bin .leq (.t 46) (.t 47), none⟩,
    ⟨some 49, .mv (.t 48), none⟩,
    ⟨some 50, .mv (.t 0), some (49, true)⟩,
    ⟨some 51, .mv (.t 11), some (49, true)⟩,
    ⟨some 52, .iad 1 false (.t 50) (.t 51), some (49, true)⟩,
    ⟨some 53, .load 1 false (.t 52), some (49, true)⟩,
    ⟨some 54, .mv (.t 0), some (49, true)⟩,
    ⟨some 55, .mv (.t 1), some (49, true)⟩,
    ⟨some 56, .iad 1 false (.t 54) (.t 55), some (49, true)⟩,
    ⟨some 57, .load 1 false (.t 56), some (49, true)⟩,
    ⟨some 58, .dcall (.c (.fn n_cmp_Less_int [] [])) [(.t 53), (.t 57)], some (49, true)⟩,
    ⟨some 59, .un .not (.t 58), some (49, true)⟩,
    ⟨some 60, .pick (.t 49) (.t 59) (.c (.bool false)), none⟩])
  (.cond (.t 60) (.skip) (.exit 2)))
  (.block 3 (.ops [⟨some 61, .mv (.t 11), none⟩,
    ⟨some 62, .bin .sub (.t 61) (.c (.int .i64 1)), none⟩,
    ⟨some 11, .mv (.t 62), none⟩])))))
  (.seq (.seq (.ops [⟨some 63, .mv (.t 10), none⟩,
    ⟨some 64, .mv (.t 11), none⟩,
    ⟨some 65, .bin .gtr (.t 63) (.t 64), none⟩])
  (.cond (.t 65) (.seq (.draw [⟨some 66, .mv (.t 0), none⟩,
    ⟨some 67, .mv (.t 11), none⟩,
    ⟨some 68, .mv (.t 0), none⟩,
    ⟨some 69, .mv (.t 1), none⟩,
    ⟨some 70, .mv (.t 0), none⟩,
    ⟨some 71, .mv (.t 1), none⟩,
    ⟨some 72, .iad 1 false (.t 70) (.t 71), none⟩,
    ⟨some 73, .load 1 false (.t 72), none⟩,
    ⟨some 74, .mv (.t 0), none⟩,
    ⟨some 75, .mv (.t 11), none⟩,
    ⟨some 76, .iad 1 false (.t 74) (.t 75), none⟩,
    ⟨some 77, .load 1 false (.t 76), none⟩,
    ⟨some 78, .iad 1 false (.t 66) (.t 67), none⟩,
    ⟨none, .store 1 (.t 78) (.t 73), none⟩,
    ⟨some 79, .iad 1 false (.t 68) (.t 69), none⟩,
    ⟨none, .store 1 (.t 79) (.t 77), none⟩])
  (.seq (.ops [⟨some 80, .mv (.t 11), none⟩,
    ⟨some 8, .mv (.t 80), none⟩,
    ⟨some 9, .mv (.c (.bool true)), none⟩])
  (.ret))) (.skip)))
  (.seq (.draw [⟨some 81, .mv (.t 0), none⟩,
    ⟨some 82, .mv (.t 10), none⟩,
    ⟨some 83, .mv (.t 0), none⟩,
    ⟨some 84, .mv (.t 11), none⟩,
    ⟨some 85, .mv (.t 0), none⟩,
    ⟨some 86, .mv (.t 11), none⟩,
    ⟨some 87, .iad 1 false (.t 85) (.t 86), none⟩,
    ⟨some 88, .load 1 false (.t 87), none⟩,
    ⟨some 89, .mv (.t 0), none⟩,
    ⟨some 90, .mv (.t 10), none⟩,
    ⟨some 91, .iad 1 false (.t 89) (.t 90), none⟩,
    ⟨some 92, .load 1 false (.t 91), none⟩,
    ⟨some 93, .iad 1 false (.t 81) (.t 82), none⟩,
    ⟨none, .store 1 (.t 93) (.t 88), none⟩,
    ⟨some 94, .iad 1 false (.t 83) (.t 84), none⟩,
    ⟨none, .store 1 (.t 94) (.t 92), none⟩])
  (.seq (.ops [⟨some 95, .mv (.t 10), none⟩,
    ⟨some 96, .bin .add (.t 95) (.c (.int .i64 1)), none⟩,
    ⟨some 10, .mv (.t 96), none⟩])
  (.seq (.ops [⟨some 97, .mv (.t 11), none⟩,
    ⟨some 98, .bin .sub (.t 97) (.c (.int .i64 1)), none⟩,
    ⟨some 11, .mv (.t 98), none⟩])
  (.seq (.block 4 (.loop (.block 5 (.seq (.block 6 (.loop (.seq (.seq (.draw [⟨some 99, .mv (.t 10), none⟩,
    ⟨some 100, .mv (.t 11), none⟩,
    ⟨some 101, .bin .leq (.t 99) (.t 100), none⟩,
    ⟨some 102, .mv (.t 101), none⟩,
    ⟨some 103, .mv (.t 0), some (102, true)⟩,
    ⟨some 104, .mv (.t 10), some (102, true)⟩,
    ⟨some 105, .iad 1 false (.t 103) (.t 104), some (102, true)⟩,
    ⟨some 106, .load 1 false (.t 105), some (102, true)⟩,
    ⟨some 107, .mv (.t 0), some (102, true)⟩,
    ⟨some 108, .mv (.t 1), some (102, true)⟩,
    ⟨some 109, .iad 1 false (.t 107) (.t 108), some (102, true)⟩,
    ⟨some 110, .load 1 false (.t 109), some (102, true)⟩,
    ⟨some 111, .dcall (.c (.fn n_cmp_Less_int [] [])) [(.t 106), (.t 110)], some (102, true)⟩,
    ⟨some 112, .pick (.t 102) (.t 111) (.c (.bool false)), none⟩])
  (.cond (.t 112) (.skip) (.exit 6)))
  (.block 7 (.ops [⟨some 113, .mv (.t 10), none⟩,
    ⟨some 114, .bin .add (.t 113) (.c (.int .i64 1)), none⟩,
    ⟨some 10, .mv (.t 114), none⟩])))))
  (.seq (.block 8 (.loop (.seq (.seq (.draw [⟨some 115, .mv (.t 10), none⟩,
    ⟨some 116, .mv (.t 11), none⟩,
    ⟨some 117, .bin .leq (.t 115) (.t 116), none⟩,
    ⟨some 118, .mv (.t 117), none⟩,
    ⟨some 119, .mv (.t 0), some (118, true)⟩,
    ⟨some 120, .mv (.t 11), some (118, true)⟩,
    ⟨some 121, .iad 1 false (.t 119) (.t 120), some (118, true)⟩,
    ⟨some 122, .load 1 false (.t 121), some (118, true)⟩,
    ⟨some 123, .mv (.t 0), some (118, true)⟩,
    ⟨some 124, .mv (.t 1), some (118, true)⟩,
    ⟨some 125, .iad 1 false (.t 123) (.t 124), some (118, true)⟩,
    ⟨some 126, .load 1 false (.t 125), some (118, true)⟩,
    ⟨some 127, .dcall (.c (.fn n_cmp_Less_int [] [])) [(.t 122), (.t 126)], some (118, true)⟩,
    ⟨some 128, .un .not (.t 127), some (118, true)⟩,
    ⟨some 129, .pick (.t 118) (.t 128) (.c (.bool false)), none⟩])
  (.cond (.t 129) (.skip) (.exit 8)))
  (.block 9 (.ops [⟨some 130, .mv (.t 11), none⟩,
    ⟨some 131, .bin .sub (.t 130) (.c (.int .i64 1)), none⟩,
    ⟨some 11, .mv (.t 131), none⟩])))))
  (.seq (.seq (.ops [⟨some 132, .mv (.t 10), none⟩,
    ⟨some 133, .mv (.t 11), none⟩,
    ⟨some 134, .bin .gtr (.t 132) (.t 133), none⟩])
  (.cond (.t 134) (.exit 4) (.skip)))
  (.seq (.draw [⟨some 135, .mv (.t 0), none⟩,
    ⟨some 136, .mv (.t 10), none⟩,
    ⟨some 137, .mv (.t 0), none⟩,
    ⟨some 138, .mv (.t 11), none⟩,
    ⟨some 139, .mv (.t 0), none⟩,
    ⟨some 140, .mv (.t 11), none⟩,
    ⟨some 141, .iad 1 false (.t 139) (.t 140), none⟩,
    ⟨some 142, .load 1 false (.t 141), none⟩,
    ⟨some 143, .mv (.t 0), none⟩,
    ⟨some 144, .mv (.t 10), none⟩,
    ⟨some 145, .iad 1 false (.t 143) (.t 144), none⟩,
    ⟨some 146, .load 1 false (.t 145), none⟩,
    ⟨some 147, .iad 1 false (.t 135) (.t 136), none⟩,
    ⟨none, .store 1 (.t 147) (.t 142), none⟩,
    ⟨some 148, .iad 1 false (.t 137) (.t 138), none⟩,
    ⟨none, .store 1 (.t 148) (.t 146), none⟩])
  (.seq (.ops [⟨some 149, .mv (.t 10), none⟩,
    ⟨some 150, .bin .add (.t 149) (.c (.int .i64 1)), none⟩,
    ⟨some 10, .mv (.t 150), none⟩])
  (.ops [⟨some 151, .mv (.t 11), none⟩,
    ⟨some 152, .bin .sub (.t 151) (.c (.int .i64 1)), none⟩,
    ⟨some 11, .mv (.t 152), none⟩])))))))))
  (.seq (.draw [⟨some 153, .mv (.t 0), none⟩,
    ⟨some 154, .mv (.t 11), none⟩,
    ⟨some 155, .mv (.t 0), none⟩,
    ⟨some 156, .mv (.t 1), none⟩,
    ⟨some 157, .mv (.t 0), none⟩,
    ⟨some 158, .mv (.t 1), none⟩,
    ⟨some 159, .iad 1 false (.t 157) (.t 158), none⟩,
    ⟨some 160, .load 1 false (.t 159), none⟩,
    ⟨some 161, .mv (.t 0), none⟩,
    ⟨some 162, .mv (.t 11), none⟩,
    ⟨some 163, .iad 1 false (.t 161) (.t 162), none⟩,
    ⟨some 164, .load 1 false (.t 163), none⟩,
    ⟨some 165, .iad 1 false (.t 153) (.t 154), none⟩,
    ⟨none, .store 1 (.t 165) (.t 160), none⟩,
    ⟨some 166, .iad 1 false (.t 155) (.t 156), none⟩,
    ⟨none, .store 1 (.t 166) (.t 164), none⟩])
  (.seq (.ops [⟨some 167, .mv (.t 11), none⟩,
    ⟨some 8, .mv (.t 167), none⟩,
    ⟨some 9, .mv (.c (.bool false)), none⟩])
  (.ret))))))))))))
theorem k_slices_partitionOrdered_int : FnIs AP n_slices_partitionOrdered_int c_slices_partitionOrdered_int 168 (rsT [8, 9]) := fnIs_of (fn := Go.Proofs.Try.f56) Go.Proofs.Try.func56 (by kernel_rfl) (by kernel_rfl) (by kernel_rfl) (by kernel_rfl) (by kernel_rfl)
theorem a_slices_partitionOrdered_int {x0 x1 x2 x3 : V} {H : List Entry} {K : KV} (h : Wf H → awp AP H.length c_slices_partitionOrdered_int (finW H.length (rsT [8, 9]) K) ([x0, x1, x2, x3] ++ List.replicate 164 undefV) H) : BCall AP n_slices_partitionOrdered_int [x0, x1, x2, x3] H K := k_slices_partitionOrdered_int.call (by kernel_rfl) h
/-- math/bits.Len32: 19 slots -/
def c_math_bits_Len32 : AC := .seq (.ops [⟨some 2, .mv (.c (.int .i64 0)), none⟩])
  (.seq (.seq (.ops [⟨some 3, .mv (.t 0), none⟩,
    ⟨some 4, .bin .geq (.t 3) (.c (.int .u32 65536)), none⟩])
  (.cond (.t 4) (.seq (.ops [⟨some 5, .mv (.t 0), none⟩,
    ⟨some 6, .bin .shr (.t 5) (.c (.int .u64 16)), none⟩,
    ⟨some 0, .mv (.t 6), none⟩])
  (.ops [⟨some 2, .mv (.c (.int .i64 16)), none⟩])) (.skip)))
  (.seq (.seq (.ops [⟨some 7, .mv (.t 0), none⟩,
    ⟨some 8, .bin .geq (.t 7) (.c (.int .u32 256)), none⟩])
  (.cond (.t 8) (.seq (.ops [⟨some 9, .mv (.t 0), none⟩,
    ⟨some 10, .bin .shr (.t 9) (.c (.int .u64 8)), none⟩,
    ⟨some 0, .mv (.t 10), none⟩])
  (.ops [⟨some 11, .mv (.t 2), none⟩,
    ⟨some 12, .bin .add (.t 11) (.c (.int .i64 8)), none⟩,
    ⟨some 2, .mv (.t 12), none⟩])) (.skip)))
  (.seq (.ops [⟨some 13, .mv (.t 2), none⟩,
    ⟨some 14, .mv (.t 0), none⟩,
    ⟨some 15, .cvi .u8 (.t 14), none⟩,
    ⟨some 16, .ixs (.c (.str [0, 1, 2, 2, 3, 3, 3, 3, 4, 4, 4, 4, 4, 4, 4, 4, 5, 5, 5, 5, 5, 5, 5, 5, 5, 5, 5, 5, 5, 5, 5, 5, 6, 6, 6, 6, 6, 6, 6, 6, 6, 6, 6, 6, 6, 6, 6, 6, 6, 6, 6, 6, 6, 6, 6, 6, 6, 6, 6, 6, 6, 6, 6, 6, 7, 7, 7, 7, 7, 7, 7, 7, 7, 7, 7, 7, 7, 7, 7, 7, 7, 7, 7, 7, 7, 7, 7, 7, 7, 7, 7, 7, 7, 7, 7, 7, 7, 7, 7, 7, 7, 7, 7, 7, 7, 7, 7, 7, 7, 7, 7, 7, 7, 7, 7, 7, 7, 7, 7, 7, 7, 7, 7, 7, 7, 7, 7, 7, 8, 8, 8, 8, 8, 8, 8, 8, 8, 8, 8, 8, 8, 8, 8, 8, 8, 8, 8, 8, 8, 8, 8, 8, 8, 8, 8, 8, 8, 8, 8, 8, 8, 8, 8, 8, 8, 8, 8, 8, 8, 8, 8, 8, 8, 8, 8, 8, 8, 8, 8, 8, 8, 8, 8, 8, 8, 8, 8, 8, 8, 8, 8, 8, 8, 8, 8, 8, 8, 8, 8, 8, 8, 8, 8, 8, 8, 8, 8, 8, 8, 8, 8, 8, 8, 8, 8, 8, 8, 8, 8, 8, 8, 8, 8, 8, 8, 8, 8, 8, 8, 8, 8, 8, 8, 8, 8, 8, 8, 8, 8, 8, 8, 8, 8, 8, 8, 8, 8, 8, 8, 8, 8, 8, 8, 8, 8, 8])) (.t 15), none⟩,
    ⟨some 17, .cvi .i64 (.t 16), none⟩,
    ⟨some 18, .bin .add (.t 13) (.t 17), none⟩,
    ⟨some 2, .mv (.t 18), none⟩])
  (.ret))))
theorem k_math_bits_Len32 : FnIs AP n_math_bits_Len32 c_math_bits_Len32 19 (rsT [2]) := fnIs_of (fn := Go.Proofs.Try.f57) Go.Proofs.Try.func57 (by kernel_rfl) (by kernel_rfl) (by kernel_rfl) (by kernel_rfl) (by kernel_rfl)
theorem a_math_bits_Len32 {x0 : V} {H : List Entry} {K : KV} (h : Wf H → awp AP H.length c_math_bits_Len32 (finW H.length (rsT [2]) K) ([x0] ++ List.replicate 18 undefV) H) : BCall AP n_math_bits_Len32 [x0] H K := k_math_bits_Len32.call (by kernel_rfl) h
/-- math/bits.Len64: 25 slots -/
def c_math_bits_Len64 : AC := .seq (.ops [⟨some 2, .mv (.c (.int .i64 0)), none⟩])
  (.seq (.seq (.ops [⟨some 3, .mv (.t 0), none⟩,
    ⟨some 4, .bin .geq (.t 3) (.c (.int .u64 4294967296)), none⟩])
  (.cond (.t 4) (.seq (.ops [⟨some 5, .mv (.t 0), none⟩,
    ⟨some 6, .bin .shr (.t 5) (.c (.int .u64 32)), none⟩,
    ⟨some 0, .mv (.t 6), none⟩])
  (.ops [⟨some 2, .mv (.c (.int .i64 32)), none⟩])) (.skip)))
  (.seq (.seq (.ops [⟨some 7, .mv (.t 0), none⟩,
    ⟨some 8, .bin .geq (.t 7) (.c (.int .u64 65536)), none⟩])
  (.cond (.t 8) (.seq (.ops [⟨some 9, .mv (.t 0), none⟩,
    ⟨some 10, .bin .shr (.t 9) (.c (.int .u64 16)), none⟩,
    ⟨some 0, .mv (.t 10), none⟩])
  (.ops [⟨some 11, .mv (.t 2), none⟩,
    ⟨some 12, .bin .add (.t 11) (.c (.int .i64 16)), none⟩,
    ⟨some 2, .mv (.t 12), none⟩])) (.skip)))
  (.seq (.seq (.ops [⟨some 13, .mv (.t 0), none⟩,
    ⟨some 14, .bin .geq (.t 13) (.c (.int .u64 256)), none⟩])
  (.cond (.t 14) (.seq (.ops [⟨some 15, .mv (.t 0), none⟩,
    ⟨some 16, .bin .shr (.t 15) (.c (.int .u64 8)), none⟩,
    ⟨some 0, .mv (.t 16), none⟩])
  (.ops [⟨some 17, .mv (.t 2), none⟩,
    ⟨some 18, .bin .add (.t 17) (.c (.int .i64 8)), none⟩,
    ⟨some 2, .mv (.t 18), none⟩])) (.skip)))
  (.seq (.ops [⟨some 19, .mv (.t 2), none⟩,
    ⟨some 20, .mv (.t 0), none⟩,
    ⟨some 21, .cvi .u8 (.t 20), none⟩,
    ⟨some 22, .ixs (.c (.str [0, 1, 2, 2, 3, 3, 3, 3, 4, 4, 4, 4, 4, 4, 4, 4, 5, 5, 5, 5, 5, 5, 5, 5, 5, 5, 5, 5, 5, 5, 5, 5, 6, 6, 6, 6, 6, 6, 6, 6, 6, 6, 6, 6, 6, 6, 6, 6, 6, 6, 6, 6, 6, 6, 6, 6, 6, 6, 6, 6, 6, 6, 6, 6, 7, 7, 7, 7, 7, 7, 7, 7, 7, 7, 7, 7, 7, 7, 7, 7, 7, 7, 7, 7, 7, 7, 7, 7, 7, 7, 7, 7, 7, 7, 7, 7, 7, 7, 7, 7, 7, 7, 7, 7, 7, 7, 7, 7, 7, 7, 7, 7, 7, 7, 7, 7, 7, 7, 7, 7, 7, 7, 7, 7, 7, 7, 7, 7, 8, 8, 8, 8, 8, 8, 8, 8, 8, 8, 8, 8, 8, 8, 8, 8, 8, 8, 8, 8, 8, 8, 8, 8, 8, 8, 8, 8, 8, 8, 8, 8, 8, 8, 8, 8, 8, 8, 8, 8, 8, 8, 8, 8, 8, 8, 8, 8, 8, 8, 8, 8, 8, 8, 8, 8, 8, 8, 8, 8, 8, 8, 8, 8, 8, 8, 8, 8, 8, 8, 8, 8, 8, 8, 8, 8, 8, 8, 8, 8, 8, 8, 8, 8, 8, 8, 8, 8, 8, 8, 8, 8, 8, 8, 8, 8, 8, 8, 8, 8, 8, 8, 8, 8, 8, 8, 8, 8, 8, 8, 8, 8, 8, 8, 8, 8, 8, 8, 8, 8, 8, 8, 8, 8, 8, 8, 8, 8])) (.t 21), none⟩,
    ⟨some 23, .cvi .i64 (.t 22), none⟩,
    ⟨some 24, .bin .add (.t 19) (.t 23), none⟩,
    ⟨some 2, .mv (.t 24), none⟩])
  (.ret)))))
theorem k_math_bits_Len64 : FnIs AP n_math_bits_Len64 c_math_bits_Len64 25 (rsT [2]) := fnIs_of (fn := Go.Proofs.Try.f58) Go.Proofs.Try.func58 (by kernel_rfl) (by kernel_rfl) (by kernel_rfl) (by kernel_rfl) (by kernel_rfl)
theorem a_math_bits_Len64 {x0 : V} {H : List Entry} {K : KV} (h : Wf H → awp AP H.length c_math_bits_Len64 (finW H.length (rsT [2]) K) ([x0] ++ List.replicate 24 undefV) H) : BCall AP n_math_bits_Len64 [x0] H K := k_math_bits_Len64.call (by kernel_rfl) h
/-- slices.siftDownOrdered[int]: 76 slots -/
def c_slices_siftDownOrdered_int : AC := .seq (.ops [⟨some 10, .mv (.t 1), none⟩,
    ⟨some 8, .mv (.t 10), none⟩])
  (.block 0 (.loop (.block 1 (.seq (.ops [⟨some 11, .mv (.t 8), none⟩,
    ⟨some 12, .bin .mul (.c (.int .i64 2)) (.t 11), none⟩,
    ⟨some 13, .bin .add (.t 12) (.c (.int .i64 1)), none⟩,
    ⟨some 9, .mv (.t 13), none⟩])
  (.seq (.seq (.ops [⟨some 14, .mv (.t 9), none⟩,
    ⟨some 15, .mv (.t 2), none⟩,
    ⟨some 16, .bin .geq (.t 14) (.t 15), none⟩])
  (.cond (.t 16) (.exit 0) (.skip)))
  (.seq (.seq (.draw [⟨some 17, .mv (.t 9), none⟩,
    ⟨some 18, .bin .add (.t 17) (.c (.int .i64 1)), none⟩,
    ⟨some 19, .mv (.t 2), none⟩,
    ⟨some 20, .bin .lss (.t 18) (.t 19), none⟩,
    ⟨some 21, .mv (.t 20), none⟩,
    ⟨some 22, .mv (.t 0), some (21, true)⟩,
    ⟨some 23, .mv (.t 3), some (21, true)⟩,
    ⟨some 24, .mv (.t 9), some (21, true)⟩,
    ⟨some 25, .bin .add (.t 23) (.t 24), some (21, true)⟩,
    ⟨some 26, .iad 1 false (.t 22) (.t 25), some (21, true)⟩,
    ⟨some 27, .load 1 false (.t 26), some (21, true)⟩,
    ⟨some 28, .mv (.t 0), some (21, true)⟩,
    ⟨some 29, .mv (.t 3), some (21, true)⟩,
    ⟨some 30, .mv (.t 9), some (21, true)⟩,
    ⟨some 31, .bin .add (.t 29) (.t 30), some (21, true)⟩,
    ⟨some 32, .bin .add (.t 31) (.c (.int .i64 1)), some (21, true)⟩,
    ⟨some 33, .iad 1 false (.t 28) (.t 32), some (21, true)⟩,
    ⟨some 34, .load 1 false (.t 33), some (21, true)⟩,
    ⟨some 35, .dcall (.c (.fn n_cmp_Less_int [] [])) [(.t 27), (.t 34)], some (21, true)⟩,
    ⟨some 36, .pick (.t 21) (.t 35) (.c (.bool false)), none⟩])
  (.cond (.t 36) (.ops [⟨some 37, .mv (.t 9), none⟩,
    ⟨some 38, .bin .add (.t 37) (.c (.int .i64 1)), none⟩,
    ⟨some 9, .mv (.t 38), none⟩]) (.skip)))
  (.seq (.seq (.draw [⟨some 39, .mv (.t 0), none⟩,
    ⟨some 40, .mv (.t 3), none⟩,
    ⟨some 41, .mv (.t 8), none⟩,
    ⟨some 42, .bin .add (.t 40) (.t 41), none⟩,
    ⟨some 43, .iad 1 false (.t 39) (.t 42), none⟩,
    ⟨some 44, .load 1 false (.t 43), none⟩,
    ⟨some 45, .mv (.t 0), none⟩,
    ⟨some 46, .mv (.t 3), none⟩,
    ⟨some 47, .mv (.t 9), none⟩,
    ⟨some 48, .bin .add (.t 46) (.t 47), none⟩,
    ⟨some 49, .iad 1 false (.t 45) (.t 48), none⟩,
    ⟨some 50, .load 1 false (.t 49), none⟩,
    ⟨some 51, .dcall (.c (.fn n_cmp_Less_int [] [])) [(.t 44), (.t 50)], none⟩,
    ⟨some 52, .un .not (.t 51), none⟩])
  (.cond (.t 52) (.ret) (.skip)))
  (.seq (.draw [⟨some 53, .mv (.t 0), none⟩,
    ⟨some 54, .mv (.t 3), none⟩,
    ⟨some 55, .mv (.t 8), none⟩,
    ⟨some 56, .bin .add (.t 54) (.t 55), none⟩,
    ⟨some 57, .mv (.t 0), none⟩,
    ⟨some 58, .mv (.t 3), none⟩,
    ⟨some 59, .mv (.t 9), none⟩,
    ⟨some 60, .bin .add (.t 58) (.t 59), none⟩,
    ⟨some 61, .mv (.t 0), none⟩,
    ⟨some 62, .mv (.t 3), none⟩,
    ⟨some 63, .mv (.t 9), none⟩,
    ⟨some 64, .bin .add (.t 62) (.t 63), none⟩,
    ⟨some 65, .iad 1 false (.t 61) (.t 64), none⟩,
    ⟨some 66, .load 1 false (.t 65), none⟩,
    ⟨some 67, .mv (.t 0), none⟩,
    ⟨some 68, .mv (.t 3), none⟩,
    ⟨some 69, .mv (.t 8), none⟩,
    ⟨some 70, .bin .add (.t 68) (.t 69), none⟩,
    ⟨some 71, .iad 1 false (.t 67) (.t 70), none⟩,
    ⟨some 72, .load 1 false (.t 71), none⟩,
    ⟨some 73, .iad 1 false (.t 53) (.t 56), none⟩,
    ⟨none, .store 1 (.t 73) (.t 66), none⟩,
    ⟨some 74, .iad 1 false (.t 57) (.t 60), none⟩,
    ⟨none, .store 1 (.t 74) (.t 72), none⟩])
  (.ops [⟨some 75, .mv (.t 9), none⟩,
    ⟨some 8, .mv (.t 75), none⟩])))))))))
theorem k_slices_siftDownOrdered_int : FnIs AP n_slices_siftDownOrdered_int c_slices_siftDownOrdered_int 76 (rsT []) := fnIs_of (fn := Go.Proofs.Try.f59) Go.Proofs.Try.func59 (by kernel_rfl) (by kernel_rfl) (by kernel_rfl) (by kernel_rfl) (by kernel_rfl)
theorem a_slices_siftDownOrdered_int {x0 x1 x2 x3 : V} {H : List Entry} {K : KV} (h : Wf H → awp AP H.length c_slices_siftDownOrdered_int (finW H.length (rsT []) K) ([x0, x1, x2, x3] ++ List.replicate 72 undefV) H) : BCall AP n_slices_siftDownOrdered_int [x0, x1, x2, x3] H K := k_slices_siftDownOrdered_int.call (by kernel_rfl) h
/-- slices.nextPowerOfTwo: 7 slots -/
def c_slices_nextPowerOfTwo : AC := .seq (.ops [⟨some 2, .mv (.c (.int .u64 0)), none⟩])
  (.seq (.ops [⟨some 3, .mv (.t 0), none⟩,
    ⟨some 4, .cvi .u64 (.t 3), none⟩,
    ⟨some 5, .call (.c (.fn n_math_bits_Len [] [])) [(.t 4)], none⟩,
    ⟨some 6, .bin .shl (.c (.int .u64 1)) (.t 5), none⟩,
    ⟨some 2, .mv (.t 6), none⟩])
  (.ret))
theorem k_slices_nextPowerOfTwo : FnIs AP n_slices_nextPowerOfTwo c_slices_nextPowerOfTwo 7 (rsT [2]) := fnIs_of (fn := Go.Proofs.Try.f60) Go.Proofs.Try.func60 (by kernel_rfl) (by kernel_rfl) (by kernel_rfl) (by kernel_rfl) (by kernel_rfl)
theorem a_slices_nextPowerOfTwo {x0 : V} {H : List Entry} {K : KV} (h : Wf H → awp AP H.length c_slices_nextPowerOfTwo (finW H.length (rsT [2]) K) ([x0] ++ List.replicate 6 undefV) H) : BCall AP n_slices_nextPowerOfTwo [x0] H K := k_slices_nextPowerOfTwo.call (by kernel_rfl) h
/-- (*slices.xorshift).Next: 33 slots -/
def c_slices_xorshift_Next : AC := .seq (.ops [⟨some 2, .mv (.c (.int .u64 0)), none⟩])
  (.seq (.draw [⟨some 3, .mv (.t 0), none⟩,
    ⟨some 4, .nck (.t 3), none⟩,
    ⟨some 5, .load 1 false (.t 4), none⟩,
    ⟨some 6, .mv (.t 0), none⟩,
    ⟨some 7, .nck (.t 6), none⟩,
    ⟨some 8, .load 1 false (.t 7), none⟩,
    ⟨some 9, .bin .shl (.t 8) (.c (.int .u64 13)), none⟩,
    ⟨some 10, .bin .xor (.t 5) (.t 9), none⟩,
    ⟨some 11, .nck (.t 3), none⟩,
    ⟨none, .store 1 (.t 11) (.t 10), none⟩])
  (.seq (.draw [⟨some 12, .mv (.t 0), none⟩,
    ⟨some 13, .nck (.t 12), none⟩,
    ⟨some 14, .load 1 false (.t 13), none⟩,
    ⟨some 15, .mv (.t 0), none⟩,
    ⟨some 16, .nck (.t 15), none⟩,
    ⟨some 17, .load 1 false (.t 16), none⟩,
    ⟨some 18, .bin .shr (.t 17) (.c (.int .u64 7)), none⟩,
    ⟨some 19, .bin .xor (.t 14) (.t 18), none⟩,
    ⟨some 20, .nck (.t 12), none⟩,
    ⟨none, .store 1 (.t 20) (.t 19), none⟩])
  (.seq (.draw [⟨some 21, .mv (.t 0), none⟩,
    ⟨some 22, .nck (.t 21), none⟩,
    ⟨some 23, .load 1 false (.t 22), none⟩,
    ⟨some 24, .mv (.t 0), none⟩,
    ⟨some 25, .nck (.t 24), none⟩,
    ⟨some 26, .load 1 false (.t 25), none⟩,
    ⟨some 27, .bin .shl (.t 26) (.c (.int .u64 17)), none⟩,
    ⟨some 28, .bin .xor (.t 23) (.t 27), none⟩,
    ⟨some 29, .nck (.t 21), none⟩,
    ⟨none, .store 1 (.t 29) (.t 28), none⟩])
  (.seq (.ops [⟨some 30, .mv (.t 0), none⟩,
    ⟨some 31, .nck (.t 30), none⟩,
    ⟨some 32, .load 1 false (.t 31), none⟩,
    ⟨some 2, .mv (.t 32), none⟩])
  (.ret)))))
theorem k_slices_xorshift_Next : FnIs AP n_slices_xorshift_Next c_slices_xorshift_Next 33 (rsT [2]) := fnIs_of (fn := Go.Proofs.Try.f61) Go.Proofs.Try.func61 (by kernel_rfl) (by kernel_rfl) (by kernel_rfl) (by kernel_rfl) (by kernel_rfl)
theorem a_slices_xorshift_Next {x0 : V} {H : List Entry} {K : KV} (h : Wf H → awp AP H.length c_slices_xorshift_Next (finW H.length (rsT [2]) K) ([x0] ++ List.replicate 32 undefV) H) : BCall AP n_slices_xorshift_Next [x0] H K := k_slices_xorshift_Next.call (by kernel_rfl) h
/-- slices.medianAdjacentOrdered[int]: 15 slots -/
def c_slices_medianAdjacentOrdered_int : AC := .seq (.ops [⟨some 6, .mv (.c (.int .i64 0)), none⟩])
  (.seq (.ops [⟨some 7, .mv (.t 0), none⟩,
    ⟨some 8, .mv (.t 1), none⟩,
    ⟨some 9, .bin .sub (.t 8) (.c (.int .i64 1)), none⟩,
    ⟨some 10, .mv (.t 1), none⟩,
    ⟨some 11, .mv (.t 1), none⟩,
    ⟨some 12, .bin .add (.t 11) (.c (.int .i64 1)), none⟩,
    ⟨some 13, .mv (.t 2), none⟩,
    ⟨some 14, .call (.c (.fn n_slices_medianOrdered_int [] [])) [(.t 7), (.t 9), (.t 10), (.t 12), (.t 13)], none⟩,
    ⟨some 6, .mv (.t 14), none⟩])
  (.ret))
theorem k_slices_medianAdjacentOrdered_int : FnIs AP n_slices_medianAdjacentOrdered_int c_slices_medianAdjacentOrdered_int 15 (rsT [6]) := fnIs_of (fn := Go.Proofs.Try.f62) Go.Proofs.Try.func62 (by kernel_rfl) (by kernel_rfl) (by kernel_rfl) (by kernel_rfl) (by kernel_rfl)
theorem a_slices_medianAdjacentOrdered_int {x0 x1 x2 : V} {H : List Entry} {K : KV} (h : Wf H → awp AP H.length c_slices_medianAdjacentOrdered_int (finW H.length (rsT [6]) K) ([x0, x1, x2] ++ List.replicate 12 undefV) H) : BCall AP n_slices_medianAdjacentOrdered_int [x0, x1, x2] H K := k_slices_medianAdjacentOrdered_int.call (by kernel_rfl) h
/-- slices.medianOrdered[int]: 36 slots -/
def c_slices_medianOrdered_int : AC := .seq (.ops [⟨some 10, .mv (.c (.int .i64 0)), none⟩])
  (.seq (.ops [⟨some 12, .mv (.t 0), none⟩,
    ⟨some 13, .mv (.t 1), none⟩,
    ⟨some 14, .mv (.t 2), none⟩,
    ⟨some 15, .mv (.t 4), none⟩,
    ⟨some 16, .call (.c (.fn n_slices_order2Ordered_int [] [])) [(.t 12), (.t 13), (.t 14), (.t 15)], none⟩,
    ⟨some 11, .mv (.t 16), none⟩,
    ⟨some 17, .ext (.t 11) 0, none⟩,
    ⟨some 18, .ext (.t 11) 1, none⟩,
    ⟨some 1, .mv (.t 17), none⟩,
    ⟨some 2, .mv (.t 18), none⟩])
  (.seq (.ops [⟨some 20, .mv (.t 0), none⟩,
    ⟨some 21, .mv (.t 2), none⟩,
    ⟨some 22, .mv (.t 3), none⟩,
    ⟨some 23, .mv (.t 4), none⟩,
    ⟨some 24, .call (.c (.fn n_slices_order2Ordered_int [] [])) [(.t 20), (.t 21), (.t 22), (.t 23)], none⟩,
    ⟨some 19, .mv (.t 24), none⟩,
    ⟨some 25, .ext (.t 19) 0, none⟩,
    ⟨some 26, .ext (.t 19) 1, none⟩,
    ⟨some 2, .mv (.t 25), none⟩,
    ⟨some 3, .mv (.t 26), none⟩])
  (.seq (.ops [⟨some 28, .mv (.t 0), none⟩,
    ⟨some 29, .mv (.t 1), none⟩,
    ⟨some 30, .mv (.t 2), none⟩,
    ⟨some 31, .mv (.t 4), none⟩,
    ⟨some 32, .call (.c (.fn n_slices_order2Ordered_int [] [])) [(.t 28), (.t 29), (.t 30), (.t 31)], none⟩,
    ⟨some 27, .mv (.t 32), none⟩,
    ⟨some 33, .ext (.t 27) 0, none⟩,
    ⟨some 34, .ext (.t 27) 1, none⟩,
    ⟨some 1, .mv (.t 33), none⟩,
    ⟨some 2, .mv (.t 34), none⟩])
  (.seq (.ops [⟨some 35, .mv (.t 2), none⟩,
    ⟨some 10, .mv (.t 35), none⟩])
  (.ret)))))
theorem k_slices_medianOrdered_int : FnIs AP n_slices_medianOrdered_int c_slices_medianOrdered_int 36 (rsT [10]) := fnIs_of (fn := Go.Proofs.Try.f63) Go.Proofs.Try.func63 (by kernel_rfl) (by kernel_rfl) (by kernel_rfl) (by kernel_rfl) (by kernel_rfl)
theorem a_slices_medianOrdered_int {x0 x1 x2 x3 x4 : V} {H : List Entry} {K : KV} (h : Wf H → awp AP H.length c_slices_medianOrdered_int (finW H.length (rsT [10]) K) ([x0, x1, x2, x3, x4] ++ List.replicate 31 undefV) H) : BCall AP n_slices_medianOrdered_int [x0, x1, x2, x3, x4] H K := k_slices_medianOrdered_int.call (by kernel_rfl) h
/-- cmp.isNaN[int]: 6 slots -/
def c_cmp_isNaN_int : AC := .seq (.ops [⟨some 2, .mv (.c (.bool false)), none⟩])
  (.seq (.ops [⟨some 3, .mv (.t 0), none⟩,
    ⟨some 4, .mv (.t 0), none⟩,
    ⟨some 5, .bin .neq (.t 3) (.t 4), none⟩,
    ⟨some 2, .mv (.t 5), none⟩])
  (.ret))
theorem k_cmp_isNaN_int : FnIs AP n_cmp_isNaN_int c_cmp_isNaN_int 6 (rsT [2]) := fnIs_of (fn := Go.Proofs.Try.f64) Go.Proofs.Try.func64 (by kernel_rfl) (by kernel_rfl) (by kernel_rfl) (by kernel_rfl) (by kernel_rfl)
theorem a_cmp_isNaN_int {x0 : V} {H : List Entry} {K : KV} (h : Wf H → awp AP H.length c_cmp_isNaN_int (finW H.length (rsT [2]) K) ([x0] ++ List.replicate 5 undefV) H) : BCall AP n_cmp_isNaN_int [x0] H K := k_cmp_isNaN_int.call (by kernel_rfl) h
/-- slices.order2Ordered[int]: 28 slots -/
def c_slices_order2Ordered_int : AC := .seq (.ops [⟨some 8, .mv (.c (.int .i64 0)), none⟩,
    ⟨some 9, .mv (.c (.int .i64 0)), none⟩])
  (.seq (.seq (.draw [⟨some 10, .mv (.t 0), none⟩,
    ⟨some 11, .mv (.t 2), none⟩,
    ⟨some 12, .iad 1 false (.t 10) (.t 11), none⟩,
    ⟨some 13, .load 1 false (.t 12), none⟩,
    ⟨some 14, .mv (.t 0), none⟩,
    ⟨some 15, .mv (.t 1), none⟩,
    ⟨some 16, .iad 1 false (.t 14) (.t 15), none⟩,
    ⟨some 17, .load 1 false (.t 16), none⟩,
    ⟨some 18, .dcall (.c (.fn n_cmp_Less_int [] [])) [(.t 13), (.t 17)], none⟩])
  (.cond (.t 18) (.seq (.ops [⟨some 19, .mv (.t 3), none⟩,
    ⟨some 20, .nck (.t 19), none⟩,
    ⟨some 21, .load 1 false (.t 20), none⟩,
    ⟨some 22, .bin .add (.t 21) (.c (.int .i64 1)), none⟩,
    ⟨some 23, .nck (.t 19), none⟩,
    ⟨none, .store 1 (.t 23) (.t 22), none⟩])
  (.seq (.ops [⟨some 24, .mv (.t 2), none⟩,
    ⟨some 25, .mv (.t 1), none⟩,
    ⟨some 8, .mv (.t 24), none⟩,
    ⟨some 9, .mv (.t 25), none⟩])
  (.ret))) (.skip)))
  (.seq (.ops [⟨some 26, .mv (.t 1), none⟩,
    ⟨some 27, .mv (.t 2), none⟩,
    ⟨some 8, .mv (.t 26), none⟩,
    ⟨some 9, .mv (.t 27), none⟩])
  (.ret)))
theorem k_slices_order2Ordered_int : FnIs AP n_slices_order2Ordered_int c_slices_order2Ordered_int 28 (rsT [8, 9]) := fnIs_of (fn := Go.Proofs.Try.f65) Go.Proofs.Try.func65 (by kernel_rfl) (by kernel_rfl) (by kernel_rfl) (by kernel_rfl) (by kernel_rfl)
theorem a_slices_order2Ordered_int {x0 x1 x2 x3 : V} {H : List Entry} {K : KV} (h : Wf H → awp AP H.length c_slices_order2Ordered_int (finW H.length (rsT [8, 9]) K) ([x0, x1, x2, x3] ++ List.replicate 24 undefV) H) : BCall AP n_slices_order2Ordered_int [x0, x1, x2, x3] H K := k_slices_order2Ordered_int.call (by kernel_rfl) h
def tab : List (FuncId × Fn) := [(n_trystlaw09_JoinFeeds, ⟨c_trystlaw09_JoinFeeds, 83, (rsT [6])⟩), (n_trystlaw09_JoinExpires, ⟨c_trystlaw09_JoinExpires, 87, (rsT [6])⟩), (n_trystlaw09_JoinWaits, ⟨c_trystlaw09_JoinWaits, 112, (rsT [6])⟩), (n_trystlaw09_JoinLate, ⟨c_trystlaw09_JoinLate, 87, (rsT [6])⟩), (n_trystlaw09_JoinAll, ⟨c_trystlaw09_JoinAll, 117, (rsT [6])⟩), (n_trystlaw09_JoinBound, ⟨c_trystlaw09_JoinBound, 88, (rsT [4])⟩), (n_trystlaw09_JoinAny, ⟨c_trystlaw09_JoinAny, 81, (rsT [4])⟩), (n_trystlaw09_Kind, ⟨c_trystlaw09_Kind, 12, [.cell 2 4 true]⟩), (n_trystlaw09_Few, ⟨c_trystlaw09_Few, 11, (rsT [2])⟩), (n_join_Feed, ⟨c_join_Feed, 69, (rsT [6, 7, 8, 9])⟩), (n_trystref09_Feed, ⟨c_trystref09_Feed, 128, (rsT [6, 7, 8, 9])⟩), (n_trystref09_Same, ⟨c_trystref09_Same, 26, (rsT [4])⟩), (n_join_May, ⟨c_join_May, 25, (rsT [2])⟩), (n_trystref09_May, ⟨c_trystref09_May, 45, (rsT [2])⟩), (n_join_Check, ⟨c_join_Check, 14, (rsT [4])⟩), (n_trystref09_Check, ⟨c_trystref09_Check, 97, (rsT [4])⟩), (n_trystlaw09_awake, ⟨c_trystlaw09_awake, 91, (rsT [0])⟩), (n_join_Expire, ⟨c_join_Expire, 35, (rsT [6, 7, 8])⟩), (n_trystref09_Expire, ⟨c_trystref09_Expire, 43, (rsT [6, 7])⟩), (n_join_mayKept, ⟨c_join_mayKept, 20, (rsT [4])⟩), (n_join_isLate, ⟨c_join_isLate, 19, (rsT [4])⟩), (n_join_hasId, ⟨c_join_hasId, 8, (rsT [4])⟩), (n_join_meeting, ⟨c_join_meeting, 16, (rsT [4])⟩), (n_join_taken, ⟨c_join_taken, 38, (rsT [4, 5])⟩), (n_trystref09_Firing, ⟨c_trystref09_Firing, 89, (rsT [4, 5])⟩), (n_join_mayNeed, ⟨c_join_mayNeed, 21, (rsT [2])⟩), (n_join_mayWait, ⟨c_join_mayWait, 49, (rsT [4])⟩), (n_join_isTime, ⟨c_join_isTime, 9, (rsT [2])⟩), (n_list_Place_api_Kept, ⟨c_list_Place_api_Kept, 14, (rsT [4])⟩), (n_join_Expire_1, ⟨c_join_Expire_1, 12, (rsT [4])⟩), (n_slices_Clone_api_Kept_api_Kept, ⟨c_slices_Clone_api_Kept_api_Kept, 8, (rsT [2])⟩), (n_slices_ContainsFunc_api_Kept_api_Kept, ⟨c_slices_ContainsFunc_api_Kept_api_Kept, 9, (rsT [4])⟩), (n_join_hasId_1, ⟨c_join_hasId_1, 8, (rsT [3])⟩), (n_join_meeting_1, ⟨c_join_meeting_1, 7, (rsT [2])⟩), (n_join_firstOfEach, ⟨c_join_firstOfEach, 25, (rsT [4])⟩), (n_join_meeting_2, ⟨c_join_meeting_2, 4, (rsT [1])⟩), (n_join_first, ⟨c_join_first, 21, (rsT [4])⟩), (n_join_meeting_3, ⟨c_join_meeting_3, 7, (rsT [2])⟩), (n_join_mayWait_1, ⟨c_join_mayWait_1, 8, (rsT [3])⟩), (n_slices_IndexFunc_api_Kept_api_Kept, ⟨c_slices_IndexFunc_api_Kept_api_Kept, 19, (rsT [4])⟩), (n_join_firstOfEach_1, ⟨c_join_firstOfEach_1, 8, (rsT [3])⟩), (n_slices_Sort_int_int, ⟨c_slices_Sort_int_int, 11, (rsT [])⟩), (n_slices_pdqsortOrdered_int, ⟨c_slices_pdqsortOrdered_int, 134, (rsT [])⟩), (n_math_bits_Len, ⟨c_math_bits_Len, 8, (rsT [2])⟩), (n_slices_insertionSortOrdered_int, ⟨c_slices_insertionSortOrdered_int, 49, (rsT [])⟩), (n_slices_heapSortOrdered_int, ⟨c_slices_heapSortOrdered_int, 56, (rsT [])⟩), (n_slices_breakPatternsOrdered_int, ⟨c_slices_breakPatternsOrdered_int, 65, (rsT [])⟩), (n_slices_choosePivotOrdered_int, ⟨c_slices_choosePivotOrdered_int, 57, (rsT [6, 7])⟩), (n_slices_reverseRangeOrdered_int, ⟨c_slices_reverseRangeOrdered_int, 32, (rsT [])⟩), (n_slices_partialInsertionSortOrdered_int, ⟨c_slices_partialInsertionSortOrdered_int, 133, (rsT [6])⟩), (n_cmp_Less_int, ⟨c_cmp_Less_int, 17, (rsT [4])⟩), (n_slices_partitionEqualOrdered_int, ⟨c_slices_partitionEqualOrdered_int, 84, (rsT [8])⟩), (n_slices_partitionOrdered_int, ⟨c_slices_partitionOrdered_int, 168, (rsT [8, 9])⟩), (n_math_bits_Len32, ⟨c_math_bits_Len32, 19, (rsT [2])⟩), (n_math_bits_Len64, ⟨c_math_bits_Len64, 25, (rsT [2])⟩), (n_slices_siftDownOrdered_int, ⟨c_slices_siftDownOrdered_int, 76, (rsT [])⟩), (n_slices_nextPowerOfTwo, ⟨c_slices_nextPowerOfTwo, 7, (rsT [2])⟩), (n_slices_xorshift_Next, ⟨c_slices_xorshift_Next, 33, (rsT [2])⟩), (n_slices_medianAdjacentOrdered_int, ⟨c_slices_medianAdjacentOrdered_int, 15, (rsT [6])⟩), (n_slices_medianOrdered_int, ⟨c_slices_medianOrdered_int, 36, (rsT [10])⟩), (n_cmp_isNaN_int, ⟨c_cmp_isNaN_int, 6, (rsT [2])⟩), (n_slices_order2Ordered_int, ⟨c_slices_order2Ordered_int, 28, (rsT [8, 9])⟩)]
theorem tabOk : TabOk AP tab := ⟨k_trystlaw09_JoinFeeds, k_trystlaw09_JoinExpires, k_trystlaw09_JoinWaits, k_trystlaw09_JoinLate, k_trystlaw09_JoinAll, k_trystlaw09_JoinBound, k_trystlaw09_JoinAny, k_trystlaw09_Kind, k_trystlaw09_Few, k_join_Feed, k_trystref09_Feed, k_trystref09_Same, k_join_May, k_trystref09_May, k_join_Check, k_trystref09_Check, k_trystlaw09_awake, k_join_Expire, k_trystref09_Expire, k_join_mayKept, k_join_isLate, k_join_hasId, k_join_meeting, k_join_taken, k_trystref09_Firing, k_join_mayNeed, k_join_mayWait, k_join_isTime, k_list_Place_api_Kept, k_join_Expire_1, k_slices_Clone_api_Kept_api_Kept, k_slices_ContainsFunc_api_Kept_api_Kept, k_join_hasId_1, k_join_meeting_1, k_join_firstOfEach, k_join_meeting_2, k_join_first, k_join_meeting_3, k_join_mayWait_1, k_slices_IndexFunc_api_Kept_api_Kept, k_join_firstOfEach_1, k_slices_Sort_int_int, k_slices_pdqsortOrdered_int, k_math_bits_Len, k_slices_insertionSortOrdered_int, k_slices_heapSortOrdered_int, k_slices_breakPatternsOrdered_int, k_slices_choosePivotOrdered_int, k_slices_reverseRangeOrdered_int, k_slices_partialInsertionSortOrdered_int, k_cmp_Less_int, k_slices_partitionEqualOrdered_int, k_slices_partitionOrdered_int, k_math_bits_Len32, k_math_bits_Len64, k_slices_siftDownOrdered_int, k_slices_nextPowerOfTwo, k_slices_xorshift_Next, k_slices_medianAdjacentOrdered_int, k_slices_medianOrdered_int, k_cmp_isNaN_int, k_slices_order2Ordered_int, trivial⟩
end
end Go.Av
