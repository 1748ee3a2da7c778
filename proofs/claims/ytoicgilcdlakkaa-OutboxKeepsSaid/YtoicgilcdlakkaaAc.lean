/- A part of a way to reckon what a Go program does without its memory (Ac). -/
import Derived.Test.YtoicgilcdlakkaaAvRun
import Derived.Test.YtoicgilcdlakkaaProg
namespace Go.Av
open Go
set_option autoImplicit false
set_option linter.all false
noncomputable section
noncomputable abbrev AP : Program := Go.Proofs.Try.prog
abbrev n_main_main : FuncId := 0
abbrev n_gosem_cut : FuncId := 1
abbrev n_gosem_cut_init : FuncId := 2
abbrev n_trystlaw15_OutboxAdds : FuncId := 3
abbrev n_trystlaw15_OutboxTakes : FuncId := 4
abbrev n_trystlaw15_OutboxKeeps : FuncId := 5
abbrev n_trystlaw15_OutboxTurns : FuncId := 6
abbrev n_trystlaw15_OutboxWaits : FuncId := 7
abbrev n_trystlaw15_OutboxBack : FuncId := 8
abbrev n_trystlaw15_Few : FuncId := 9
abbrev n_trystlaw15_One : FuncId := 10
abbrev n_outbox_Add : FuncId := 11
abbrev n_trystref15_Add : FuncId := 12
abbrev n_outbox_Again : FuncId := 13
abbrev n_trystref15_Again : FuncId := 14
abbrev n_trystref15_Same : FuncId := 15
abbrev n_outbox_Check : FuncId := 16
abbrev n_trystref15_May : FuncId := 17
abbrev n_outbox_Find : FuncId := 18
abbrev n_trystref15_Find : FuncId := 19
abbrev n_outbox_Same : FuncId := 20
abbrev n_trystlaw15_awake : FuncId := 21
abbrev n_outbox_Next : FuncId := 22
abbrev n_trystref15_Next : FuncId := 23
abbrev n_outbox_Ack : FuncId := 24
abbrev n_trystref15_Ack : FuncId := 25
abbrev n_outbox_Nack : FuncId := 26
abbrev n_trystref15_Nack : FuncId := 27
abbrev n_trystref15_SameOne : FuncId := 28
abbrev n_trystlaw02_Few : FuncId := 29
abbrev n_outbox_may : FuncId := 30
abbrev n_list_With_api_Out : FuncId := 31
abbrev n_trystref15_Own : FuncId := 32
abbrev n_trystref15_With : FuncId := 33
abbrev n_outbox_isTime : FuncId := 34
abbrev n_list_Place_api_Out : FuncId := 35
abbrev n_outbox_Again_1 : FuncId := 36
abbrev n_outbox_Check_1 : FuncId := 37
abbrev n_outbox_Check_2 : FuncId := 38
abbrev n_cmp_Compare_uint64 : FuncId := 39
abbrev n_slices_ContainsFunc_api_Out_api_Out : FuncId := 40
abbrev n_list_Rises_api_Out : FuncId := 41
abbrev n_slices_IndexFunc_api_Out_api_Out : FuncId := 42
abbrev n_outbox_Find_1 : FuncId := 43
abbrev n_slices_EqualFunc_api_Out_api_Out_api_Out_api_Out : FuncId := 44
abbrev n_outbox_sameOut : FuncId := 45
abbrev n_outbox_first : FuncId := 46
abbrev n_outbox_find : FuncId := 47
abbrev n_list_Without_api_Out : FuncId := 48
abbrev n_list_Set_api_Out : FuncId := 49
abbrev n_trystref11_Ids : FuncId := 50
abbrev n_event_Field : FuncId := 51
abbrev n_slices_Concat_api_Out_api_Out : FuncId := 52
abbrev n_trystref04_Field : FuncId := 53
abbrev n_cmp_isNaN_uint64 : FuncId := 54
abbrev n_slices_Equal_uint64_uint64 : FuncId := 55
abbrev n_wheel_Set : FuncId := 56
abbrev n_wheel_Next : FuncId := 57
abbrev n_slices_Clone_api_Out_api_Out : FuncId := 58
abbrev n_strings_Contains : FuncId := 59
abbrev n_name_Topic : FuncId := 60
abbrev n_slices_Grow_api_Out_api_Out : FuncId := 61
abbrev n_trystref02_Topic : FuncId := 62
abbrev n_wheel_Check : FuncId := 63
abbrev n_wheel_isTime : FuncId := 64
abbrev n_wheel_Stop : FuncId := 65
abbrev n_list_With_api_Timer : FuncId := 66
abbrev n_wheel_place : FuncId := 67
abbrev n_wheel_timer_order : FuncId := 68
abbrev n_strings_Index : FuncId := 69
abbrev n_name_allParts : FuncId := 70
abbrev n_name_isPart : FuncId := 71
abbrev n_trystref02_is : FuncId := 72
abbrev n_wheel_inOrder : FuncId := 73
abbrev n_wheel_find : FuncId := 74
abbrev n_slices_Clone_api_Timer_api_Timer : FuncId := 75
abbrev n_list_Without_api_Timer : FuncId := 76
abbrev n_slices_Concat_api_Timer_api_Timer : FuncId := 77
abbrev n_list_Place_api_Timer : FuncId := 78
abbrev n_wheel_place_1 : FuncId := 79
abbrev n_cmp_Or_int : FuncId := 80
abbrev n_cmp_Compare_int : FuncId := 81
abbrev n_internal_stringslite_Index : FuncId := 82
abbrev n_name_allParts_1 : FuncId := 83
abbrev n_name_allRunes : FuncId := 84
abbrev n_name_isPart_1 : FuncId := 85
abbrev n_trystref02_cut : FuncId := 86
abbrev n_trystref02_part : FuncId := 87
abbrev n_list_Rises_api_Timer : FuncId := 88
abbrev n_wheel_inOrder_1 : FuncId := 89
abbrev n_slices_IndexFunc_api_Timer_api_Timer : FuncId := 90
abbrev n_wheel_find_1 : FuncId := 91
abbrev n_slices_Grow_api_Timer_api_Timer : FuncId := 92
abbrev n_cmp_isNaN_int : FuncId := 93
abbrev n_internal_stringslite_IndexByte : FuncId := 94
abbrev n_internal_bytealg_IndexString : FuncId := 95
abbrev n_internal_bytealg_Cutover : FuncId := 96
abbrev n_internal_bytealg_IndexRabinKarp_string : FuncId := 97
abbrev n_internal_bytealg_IndexByteString : FuncId := 98
abbrev n_internal_bytealg_hashStr_string : FuncId := 99
abbrev n_runtime_boundsError_Error : FuncId := 100
abbrev n_runtime_boundsError_RuntimeError : FuncId := 101
abbrev n_runtime_errorString_Error : FuncId := 102
abbrev n_runtime_errorString_RuntimeError : FuncId := 103
abbrev n_runtime_plainError_Error : FuncId := 104
abbrev n_runtime_plainError_RuntimeError : FuncId := 105
abbrev n_runtime_errorAddressString_Error : FuncId := 106
abbrev n_runtime_errorAddressString_RuntimeError : FuncId := 107
abbrev n_runtime_TypeAssertionError_Error : FuncId := 108
abbrev n_runtime_TypeAssertionError_RuntimeError : FuncId := 109
abbrev n_runtime_PanicNilError_Error : FuncId := 110
abbrev n_runtime_PanicNilError_RuntimeError : FuncId := 111
abbrev n_internal_abi_Type_Align : FuncId := 112
abbrev n_internal_runtime_maps_unhashableTypeError_Error : FuncId := 113
abbrev n_internal_runtime_maps_unhashableTypeError_RuntimeError : FuncId := 114
abbrev n_internal_abi_Kind_String : FuncId := 115
/-- tryst/trystlaw15.OutboxAdds: 102 slots -/
def c_trystlaw15_OutboxAdds : AC := .seq (.ops [⟨some 4, .box (.t 1), none⟩,
    ⟨some 6, .mv (.c (.bool false)), none⟩])
  (.seq (.draw [⟨some 16, .mv (.t 0), none⟩,
    ⟨some 17, .dcall (.c (.fn n_trystlaw15_Few [] [])) [(.t 16)], none⟩,
    ⟨some 18, .load 5 true (.t 4), none⟩,
    ⟨some 19, .dcall (.c (.fn n_trystlaw15_One [] [])) [(.t 18)], none⟩,
    ⟨some 0, .mv (.t 17), none⟩,
    ⟨none, .store 5 (.t 4) (.t 19), none⟩])
  (.seq (.ops [⟨some 20, .mv (.t 0), none⟩,
    ⟨some 21, .call (.c (.fn n_trystlaw15_Few [] [])) [(.t 20)], none⟩,
    ⟨some 7, .mv (.t 21), none⟩])
  (.seq (.ops [⟨some 23, .mv (.t 0), none⟩,
    ⟨some 24, .load 5 true (.t 4), none⟩,
    ⟨some 25, .call (.c (.fn n_outbox_Add [] [])) [(.t 23), (.t 24)], none⟩,
    ⟨some 22, .mv (.t 25), none⟩,
    ⟨some 26, .ext (.t 22) 0, none⟩,
    ⟨some 27, .ext (.t 22) 1, none⟩,
    ⟨some 8, .mv (.t 26), none⟩,
    ⟨some 9, .mv (.t 27), none⟩])
  (.seq (.ops [⟨some 29, .mv (.t 0), none⟩,
    ⟨some 30, .load 5 true (.t 4), none⟩,
    ⟨some 31, .call (.c (.fn n_trystref15_Add [] [])) [(.t 29), (.t 30)], none⟩,
    ⟨some 28, .mv (.t 31), none⟩,
    ⟨some 32, .ext (.t 28) 0, none⟩,
    ⟨some 33, .ext (.t 28) 1, none⟩,
    ⟨some 10, .mv (.t 32), none⟩,
    ⟨some 11, .mv (.t 33), none⟩])
  (.seq (.ops [⟨some 35, .mv (.t 0), none⟩,
    ⟨some 36, .load 5 true (.t 4), none⟩,
    ⟨some 37, .mv (.t 2), none⟩,
    ⟨some 38, .call (.c (.fn n_outbox_Again [] [])) [(.t 35), (.t 36), (.t 37)], none⟩,
    ⟨some 34, .mv (.t 38), none⟩,
    ⟨some 39, .ext (.t 34) 0, none⟩,
    ⟨some 40, .ext (.t 34) 1, none⟩,
    ⟨some 12, .mv (.t 39), none⟩,
    ⟨some 13, .mv (.t 40), none⟩])
  (.seq (.ops [⟨some 42, .mv (.t 0), none⟩,
    ⟨some 43, .load 5 true (.t 4), none⟩,
    ⟨some 44, .mv (.t 2), none⟩,
    ⟨some 45, .call (.c (.fn n_trystref15_Again [] [])) [(.t 42), (.t 43), (.t 44)], none⟩,
    ⟨some 41, .mv (.t 45), none⟩,
    ⟨some 46, .ext (.t 41) 0, none⟩,
    ⟨some 47, .ext (.t 41) 1, none⟩,
    ⟨some 14, .mv (.t 46), none⟩,
    ⟨some 15, .mv (.t 47), none⟩])
  (.seq (.draw [⟨some 48, .mv (.t 8), none⟩,
    ⟨some 49, .mv (.t 10), none⟩,
    ⟨some 50, .dcall (.c (.fn n_trystref15_Same [] [])) [(.t 48), (.t 49)], none⟩,
    ⟨some 51, .mv (.t 50), none⟩,
    ⟨some 52, .mv (.t 9), some (51, true)⟩,
    ⟨some 53, .mv (.t 11), some (51, true)⟩,
    ⟨some 54, .bin .eql (.t 52) (.t 53), some (51, true)⟩,
    ⟨some 55, .pick (.t 51) (.t 54) (.c (.bool false)), none⟩,
    ⟨some 56, .mv (.t 55), none⟩,
    ⟨some 57, .mv (.t 12), some (56, true)⟩,
    ⟨some 58, .mv (.t 14), some (56, true)⟩,
    ⟨some 59, .dcall (.c (.fn n_trystref15_Same [] [])) [(.t 57), (.t 58)], some (56, true)⟩,
    ⟨some 60, .pick (.t 56) (.t 59) (.c (.bool false)), none⟩,
    ⟨some 61, .mv (.t 60), none⟩,
    ⟨some 62, .mv (.t 13), some (61, true)⟩,
    ⟨some 63, .mv (.t 15), some (61, true)⟩,
    ⟨some 64, .bin .eql (.t 62) (.t 63), some (61, true)⟩,
    ⟨some 65, .pick (.t 61) (.t 64) (.c (.bool false)), none⟩,
    ⟨some 66, .mv (.t 65), none⟩,
    ⟨some 67, .mv (.t 0), some (66, true)⟩,
    ⟨some 68, .dcall (.c (.fn n_outbox_Check [] [])) [(.t 67)], some (66, true)⟩,
    ⟨some 69, .bin .eql (.t 68) (.c (.int .i64 0)), some (66, true)⟩,
    ⟨some 70, .mv (.t 0), some (66, true)⟩,
    ⟨some 71, .dcall (.c (.fn n_trystref15_May [] [])) [(.t 70)], some (66, true)⟩,
    ⟨some 72, .binb false (.t 69) (.t 71), some (66, true)⟩,
    ⟨some 73, .pick (.t 66) (.t 72) (.c (.bool false)), none⟩,
    ⟨some 74, .mv (.t 73), none⟩,
    ⟨some 75, .mv (.t 0), some (74, true)⟩,
    ⟨some 76, .fad 0 (.t 4), some (74, true)⟩,
    ⟨some 77, .load 1 false (.t 76), some (74, true)⟩,
    ⟨some 78, .dcall (.c (.fn n_outbox_Find [] [])) [(.t 75), (.t 77)], some (74, true)⟩,
    ⟨some 79, .mv (.t 0), some (74, true)⟩,
    ⟨some 80, .fad 0 (.t 4), some (74, true)⟩,
    ⟨some 81, .load 1 false (.t 80), some (74, true)⟩,
    ⟨some 82, .dcall (.c (.fn n_trystref15_Find [] [])) [(.t 79), (.t 81)], some (74, true)⟩,
    ⟨some 83, .bin .eql (.t 78) (.t 82), some (74, true)⟩,
    ⟨some 84, .pick (.t 74) (.t 83) (.c (.bool false)), none⟩,
    ⟨some 85, .mv (.t 84), none⟩,
    ⟨some 86, .mv (.t 0), some (85, true)⟩,
    ⟨some 87, .mv (.t 8), some (85, true)⟩,
    ⟨some 88, .dcall (.c (.fn n_outbox_Same [] [])) [(.t 86), (.t 87)], some (85, true)⟩,
    ⟨some 89, .mv (.t 0), some (85, true)⟩,
    ⟨some 90, .mv (.t 8), some (85, true)⟩,
    ⟨some 91, .dcall (.c (.fn n_trystref15_Same [] [])) [(.t 89), (.t 90)], some (85, true)⟩,
    ⟨some 92, .binb false (.t 88) (.t 91), some (85, true)⟩,
    ⟨some 93, .pick (.t 85) (.t 92) (.c (.bool false)), none⟩,
    ⟨some 94, .mv (.t 93), none⟩,
    ⟨some 95, .mv (.t 0), some (94, true)⟩,
    ⟨some 96, .mv (.t 7), some (94, true)⟩,
    ⟨some 97, .dcall (.c (.fn n_trystref15_Same [] [])) [(.t 95), (.t 96)], some (94, true)⟩,
    ⟨some 98, .pick (.t 94) (.t 97) (.c (.bool false)), none⟩,
    ⟨some 99, .mv (.t 98), none⟩,
    ⟨some 100, .dcall (.c (.fn n_trystlaw15_awake [] [])) [], some (99, true)⟩,
    ⟨some 101, .pick (.t 99) (.t 100) (.c (.bool false)), none⟩,
    ⟨some 6, .mv (.t 101), none⟩])
  (.ret))))))))
theorem k_trystlaw15_OutboxAdds : FnIs AP n_trystlaw15_OutboxAdds c_trystlaw15_OutboxAdds 102 (rsT [6]) := fnIs_of (fn := Go.Proofs.Try.f3) Go.Proofs.Try.func3 (by kernel_rfl) (by kernel_rfl) (by kernel_rfl) (by kernel_rfl) (by kernel_rfl)
theorem a_trystlaw15_OutboxAdds {x0 x1 x2 : V} {H : List Entry} {K : KV} (h : Wf H → awp AP H.length c_trystlaw15_OutboxAdds (finW H.length (rsT [6]) K) ([x0, x1, x2] ++ List.replicate 99 undefV) H) : BCall AP n_trystlaw15_OutboxAdds [x0, x1, x2] H K := k_trystlaw15_OutboxAdds.call (by kernel_rfl) h
/-- tryst/trystlaw15.OutboxTakes: 107 slots -/
def c_trystlaw15_OutboxTakes : AC := .seq (.ops [⟨some 6, .mv (.c (.bool false)), none⟩])
  (.seq (.ops [⟨some 22, .mv (.t 0), none⟩,
    ⟨some 23, .call (.c (.fn n_trystlaw15_Few [] [])) [(.t 22)], none⟩,
    ⟨some 0, .mv (.t 23), none⟩])
  (.seq (.ops [⟨some 24, .mv (.t 0), none⟩,
    ⟨some 25, .call (.c (.fn n_trystlaw15_Few [] [])) [(.t 24)], none⟩,
    ⟨some 7, .mv (.t 25), none⟩])
  (.seq (.ops [⟨some 27, .mv (.t 0), none⟩,
    ⟨some 28, .mv (.t 2), none⟩,
    ⟨some 29, .call (.c (.fn n_outbox_Next [] [])) [(.t 27), (.t 28)], none⟩,
    ⟨some 26, .mv (.t 29), none⟩,
    ⟨some 30, .ext (.t 26) 0, none⟩,
    ⟨some 31, .ext (.t 26) 1, none⟩,
    ⟨some 8, .alloc [.int .u64 0, .str [], .nilsl, .int .i64 0, .int .i64 0], none⟩,
    ⟨none, .store 5 (.t 8) (.t 30), none⟩,
    ⟨some 9, .mv (.t 31), none⟩])
  (.seq (.ops [⟨some 33, .mv (.t 0), none⟩,
    ⟨some 34, .mv (.t 2), none⟩,
    ⟨some 35, .call (.c (.fn n_trystref15_Next [] [])) [(.t 33), (.t 34)], none⟩,
    ⟨some 32, .mv (.t 35), none⟩,
    ⟨some 36, .ext (.t 32) 0, none⟩,
    ⟨some 37, .ext (.t 32) 1, none⟩,
    ⟨some 10, .alloc [.int .u64 0, .str [], .nilsl, .int .i64 0, .int .i64 0], none⟩,
    ⟨none, .store 5 (.t 10) (.t 36), none⟩,
    ⟨some 11, .mv (.t 37), none⟩])
  (.seq (.ops [⟨some 39, .mv (.t 0), none⟩,
    ⟨some 40, .mv (.t 1), none⟩,
    ⟨some 41, .call (.c (.fn n_outbox_Ack [] [])) [(.t 39), (.t 40)], none⟩,
    ⟨some 38, .mv (.t 41), none⟩,
    ⟨some 42, .ext (.t 38) 0, none⟩,
    ⟨some 43, .ext (.t 38) 1, none⟩,
    ⟨some 12, .mv (.t 42), none⟩,
    ⟨some 13, .mv (.t 43), none⟩])
  (.seq (.ops [⟨some 45, .mv (.t 0), none⟩,
    ⟨some 46, .mv (.t 1), none⟩,
    ⟨some 47, .call (.c (.fn n_trystref15_Ack [] [])) [(.t 45), (.t 46)], none⟩,
    ⟨some 44, .mv (.t 47), none⟩,
    ⟨some 48, .ext (.t 44) 0, none⟩,
    ⟨some 49, .ext (.t 44) 1, none⟩,
    ⟨some 14, .mv (.t 48), none⟩,
    ⟨some 15, .mv (.t 49), none⟩])
  (.seq (.ops [⟨some 51, .mv (.t 0), none⟩,
    ⟨some 52, .mv (.t 1), none⟩,
    ⟨some 53, .mv (.t 2), none⟩,
    ⟨some 54, .call (.c (.fn n_outbox_Nack [] [])) [(.t 51), (.t 52), (.t 53)], none⟩,
    ⟨some 50, .mv (.t 54), none⟩,
    ⟨some 55, .ext (.t 50) 0, none⟩,
    ⟨some 56, .ext (.t 50) 1, none⟩,
    ⟨some 57, .ext (.t 50) 2, none⟩,
    ⟨some 16, .mv (.t 55), none⟩,
    ⟨some 17, .mv (.t 56), none⟩,
    ⟨some 18, .mv (.t 57), none⟩])
  (.seq (.ops [⟨some 59, .mv (.t 0), none⟩,
    ⟨some 60, .mv (.t 1), none⟩,
    ⟨some 61, .mv (.t 2), none⟩,
    ⟨some 62, .call (.c (.fn n_trystref15_Nack [] [])) [(.t 59), (.t 60), (.t 61)], none⟩,
    ⟨some 58, .mv (.t 62), none⟩,
    ⟨some 63, .ext (.t 58) 0, none⟩,
    ⟨some 64, .ext (.t 58) 1, none⟩,
    ⟨some 65, .ext (.t 58) 2, none⟩,
    ⟨some 19, .mv (.t 63), none⟩,
    ⟨some 20, .mv (.t 64), none⟩,
    ⟨some 21, .mv (.t 65), none⟩])
  (.seq (.ops [⟨some 66, .load 5 true (.t 8), none⟩,
    ⟨some 67, .load 5 true (.t 10), none⟩,
    ⟨some 68, .call (.c (.fn n_trystref15_SameOne [] [])) [(.t 66), (.t 67)], none⟩,
    ⟨some 69, .mv (.t 68), none⟩,
    ⟨some 70, .mv (.t 9), some (69, true)⟩,
    ⟨some 71, .mv (.t 11), some (69, true)⟩,
    ⟨some 72, .bin .eql (.t 70) (.t 71), some (69, true)⟩,
    ⟨some 73, .pick (.t 69) (.t 72) (.c (.bool false)), none⟩,
    ⟨some 74, .mv (.t 73), none⟩,
    ⟨some 75, .mv (.t 12), some (74, true)⟩,
    ⟨some 76, .mv (.t 14), some (74, true)⟩,
    ⟨some 77, .call (.c (.fn n_trystref15_Same [] [])) [(.t 75), (.t 76)], some (74, true)⟩,
    ⟨some 78, .pick (.t 74) (.t 77) (.c (.bool false)), none⟩,
    ⟨some 79, .mv (.t 78), none⟩,
    ⟨some 80, .mv (.t 13), some (79, true)⟩,
    ⟨some 81, .mv (.t 15), some (79, true)⟩,
    ⟨some 82, .bin .eql (.t 80) (.t 81), some (79, true)⟩,
    ⟨some 83, .pick (.t 79) (.t 82) (.c (.bool false)), none⟩,
    ⟨some 84, .mv (.t 83), none⟩,
    ⟨some 85, .mv (.t 16), some (84, true)⟩,
    ⟨some 86, .mv (.t 19), some (84, true)⟩,
    ⟨some 87, .call (.c (.fn n_trystref15_Same [] [])) [(.t 85), (.t 86)], some (84, true)⟩,
    ⟨some 88, .pick (.t 84) (.t 87) (.c (.bool false)), none⟩,
    ⟨some 89, .mv (.t 88), none⟩,
    ⟨some 90, .mv (.t 17), some (89, true)⟩,
    ⟨some 91, .mv (.t 20), some (89, true)⟩,
    ⟨some 92, .binb false (.t 90) (.t 91), some (89, true)⟩,
    ⟨some 93, .pick (.t 89) (.t 92) (.c (.bool false)), none⟩,
    ⟨some 94, .mv (.t 93), none⟩,
    ⟨some 95, .mv (.t 18), some (94, true)⟩,
    ⟨some 96, .mv (.t 21), some (94, true)⟩,
    ⟨some 97, .bin .eql (.t 95) (.t 96), some (94, true)⟩,
    ⟨some 98, .pick (.t 94) (.t 97) (.c (.bool false)), none⟩,
    ⟨some 99, .mv (.t 98), none⟩,
    ⟨some 100, .mv (.t 0), some (99, true)⟩,
    ⟨some 101, .mv (.t 7), some (99, true)⟩,
    ⟨some 102, .call (.c (.fn n_trystref15_Same [] [])) [(.t 100), (.t 101)], some (99, true)⟩,
    ⟨some 103, .pick (.t 99) (.t 102) (.c (.bool false)), none⟩,
    ⟨some 104, .mv (.t 103), none⟩,
    ⟨some 105, .call (.c (.fn n_trystlaw15_awake [] [])) [], some (104, true)⟩,
    ⟨some 106, .pick (.t 104) (.t 105) (.c (.bool false)), none⟩,
    ⟨some 6, .mv (.t 106), none⟩])
  (.ret))))))))))
theorem k_trystlaw15_OutboxTakes : FnIs AP n_trystlaw15_OutboxTakes c_trystlaw15_OutboxTakes 107 (rsT [6]) := fnIs_of (fn := Go.Proofs.Try.f4) Go.Proofs.Try.func4 (by kernel_rfl) (by kernel_rfl) (by kernel_rfl) (by kernel_rfl) (by kernel_rfl)
theorem a_trystlaw15_OutboxTakes {x0 x1 x2 : V} {H : List Entry} {K : KV} (h : Wf H → awp AP H.length c_trystlaw15_OutboxTakes (finW H.length (rsT [6]) K) ([x0, x1, x2] ++ List.replicate 104 undefV) H) : BCall AP n_trystlaw15_OutboxTakes [x0, x1, x2] H K := k_trystlaw15_OutboxTakes.call (by kernel_rfl) h
/-- tryst/trystlaw15.OutboxKeeps: 183 slots -/
def c_trystlaw15_OutboxKeeps : AC := .seq (.ops [⟨some 4, .mv (.c (.bool false)), none⟩])
  (.seq (.ops [⟨some 5, .mv (.c (.nilsl)), none⟩])
  (.seq (.ops [⟨some 23, .mv (.t 0), none⟩,
    ⟨some 24, .bin .rem (.t 23) (.c (.int .u8 12)), none⟩,
    ⟨some 25, .cvi .i64 (.t 24), none⟩,
    ⟨some 26, .bin .add (.c (.int .i64 1)) (.t 25), none⟩,
    ⟨some 6, .mv (.t 26), none⟩])
  (.seq (.seq (.ops [⟨some 7, .mv (.c (.int .i64 1)), none⟩])
  (.block 0 (.loop (.seq (.seq (.ops [⟨some 27, .mv (.t 7), none⟩,
    ⟨some 28, .mv (.t 6), none⟩,
    ⟨some 29, .bin .leq (.t 27) (.t 28), none⟩])
  (.cond (.t 29) (.skip) (.exit 0)))
  (.seq (.block 1 (.seq (.ops [⟨some 33, .mv (.t 5), none⟩,
    ⟨some 34, .mv (.t 7), none⟩,
    ⟨some 35, .cvi .u64 (.t 34), none⟩,
    ⟨some 36, .mv (.t 7), none⟩,
    ⟨some 37, .bin .add (.c (.int .i64 100)) (.t 36), none⟩,
    ⟨some 38, .cvi .u64 (.t 37), none⟩,
    ⟨some 39, .bsl 1 false [(.t 38)], none⟩,
    ⟨some 40, .build [.int .u64 0, .str [], .nilsl, .int .i64 0, .int .i64 0] [(0, 1, (.t 35)), (1, 1, (.c (.str [115]))), (2, 1, (.t 39))], none⟩,
    ⟨some 41, .call (.c (.fn n_outbox_Add [] [])) [(.t 33), (.t 40)], none⟩,
    ⟨some 32, .mv (.t 41), none⟩,
    ⟨some 42, .ext (.t 32) 0, none⟩,
    ⟨some 43, .ext (.t 32) 1, none⟩,
    ⟨some 8, .mv (.t 42), none⟩,
    ⟨some 9, .mv (.t 43), none⟩])
  (.seq (.seq (.ops [⟨some 44, .mv (.t 9), none⟩,
    ⟨some 45, .bin .neq (.t 44) (.c (.int .i64 0)), none⟩])
  (.cond (.t 45) (.seq (.ops [⟨some 4, .mv (.c (.bool false)), none⟩])
  (.ret)) (.skip)))
  (.ops [⟨some 46, .mv (.t 8), none⟩,
    ⟨some 5, .mv (.t 46), none⟩]))))
  (.ops [⟨some 30, .mv (.t 7), none⟩,
    ⟨some 31, .bin .add (.t 30) (.c (.int .i64 1)), none⟩,
    ⟨some 7, .mv (.t 31), none⟩]))))))
  (.seq (.ops [⟨some 47, .mkm, none⟩,
    ⟨some 10, .mv (.t 47), none⟩])
  (.seq (.ops [⟨some 48, .mkm, none⟩,
    ⟨some 11, .mv (.t 48), none⟩])
  (.seq (.ops [⟨some 12, .mv (.c (.int .i64 0)), none⟩])
  (.seq (.seq (.ops [⟨some 13, .mv (.c (.int .i64 0)), none⟩])
  (.block 2 (.loop (.seq (.seq (.ops [⟨some 49, .mv (.t 13), none⟩,
    ⟨some 50, .mv (.t 1), none⟩,
    ⟨some 51, .len 1 (.t 50), none⟩,
    ⟨some 52, .bin .lss (.t 49) (.t 51), none⟩,
    ⟨some 53, .mv (.t 52), none⟩,
    ⟨some 54, .mv (.t 13), some (53, true)⟩,
    ⟨some 55, .bin .lss (.t 54) (.c (.int .i64 120)), some (53, true)⟩,
    ⟨some 56, .pick (.t 53) (.t 55) (.c (.bool false)), none⟩])
  (.cond (.t 56) (.skip) (.exit 2)))
  (.seq (.block 3 (.seq (.ops [⟨some 59, .mv (.t 12), none⟩,
    ⟨some 60, .mv (.t 1), none⟩,
    ⟨some 61, .mv (.t 13), none⟩,
    ⟨some 62, .iad 1 false (.t 60) (.t 61), none⟩,
    ⟨some 63, .load 1 false (.t 62), none⟩,
    ⟨some 64, .bin .quo (.t 63) (.c (.int .u8 64)), none⟩,
    ⟨some 65, .cvi .i64 (.t 64), none⟩,
    ⟨some 66, .bin .add (.t 59) (.t 65), none⟩,
    ⟨some 12, .mv (.t 66), none⟩])
  (.seq (.ops [⟨some 68, .mv (.t 5), none⟩,
    ⟨some 69, .mv (.t 12), none⟩,
    ⟨some 70, .call (.c (.fn n_outbox_Next [] [])) [(.t 68), (.t 69)], none⟩,
    ⟨some 67, .mv (.t 70), none⟩,
    ⟨some 71, .ext (.t 67) 0, none⟩,
    ⟨some 72, .ext (.t 67) 1, none⟩,
    ⟨some 14, .alloc [.int .u64 0, .str [], .nilsl, .int .i64 0, .int .i64 0], none⟩,
    ⟨none, .store 5 (.t 14) (.t 71), none⟩,
    ⟨some 15, .mv (.t 72), none⟩])
  (.seq (.seq (.ops [⟨some 73, .mv (.t 15), none⟩,
    ⟨some 74, .bin .neq (.t 73) (.c (.int .i64 0)), none⟩])
  (.cond (.t 74) (.seq (.ops [⟨some 75, .mv (.t 12), none⟩,
    ⟨some 76, .bin .add (.t 75) (.c (.int .i64 20)), none⟩,
    ⟨some 12, .mv (.t 76), none⟩])
  (.exit 3)) (.skip)))
  (.seq (.seq (.draw [⟨some 77, .mv (.t 11), none⟩,
    ⟨some 78, .fad 0 (.t 14), none⟩,
    ⟨some 79, .load 1 false (.t 78), none⟩,
    ⟨some 80, .mget false [1] (.bool false) false (.t 77) (.t 79), none⟩,
    ⟨some 81, .mv (.t 80), none⟩,
    ⟨some 82, .fad 2 (.t 14), some (81, false)⟩,
    ⟨some 83, .load 1 false (.t 82), some (81, false)⟩,
    ⟨some 84, .len 1 (.t 83), some (81, false)⟩,
    ⟨some 85, .bin .neq (.t 84) (.c (.int .i64 1)), some (81, false)⟩,
    ⟨some 86, .pick (.t 81) (.c (.bool true)) (.t 85), none⟩,
    ⟨some 87, .mv (.t 86), none⟩,
    ⟨some 88, .fad 2 (.t 14), some (87, false)⟩,
    ⟨some 89, .load 1 false (.t 88), some (87, false)⟩,
    ⟨some 90, .iad 1 false (.t 89) (.c (.int .i64 0)), some (87, false)⟩,
    ⟨some 91, .load 1 false (.t 90), some (87, false)⟩,
    ⟨some 92, .fad 0 (.t 14), some (87, false)⟩,
    ⟨some 93, .load 1 false (.t 92), some (87, false)⟩,
    ⟨some 94, .bin .add (.c (.int .u64 100)) (.t 93), some (87, false)⟩,
    ⟨some 95, .bin .neq (.t 91) (.t 94), some (87, false)⟩,
    ⟨some 96, .pick (.t 87) (.c (.bool true)) (.t 95), none⟩,
    ⟨some 97, .mv (.t 96), none⟩,
    ⟨some 98, .fad 4 (.t 14), some (97, false)⟩,
    ⟨some 99, .load 1 false (.t 98), some (97, false)⟩,
    ⟨some 100, .mv (.t 12), some (97, false)⟩,
    ⟨some 101, .bin .gtr (.t 99) (.t 100), some (97, false)⟩,
    ⟨some 102, .pick (.t 97) (.c (.bool true)) (.t 101), none⟩,
    ⟨some 103, .mv (.t 102), none⟩,
    ⟨some 104, .fad 3 (.t 14), some (103, false)⟩,
    ⟨some 105, .load 1 false (.t 104), some (103, false)⟩,
    ⟨some 106, .mv (.t 10), some (103, false)⟩,
    ⟨some 107, .fad 0 (.t 14), some (103, false)⟩,
    ⟨some 108, .load 1 false (.t 107), some (103, false)⟩,
    ⟨some 109, .mget false [1] (.int .i64 0) false (.t 106) (.t 108), some (103, false)⟩,
    ⟨some 110, .bin .neq (.t 105) (.t 109), some (103, false)⟩,
    ⟨some 111, .pick (.t 103) (.c (.bool true)) (.t 110), none⟩])
  (.cond (.t 111) (.seq (.ops [⟨some 4, .mv (.c (.bool false)), none⟩])
  (.ret)) (.skip)))
  (.seq (.seq (.ops [⟨some 112, .mv (.t 1), none⟩,
    ⟨some 113, .mv (.t 13), none⟩,
    ⟨some 114, .iad 1 false (.t 112) (.t 113), none⟩,
    ⟨some 115, .load 1 false (.t 114), none⟩,
    ⟨some 116, .bin .rem (.t 115) (.c (.int .u8 3)), none⟩,
    ⟨some 117, .bin .eql (.t 116) (.c (.int .u8 0)), none⟩])
  (.cond (.t 117) (.seq (.ops [⟨some 119, .mv (.t 5), none⟩,
    ⟨some 120, .fad 0 (.t 14), none⟩,
    ⟨some 121, .load 1 false (.t 120), none⟩,
    ⟨some 122, .call (.c (.fn n_outbox_Ack [] [])) [(.t 119), (.t 121)], none⟩,
    ⟨some 118, .mv (.t 122), none⟩,
    ⟨some 123, .ext (.t 118) 0, none⟩,
    ⟨some 124, .ext (.t 118) 1, none⟩,
    ⟨some 16, .mv (.t 123), none⟩,
    ⟨some 17, .mv (.t 124), none⟩])
  (.seq (.seq (.ops [⟨some 125, .mv (.t 17), none⟩,
    ⟨some 126, .bin .neq (.t 125) (.c (.int .i64 0)), none⟩])
  (.cond (.t 126) (.seq (.ops [⟨some 4, .mv (.c (.bool false)), none⟩])
  (.ret)) (.skip)))
  (.seq (.ops [⟨some 127, .mv (.t 16), none⟩,
    ⟨some 5, .mv (.t 127), none⟩])
  (.ops [⟨some 128, .mv (.t 11), none⟩,
    ⟨some 129, .fad 0 (.t 14), none⟩,
    ⟨some 130, .load 1 false (.t 129), none⟩,
    ⟨none, .mput false [1] (.t 128) (.t 130) (.c (.bool true)), none⟩])))) (.seq (.ops [⟨some 132, .mv (.t 5), none⟩,
    ⟨some 133, .fad 0 (.t 14), none⟩,
    ⟨some 134, .load 1 false (.t 133), none⟩,
    ⟨some 135, .mv (.t 12), none⟩,
    ⟨some 136, .call (.c (.fn n_outbox_Nack [] [])) [(.t 132), (.t 134), (.t 135)], none⟩,
    ⟨some 131, .mv (.t 136), none⟩,
    ⟨some 137, .ext (.t 131) 0, none⟩,
    ⟨some 138, .ext (.t 131) 1, none⟩,
    ⟨some 139, .ext (.t 131) 2, none⟩,
    ⟨some 18, .mv (.t 137), none⟩,
    ⟨some 19, .mv (.t 138), none⟩,
    ⟨some 20, .mv (.t 139), none⟩])
  (.seq (.ops [⟨some 140, .mv (.t 10), none⟩,
    ⟨some 141, .fad 0 (.t 14), none⟩,
    ⟨some 142, .load 1 false (.t 141), none⟩,
    ⟨some 143, .mget false [1] (.int .i64 0) false (.t 140) (.t 142), none⟩,
    ⟨some 144, .bin .add (.t 143) (.c (.int .i64 1)), none⟩,
    ⟨none, .mput false [1] (.t 140) (.t 142) (.t 144), none⟩])
  (.seq (.seq (.ops [⟨some 145, .mv (.t 20), none⟩,
    ⟨some 146, .bin .neq (.t 145) (.c (.int .i64 0)), none⟩,
    ⟨some 147, .mv (.t 146), none⟩,
    ⟨some 148, .mv (.t 19), some (147, false)⟩,
    ⟨some 149, .mv (.t 10), some (147, false)⟩,
    ⟨some 150, .fad 0 (.t 14), some (147, false)⟩,
    ⟨some 151, .load 1 false (.t 150), some (147, false)⟩,
    ⟨some 152, .mget false [1] (.int .i64 0) false (.t 149) (.t 151), some (147, false)⟩,
    ⟨some 153, .bin .eql (.t 152) (.c (.int .i64 5)), some (147, false)⟩,
    ⟨some 154, .binb true (.t 148) (.t 153), some (147, false)⟩,
    ⟨some 155, .pick (.t 147) (.c (.bool true)) (.t 154), none⟩])
  (.cond (.t 155) (.seq (.ops [⟨some 4, .mv (.c (.bool false)), none⟩])
  (.ret)) (.skip)))
  (.seq (.ops [⟨some 156, .mv (.t 18), none⟩,
    ⟨some 5, .mv (.t 156), none⟩])
  (.ops [⟨some 157, .mv (.t 11), none⟩,
    ⟨some 158, .fad 0 (.t 14), none⟩,
    ⟨some 159, .load 1 false (.t 158), none⟩,
    ⟨some 160, .mv (.t 19), none⟩,
    ⟨none, .mput false [1] (.t 157) (.t 159) (.t 160), none⟩])))))))
  (.seq (.ops [⟨some 21, .mv (.c (.int .i64 0)), none⟩])
  (.seq (.seq (.ops [⟨some 22, .mv (.c (.int .i64 1)), none⟩])
  (.block 4 (.loop (.seq (.seq (.ops [⟨some 161, .mv (.t 22), none⟩,
    ⟨some 162, .mv (.t 6), none⟩,
    ⟨some 163, .bin .leq (.t 161) (.t 162), none⟩])
  (.cond (.t 163) (.skip) (.exit 4)))
  (.seq (.block 5 (.seq (.ops [⟨some 166, .mv (.t 11), none⟩,
    ⟨some 167, .mv (.t 22), none⟩,
    ⟨some 168, .cvi .u64 (.t 167), none⟩,
    ⟨some 169, .mget false [1] (.bool false) false (.t 166) (.t 168), none⟩,
    ⟨some 170, .un .not (.t 169), none⟩])
  (.cond (.t 170) (.ops [⟨some 171, .mv (.t 21), none⟩,
    ⟨some 172, .bin .add (.t 171) (.c (.int .i64 1)), none⟩,
    ⟨some 21, .mv (.t 172), none⟩]) (.skip))))
  (.ops [⟨some 164, .mv (.t 22), none⟩,
    ⟨some 165, .bin .add (.t 164) (.c (.int .i64 1)), none⟩,
    ⟨some 22, .mv (.t 165), none⟩]))))))
  (.seq (.ops [⟨some 173, .mv (.t 5), none⟩,
    ⟨some 174, .len 1 (.t 173), none⟩,
    ⟨some 175, .mv (.t 21), none⟩,
    ⟨some 176, .bin .neq (.t 174) (.t 175), none⟩,
    ⟨some 177, .mv (.t 176), none⟩,
    ⟨some 178, .mv (.t 5), some (177, false)⟩,
    ⟨some 179, .call (.c (.fn n_outbox_Check [] [])) [(.t 178)], some (177, false)⟩,
    ⟨some 180, .bin .neq (.t 179) (.c (.int .i64 0)), some (177, false)⟩,
    ⟨some 181, .pick (.t 177) (.c (.bool true)) (.t 180), none⟩])
  (.cond (.t 181) (.seq (.ops [⟨some 4, .mv (.c (.bool false)), none⟩])
  (.ret)) (.skip)))))))))))
  (.ops [⟨some 57, .mv (.t 13), none⟩,
    ⟨some 58, .bin .add (.t 57) (.c (.int .i64 1)), none⟩,
    ⟨some 13, .mv (.t 58), none⟩]))))))
  (.seq (.ops [⟨some 182, .call (.c (.fn n_trystlaw15_awake [] [])) [], none⟩,
    ⟨some 4, .mv (.t 182), none⟩])
  (.ret)))))))))
theorem k_trystlaw15_OutboxKeeps : FnIs AP n_trystlaw15_OutboxKeeps c_trystlaw15_OutboxKeeps 183 (rsT [4]) := fnIs_of (fn := Go.Proofs.Try.f5) Go.Proofs.Try.func5 (by kernel_rfl) (by kernel_rfl) (by kernel_rfl) (by kernel_rfl) (by kernel_rfl)
theorem a_trystlaw15_OutboxKeeps {x0 x1 : V} {H : List Entry} {K : KV} (h : Wf H → awp AP H.length c_trystlaw15_OutboxKeeps (finW H.length (rsT [4]) K) ([x0, x1] ++ List.replicate 181 undefV) H) : BCall AP n_trystlaw15_OutboxKeeps [x0, x1] H K := k_trystlaw15_OutboxKeeps.call (by kernel_rfl) h
/-- tryst/trystlaw15.OutboxTurns: 93 slots -/
def c_trystlaw15_OutboxTurns : AC := .seq (.ops [⟨some 6, .mv (.c (.bool false)), none⟩])
  (.seq (.ops [⟨some 17, .mv (.t 0), none⟩,
    ⟨some 18, .call (.c (.fn n_trystlaw15_Few [] [])) [(.t 17)], none⟩,
    ⟨some 0, .mv (.t 18), none⟩])
  (.seq (.ops [⟨some 20, .mv (.t 0), none⟩,
    ⟨some 21, .mv (.t 1), none⟩,
    ⟨some 22, .call (.c (.fn n_outbox_Ack [] [])) [(.t 20), (.t 21)], none⟩,
    ⟨some 19, .mv (.t 22), none⟩,
    ⟨some 23, .ext (.t 19) 0, none⟩,
    ⟨some 24, .ext (.t 19) 1, none⟩,
    ⟨some 7, .mv (.t 23), none⟩,
    ⟨some 8, .mv (.t 24), none⟩])
  (.seq (.ops [⟨some 26, .mv (.t 0), none⟩,
    ⟨some 27, .mv (.t 2), none⟩,
    ⟨some 28, .call (.c (.fn n_outbox_Ack [] [])) [(.t 26), (.t 27)], none⟩,
    ⟨some 25, .mv (.t 28), none⟩,
    ⟨some 29, .ext (.t 25) 0, none⟩,
    ⟨some 30, .ext (.t 25) 1, none⟩,
    ⟨some 9, .mv (.t 29), none⟩,
    ⟨some 10, .mv (.t 30), none⟩])
  (.seq (.seq (.ops [⟨some 31, .mv (.t 8), none⟩,
    ⟨some 32, .bin .neq (.t 31) (.c (.int .i64 0)), none⟩,
    ⟨some 33, .mv (.t 32), none⟩,
    ⟨some 34, .mv (.t 10), some (33, false)⟩,
    ⟨some 35, .bin .neq (.t 34) (.c (.int .i64 0)), some (33, false)⟩,
    ⟨some 36, .pick (.t 33) (.c (.bool true)) (.t 35), none⟩,
    ⟨some 37, .mv (.t 36), none⟩,
    ⟨some 38, .mv (.t 1), some (37, false)⟩,
    ⟨some 39, .mv (.t 2), some (37, false)⟩,
    ⟨some 40, .bin .eql (.t 38) (.t 39), some (37, false)⟩,
    ⟨some 41, .pick (.t 37) (.c (.bool true)) (.t 40), none⟩])
  (.cond (.t 41) (.seq (.ops [⟨some 42, .call (.c (.fn n_trystlaw15_awake [] [])) [], none⟩,
    ⟨some 6, .mv (.t 42), none⟩])
  (.ret)) (.skip)))
  (.seq (.ops [⟨some 44, .mv (.t 7), none⟩,
    ⟨some 45, .mv (.t 2), none⟩,
    ⟨some 46, .call (.c (.fn n_outbox_Ack [] [])) [(.t 44), (.t 45)], none⟩,
    ⟨some 43, .mv (.t 46), none⟩,
    ⟨some 47, .ext (.t 43) 0, none⟩,
    ⟨some 48, .ext (.t 43) 1, none⟩,
    ⟨some 11, .mv (.t 47), none⟩,
    ⟨some 12, .mv (.t 48), none⟩])
  (.seq (.ops [⟨some 50, .mv (.t 9), none⟩,
    ⟨some 51, .mv (.t 1), none⟩,
    ⟨some 52, .call (.c (.fn n_outbox_Ack [] [])) [(.t 50), (.t 51)], none⟩,
    ⟨some 49, .mv (.t 52), none⟩,
    ⟨some 53, .ext (.t 49) 0, none⟩,
    ⟨some 54, .ext (.t 49) 1, none⟩,
    ⟨some 13, .mv (.t 53), none⟩,
    ⟨some 14, .mv (.t 54), none⟩])
  (.seq (.ops [⟨some 56, .mv (.t 7), none⟩,
    ⟨some 57, .mv (.t 1), none⟩,
    ⟨some 58, .call (.c (.fn n_outbox_Ack [] [])) [(.t 56), (.t 57)], none⟩,
    ⟨some 55, .mv (.t 58), none⟩,
    ⟨some 59, .ext (.t 55) 0, none⟩,
    ⟨some 60, .ext (.t 55) 1, none⟩,
    ⟨some 15, .mv (.t 59), none⟩,
    ⟨some 16, .mv (.t 60), none⟩])
  (.seq (.ops [⟨some 61, .mv (.t 11), none⟩,
    ⟨some 62, .mv (.t 13), none⟩,
    ⟨some 63, .call (.c (.fn n_trystref15_Same [] [])) [(.t 61), (.t 62)], none⟩,
    ⟨some 64, .mv (.t 63), none⟩,
    ⟨some 65, .mv (.t 12), some (64, true)⟩,
    ⟨some 66, .bin .eql (.t 65) (.c (.int .i64 0)), some (64, true)⟩,
    ⟨some 67, .pick (.t 64) (.t 66) (.c (.bool false)), none⟩,
    ⟨some 68, .mv (.t 67), none⟩,
    ⟨some 69, .mv (.t 14), some (68, true)⟩,
    ⟨some 70, .bin .eql (.t 69) (.c (.int .i64 0)), some (68, true)⟩,
    ⟨some 71, .pick (.t 68) (.t 70) (.c (.bool false)), none⟩,
    ⟨some 72, .mv (.t 71), none⟩,
    ⟨some 73, .mv (.t 16), some (72, true)⟩,
    ⟨some 74, .bin .eql (.t 73) (.c (.int .i64 4)), some (72, true)⟩,
    ⟨some 75, .pick (.t 72) (.t 74) (.c (.bool false)), none⟩,
    ⟨some 76, .mv (.t 75), none⟩,
    ⟨some 77, .mv (.t 11), some (76, true)⟩,
    ⟨some 78, .len 1 (.t 77), some (76, true)⟩,
    ⟨some 79, .mv (.t 0), some (76, true)⟩,
    ⟨some 80, .len 1 (.t 79), some (76, true)⟩,
    ⟨some 81, .bin .sub (.t 80) (.c (.int .i64 2)), some (76, true)⟩,
    ⟨some 82, .bin .eql (.t 78) (.t 81), some (76, true)⟩,
    ⟨some 83, .pick (.t 76) (.t 82) (.c (.bool false)), none⟩,
    ⟨some 84, .mv (.t 83), none⟩,
    ⟨some 85, .mv (.t 11), some (84, true)⟩,
    ⟨some 86, .mv (.t 1), some (84, true)⟩,
    ⟨some 87, .call (.c (.fn n_outbox_Find [] [])) [(.t 85), (.t 86)], some (84, true)⟩,
    ⟨some 88, .bin .lss (.t 87) (.c (.int .i64 0)), some (84, true)⟩,
    ⟨some 89, .pick (.t 84) (.t 88) (.c (.bool false)), none⟩,
    ⟨some 90, .mv (.t 89), none⟩,
    ⟨some 91, .call (.c (.fn n_trystlaw15_awake [] [])) [], some (90, true)⟩,
    ⟨some 92, .pick (.t 90) (.t 91) (.c (.bool false)), none⟩,
    ⟨some 6, .mv (.t 92), none⟩])
  (.ret)))))))))
theorem k_trystlaw15_OutboxTurns : FnIs AP n_trystlaw15_OutboxTurns c_trystlaw15_OutboxTurns 93 (rsT [6]) := fnIs_of (fn := Go.Proofs.Try.f6) Go.Proofs.Try.func6 (by kernel_rfl) (by kernel_rfl) (by kernel_rfl) (by kernel_rfl) (by kernel_rfl)
theorem a_trystlaw15_OutboxTurns {x0 x1 x2 : V} {H : List Entry} {K : KV} (h : Wf H → awp AP H.length c_trystlaw15_OutboxTurns (finW H.length (rsT [6]) K) ([x0, x1, x2] ++ List.replicate 90 undefV) H) : BCall AP n_trystlaw15_OutboxTurns [x0, x1, x2] H K := k_trystlaw15_OutboxTurns.call (by kernel_rfl) h
/-- tryst/trystlaw15.OutboxWaits: 127 slots -/
def c_trystlaw15_OutboxWaits : AC := .seq (.ops [⟨some 6, .mv (.c (.bool false)), none⟩])
  (.seq (.ops [⟨some 23, .mv (.t 0), none⟩,
    ⟨some 24, .mv (.t 1), none⟩,
    ⟨some 25, .build [.int .u64 0, .str [], .nilsl, .int .i64 0, .int .i64 0] [(0, 1, (.c (.int .u64 1))), (1, 1, (.t 23)), (2, 1, (.t 24))], none⟩,
    ⟨some 26, .call (.c (.fn n_trystlaw15_One [] [])) [(.t 25)], none⟩,
    ⟨some 27, .call (.c (.fn n_outbox_Add [] [])) [(.c (.nilsl)), (.t 26)], none⟩,
    ⟨some 22, .mv (.t 27), none⟩,
    ⟨some 28, .ext (.t 22) 0, none⟩,
    ⟨some 29, .ext (.t 22) 1, none⟩,
    ⟨some 7, .mv (.t 28), none⟩,
    ⟨some 8, .mv (.t 29), none⟩])
  (.seq (.seq (.ops [⟨some 30, .mv (.t 8), none⟩,
    ⟨some 31, .bin .neq (.t 30) (.c (.int .i64 0)), none⟩])
  (.cond (.t 31) (.seq (.ops [⟨some 32, .mv (.t 7), none⟩,
    ⟨some 33, .len 1 (.t 32), none⟩,
    ⟨some 34, .bin .eql (.t 33) (.c (.int .i64 0)), none⟩,
    ⟨some 35, .mv (.t 34), none⟩,
    ⟨some 36, .call (.c (.fn n_trystlaw15_awake [] [])) [], some (35, true)⟩,
    ⟨some 37, .pick (.t 35) (.t 36) (.c (.bool false)), none⟩,
    ⟨some 6, .mv (.t 37), none⟩])
  (.ret)) (.skip)))
  (.seq (.ops [⟨some 38, .mv (.t 2), none⟩,
    ⟨some 39, .cvi .i64 (.t 38), none⟩,
    ⟨some 9, .mv (.t 39), none⟩])
  (.seq (.ops [⟨some 10, .mv (.c (.int .i64 2)), none⟩])
  (.seq (.seq (.ops [⟨some 11, .mv (.c (.int .i64 0)), none⟩])
  (.block 0 (.loop (.seq (.seq (.ops [⟨some 40, .mv (.t 11), none⟩,
    ⟨some 41, .bin .lss (.t 40) (.c (.int .i64 4)), none⟩])
  (.cond (.t 41) (.skip) (.exit 0)))
  (.seq (.block 1 (.seq (.ops [⟨some 45, .mv (.t 7), none⟩,
    ⟨some 46, .mv (.t 9), none⟩,
    ⟨some 47, .call (.c (.fn n_outbox_Nack [] [])) [(.t 45), (.c (.int .u64 1)), (.t 46)], none⟩,
    ⟨some 44, .mv (.t 47), none⟩,
    ⟨some 48, .ext (.t 44) 0, none⟩,
    ⟨some 49, .ext (.t 44) 1, none⟩,
    ⟨some 50, .ext (.t 44) 2, none⟩,
    ⟨some 12, .mv (.t 48), none⟩,
    ⟨some 13, .mv (.t 49), none⟩,
    ⟨some 14, .mv (.t 50), none⟩])
  (.seq (.ops [⟨some 52, .mv (.t 12), none⟩,
    ⟨some 53, .mv (.t 9), none⟩,
    ⟨some 54, .mv (.t 10), none⟩,
    ⟨some 55, .bin .add (.t 53) (.t 54), none⟩,
    ⟨some 56, .bin .sub (.t 55) (.c (.int .i64 1)), none⟩,
    ⟨some 57, .call (.c (.fn n_outbox_Next [] [])) [(.t 52), (.t 56)], none⟩,
    ⟨some 51, .mv (.t 57), none⟩,
    ⟨some 58, .ext (.t 51) 0, none⟩,
    ⟨some 59, .ext (.t 51) 1, none⟩,
    ⟨some 15, .alloc [.int .u64 0, .str [], .nilsl, .int .i64 0, .int .i64 0], none⟩,
    ⟨none, .store 5 (.t 15) (.t 58), none⟩,
    ⟨some 16, .mv (.t 59), none⟩])
  (.seq (.ops [⟨some 61, .mv (.t 12), none⟩,
    ⟨some 62, .mv (.t 9), none⟩,
    ⟨some 63, .mv (.t 10), none⟩,
    ⟨some 64, .bin .add (.t 62) (.t 63), none⟩,
    ⟨some 65, .call (.c (.fn n_outbox_Next [] [])) [(.t 61), (.t 64)], none⟩,
    ⟨some 60, .mv (.t 65), none⟩,
    ⟨some 66, .ext (.t 60) 0, none⟩,
    ⟨some 67, .ext (.t 60) 1, none⟩,
    ⟨some 17, .alloc [.int .u64 0, .str [], .nilsl, .int .i64 0, .int .i64 0], none⟩,
    ⟨none, .store 5 (.t 17) (.t 66), none⟩,
    ⟨some 18, .mv (.t 67), none⟩])
  (.seq (.seq (.ops [⟨some 68, .mv (.t 13), none⟩,
    ⟨some 69, .mv (.t 68), none⟩,
    ⟨some 70, .mv (.t 14), some (69, false)⟩,
    ⟨some 71, .bin .neq (.t 70) (.c (.int .i64 0)), some (69, false)⟩,
    ⟨some 72, .pick (.t 69) (.c (.bool true)) (.t 71), none⟩,
    ⟨some 73, .mv (.t 72), none⟩,
    ⟨some 74, .mv (.t 16), some (73, false)⟩,
    ⟨some 75, .bin .neq (.t 74) (.c (.int .i64 4)), some (73, false)⟩,
    ⟨some 76, .pick (.t 73) (.c (.bool true)) (.t 75), none⟩,
    ⟨some 77, .mv (.t 76), none⟩,
    ⟨some 78, .mv (.t 18), some (77, false)⟩,
    ⟨some 79, .bin .neq (.t 78) (.c (.int .i64 0)), some (77, false)⟩,
    ⟨some 80, .pick (.t 77) (.c (.bool true)) (.t 79), none⟩,
    ⟨some 81, .mv (.t 80), none⟩,
    ⟨some 82, .fad 0 (.t 17), some (81, false)⟩,
    ⟨some 83, .load 1 false (.t 82), some (81, false)⟩,
    ⟨some 84, .bin .neq (.t 83) (.c (.int .u64 1)), some (81, false)⟩,
    ⟨some 85, .pick (.t 81) (.c (.bool true)) (.t 84), none⟩,
    ⟨some 86, .mv (.t 85), none⟩,
    ⟨some 87, .fad 4 (.t 17), some (86, false)⟩,
    ⟨some 88, .load 1 false (.t 87), some (86, false)⟩,
    ⟨some 89, .mv (.t 9), some (86, false)⟩,
    ⟨some 90, .mv (.t 10), some (86, false)⟩,
    ⟨some 91, .bin .add (.t 89) (.t 90), some (86, false)⟩,
    ⟨some 92, .bin .neq (.t 88) (.t 91), some (86, false)⟩,
    ⟨some 93, .pick (.t 86) (.c (.bool true)) (.t 92), none⟩,
    ⟨some 94, .mv (.t 93), none⟩,
    ⟨some 95, .fad 3 (.t 17), some (94, false)⟩,
    ⟨some 96, .load 1 false (.t 95), some (94, false)⟩,
    ⟨some 97, .mv (.t 11), some (94, false)⟩,
    ⟨some 98, .bin .add (.t 97) (.c (.int .i64 1)), some (94, false)⟩,
    ⟨some 99, .bin .neq (.t 96) (.t 98), some (94, false)⟩,
    ⟨some 100, .pick (.t 94) (.c (.bool true)) (.t 99), none⟩])
  (.cond (.t 100) (.seq (.ops [⟨some 6, .mv (.c (.bool false)), none⟩])
  (.ret)) (.skip)))
  (.ops [⟨some 101, .mv (.t 12), none⟩,
    ⟨some 102, .mv (.t 9), none⟩,
    ⟨some 103, .mv (.t 10), none⟩,
    ⟨some 104, .bin .add (.t 102) (.t 103), none⟩,
    ⟨some 105, .mv (.t 10), none⟩,
    ⟨some 106, .bin .mul (.c (.int .i64 2)) (.t 105), none⟩,
    ⟨some 7, .mv (.t 101), none⟩,
    ⟨some 9, .mv (.t 104), none⟩,
    ⟨some 10, .mv (.t 106), none⟩]))))))
  (.ops [⟨some 42, .mv (.t 11), none⟩,
    ⟨some 43, .bin .add (.t 42) (.c (.int .i64 1)), none⟩,
    ⟨some 11, .mv (.t 43), none⟩]))))))
  (.seq (.ops [⟨some 108, .mv (.t 7), none⟩,
    ⟨some 109, .mv (.t 9), none⟩,
    ⟨some 110, .call (.c (.fn n_outbox_Nack [] [])) [(.t 108), (.c (.int .u64 1)), (.t 109)], none⟩,
    ⟨some 107, .mv (.t 110), none⟩,
    ⟨some 111, .ext (.t 107) 0, none⟩,
    ⟨some 112, .ext (.t 107) 1, none⟩,
    ⟨some 113, .ext (.t 107) 2, none⟩,
    ⟨some 19, .mv (.t 111), none⟩,
    ⟨some 20, .mv (.t 112), none⟩,
    ⟨some 21, .mv (.t 113), none⟩])
  (.seq (.ops [⟨some 114, .mv (.t 19), none⟩,
    ⟨some 115, .len 1 (.t 114), none⟩,
    ⟨some 116, .bin .eql (.t 115) (.c (.int .i64 0)), none⟩,
    ⟨some 117, .mv (.t 116), none⟩,
    ⟨some 118, .mv (.t 20), some (117, true)⟩,
    ⟨some 119, .pick (.t 117) (.t 118) (.c (.bool false)), none⟩,
    ⟨some 120, .mv (.t 119), none⟩,
    ⟨some 121, .mv (.t 21), some (120, true)⟩,
    ⟨some 122, .bin .eql (.t 121) (.c (.int .i64 0)), some (120, true)⟩,
    ⟨some 123, .pick (.t 120) (.t 122) (.c (.bool false)), none⟩,
    ⟨some 124, .mv (.t 123), none⟩,
    ⟨some 125, .call (.c (.fn n_trystlaw15_awake [] [])) [], some (124, true)⟩,
    ⟨some 126, .pick (.t 124) (.t 125) (.c (.bool false)), none⟩,
    ⟨some 6, .mv (.t 126), none⟩])
  (.ret))))))))
theorem k_trystlaw15_OutboxWaits : FnIs AP n_trystlaw15_OutboxWaits c_trystlaw15_OutboxWaits 127 (rsT [6]) := fnIs_of (fn := Go.Proofs.Try.f7) Go.Proofs.Try.func7 (by kernel_rfl) (by kernel_rfl) (by kernel_rfl) (by kernel_rfl) (by kernel_rfl)
theorem a_trystlaw15_OutboxWaits {x0 x1 x2 : V} {H : List Entry} {K : KV} (h : Wf H → awp AP H.length c_trystlaw15_OutboxWaits (finW H.length (rsT [6]) K) ([x0, x1, x2] ++ List.replicate 124 undefV) H) : BCall AP n_trystlaw15_OutboxWaits [x0, x1, x2] H K := k_trystlaw15_OutboxWaits.call (by kernel_rfl) h
/-- tryst/trystlaw15.OutboxBack: 104 slots -/
def c_trystlaw15_OutboxBack : AC := .seq (.ops [⟨some 6, .mv (.c (.bool false)), none⟩])
  (.seq (.ops [⟨some 14, .mv (.t 0), none⟩,
    ⟨some 15, .call (.c (.fn n_trystlaw15_Few [] [])) [(.t 14)], none⟩,
    ⟨some 0, .mv (.t 15), none⟩])
  (.seq (.ops [⟨some 16, .mv (.t 0), none⟩,
    ⟨some 17, .mv (.t 1), none⟩,
    ⟨some 18, .call (.c (.fn n_outbox_Find [] [])) [(.t 16), (.t 17)], none⟩,
    ⟨some 7, .mv (.t 18), none⟩])
  (.seq (.ops [⟨some 20, .mv (.t 0), none⟩,
    ⟨some 21, .mv (.t 1), none⟩,
    ⟨some 22, .call (.c (.fn n_outbox_Ack [] [])) [(.t 20), (.t 21)], none⟩,
    ⟨some 19, .mv (.t 22), none⟩,
    ⟨some 23, .ext (.t 19) 0, none⟩,
    ⟨some 24, .ext (.t 19) 1, none⟩,
    ⟨some 8, .mv (.t 23), none⟩,
    ⟨some 9, .mv (.t 24), none⟩])
  (.seq (.seq (.ops [⟨some 25, .mv (.t 9), none⟩,
    ⟨some 26, .bin .neq (.t 25) (.c (.int .i64 0)), none⟩,
    ⟨some 27, .mv (.t 26), none⟩,
    ⟨some 28, .mv (.t 7), some (27, false)⟩,
    ⟨some 29, .bin .lss (.t 28) (.c (.int .i64 0)), some (27, false)⟩,
    ⟨some 30, .pick (.t 27) (.c (.bool true)) (.t 29), none⟩,
    ⟨some 31, .mv (.t 30), none⟩,
    ⟨some 32, .mv (.t 7), some (31, false)⟩,
    ⟨some 33, .mv (.t 0), some (31, false)⟩,
    ⟨some 34, .len 1 (.t 33), some (31, false)⟩,
    ⟨some 35, .bin .geq (.t 32) (.t 34), some (31, false)⟩,
    ⟨some 36, .pick (.t 31) (.c (.bool true)) (.t 35), none⟩])
  (.cond (.t 36) (.seq (.ops [⟨some 37, .call (.c (.fn n_trystlaw15_awake [] [])) [], none⟩,
    ⟨some 6, .mv (.t 37), none⟩])
  (.ret)) (.skip)))
  (.seq (.ops [⟨some 39, .mv (.t 8), none⟩,
    ⟨some 40, .mv (.t 0), none⟩,
    ⟨some 41, .mv (.t 7), none⟩,
    ⟨some 42, .iad 5 true (.t 40) (.t 41), none⟩,
    ⟨some 43, .load 5 true (.t 42), none⟩,
    ⟨some 44, .mv (.t 2), none⟩,
    ⟨some 45, .call (.c (.fn n_outbox_Again [] [])) [(.t 39), (.t 43), (.t 44)], none⟩,
    ⟨some 38, .mv (.t 45), none⟩,
    ⟨some 46, .ext (.t 38) 0, none⟩,
    ⟨some 47, .ext (.t 38) 1, none⟩,
    ⟨some 10, .mv (.t 46), none⟩,
    ⟨some 11, .mv (.t 47), none⟩])
  (.seq (.seq (.ops [⟨some 48, .mv (.t 2), none⟩,
    ⟨some 49, .bin .lss (.t 48) (.c (.int .i64 0)), none⟩,
    ⟨some 50, .mv (.t 49), none⟩,
    ⟨some 51, .mv (.t 2), some (50, false)⟩,
    ⟨some 52, .bin .gtr (.t 51) (.c (.int .i64 1099511627775)), some (50, false)⟩,
    ⟨some 53, .pick (.t 50) (.c (.bool true)) (.t 52), none⟩])
  (.cond (.t 53) (.seq (.ops [⟨some 54, .mv (.t 10), none⟩,
    ⟨some 55, .len 1 (.t 54), none⟩,
    ⟨some 56, .bin .eql (.t 55) (.c (.int .i64 0)), none⟩,
    ⟨some 57, .mv (.t 56), none⟩,
    ⟨some 58, .mv (.t 11), some (57, true)⟩,
    ⟨some 59, .bin .eql (.t 58) (.c (.int .i64 1)), some (57, true)⟩,
    ⟨some 60, .pick (.t 57) (.t 59) (.c (.bool false)), none⟩,
    ⟨some 61, .mv (.t 60), none⟩,
    ⟨some 62, .call (.c (.fn n_trystlaw15_awake [] [])) [], some (61, true)⟩,
    ⟨some 63, .pick (.t 61) (.t 62) (.c (.bool false)), none⟩,
    ⟨some 6, .mv (.t 63), none⟩])
  (.ret)) (.skip)))
  (.seq (.seq (.ops [⟨some 64, .mv (.t 11), none⟩,
    ⟨some 65, .bin .neq (.t 64) (.c (.int .i64 0)), none⟩,
    ⟨some 66, .mv (.t 65), none⟩,
    ⟨some 67, .mv (.t 10), some (66, false)⟩,
    ⟨some 68, .mv (.t 1), some (66, false)⟩,
    ⟨some 69, .call (.c (.fn n_outbox_Find [] [])) [(.t 67), (.t 68)], some (66, false)⟩,
    ⟨some 70, .mv (.t 7), some (66, false)⟩,
    ⟨some 71, .bin .neq (.t 69) (.t 70), some (66, false)⟩,
    ⟨some 72, .pick (.t 66) (.c (.bool true)) (.t 71), none⟩,
    ⟨some 73, .mv (.t 72), none⟩,
    ⟨some 74, .mv (.t 10), some (73, false)⟩,
    ⟨some 75, .len 1 (.t 74), some (73, false)⟩,
    ⟨some 76, .mv (.t 0), some (73, false)⟩,
    ⟨some 77, .len 1 (.t 76), some (73, false)⟩,
    ⟨some 78, .bin .neq (.t 75) (.t 77), some (73, false)⟩,
    ⟨some 79, .pick (.t 73) (.c (.bool true)) (.t 78), none⟩])
  (.cond (.t 79) (.seq (.ops [⟨some 6, .mv (.c (.bool false)), none⟩])
  (.ret)) (.skip)))
  (.seq (.seq (.ops [⟨some 12, .mv (.c (.int .i64 0)), none⟩])
  (.block 0 (.loop (.seq (.seq (.ops [⟨some 80, .mv (.t 12), none⟩,
    ⟨some 81, .mv (.t 0), none⟩,
    ⟨some 82, .len 1 (.t 81), none⟩,
    ⟨some 83, .bin .lss (.t 80) (.t 82), none⟩])
  (.cond (.t 83) (.skip) (.exit 0)))
  (.seq (.block 1 (.seq (.ops [⟨some 86, .mv (.t 0), none⟩,
    ⟨some 87, .mv (.t 12), none⟩,
    ⟨some 88, .iad 5 true (.t 86) (.t 87), none⟩,
    ⟨some 89, .load 5 true (.t 88), none⟩,
    ⟨some 13, .alloc [.int .u64 0, .str [], .nilsl, .int .i64 0, .int .i64 0], none⟩,
    ⟨none, .store 5 (.t 13) (.t 89), none⟩])
  (.seq (.seq (.ops [⟨some 90, .mv (.t 12), none⟩,
    ⟨some 91, .mv (.t 7), none⟩,
    ⟨some 92, .bin .eql (.t 90) (.t 91), none⟩])
  (.cond (.t 92) (.ops [⟨some 93, .mv (.t 2), none⟩,
    ⟨some 94, .fad 3 (.t 13), none⟩,
    ⟨none, .store 1 (.t 94) (.c (.int .i64 0)), none⟩,
    ⟨some 95, .fad 4 (.t 13), none⟩,
    ⟨none, .store 1 (.t 95) (.t 93), none⟩]) (.skip)))
  (.seq (.draw [⟨some 96, .mv (.t 10), none⟩,
    ⟨some 97, .mv (.t 12), none⟩,
    ⟨some 98, .iad 5 true (.t 96) (.t 97), none⟩,
    ⟨some 99, .load 5 true (.t 98), none⟩,
    ⟨some 100, .load 5 true (.t 13), none⟩,
    ⟨some 101, .dcall (.c (.fn n_trystref15_SameOne [] [])) [(.t 99), (.t 100)], none⟩,
    ⟨some 102, .un .not (.t 101), none⟩])
  (.cond (.t 102) (.seq (.ops [⟨some 6, .mv (.c (.bool false)), none⟩])
  (.ret)) (.skip))))))
  (.ops [⟨some 84, .mv (.t 12), none⟩,
    ⟨some 85, .bin .add (.t 84) (.c (.int .i64 1)), none⟩,
    ⟨some 12, .mv (.t 85), none⟩]))))))
  (.seq (.ops [⟨some 103, .call (.c (.fn n_trystlaw15_awake [] [])) [], none⟩,
    ⟨some 6, .mv (.t 103), none⟩])
  (.ret))))))))))
theorem k_trystlaw15_OutboxBack : FnIs AP n_trystlaw15_OutboxBack c_trystlaw15_OutboxBack 104 (rsT [6]) := fnIs_of (fn := Go.Proofs.Try.f8) Go.Proofs.Try.func8 (by kernel_rfl) (by kernel_rfl) (by kernel_rfl) (by kernel_rfl) (by kernel_rfl)
theorem a_trystlaw15_OutboxBack {x0 x1 x2 : V} {H : List Entry} {K : KV} (h : Wf H → awp AP H.length c_trystlaw15_OutboxBack (finW H.length (rsT [6]) K) ([x0, x1, x2] ++ List.replicate 101 undefV) H) : BCall AP n_trystlaw15_OutboxBack [x0, x1, x2] H K := k_trystlaw15_OutboxBack.call (by kernel_rfl) h
/-- tryst/trystlaw15.Few: 24 slots -/
def c_trystlaw15_Few : AC := .seq (.ops [⟨some 2, .mv (.c (.nilsl)), none⟩])
  (.seq (.ops [⟨some 3, .mv (.c (.nilsl)), none⟩])
  (.seq (.seq (.ops [⟨some 4, .mv (.c (.int .i64 0)), none⟩])
  (.block 0 (.loop (.seq (.seq (.ops [⟨some 5, .mv (.t 4), none⟩,
    ⟨some 6, .mv (.t 0), none⟩,
    ⟨some 7, .len 1 (.t 6), none⟩,
    ⟨some 8, .bin .lss (.t 5) (.t 7), none⟩,
    ⟨some 9, .mv (.t 8), none⟩,
    ⟨some 10, .mv (.t 4), some (9, true)⟩,
    ⟨some 11, .bin .lss (.t 10) (.c (.int .i64 101)), some (9, true)⟩,
    ⟨some 12, .pick (.t 9) (.t 11) (.c (.bool false)), none⟩])
  (.cond (.t 12) (.skip) (.exit 0)))
  (.seq (.block 1 (.ops [⟨some 15, .mv (.t 3), none⟩,
    ⟨some 16, .mv (.t 0), none⟩,
    ⟨some 17, .mv (.t 4), none⟩,
    ⟨some 18, .iad 5 true (.t 16) (.t 17), none⟩,
    ⟨some 19, .load 5 true (.t 18), none⟩,
    ⟨some 20, .call (.c (.fn n_trystlaw15_One [] [])) [(.t 19)], none⟩,
    ⟨some 21, .bsl 5 true [(.t 20)], none⟩,
    ⟨some 22, .app 26 5 64 true (.t 15) (.t 21), none⟩,
    ⟨some 3, .mv (.t 22), none⟩]))
  (.ops [⟨some 13, .mv (.t 4), none⟩,
    ⟨some 14, .bin .add (.t 13) (.c (.int .i64 1)), none⟩,
    ⟨some 4, .mv (.t 14), none⟩]))))))
  (.seq (.ops [⟨some 23, .mv (.t 3), none⟩,
    ⟨some 2, .mv (.t 23), none⟩])
  (.ret))))
theorem k_trystlaw15_Few : FnIs AP n_trystlaw15_Few c_trystlaw15_Few 24 (rsT [2]) := fnIs_of (fn := Go.Proofs.Try.f9) Go.Proofs.Try.func9 (by kernel_rfl) (by kernel_rfl) (by kernel_rfl) (by kernel_rfl) (by kernel_rfl)
theorem a_trystlaw15_Few {x0 : V} {H : List Entry} {K : KV} (h : Wf H → awp AP H.length c_trystlaw15_Few (finW H.length (rsT [2]) K) ([x0] ++ List.replicate 23 undefV) H) : BCall AP n_trystlaw15_Few [x0] H K := k_trystlaw15_Few.call (by kernel_rfl) h
/-- tryst/trystlaw15.One: 21 slots -/
def c_trystlaw15_One : AC := .seq (.ops [⟨some 1, .box (.t 0), none⟩,
    ⟨some 2, .alloc [.int .u64 0, .str [], .nilsl, .int .i64 0, .int .i64 0], none⟩])
  (.seq (.ops [⟨some 3, .fad 1 (.t 1), none⟩,
    ⟨some 4, .load 1 false (.t 3), none⟩,
    ⟨some 5, .call (.c (.fn n_trystlaw02_Few [] [])) [(.t 4)], none⟩,
    ⟨some 6, .fad 1 (.t 1), none⟩,
    ⟨none, .store 1 (.t 6) (.t 5), none⟩])
  (.seq (.seq (.ops [⟨some 7, .fad 2 (.t 1), none⟩,
    ⟨some 8, .load 1 false (.t 7), none⟩,
    ⟨some 9, .len 1 (.t 8), none⟩,
    ⟨some 10, .bin .gtr (.t 9) (.c (.int .i64 31)), none⟩])
  (.cond (.t 10) (.ops [⟨some 11, .fad 2 (.t 1), none⟩,
    ⟨some 12, .load 1 false (.t 11), none⟩,
    ⟨some 13, .slc 1 (.t 12) none (some (.c (.int .i64 31))) none, none⟩,
    ⟨some 14, .fad 2 (.t 1), none⟩,
    ⟨none, .store 1 (.t 14) (.t 13), none⟩]) (.skip)))
  (.seq (.ops [⟨some 15, .bsl 1 false [], none⟩,
    ⟨some 16, .fad 2 (.t 1), none⟩,
    ⟨some 17, .load 1 false (.t 16), none⟩,
    ⟨some 18, .app 23 1 8 false (.t 15) (.t 17), none⟩,
    ⟨some 19, .fad 2 (.t 1), none⟩,
    ⟨none, .store 1 (.t 19) (.t 18), none⟩])
  (.seq (.ops [⟨some 20, .load 5 true (.t 1), none⟩,
    ⟨none, .store 5 (.t 2) (.t 20), none⟩])
  (.ret)))))
theorem k_trystlaw15_One : FnIs AP n_trystlaw15_One c_trystlaw15_One 21 [.cell 2 5 true] := fnIs_of (fn := Go.Proofs.Try.f10) Go.Proofs.Try.func10 (by kernel_rfl) (by kernel_rfl) (by kernel_rfl) (by kernel_rfl) (by kernel_rfl)
theorem a_trystlaw15_One {x0 : V} {H : List Entry} {K : KV} (h : Wf H → awp AP H.length c_trystlaw15_One (finW H.length [.cell 2 5 true] K) ([x0] ++ List.replicate 20 undefV) H) : BCall AP n_trystlaw15_One [x0] H K := k_trystlaw15_One.call (by kernel_rfl) h
/-- tryst/outbox.Add: 37 slots -/
def c_outbox_Add : AC := .seq (.ops [⟨some 3, .box (.t 1), none⟩,
    ⟨some 4, .mv (.c (.nilsl)), none⟩,
    ⟨some 5, .mv (.c (.int .i64 0)), none⟩])
  (.seq (.seq (.ops [⟨some 6, .mv (.t 0), none⟩,
    ⟨some 7, .call (.c (.fn n_outbox_Check [] [])) [(.t 6)], none⟩,
    ⟨some 8, .bin .neq (.t 7) (.c (.int .i64 0)), none⟩,
    ⟨some 9, .mv (.t 8), none⟩,
    ⟨some 10, .load 5 true (.t 3), some (9, false)⟩,
    ⟨some 11, .call (.c (.fn n_outbox_may [] [])) [(.t 10)], some (9, false)⟩,
    ⟨some 12, .un .not (.t 11), some (9, false)⟩,
    ⟨some 13, .pick (.t 9) (.c (.bool true)) (.t 12), none⟩])
  (.cond (.t 13) (.seq (.ops [⟨some 4, .mv (.c (.nilsl)), none⟩,
    ⟨some 5, .mv (.c (.int .i64 1)), none⟩])
  (.ret)) (.skip)))
  (.seq (.seq (.draw [⟨some 14, .mv (.t 0), none⟩,
    ⟨some 15, .len 1 (.t 14), none⟩,
    ⟨some 16, .bin .gtr (.t 15) (.c (.int .i64 0)), none⟩,
    ⟨some 17, .mv (.t 16), none⟩,
    ⟨some 18, .fad 0 (.t 3), some (17, true)⟩,
    ⟨some 19, .load 1 false (.t 18), some (17, true)⟩,
    ⟨some 20, .mv (.t 0), some (17, true)⟩,
    ⟨some 21, .mv (.t 0), some (17, true)⟩,
    ⟨some 22, .len 1 (.t 21), some (17, true)⟩,
    ⟨some 23, .bin .sub (.t 22) (.c (.int .i64 1)), some (17, true)⟩,
    ⟨some 24, .iad 5 true (.t 20) (.t 23), some (17, true)⟩,
    ⟨some 25, .fad 0 (.t 24), some (17, true)⟩,
    ⟨some 26, .load 1 false (.t 25), some (17, true)⟩,
    ⟨some 27, .bin .leq (.t 19) (.t 26), some (17, true)⟩,
    ⟨some 28, .pick (.t 17) (.t 27) (.c (.bool false)), none⟩])
  (.cond (.t 28) (.seq (.ops [⟨some 4, .mv (.c (.nilsl)), none⟩,
    ⟨some 5, .mv (.c (.int .i64 8)), none⟩])
  (.ret)) (.skip)))
  (.seq (.seq (.ops [⟨some 29, .mv (.t 0), none⟩,
    ⟨some 30, .len 1 (.t 29), none⟩,
    ⟨some 31, .bin .eql (.t 30) (.c (.int .i64 100)), none⟩])
  (.cond (.t 31) (.seq (.ops [⟨some 4, .mv (.c (.nilsl)), none⟩,
    ⟨some 5, .mv (.c (.int .i64 6)), none⟩])
  (.ret)) (.skip)))
  (.seq (.ops [⟨some 32, .mv (.t 0), none⟩,
    ⟨some 33, .mv (.t 0), none⟩,
    ⟨some 34, .len 1 (.t 33), none⟩,
    ⟨some 35, .load 5 true (.t 3), none⟩,
    ⟨some 36, .call (.c (.fn n_list_With_api_Out [] [])) [(.t 32), (.t 34), (.t 35)], none⟩,
    ⟨some 4, .mv (.t 36), none⟩,
    ⟨some 5, .mv (.c (.int .i64 0)), none⟩])
  (.ret)))))
theorem k_outbox_Add : FnIs AP n_outbox_Add c_outbox_Add 37 (rsT [4, 5]) := fnIs_of (fn := Go.Proofs.Try.f11) Go.Proofs.Try.func11 (by kernel_rfl) (by kernel_rfl) (by kernel_rfl) (by kernel_rfl) (by kernel_rfl)
theorem a_outbox_Add {x0 x1 : V} {H : List Entry} {K : KV} (h : Wf H → awp AP H.length c_outbox_Add (finW H.length (rsT [4, 5]) K) ([x0, x1] ++ List.replicate 35 undefV) H) : BCall AP n_outbox_Add [x0, x1] H K := k_outbox_Add.call (by kernel_rfl) h
/-- tryst/trystref15.Add: 35 slots -/
def c_trystref15_Add : AC := .seq (.ops [⟨some 3, .box (.t 1), none⟩,
    ⟨some 4, .mv (.c (.nilsl)), none⟩,
    ⟨some 5, .mv (.c (.int .i64 0)), none⟩])
  (.seq (.seq (.ops [⟨some 7, .mv (.t 0), none⟩,
    ⟨some 8, .call (.c (.fn n_trystref15_May [] [])) [(.t 7)], none⟩,
    ⟨some 9, .un .not (.t 8), none⟩,
    ⟨some 10, .mv (.t 9), none⟩,
    ⟨some 11, .load 5 true (.t 3), some (10, false)⟩,
    ⟨some 12, .call (.c (.fn n_trystref15_Own [] [])) [(.t 11)], some (10, false)⟩,
    ⟨some 13, .un .not (.t 12), some (10, false)⟩,
    ⟨some 14, .pick (.t 10) (.c (.bool true)) (.t 13), none⟩])
  (.cond (.t 14) (.seq (.ops [⟨some 4, .mv (.c (.nilsl)), none⟩,
    ⟨some 5, .mv (.c (.int .i64 1)), none⟩])
  (.ret)) (.skip)))
  (.seq (.seq (.ops [⟨some 6, .mv (.c (.int .i64 0)), none⟩])
  (.block 0 (.loop (.seq (.seq (.ops [⟨some 15, .mv (.t 6), none⟩,
    ⟨some 16, .mv (.t 0), none⟩,
    ⟨some 17, .len 1 (.t 16), none⟩,
    ⟨some 18, .bin .lss (.t 15) (.t 17), none⟩])
  (.cond (.t 18) (.skip) (.exit 0)))
  (.seq (.block 1 (.seq (.draw [⟨some 21, .mv (.t 0), none⟩,
    ⟨some 22, .mv (.t 6), none⟩,
    ⟨some 23, .iad 5 true (.t 21) (.t 22), none⟩,
    ⟨some 24, .fad 0 (.t 23), none⟩,
    ⟨some 25, .load 1 false (.t 24), none⟩,
    ⟨some 26, .fad 0 (.t 3), none⟩,
    ⟨some 27, .load 1 false (.t 26), none⟩,
    ⟨some 28, .bin .geq (.t 25) (.t 27), none⟩])
  (.cond (.t 28) (.seq (.ops [⟨some 4, .mv (.c (.nilsl)), none⟩,
    ⟨some 5, .mv (.c (.int .i64 8)), none⟩])
  (.ret)) (.skip))))
  (.ops [⟨some 19, .mv (.t 6), none⟩,
    ⟨some 20, .bin .add (.t 19) (.c (.int .i64 1)), none⟩,
    ⟨some 6, .mv (.t 20), none⟩]))))))
  (.seq (.seq (.ops [⟨some 29, .mv (.t 0), none⟩,
    ⟨some 30, .len 1 (.t 29), none⟩,
    ⟨some 31, .bin .geq (.t 30) (.c (.int .i64 100)), none⟩])
  (.cond (.t 31) (.seq (.ops [⟨some 4, .mv (.c (.nilsl)), none⟩,
    ⟨some 5, .mv (.c (.int .i64 6)), none⟩])
  (.ret)) (.skip)))
  (.seq (.ops [⟨some 32, .mv (.t 0), none⟩,
    ⟨some 33, .load 5 true (.t 3), none⟩,
    ⟨some 34, .call (.c (.fn n_trystref15_With [] [])) [(.t 32), (.t 33)], none⟩,
    ⟨some 4, .mv (.t 34), none⟩,
    ⟨some 5, .mv (.c (.int .i64 0)), none⟩])
  (.ret)))))
theorem k_trystref15_Add : FnIs AP n_trystref15_Add c_trystref15_Add 35 (rsT [4, 5]) := fnIs_of (fn := Go.Proofs.Try.f12) Go.Proofs.Try.func12 (by kernel_rfl) (by kernel_rfl) (by kernel_rfl) (by kernel_rfl) (by kernel_rfl)
theorem a_trystref15_Add {x0 x1 : V} {H : List Entry} {K : KV} (h : Wf H → awp AP H.length c_trystref15_Add (finW H.length (rsT [4, 5]) K) ([x0, x1] ++ List.replicate 33 undefV) H) : BCall AP n_trystref15_Add [x0, x1] H K := k_trystref15_Add.call (by kernel_rfl) h
/-- tryst/outbox.Again: 40 slots -/
def c_outbox_Again : AC := .seq (.ops [⟨some 4, .box (.t 1), none⟩,
    ⟨some 6, .mv (.c (.nilsl)), none⟩,
    ⟨some 7, .mv (.c (.int .i64 0)), none⟩])
  (.seq (.seq (.ops [⟨some 9, .mv (.t 0), none⟩,
    ⟨some 10, .call (.c (.fn n_outbox_Check [] [])) [(.t 9)], none⟩,
    ⟨some 11, .bin .neq (.t 10) (.c (.int .i64 0)), none⟩,
    ⟨some 12, .mv (.t 11), none⟩,
    ⟨some 13, .mv (.t 2), some (12, false)⟩,
    ⟨some 14, .call (.c (.fn n_outbox_isTime [] [])) [(.t 13)], some (12, false)⟩,
    ⟨some 15, .un .not (.t 14), some (12, false)⟩,
    ⟨some 16, .pick (.t 12) (.c (.bool true)) (.t 15), none⟩,
    ⟨some 17, .mv (.t 16), none⟩,
    ⟨some 18, .load 5 true (.t 4), some (17, false)⟩,
    ⟨some 19, .call (.c (.fn n_outbox_may [] [])) [(.t 18)], some (17, false)⟩,
    ⟨some 20, .un .not (.t 19), some (17, false)⟩,
    ⟨some 21, .pick (.t 17) (.c (.bool true)) (.t 20), none⟩])
  (.cond (.t 21) (.seq (.ops [⟨some 6, .mv (.c (.nilsl)), none⟩,
    ⟨some 7, .mv (.c (.int .i64 1)), none⟩])
  (.ret)) (.skip)))
  (.seq (.seq (.ops [⟨some 22, .mv (.t 0), none⟩,
    ⟨some 23, .fad 0 (.t 4), none⟩,
    ⟨some 24, .load 1 false (.t 23), none⟩,
    ⟨some 25, .call (.c (.fn n_outbox_Find [] [])) [(.t 22), (.t 24)], none⟩,
    ⟨some 26, .bin .geq (.t 25) (.c (.int .i64 0)), none⟩])
  (.cond (.t 26) (.seq (.ops [⟨some 6, .mv (.c (.nilsl)), none⟩,
    ⟨some 7, .mv (.c (.int .i64 5)), none⟩])
  (.ret)) (.skip)))
  (.seq (.seq (.ops [⟨some 27, .mv (.t 0), none⟩,
    ⟨some 28, .len 1 (.t 27), none⟩,
    ⟨some 29, .bin .eql (.t 28) (.c (.int .i64 100)), none⟩])
  (.cond (.t 29) (.seq (.ops [⟨some 6, .mv (.c (.nilsl)), none⟩,
    ⟨some 7, .mv (.c (.int .i64 6)), none⟩])
  (.ret)) (.skip)))
  (.seq (.ops [⟨some 30, .fad 3 (.t 4), none⟩,
    ⟨none, .store 1 (.t 30) (.c (.int .i64 0)), none⟩])
  (.seq (.ops [⟨some 31, .mv (.t 2), none⟩,
    ⟨some 32, .fad 4 (.t 4), none⟩,
    ⟨none, .store 1 (.t 32) (.t 31), none⟩])
  (.seq (.ops [⟨some 33, .mv (.t 0), none⟩,
    ⟨some 34, .mkfn n_outbox_Again_1 [] [(.t 4)], none⟩,
    ⟨some 35, .call (.c (.fn n_list_Place_api_Out [] [])) [(.t 33), (.t 34)], none⟩,
    ⟨some 8, .mv (.t 35), none⟩])
  (.seq (.ops [⟨some 36, .mv (.t 0), none⟩,
    ⟨some 37, .mv (.t 8), none⟩,
    ⟨some 38, .load 5 true (.t 4), none⟩,
    ⟨some 39, .call (.c (.fn n_list_With_api_Out [] [])) [(.t 36), (.t 37), (.t 38)], none⟩,
    ⟨some 6, .mv (.t 39), none⟩,
    ⟨some 7, .mv (.c (.int .i64 0)), none⟩])
  (.ret))))))))
theorem k_outbox_Again : FnIs AP n_outbox_Again c_outbox_Again 40 (rsT [6, 7]) := fnIs_of (fn := Go.Proofs.Try.f13) Go.Proofs.Try.func13 (by kernel_rfl) (by kernel_rfl) (by kernel_rfl) (by kernel_rfl) (by kernel_rfl)
theorem a_outbox_Again {x0 x1 x2 : V} {H : List Entry} {K : KV} (h : Wf H → awp AP H.length c_outbox_Again (finW H.length (rsT [6, 7]) K) ([x0, x1, x2] ++ List.replicate 37 undefV) H) : BCall AP n_outbox_Again [x0, x1, x2] H K := k_outbox_Again.call (by kernel_rfl) h
/-- tryst/trystref15.Again: 38 slots -/
def c_trystref15_Again : AC := .seq (.ops [⟨some 4, .box (.t 1), none⟩,
    ⟨some 6, .mv (.c (.nilsl)), none⟩,
    ⟨some 7, .mv (.c (.int .i64 0)), none⟩])
  (.seq (.seq (.ops [⟨some 8, .mv (.t 0), none⟩,
    ⟨some 9, .call (.c (.fn n_trystref15_May [] [])) [(.t 8)], none⟩,
    ⟨some 10, .un .not (.t 9), none⟩,
    ⟨some 11, .mv (.t 10), none⟩,
    ⟨some 12, .load 5 true (.t 4), some (11, false)⟩,
    ⟨some 13, .call (.c (.fn n_trystref15_Own [] [])) [(.t 12)], some (11, false)⟩,
    ⟨some 14, .un .not (.t 13), some (11, false)⟩,
    ⟨some 15, .pick (.t 11) (.c (.bool true)) (.t 14), none⟩,
    ⟨some 16, .mv (.t 15), none⟩,
    ⟨some 17, .mv (.t 2), some (16, false)⟩,
    ⟨some 18, .bin .lss (.t 17) (.c (.int .i64 0)), some (16, false)⟩,
    ⟨some 19, .pick (.t 16) (.c (.bool true)) (.t 18), none⟩,
    ⟨some 20, .mv (.t 19), none⟩,
    ⟨some 21, .mv (.t 2), some (20, false)⟩,
    ⟨some 22, .bin .gtr (.t 21) (.c (.int .i64 1099511627775)), some (20, false)⟩,
    ⟨some 23, .pick (.t 20) (.c (.bool true)) (.t 22), none⟩])
  (.cond (.t 23) (.seq (.ops [⟨some 6, .mv (.c (.nilsl)), none⟩,
    ⟨some 7, .mv (.c (.int .i64 1)), none⟩])
  (.ret)) (.skip)))
  (.seq (.seq (.ops [⟨some 24, .mv (.t 0), none⟩,
    ⟨some 25, .fad 0 (.t 4), none⟩,
    ⟨some 26, .load 1 false (.t 25), none⟩,
    ⟨some 27, .call (.c (.fn n_trystref15_Find [] [])) [(.t 24), (.t 26)], none⟩,
    ⟨some 28, .bin .geq (.t 27) (.c (.int .i64 0)), none⟩])
  (.cond (.t 28) (.seq (.ops [⟨some 6, .mv (.c (.nilsl)), none⟩,
    ⟨some 7, .mv (.c (.int .i64 5)), none⟩])
  (.ret)) (.skip)))
  (.seq (.seq (.ops [⟨some 29, .mv (.t 0), none⟩,
    ⟨some 30, .len 1 (.t 29), none⟩,
    ⟨some 31, .bin .geq (.t 30) (.c (.int .i64 100)), none⟩])
  (.cond (.t 31) (.seq (.ops [⟨some 6, .mv (.c (.nilsl)), none⟩,
    ⟨some 7, .mv (.c (.int .i64 6)), none⟩])
  (.ret)) (.skip)))
  (.seq (.ops [⟨some 32, .fad 3 (.t 4), none⟩,
    ⟨none, .store 1 (.t 32) (.c (.int .i64 0)), none⟩])
  (.seq (.ops [⟨some 33, .mv (.t 2), none⟩,
    ⟨some 34, .fad 4 (.t 4), none⟩,
    ⟨none, .store 1 (.t 34) (.t 33), none⟩])
  (.seq (.ops [⟨some 35, .mv (.t 0), none⟩,
    ⟨some 36, .load 5 true (.t 4), none⟩,
    ⟨some 37, .call (.c (.fn n_trystref15_With [] [])) [(.t 35), (.t 36)], none⟩,
    ⟨some 6, .mv (.t 37), none⟩,
    ⟨some 7, .mv (.c (.int .i64 0)), none⟩])
  (.ret)))))))
theorem k_trystref15_Again : FnIs AP n_trystref15_Again c_trystref15_Again 38 (rsT [6, 7]) := fnIs_of (fn := Go.Proofs.Try.f14) Go.Proofs.Try.func14 (by kernel_rfl) (by kernel_rfl) (by kernel_rfl) (by kernel_rfl) (by kernel_rfl)
theorem a_trystref15_Again {x0 x1 x2 : V} {H : List Entry} {K : KV} (h : Wf H → awp AP H.length c_trystref15_Again (finW H.length (rsT [6, 7]) K) ([x0, x1, x2] ++ List.replicate 35 undefV) H) : BCall AP n_trystref15_Again [x0, x1, x2] H K := k_trystref15_Again.call (by kernel_rfl) h
/-- tryst/trystref15.Same: 27 slots -/
def c_trystref15_Same : AC := .seq (.ops [⟨some 4, .mv (.c (.bool false)), none⟩])
  (.seq (.seq (.ops [⟨some 6, .mv (.t 0), none⟩,
    ⟨some 7, .len 1 (.t 6), none⟩,
    ⟨some 8, .mv (.t 1), none⟩,
    ⟨some 9, .len 1 (.t 8), none⟩,
    ⟨some 10, .bin .neq (.t 7) (.t 9), none⟩])
  (.cond (.t 10) (.seq (.ops [⟨some 4, .mv (.c (.bool false)), none⟩])
  (.ret)) (.skip)))
  (.seq (.seq (.ops [⟨some 5, .mv (.c (.int .i64 0)), none⟩])
  (.block 0 (.loop (.seq (.seq (.ops [⟨some 11, .mv (.t 5), none⟩,
    ⟨some 12, .mv (.t 0), none⟩,
    ⟨some 13, .len 1 (.t 12), none⟩,
    ⟨some 14, .bin .lss (.t 11) (.t 13), none⟩])
  (.cond (.t 14) (.skip) (.exit 0)))
  (.seq (.block 1 (.seq (.draw [⟨some 17, .mv (.t 0), none⟩,
    ⟨some 18, .mv (.t 5), none⟩,
    ⟨some 19, .iad 5 true (.t 17) (.t 18), none⟩,
    ⟨some 20, .load 5 true (.t 19), none⟩,
    ⟨some 21, .mv (.t 1), none⟩,
    ⟨some 22, .mv (.t 5), none⟩,
    ⟨some 23, .iad 5 true (.t 21) (.t 22), none⟩,
    ⟨some 24, .load 5 true (.t 23), none⟩,
    ⟨some 25, .dcall (.c (.fn n_trystref15_SameOne [] [])) [(.t 20), (.t 24)], none⟩,
    ⟨some 26, .un .not (.t 25), none⟩])
  (.cond (.t 26) (.seq (.ops [⟨some 4, .mv (.c (.bool false)), none⟩])
  (.ret)) (.skip))))
  (.ops [⟨some 15, .mv (.t 5), none⟩,
    ⟨some 16, .bin .add (.t 15) (.c (.int .i64 1)), none⟩,
    ⟨some 5, .mv (.t 16), none⟩]))))))
  (.seq (.ops [⟨some 4, .mv (.c (.bool true)), none⟩])
  (.ret))))
theorem k_trystref15_Same : FnIs AP n_trystref15_Same c_trystref15_Same 27 (rsT [4]) := fnIs_of (fn := Go.Proofs.Try.f15) Go.Proofs.Try.func15 (by kernel_rfl) (by kernel_rfl) (by kernel_rfl) (by kernel_rfl) (by kernel_rfl)
theorem a_trystref15_Same {x0 x1 : V} {H : List Entry} {K : KV} (h : Wf H → awp AP H.length c_trystref15_Same (finW H.length (rsT [4]) K) ([x0, x1] ++ List.replicate 25 undefV) H) : BCall AP n_trystref15_Same [x0, x1] H K := k_trystref15_Same.call (by kernel_rfl) h
/-- tryst/outbox.Check: 19 slots -/
def c_outbox_Check : AC := .seq (.ops [⟨some 2, .mv (.c (.int .i64 0)), none⟩])
  (.seq (.ops [⟨some 3, .mv (.c (.fn n_outbox_Check_1 [] [])), none⟩])
  (.seq (.ops [⟨some 4, .mv (.c (.fn n_outbox_Check_2 [] [])), none⟩])
  (.seq (.seq (.ops [⟨some 5, .mv (.t 0), none⟩,
    ⟨some 6, .len 1 (.t 5), none⟩,
    ⟨some 7, .bin .gtr (.t 6) (.c (.int .i64 100)), none⟩,
    ⟨some 8, .mv (.t 7), none⟩,
    ⟨some 9, .mv (.t 0), some (8, false)⟩,
    ⟨some 10, .mv (.t 3), some (8, false)⟩,
    ⟨some 11, .call (.c (.fn n_slices_ContainsFunc_api_Out_api_Out [] [])) [(.t 9), (.t 10)], some (8, false)⟩,
    ⟨some 12, .pick (.t 8) (.c (.bool true)) (.t 11), none⟩,
    ⟨some 13, .mv (.t 12), none⟩,
    ⟨some 14, .mv (.t 0), some (13, false)⟩,
    ⟨some 15, .mv (.t 4), some (13, false)⟩,
    ⟨some 16, .call (.c (.fn n_list_Rises_api_Out [] [])) [(.t 14), (.t 15)], some (13, false)⟩,
    ⟨some 17, .un .not (.t 16), some (13, false)⟩,
    ⟨some 18, .pick (.t 13) (.c (.bool true)) (.t 17), none⟩])
  (.cond (.t 18) (.seq (.ops [⟨some 2, .mv (.c (.int .i64 1)), none⟩])
  (.ret)) (.skip)))
  (.seq (.ops [⟨some 2, .mv (.c (.int .i64 0)), none⟩])
  (.ret)))))
theorem k_outbox_Check : FnIs AP n_outbox_Check c_outbox_Check 19 (rsT [2]) := fnIs_of (fn := Go.Proofs.Try.f16) Go.Proofs.Try.func16 (by kernel_rfl) (by kernel_rfl) (by kernel_rfl) (by kernel_rfl) (by kernel_rfl)
theorem a_outbox_Check {x0 : V} {H : List Entry} {K : KV} (h : Wf H → awp AP H.length c_outbox_Check (finW H.length (rsT [2]) K) ([x0] ++ List.replicate 18 undefV) H) : BCall AP n_outbox_Check [x0] H K := k_outbox_Check.call (by kernel_rfl) h
/-- tryst/trystref15.May: 37 slots -/
def c_trystref15_May : AC := .seq (.ops [⟨some 2, .mv (.c (.bool false)), none⟩])
  (.seq (.seq (.ops [⟨some 3, .mv (.c (.int .i64 0)), none⟩])
  (.block 0 (.loop (.seq (.seq (.ops [⟨some 4, .mv (.t 3), none⟩,
    ⟨some 5, .mv (.t 0), none⟩,
    ⟨some 6, .len 1 (.t 5), none⟩,
    ⟨some 7, .bin .lss (.t 4) (.t 6), none⟩])
  (.cond (.t 7) (.skip) (.exit 0)))
  (.seq (.block 1 (.seq (.draw [⟨some 10, .mv (.t 0), none⟩,
    ⟨some 11, .mv (.t 3), none⟩,
    ⟨some 12, .iad 5 true (.t 10) (.t 11), none⟩,
    ⟨some 13, .load 5 true (.t 12), none⟩,
    ⟨some 14, .dcall (.c (.fn n_trystref15_Own [] [])) [(.t 13)], none⟩,
    ⟨some 15, .un .not (.t 14), none⟩,
    ⟨some 16, .mv (.t 15), none⟩,
    ⟨some 17, .mv (.t 3), some (16, false)⟩,
    ⟨some 18, .bin .gtr (.t 17) (.c (.int .i64 0)), some (16, false)⟩,
    ⟨some 19, .mv (.t 18), some (16, false)⟩,
    ⟨some 20, .mv (.t 0), some (19, true)⟩,
    ⟨some 21, .mv (.t 3), some (19, true)⟩,
    ⟨some 22, .bin .sub (.t 21) (.c (.int .i64 1)), some (19, true)⟩,
    ⟨some 23, .iad 5 true (.t 20) (.t 22), some (19, true)⟩,
    ⟨some 24, .fad 0 (.t 23), some (19, true)⟩,
    ⟨some 25, .load 1 false (.t 24), some (19, true)⟩,
    ⟨some 26, .mv (.t 0), some (19, true)⟩,
    ⟨some 27, .mv (.t 3), some (19, true)⟩,
    ⟨some 28, .iad 5 true (.t 26) (.t 27), some (19, true)⟩,
    ⟨some 29, .fad 0 (.t 28), some (19, true)⟩,
    ⟨some 30, .load 1 false (.t 29), some (19, true)⟩,
    ⟨some 31, .bin .geq (.t 25) (.t 30), some (19, true)⟩,
    ⟨some 32, .pick (.t 19) (.t 31) (.c (.bool false)), some (16, false)⟩,
    ⟨some 33, .pick (.t 16) (.c (.bool true)) (.t 32), none⟩])
  (.cond (.t 33) (.seq (.ops [⟨some 2, .mv (.c (.bool false)), none⟩])
  (.ret)) (.skip))))
  (.ops [⟨some 8, .mv (.t 3), none⟩,
    ⟨some 9, .bin .add (.t 8) (.c (.int .i64 1)), none⟩,
    ⟨some 3, .mv (.t 9), none⟩]))))))
  (.seq (.ops [⟨some 34, .mv (.t 0), none⟩,
    ⟨some 35, .len 1 (.t 34), none⟩,
    ⟨some 36, .bin .leq (.t 35) (.c (.int .i64 100)), none⟩,
    ⟨some 2, .mv (.t 36), none⟩])
  (.ret)))
theorem k_trystref15_May : FnIs AP n_trystref15_May c_trystref15_May 37 (rsT [2]) := fnIs_of (fn := Go.Proofs.Try.f17) Go.Proofs.Try.func17 (by kernel_rfl) (by kernel_rfl) (by kernel_rfl) (by kernel_rfl) (by kernel_rfl)
theorem a_trystref15_May {x0 : V} {H : List Entry} {K : KV} (h : Wf H → awp AP H.length c_trystref15_May (finW H.length (rsT [2]) K) ([x0] ++ List.replicate 36 undefV) H) : BCall AP n_trystref15_May [x0] H K := k_trystref15_May.call (by kernel_rfl) h
/-- tryst/outbox.Find: 8 slots -/
def c_outbox_Find : AC := .seq (.ops [⟨some 3, .box (.t 1), none⟩,
    ⟨some 4, .mv (.c (.int .i64 0)), none⟩])
  (.seq (.ops [⟨some 5, .mv (.t 0), none⟩,
    ⟨some 6, .mkfn n_outbox_Find_1 [] [(.t 3)], none⟩,
    ⟨some 7, .call (.c (.fn n_slices_IndexFunc_api_Out_api_Out [] [])) [(.t 5), (.t 6)], none⟩,
    ⟨some 4, .mv (.t 7), none⟩])
  (.ret))
theorem k_outbox_Find : FnIs AP n_outbox_Find c_outbox_Find 8 (rsT [4]) := fnIs_of (fn := Go.Proofs.Try.f18) Go.Proofs.Try.func18 (by kernel_rfl) (by kernel_rfl) (by kernel_rfl) (by kernel_rfl) (by kernel_rfl)
theorem a_outbox_Find {x0 x1 : V} {H : List Entry} {K : KV} (h : Wf H → awp AP H.length c_outbox_Find (finW H.length (rsT [4]) K) ([x0, x1] ++ List.replicate 6 undefV) H) : BCall AP n_outbox_Find [x0, x1] H K := k_outbox_Find.call (by kernel_rfl) h
/-- tryst/trystref15.Find: 20 slots -/
def c_trystref15_Find : AC := .seq (.ops [⟨some 4, .mv (.c (.int .i64 0)), none⟩])
  (.seq (.seq (.ops [⟨some 5, .mv (.c (.int .i64 0)), none⟩])
  (.block 0 (.loop (.seq (.seq (.ops [⟨some 6, .mv (.t 5), none⟩,
    ⟨some 7, .mv (.t 0), none⟩,
    ⟨some 8, .len 1 (.t 7), none⟩,
    ⟨some 9, .bin .lss (.t 6) (.t 8), none⟩])
  (.cond (.t 9) (.skip) (.exit 0)))
  (.seq (.block 1 (.seq (.ops [⟨some 12, .mv (.t 0), none⟩,
    ⟨some 13, .mv (.t 5), none⟩,
    ⟨some 14, .iad 5 true (.t 12) (.t 13), none⟩,
    ⟨some 15, .fad 0 (.t 14), none⟩,
    ⟨some 16, .load 1 false (.t 15), none⟩,
    ⟨some 17, .mv (.t 1), none⟩,
    ⟨some 18, .bin .eql (.t 16) (.t 17), none⟩])
  (.cond (.t 18) (.seq (.ops [⟨some 19, .mv (.t 5), none⟩,
    ⟨some 4, .mv (.t 19), none⟩])
  (.ret)) (.skip))))
  (.ops [⟨some 10, .mv (.t 5), none⟩,
    ⟨some 11, .bin .add (.t 10) (.c (.int .i64 1)), none⟩,
    ⟨some 5, .mv (.t 11), none⟩]))))))
  (.seq (.ops [⟨some 4, .mv (.c (.int .i64 (-1))), none⟩])
  (.ret)))
theorem k_trystref15_Find : FnIs AP n_trystref15_Find c_trystref15_Find 20 (rsT [4]) := fnIs_of (fn := Go.Proofs.Try.f19) Go.Proofs.Try.func19 (by kernel_rfl) (by kernel_rfl) (by kernel_rfl) (by kernel_rfl) (by kernel_rfl)
theorem a_trystref15_Find {x0 x1 : V} {H : List Entry} {K : KV} (h : Wf H → awp AP H.length c_trystref15_Find (finW H.length (rsT [4]) K) ([x0, x1] ++ List.replicate 18 undefV) H) : BCall AP n_trystref15_Find [x0, x1] H K := k_trystref15_Find.call (by kernel_rfl) h
/-- tryst/outbox.Same: 8 slots -/
def c_outbox_Same : AC := .seq (.ops [⟨some 4, .mv (.c (.bool false)), none⟩])
  (.seq (.ops [⟨some 5, .mv (.t 0), none⟩,
    ⟨some 6, .mv (.t 1), none⟩,
    ⟨some 7, .call (.c (.fn n_slices_EqualFunc_api_Out_api_Out_api_Out_api_Out [] [])) [(.t 5), (.t 6), (.c (.fn n_outbox_sameOut [] []))], none⟩,
    ⟨some 4, .mv (.t 7), none⟩])
  (.ret))
theorem k_outbox_Same : FnIs AP n_outbox_Same c_outbox_Same 8 (rsT [4]) := fnIs_of (fn := Go.Proofs.Try.f20) Go.Proofs.Try.func20 (by kernel_rfl) (by kernel_rfl) (by kernel_rfl) (by kernel_rfl) (by kernel_rfl)
theorem a_outbox_Same {x0 x1 : V} {H : List Entry} {K : KV} (h : Wf H → awp AP H.length c_outbox_Same (finW H.length (rsT [4]) K) ([x0, x1] ++ List.replicate 6 undefV) H) : BCall AP n_outbox_Same [x0, x1] H K := k_outbox_Same.call (by kernel_rfl) h
/-- tryst/trystlaw15.awake: 77 slots -/
def c_trystlaw15_awake : AC := .seq (.ops [⟨some 0, .mv (.c (.bool false)), none⟩])
  (.seq (.ops [⟨some 11, .bsl 1 false [(.c (.int .u64 7))], none⟩,
    ⟨some 12, .build [.int .u64 0, .str [], .nilsl, .int .i64 0, .int .i64 0] [(0, 1, (.c (.int .u64 1))), (1, 1, (.c (.str [115]))), (2, 1, (.t 11))], none⟩,
    ⟨some 13, .call (.c (.fn n_outbox_Add [] [])) [(.c (.nilsl)), (.t 12)], none⟩,
    ⟨some 10, .mv (.t 13), none⟩,
    ⟨some 14, .ext (.t 10) 0, none⟩,
    ⟨some 15, .ext (.t 10) 1, none⟩,
    ⟨some 1, .mv (.t 14), none⟩,
    ⟨some 2, .mv (.t 15), none⟩])
  (.seq (.seq (.ops [⟨some 3, .mv (.c (.int .i64 0)), none⟩])
  (.block 0 (.loop (.seq (.seq (.ops [⟨some 16, .mv (.t 3), none⟩,
    ⟨some 17, .bin .lss (.t 16) (.c (.int .i64 4)), none⟩])
  (.cond (.t 17) (.skip) (.exit 0)))
  (.seq (.block 1 (.seq (.ops [⟨some 21, .mv (.t 1), none⟩,
    ⟨some 22, .mv (.t 3), none⟩,
    ⟨some 23, .bin .add (.t 22) (.c (.int .i64 1)), none⟩,
    ⟨some 24, .bin .mul (.c (.int .i64 10)) (.t 23), none⟩,
    ⟨some 25, .call (.c (.fn n_outbox_Nack [] [])) [(.t 21), (.c (.int .u64 1)), (.t 24)], none⟩,
    ⟨some 20, .mv (.t 25), none⟩,
    ⟨some 26, .ext (.t 20) 0, none⟩,
    ⟨some 27, .ext (.t 20) 1, none⟩,
    ⟨some 28, .ext (.t 20) 2, none⟩,
    ⟨some 4, .mv (.t 26), none⟩,
    ⟨some 5, .mv (.t 27), none⟩,
    ⟨some 6, .mv (.t 28), none⟩])
  (.seq (.seq (.draw [⟨some 29, .mv (.t 5), none⟩,
    ⟨some 30, .mv (.t 29), none⟩,
    ⟨some 31, .mv (.t 6), some (30, false)⟩,
    ⟨some 32, .bin .neq (.t 31) (.c (.int .i64 0)), some (30, false)⟩,
    ⟨some 33, .pick (.t 30) (.c (.bool true)) (.t 32), none⟩,
    ⟨some 34, .mv (.t 33), none⟩,
    ⟨some 35, .mv (.t 4), some (34, false)⟩,
    ⟨some 36, .len 1 (.t 35), some (34, false)⟩,
    ⟨some 37, .bin .neq (.t 36) (.c (.int .i64 1)), some (34, false)⟩,
    ⟨some 38, .pick (.t 34) (.c (.bool true)) (.t 37), none⟩,
    ⟨some 39, .mv (.t 38), none⟩,
    ⟨some 40, .mv (.t 4), some (39, false)⟩,
    ⟨some 41, .iad 5 true (.t 40) (.c (.int .i64 0)), some (39, false)⟩,
    ⟨some 42, .fad 4 (.t 41), some (39, false)⟩,
    ⟨some 43, .load 1 false (.t 42), some (39, false)⟩,
    ⟨some 44, .mv (.t 3), some (39, false)⟩,
    ⟨some 45, .bin .add (.t 44) (.c (.int .i64 1)), some (39, false)⟩,
    ⟨some 46, .bin .mul (.c (.int .i64 10)) (.t 45), some (39, false)⟩,
    ⟨some 47, .mv (.t 3), some (39, false)⟩,
    ⟨some 48, .bin .shl (.c (.int .i64 2)) (.t 47), some (39, false)⟩,
    ⟨some 49, .bin .add (.t 46) (.t 48), some (39, false)⟩,
    ⟨some 50, .bin .neq (.t 43) (.t 49), some (39, false)⟩,
    ⟨some 51, .pick (.t 39) (.c (.bool true)) (.t 50), none⟩])
  (.cond (.t 51) (.seq (.ops [⟨some 0, .mv (.c (.bool false)), none⟩])
  (.ret)) (.skip)))
  (.ops [⟨some 52, .mv (.t 4), none⟩,
    ⟨some 1, .mv (.t 52), none⟩]))))
  (.ops [⟨some 18, .mv (.t 3), none⟩,
    ⟨some 19, .bin .add (.t 18) (.c (.int .i64 1)), none⟩,
    ⟨some 3, .mv (.t 19), none⟩]))))))
  (.seq (.ops [⟨some 54, .mv (.t 1), none⟩,
    ⟨some 55, .call (.c (.fn n_outbox_Nack [] [])) [(.t 54), (.c (.int .u64 1)), (.c (.int .i64 50))], none⟩,
    ⟨some 53, .mv (.t 55), none⟩,
    ⟨some 56, .ext (.t 53) 0, none⟩,
    ⟨some 57, .ext (.t 53) 1, none⟩,
    ⟨some 58, .ext (.t 53) 2, none⟩,
    ⟨some 7, .mv (.t 56), none⟩,
    ⟨some 8, .mv (.t 57), none⟩,
    ⟨some 9, .mv (.t 58), none⟩])
  (.seq (.ops [⟨some 59, .mv (.t 2), none⟩,
    ⟨some 60, .bin .eql (.t 59) (.c (.int .i64 0)), none⟩,
    ⟨some 61, .mv (.t 60), none⟩,
    ⟨some 62, .mv (.t 7), some (61, true)⟩,
    ⟨some 63, .len 1 (.t 62), some (61, true)⟩,
    ⟨some 64, .bin .eql (.t 63) (.c (.int .i64 0)), some (61, true)⟩,
    ⟨some 65, .pick (.t 61) (.t 64) (.c (.bool false)), none⟩,
    ⟨some 66, .mv (.t 65), none⟩,
    ⟨some 67, .mv (.t 8), some (66, true)⟩,
    ⟨some 68, .pick (.t 66) (.t 67) (.c (.bool false)), none⟩,
    ⟨some 69, .mv (.t 68), none⟩,
    ⟨some 70, .mv (.t 9), some (69, true)⟩,
    ⟨some 71, .bin .eql (.t 70) (.c (.int .i64 0)), some (69, true)⟩,
    ⟨some 72, .pick (.t 69) (.t 71) (.c (.bool false)), none⟩,
    ⟨some 73, .mv (.t 72), none⟩,
    ⟨some 74, .pick (.t 73) (.c (.bool true)) (.c (.bool false)), none⟩,
    ⟨some 75, .mv (.t 74), none⟩,
    ⟨some 76, .pick (.t 75) (.c (.bool true)) (.c (.bool false)), none⟩,
    ⟨some 0, .mv (.t 76), none⟩])
  (.ret)))))
theorem k_trystlaw15_awake : FnIs AP n_trystlaw15_awake c_trystlaw15_awake 77 (rsT [0]) := fnIs_of (fn := Go.Proofs.Try.f21) Go.Proofs.Try.func21 (by kernel_rfl) (by kernel_rfl) (by kernel_rfl) (by kernel_rfl) (by kernel_rfl)
theorem a_trystlaw15_awake {H : List Entry} {K : KV} (h : Wf H → awp AP H.length c_trystlaw15_awake (finW H.length (rsT [0]) K) ([] ++ List.replicate 77 undefV) H) : BCall AP n_trystlaw15_awake [] H K := k_trystlaw15_awake.call (by kernel_rfl) h
/-- tryst/outbox.Next: 29 slots -/
def c_outbox_Next : AC := .seq (.ops [⟨some 4, .alloc [.int .u64 0, .str [], .nilsl, .int .i64 0, .int .i64 0], none⟩,
    ⟨some 5, .mv (.c (.int .i64 0)), none⟩])
  (.seq (.seq (.ops [⟨some 8, .mv (.t 0), none⟩,
    ⟨some 9, .call (.c (.fn n_outbox_Check [] [])) [(.t 8)], none⟩,
    ⟨some 10, .bin .neq (.t 9) (.c (.int .i64 0)), none⟩])
  (.cond (.t 10) (.seq (.ops [⟨some 11, .build [.int .u64 0, .str [], .nilsl, .int .i64 0, .int .i64 0] [], none⟩,
    ⟨none, .store 5 (.t 4) (.t 11), none⟩,
    ⟨some 5, .mv (.c (.int .i64 1)), none⟩])
  (.ret)) (.skip)))
  (.seq (.ops [⟨some 13, .mv (.t 0), none⟩,
    ⟨some 14, .call (.c (.fn n_outbox_first [] [])) [(.t 13)], none⟩,
    ⟨some 12, .mv (.t 14), none⟩,
    ⟨some 15, .ext (.t 12) 0, none⟩,
    ⟨some 16, .ext (.t 12) 1, none⟩,
    ⟨some 6, .alloc [.int .i64 0, .int .u64 0, .int .u64 0, .str [], .nilsl, .int .i64 0, .int .i64 0], none⟩,
    ⟨none, .store 7 (.t 6) (.t 15), none⟩,
    ⟨some 7, .mv (.t 16), none⟩])
  (.seq (.seq (.ops [⟨some 17, .mv (.t 7), none⟩,
    ⟨some 18, .un .not (.t 17), none⟩,
    ⟨some 19, .mv (.t 18), none⟩,
    ⟨some 20, .fad 0 (.t 6), some (19, false)⟩,
    ⟨some 21, .fad 0 (.t 20), some (19, false)⟩,
    ⟨some 22, .load 1 false (.t 21), some (19, false)⟩,
    ⟨some 23, .mv (.t 1), some (19, false)⟩,
    ⟨some 24, .bin .gtr (.t 22) (.t 23), some (19, false)⟩,
    ⟨some 25, .pick (.t 19) (.c (.bool true)) (.t 24), none⟩])
  (.cond (.t 25) (.seq (.ops [⟨some 26, .build [.int .u64 0, .str [], .nilsl, .int .i64 0, .int .i64 0] [], none⟩,
    ⟨none, .store 5 (.t 4) (.t 26), none⟩,
    ⟨some 5, .mv (.c (.int .i64 4)), none⟩])
  (.ret)) (.skip)))
  (.seq (.ops [⟨some 27, .fad 2 (.t 6), none⟩,
    ⟨some 28, .load 5 true (.t 27), none⟩,
    ⟨none, .store 5 (.t 4) (.t 28), none⟩,
    ⟨some 5, .mv (.c (.int .i64 0)), none⟩])
  (.ret)))))
theorem k_outbox_Next : FnIs AP n_outbox_Next c_outbox_Next 29 [.cell 4 5 true, .tmp 5] := fnIs_of (fn := Go.Proofs.Try.f22) Go.Proofs.Try.func22 (by kernel_rfl) (by kernel_rfl) (by kernel_rfl) (by kernel_rfl) (by kernel_rfl)
theorem a_outbox_Next {x0 x1 : V} {H : List Entry} {K : KV} (h : Wf H → awp AP H.length c_outbox_Next (finW H.length [.cell 4 5 true, .tmp 5] K) ([x0, x1] ++ List.replicate 27 undefV) H) : BCall AP n_outbox_Next [x0, x1] H K := k_outbox_Next.call (by kernel_rfl) h
/-- tryst/trystref15.Next: 50 slots -/
def c_trystref15_Next : AC := .seq (.ops [⟨some 4, .alloc [.int .u64 0, .str [], .nilsl, .int .i64 0, .int .i64 0], none⟩,
    ⟨some 5, .mv (.c (.int .i64 0)), none⟩])
  (.seq (.seq (.ops [⟨some 8, .mv (.t 0), none⟩,
    ⟨some 9, .call (.c (.fn n_trystref15_May [] [])) [(.t 8)], none⟩,
    ⟨some 10, .un .not (.t 9), none⟩])
  (.cond (.t 10) (.seq (.ops [⟨some 11, .build [.int .u64 0, .str [], .nilsl, .int .i64 0, .int .i64 0] [], none⟩,
    ⟨none, .store 5 (.t 4) (.t 11), none⟩,
    ⟨some 5, .mv (.c (.int .i64 1)), none⟩])
  (.ret)) (.skip)))
  (.seq (.ops [⟨some 6, .mv (.c (.int .i64 (-1))), none⟩])
  (.seq (.seq (.ops [⟨some 7, .mv (.c (.int .i64 0)), none⟩])
  (.block 0 (.loop (.seq (.seq (.ops [⟨some 12, .mv (.t 7), none⟩,
    ⟨some 13, .mv (.t 0), none⟩,
    ⟨some 14, .len 1 (.t 13), none⟩,
    ⟨some 15, .bin .lss (.t 12) (.t 14), none⟩])
  (.cond (.t 15) (.skip) (.exit 0)))
  (.seq (.block 1 (.seq (.draw [⟨some 18, .mv (.t 0), none⟩,
    ⟨some 19, .mv (.t 7), none⟩,
    ⟨some 20, .iad 5 true (.t 18) (.t 19), none⟩,
    ⟨some 21, .fad 4 (.t 20), none⟩,
    ⟨some 22, .load 1 false (.t 21), none⟩,
    ⟨some 23, .mv (.t 1), none⟩,
    ⟨some 24, .bin .leq (.t 22) (.t 23), none⟩,
    ⟨some 25, .mv (.t 24), none⟩,
    ⟨some 26, .mv (.t 6), some (25, true)⟩,
    ⟨some 27, .bin .lss (.t 26) (.c (.int .i64 0)), some (25, true)⟩,
    ⟨some 28, .mv (.t 27), some (25, true)⟩,
    ⟨some 29, .mv (.t 0), some (28, false)⟩,
    ⟨some 30, .mv (.t 7), some (28, false)⟩,
    ⟨some 31, .iad 5 true (.t 29) (.t 30), some (28, false)⟩,
    ⟨some 32, .fad 4 (.t 31), some (28, false)⟩,
    ⟨some 33, .load 1 false (.t 32), some (28, false)⟩,
    ⟨some 34, .mv (.t 0), some (28, false)⟩,
    ⟨some 35, .mv (.t 6), some (28, false)⟩,
    ⟨some 36, .iad 5 true (.t 34) (.t 35), some (28, false)⟩,
    ⟨some 37, .fad 4 (.t 36), some (28, false)⟩,
    ⟨some 38, .load 1 false (.t 37), some (28, false)⟩,
    ⟨some 39, .bin .lss (.t 33) (.t 38), some (28, false)⟩,
    ⟨some 40, .pick (.t 28) (.c (.bool true)) (.t 39), some (25, true)⟩,
    ⟨some 41, .pick (.t 25) (.t 40) (.c (.bool false)), none⟩])
  (.cond (.t 41) (.ops [⟨some 42, .mv (.t 7), none⟩,
    ⟨some 6, .mv (.t 42), none⟩]) (.skip))))
  (.ops [⟨some 16, .mv (.t 7), none⟩,
    ⟨some 17, .bin .add (.t 16) (.c (.int .i64 1)), none⟩,
    ⟨some 7, .mv (.t 17), none⟩]))))))
  (.seq (.seq (.ops [⟨some 43, .mv (.t 6), none⟩,
    ⟨some 44, .bin .lss (.t 43) (.c (.int .i64 0)), none⟩])
  (.cond (.t 44) (.seq (.ops [⟨some 45, .build [.int .u64 0, .str [], .nilsl, .int .i64 0, .int .i64 0] [], none⟩,
    ⟨none, .store 5 (.t 4) (.t 45), none⟩,
    ⟨some 5, .mv (.c (.int .i64 4)), none⟩])
  (.ret)) (.skip)))
  (.seq (.ops [⟨some 46, .mv (.t 0), none⟩,
    ⟨some 47, .mv (.t 6), none⟩,
    ⟨some 48, .iad 5 true (.t 46) (.t 47), none⟩,
    ⟨some 49, .load 5 true (.t 48), none⟩,
    ⟨none, .store 5 (.t 4) (.t 49), none⟩,
    ⟨some 5, .mv (.c (.int .i64 0)), none⟩])
  (.ret))))))
theorem k_trystref15_Next : FnIs AP n_trystref15_Next c_trystref15_Next 50 [.cell 4 5 true, .tmp 5] := fnIs_of (fn := Go.Proofs.Try.f23) Go.Proofs.Try.func23 (by kernel_rfl) (by kernel_rfl) (by kernel_rfl) (by kernel_rfl) (by kernel_rfl)
theorem a_trystref15_Next {x0 x1 : V} {H : List Entry} {K : KV} (h : Wf H → awp AP H.length c_trystref15_Next (finW H.length [.cell 4 5 true, .tmp 5] K) ([x0, x1] ++ List.replicate 48 undefV) H) : BCall AP n_trystref15_Next [x0, x1] H K := k_trystref15_Next.call (by kernel_rfl) h
/-- tryst/outbox.Ack: 20 slots -/
def c_outbox_Ack : AC := .seq (.ops [⟨some 4, .mv (.c (.nilsl)), none⟩,
    ⟨some 5, .mv (.c (.int .i64 0)), none⟩])
  (.seq (.ops [⟨some 9, .mv (.t 0), none⟩,
    ⟨some 10, .mv (.t 1), none⟩,
    ⟨some 11, .call (.c (.fn n_outbox_find [] [])) [(.t 9), (.t 10)], none⟩,
    ⟨some 8, .mv (.t 11), none⟩,
    ⟨some 12, .ext (.t 8) 0, none⟩,
    ⟨some 13, .ext (.t 8) 1, none⟩,
    ⟨some 6, .mv (.t 12), none⟩,
    ⟨some 7, .mv (.t 13), none⟩])
  (.seq (.seq (.ops [⟨some 14, .mv (.t 7), none⟩,
    ⟨some 15, .bin .neq (.t 14) (.c (.int .i64 0)), none⟩])
  (.cond (.t 15) (.seq (.ops [⟨some 16, .mv (.t 7), none⟩,
    ⟨some 4, .mv (.c (.nilsl)), none⟩,
    ⟨some 5, .mv (.t 16), none⟩])
  (.ret)) (.skip)))
  (.seq (.ops [⟨some 17, .mv (.t 0), none⟩,
    ⟨some 18, .mv (.t 6), none⟩,
    ⟨some 19, .call (.c (.fn n_list_Without_api_Out [] [])) [(.t 17), (.t 18)], none⟩,
    ⟨some 4, .mv (.t 19), none⟩,
    ⟨some 5, .mv (.c (.int .i64 0)), none⟩])
  (.ret))))
theorem k_outbox_Ack : FnIs AP n_outbox_Ack c_outbox_Ack 20 (rsT [4, 5]) := fnIs_of (fn := Go.Proofs.Try.f24) Go.Proofs.Try.func24 (by kernel_rfl) (by kernel_rfl) (by kernel_rfl) (by kernel_rfl) (by kernel_rfl)
theorem a_outbox_Ack {x0 x1 : V} {H : List Entry} {K : KV} (h : Wf H → awp AP H.length c_outbox_Ack (finW H.length (rsT [4, 5]) K) ([x0, x1] ++ List.replicate 18 undefV) H) : BCall AP n_outbox_Ack [x0, x1] H K := k_outbox_Ack.call (by kernel_rfl) h
/-- tryst/trystref15.Ack: 36 slots -/
def c_trystref15_Ack : AC := .seq (.ops [⟨some 4, .mv (.c (.nilsl)), none⟩,
    ⟨some 5, .mv (.c (.int .i64 0)), none⟩])
  (.seq (.seq (.ops [⟨some 8, .mv (.t 0), none⟩,
    ⟨some 9, .call (.c (.fn n_trystref15_May [] [])) [(.t 8)], none⟩,
    ⟨some 10, .un .not (.t 9), none⟩])
  (.cond (.t 10) (.seq (.ops [⟨some 4, .mv (.c (.nilsl)), none⟩,
    ⟨some 5, .mv (.c (.int .i64 1)), none⟩])
  (.ret)) (.skip)))
  (.seq (.seq (.ops [⟨some 11, .mv (.t 0), none⟩,
    ⟨some 12, .mv (.t 1), none⟩,
    ⟨some 13, .call (.c (.fn n_trystref15_Find [] [])) [(.t 11), (.t 12)], none⟩,
    ⟨some 14, .bin .lss (.t 13) (.c (.int .i64 0)), none⟩])
  (.cond (.t 14) (.seq (.ops [⟨some 4, .mv (.c (.nilsl)), none⟩,
    ⟨some 5, .mv (.c (.int .i64 4)), none⟩])
  (.ret)) (.skip)))
  (.seq (.ops [⟨some 6, .mv (.c (.nilsl)), none⟩])
  (.seq (.seq (.ops [⟨some 7, .mv (.c (.int .i64 0)), none⟩])
  (.block 0 (.loop (.seq (.seq (.ops [⟨some 15, .mv (.t 7), none⟩,
    ⟨some 16, .mv (.t 0), none⟩,
    ⟨some 17, .len 1 (.t 16), none⟩,
    ⟨some 18, .bin .lss (.t 15) (.t 17), none⟩])
  (.cond (.t 18) (.skip) (.exit 0)))
  (.seq (.block 1 (.seq (.ops [⟨some 21, .mv (.t 0), none⟩,
    ⟨some 22, .mv (.t 7), none⟩,
    ⟨some 23, .iad 5 true (.t 21) (.t 22), none⟩,
    ⟨some 24, .fad 0 (.t 23), none⟩,
    ⟨some 25, .load 1 false (.t 24), none⟩,
    ⟨some 26, .mv (.t 1), none⟩,
    ⟨some 27, .bin .neq (.t 25) (.t 26), none⟩])
  (.cond (.t 27) (.ops [⟨some 28, .mv (.t 6), none⟩,
    ⟨some 29, .mv (.t 0), none⟩,
    ⟨some 30, .mv (.t 7), none⟩,
    ⟨some 31, .iad 5 true (.t 29) (.t 30), none⟩,
    ⟨some 32, .load 5 true (.t 31), none⟩,
    ⟨some 33, .bsl 5 true [(.t 32)], none⟩,
    ⟨some 34, .app 26 5 64 true (.t 28) (.t 33), none⟩,
    ⟨some 6, .mv (.t 34), none⟩]) (.skip))))
  (.ops [⟨some 19, .mv (.t 7), none⟩,
    ⟨some 20, .bin .add (.t 19) (.c (.int .i64 1)), none⟩,
    ⟨some 7, .mv (.t 20), none⟩]))))))
  (.seq (.ops [⟨some 35, .mv (.t 6), none⟩,
    ⟨some 4, .mv (.t 35), none⟩,
    ⟨some 5, .mv (.c (.int .i64 0)), none⟩])
  (.ret))))))
theorem k_trystref15_Ack : FnIs AP n_trystref15_Ack c_trystref15_Ack 36 (rsT [4, 5]) := fnIs_of (fn := Go.Proofs.Try.f25) Go.Proofs.Try.func25 (by kernel_rfl) (by kernel_rfl) (by kernel_rfl) (by kernel_rfl) (by kernel_rfl)
theorem a_trystref15_Ack {x0 x1 : V} {H : List Entry} {K : KV} (h : Wf H → awp AP H.length c_trystref15_Ack (finW H.length (rsT [4, 5]) K) ([x0, x1] ++ List.replicate 34 undefV) H) : BCall AP n_trystref15_Ack [x0, x1] H K := k_trystref15_Ack.call (by kernel_rfl) h
/-- tryst/outbox.Nack: 49 slots -/
def c_outbox_Nack : AC := .seq (.ops [⟨some 6, .mv (.c (.nilsl)), none⟩,
    ⟨some 7, .mv (.c (.bool false)), none⟩,
    ⟨some 8, .mv (.c (.int .i64 0)), none⟩])
  (.seq (.seq (.ops [⟨some 12, .mv (.t 2), none⟩,
    ⟨some 13, .call (.c (.fn n_outbox_isTime [] [])) [(.t 12)], none⟩,
    ⟨some 14, .un .not (.t 13), none⟩])
  (.cond (.t 14) (.seq (.ops [⟨some 6, .mv (.c (.nilsl)), none⟩,
    ⟨some 7, .mv (.c (.bool false)), none⟩,
    ⟨some 8, .mv (.c (.int .i64 1)), none⟩])
  (.ret)) (.skip)))
  (.seq (.ops [⟨some 16, .mv (.t 0), none⟩,
    ⟨some 17, .mv (.t 1), none⟩,
    ⟨some 18, .call (.c (.fn n_outbox_find [] [])) [(.t 16), (.t 17)], none⟩,
    ⟨some 15, .mv (.t 18), none⟩,
    ⟨some 19, .ext (.t 15) 0, none⟩,
    ⟨some 20, .ext (.t 15) 1, none⟩,
    ⟨some 9, .mv (.t 19), none⟩,
    ⟨some 10, .mv (.t 20), none⟩])
  (.seq (.seq (.ops [⟨some 21, .mv (.t 10), none⟩,
    ⟨some 22, .bin .neq (.t 21) (.c (.int .i64 0)), none⟩])
  (.cond (.t 22) (.seq (.ops [⟨some 23, .mv (.t 10), none⟩,
    ⟨some 6, .mv (.c (.nilsl)), none⟩,
    ⟨some 7, .mv (.c (.bool false)), none⟩,
    ⟨some 8, .mv (.t 23), none⟩])
  (.ret)) (.skip)))
  (.seq (.ops [⟨some 24, .mv (.t 0), none⟩,
    ⟨some 25, .mv (.t 9), none⟩,
    ⟨some 26, .iad 5 true (.t 24) (.t 25), none⟩,
    ⟨some 27, .load 5 true (.t 26), none⟩,
    ⟨some 11, .alloc [.int .u64 0, .str [], .nilsl, .int .i64 0, .int .i64 0], none⟩,
    ⟨none, .store 5 (.t 11) (.t 27), none⟩])
  (.seq (.ops [⟨some 28, .fad 3 (.t 11), none⟩,
    ⟨some 29, .load 1 false (.t 28), none⟩,
    ⟨some 30, .bin .add (.t 29) (.c (.int .i64 1)), none⟩,
    ⟨some 31, .fad 3 (.t 11), none⟩,
    ⟨none, .store 1 (.t 31) (.t 30), none⟩])
  (.seq (.seq (.ops [⟨some 32, .fad 3 (.t 11), none⟩,
    ⟨some 33, .load 1 false (.t 32), none⟩,
    ⟨some 34, .bin .eql (.t 33) (.c (.int .i64 5)), none⟩])
  (.cond (.t 34) (.seq (.ops [⟨some 35, .mv (.t 0), none⟩,
    ⟨some 36, .mv (.t 9), none⟩,
    ⟨some 37, .call (.c (.fn n_list_Without_api_Out [] [])) [(.t 35), (.t 36)], none⟩,
    ⟨some 6, .mv (.t 37), none⟩,
    ⟨some 7, .mv (.c (.bool true)), none⟩,
    ⟨some 8, .mv (.c (.int .i64 0)), none⟩])
  (.ret)) (.skip)))
  (.seq (.ops [⟨some 38, .mv (.t 2), none⟩,
    ⟨some 39, .fad 3 (.t 11), none⟩,
    ⟨some 40, .load 1 false (.t 39), none⟩,
    ⟨some 41, .bin .shl (.c (.int .i64 1)) (.t 40), none⟩,
    ⟨some 42, .bin .add (.t 38) (.t 41), none⟩,
    ⟨some 43, .mnx true [(.t 42), (.c (.int .i64 1099511627775))], none⟩,
    ⟨some 44, .fad 4 (.t 11), none⟩,
    ⟨none, .store 1 (.t 44) (.t 43), none⟩])
  (.seq (.ops [⟨some 45, .mv (.t 0), none⟩,
    ⟨some 46, .mv (.t 9), none⟩,
    ⟨some 47, .load 5 true (.t 11), none⟩,
    ⟨some 48, .call (.c (.fn n_list_Set_api_Out [] [])) [(.t 45), (.t 46), (.t 47)], none⟩,
    ⟨some 6, .mv (.t 48), none⟩,
    ⟨some 7, .mv (.c (.bool false)), none⟩,
    ⟨some 8, .mv (.c (.int .i64 0)), none⟩])
  (.ret)))))))))
theorem k_outbox_Nack : FnIs AP n_outbox_Nack c_outbox_Nack 49 (rsT [6, 7, 8]) := fnIs_of (fn := Go.Proofs.Try.f26) Go.Proofs.Try.func26 (by kernel_rfl) (by kernel_rfl) (by kernel_rfl) (by kernel_rfl) (by kernel_rfl)
theorem a_outbox_Nack {x0 x1 x2 : V} {H : List Entry} {K : KV} (h : Wf H → awp AP H.length c_outbox_Nack (finW H.length (rsT [6, 7, 8]) K) ([x0, x1, x2] ++ List.replicate 46 undefV) H) : BCall AP n_outbox_Nack [x0, x1, x2] H K := k_outbox_Nack.call (by kernel_rfl) h
/-- tryst/trystref15.Nack: 62 slots -/
def c_trystref15_Nack : AC := .seq (.ops [⟨some 6, .mv (.c (.nilsl)), none⟩,
    ⟨some 7, .mv (.c (.bool false)), none⟩,
    ⟨some 8, .mv (.c (.int .i64 0)), none⟩])
  (.seq (.seq (.ops [⟨some 13, .mv (.t 0), none⟩,
    ⟨some 14, .call (.c (.fn n_trystref15_May [] [])) [(.t 13)], none⟩,
    ⟨some 15, .un .not (.t 14), none⟩,
    ⟨some 16, .mv (.t 15), none⟩,
    ⟨some 17, .mv (.t 2), some (16, false)⟩,
    ⟨some 18, .bin .lss (.t 17) (.c (.int .i64 0)), some (16, false)⟩,
    ⟨some 19, .pick (.t 16) (.c (.bool true)) (.t 18), none⟩,
    ⟨some 20, .mv (.t 19), none⟩,
    ⟨some 21, .mv (.t 2), some (20, false)⟩,
    ⟨some 22, .bin .gtr (.t 21) (.c (.int .i64 1099511627775)), some (20, false)⟩,
    ⟨some 23, .pick (.t 20) (.c (.bool true)) (.t 22), none⟩])
  (.cond (.t 23) (.seq (.ops [⟨some 6, .mv (.c (.nilsl)), none⟩,
    ⟨some 7, .mv (.c (.bool false)), none⟩,
    ⟨some 8, .mv (.c (.int .i64 1)), none⟩])
  (.ret)) (.skip)))
  (.seq (.ops [⟨some 24, .mv (.t 0), none⟩,
    ⟨some 25, .mv (.t 1), none⟩,
    ⟨some 26, .call (.c (.fn n_trystref15_Find [] [])) [(.t 24), (.t 25)], none⟩,
    ⟨some 9, .mv (.t 26), none⟩])
  (.seq (.seq (.ops [⟨some 27, .mv (.t 9), none⟩,
    ⟨some 28, .bin .lss (.t 27) (.c (.int .i64 0)), none⟩])
  (.cond (.t 28) (.seq (.ops [⟨some 6, .mv (.c (.nilsl)), none⟩,
    ⟨some 7, .mv (.c (.bool false)), none⟩,
    ⟨some 8, .mv (.c (.int .i64 4)), none⟩])
  (.ret)) (.skip)))
  (.seq (.ops [⟨some 29, .mv (.t 0), none⟩,
    ⟨some 30, .mv (.t 9), none⟩,
    ⟨some 31, .iad 5 true (.t 29) (.t 30), none⟩,
    ⟨some 32, .load 5 true (.t 31), none⟩,
    ⟨some 10, .alloc [.int .u64 0, .str [], .nilsl, .int .i64 0, .int .i64 0], none⟩,
    ⟨none, .store 5 (.t 10) (.t 32), none⟩])
  (.seq (.seq (.ops [⟨some 33, .fad 3 (.t 10), none⟩,
    ⟨some 34, .load 1 false (.t 33), none⟩,
    ⟨some 35, .bin .eql (.t 34) (.c (.int .i64 4)), none⟩])
  (.cond (.t 35) (.seq (.ops [⟨some 37, .mv (.t 0), none⟩,
    ⟨some 38, .mv (.t 1), none⟩,
    ⟨some 39, .call (.c (.fn n_trystref15_Ack [] [])) [(.t 37), (.t 38)], none⟩,
    ⟨some 36, .mv (.t 39), none⟩,
    ⟨some 40, .ext (.t 36) 0, none⟩,
    ⟨some 41, .ext (.t 36) 1, none⟩,
    ⟨some 11, .mv (.t 40), none⟩,
    ⟨some 12, .mv (.t 41), none⟩])
  (.seq (.ops [⟨some 42, .mv (.t 11), none⟩,
    ⟨some 6, .mv (.t 42), none⟩,
    ⟨some 7, .mv (.c (.bool true)), none⟩,
    ⟨some 8, .mv (.c (.int .i64 0)), none⟩])
  (.ret))) (.skip)))
  (.seq (.ops [⟨some 43, .fad 3 (.t 10), none⟩,
    ⟨some 44, .load 1 false (.t 43), none⟩,
    ⟨some 45, .bin .add (.t 44) (.c (.int .i64 1)), none⟩,
    ⟨some 46, .fad 3 (.t 10), none⟩,
    ⟨none, .store 1 (.t 46) (.t 45), none⟩])
  (.seq (.ops [⟨some 47, .mv (.t 2), none⟩,
    ⟨some 48, .bsl 1 false [(.c (.int .i64 0)), (.c (.int .i64 2)), (.c (.int .i64 4)), (.c (.int .i64 8)), (.c (.int .i64 16))], none⟩,
    ⟨some 49, .fad 3 (.t 10), none⟩,
    ⟨some 50, .load 1 false (.t 49), none⟩,
    ⟨some 51, .iad 1 false (.t 48) (.t 50), none⟩,
    ⟨some 52, .load 1 false (.t 51), none⟩,
    ⟨some 53, .bin .add (.t 47) (.t 52), none⟩,
    ⟨some 54, .fad 4 (.t 10), none⟩,
    ⟨none, .store 1 (.t 54) (.t 53), none⟩])
  (.seq (.seq (.ops [⟨some 55, .fad 4 (.t 10), none⟩,
    ⟨some 56, .load 1 false (.t 55), none⟩,
    ⟨some 57, .bin .gtr (.t 56) (.c (.int .i64 1099511627775)), none⟩])
  (.cond (.t 57) (.ops [⟨some 58, .fad 4 (.t 10), none⟩,
    ⟨none, .store 1 (.t 58) (.c (.int .i64 1099511627775)), none⟩]) (.skip)))
  (.seq (.ops [⟨some 59, .mv (.t 0), none⟩,
    ⟨some 60, .load 5 true (.t 10), none⟩,
    ⟨some 61, .call (.c (.fn n_trystref15_With [] [])) [(.t 59), (.t 60)], none⟩,
    ⟨some 6, .mv (.t 61), none⟩,
    ⟨some 7, .mv (.c (.bool false)), none⟩,
    ⟨some 8, .mv (.c (.int .i64 0)), none⟩])
  (.ret))))))))))
theorem k_trystref15_Nack : FnIs AP n_trystref15_Nack c_trystref15_Nack 62 (rsT [6, 7, 8]) := fnIs_of (fn := Go.Proofs.Try.f27) Go.Proofs.Try.func27 (by kernel_rfl) (by kernel_rfl) (by kernel_rfl) (by kernel_rfl) (by kernel_rfl)
theorem a_trystref15_Nack {x0 x1 x2 : V} {H : List Entry} {K : KV} (h : Wf H → awp AP H.length c_trystref15_Nack (finW H.length (rsT [6, 7, 8]) K) ([x0, x1, x2] ++ List.replicate 59 undefV) H) : BCall AP n_trystref15_Nack [x0, x1, x2] H K := k_trystref15_Nack.call (by kernel_rfl) h
/-- tryst/trystref15.SameOne: 38 slots -/
def c_trystref15_SameOne : AC := .seq (.ops [⟨some 2, .box (.t 0), none⟩,
    ⟨some 3, .box (.t 1), none⟩,
    ⟨some 4, .mv (.c (.bool false)), none⟩])
  (.seq (.ops [⟨some 5, .fad 0 (.t 2), none⟩,
    ⟨some 6, .load 1 false (.t 5), none⟩,
    ⟨some 7, .fad 0 (.t 3), none⟩,
    ⟨some 8, .load 1 false (.t 7), none⟩,
    ⟨some 9, .bin .eql (.t 6) (.t 8), none⟩,
    ⟨some 10, .mv (.t 9), none⟩,
    ⟨some 11, .fad 1 (.t 2), some (10, true)⟩,
    ⟨some 12, .load 1 false (.t 11), some (10, true)⟩,
    ⟨some 13, .fad 1 (.t 3), some (10, true)⟩,
    ⟨some 14, .load 1 false (.t 13), some (10, true)⟩,
    ⟨some 15, .bin .eql (.t 12) (.t 14), some (10, true)⟩,
    ⟨some 16, .pick (.t 10) (.t 15) (.c (.bool false)), none⟩,
    ⟨some 17, .mv (.t 16), none⟩,
    ⟨some 18, .fad 3 (.t 2), some (17, true)⟩,
    ⟨some 19, .load 1 false (.t 18), some (17, true)⟩,
    ⟨some 20, .fad 3 (.t 3), some (17, true)⟩,
    ⟨some 21, .load 1 false (.t 20), some (17, true)⟩,
    ⟨some 22, .bin .eql (.t 19) (.t 21), some (17, true)⟩,
    ⟨some 23, .pick (.t 17) (.t 22) (.c (.bool false)), none⟩,
    ⟨some 24, .mv (.t 23), none⟩,
    ⟨some 25, .fad 4 (.t 2), some (24, true)⟩,
    ⟨some 26, .load 1 false (.t 25), some (24, true)⟩,
    ⟨some 27, .fad 4 (.t 3), some (24, true)⟩,
    ⟨some 28, .load 1 false (.t 27), some (24, true)⟩,
    ⟨some 29, .bin .eql (.t 26) (.t 28), some (24, true)⟩,
    ⟨some 30, .pick (.t 24) (.t 29) (.c (.bool false)), none⟩,
    ⟨some 31, .mv (.t 30), none⟩,
    ⟨some 32, .fad 2 (.t 2), some (31, true)⟩,
    ⟨some 33, .load 1 false (.t 32), some (31, true)⟩,
    ⟨some 34, .fad 2 (.t 3), some (31, true)⟩,
    ⟨some 35, .load 1 false (.t 34), some (31, true)⟩,
    ⟨some 36, .call (.c (.fn n_trystref11_Ids [] [])) [(.t 33), (.t 35)], some (31, true)⟩,
    ⟨some 37, .pick (.t 31) (.t 36) (.c (.bool false)), none⟩,
    ⟨some 4, .mv (.t 37), none⟩])
  (.ret))
theorem k_trystref15_SameOne : FnIs AP n_trystref15_SameOne c_trystref15_SameOne 38 (rsT [4]) := fnIs_of (fn := Go.Proofs.Try.f28) Go.Proofs.Try.func28 (by kernel_rfl) (by kernel_rfl) (by kernel_rfl) (by kernel_rfl) (by kernel_rfl)
theorem a_trystref15_SameOne {x0 x1 : V} {H : List Entry} {K : KV} (h : Wf H → awp AP H.length c_trystref15_SameOne (finW H.length (rsT [4]) K) ([x0, x1] ++ List.replicate 36 undefV) H) : BCall AP n_trystref15_SameOne [x0, x1] H K := k_trystref15_SameOne.call (by kernel_rfl) h
/-- tryst/trystlaw02.Few: 9 slots -/
def c_trystlaw02_Few : AC := .seq (.ops [⟨some 2, .mv (.c (.str [])), none⟩])
  (.seq (.seq (.ops [⟨some 3, .mv (.t 0), none⟩,
    ⟨some 4, .len 0 (.t 3), none⟩,
    ⟨some 5, .bin .gtr (.t 4) (.c (.int .i64 60)), none⟩])
  (.cond (.t 5) (.seq (.ops [⟨some 6, .mv (.t 0), none⟩,
    ⟨some 7, .sls (.t 6) none (some (.c (.int .i64 60))), none⟩,
    ⟨some 2, .mv (.t 7), none⟩])
  (.ret)) (.skip)))
  (.seq (.ops [⟨some 8, .mv (.t 0), none⟩,
    ⟨some 2, .mv (.t 8), none⟩])
  (.ret)))
theorem k_trystlaw02_Few : FnIs AP n_trystlaw02_Few c_trystlaw02_Few 9 (rsT [2]) := fnIs_of (fn := Go.Proofs.Try.f29) Go.Proofs.Try.func29 (by kernel_rfl) (by kernel_rfl) (by kernel_rfl) (by kernel_rfl) (by kernel_rfl)
theorem a_trystlaw02_Few {x0 : V} {H : List Entry} {K : KV} (h : Wf H → awp AP H.length c_trystlaw02_Few (finW H.length (rsT [2]) K) ([x0] ++ List.replicate 8 undefV) H) : BCall AP n_trystlaw02_Few [x0] H K := k_trystlaw02_Few.call (by kernel_rfl) h
/-- tryst/outbox.may: 38 slots -/
def c_outbox_may : AC := .seq (.ops [⟨some 1, .box (.t 0), none⟩,
    ⟨some 2, .mv (.c (.bool false)), none⟩])
  (.seq (.ops [⟨some 3, .fad 0 (.t 1), none⟩,
    ⟨some 4, .load 1 false (.t 3), none⟩,
    ⟨some 5, .bin .geq (.t 4) (.c (.int .u64 1)), none⟩,
    ⟨some 6, .mv (.t 5), none⟩,
    ⟨some 7, .fad 1 (.t 1), some (6, true)⟩,
    ⟨some 8, .load 1 false (.t 7), some (6, true)⟩,
    ⟨some 9, .call (.c (.fn n_event_Field [] [])) [(.t 8)], some (6, true)⟩,
    ⟨some 10, .pick (.t 6) (.t 9) (.c (.bool false)), none⟩,
    ⟨some 11, .mv (.t 10), none⟩,
    ⟨some 12, .fad 2 (.t 1), some (11, true)⟩,
    ⟨some 13, .load 1 false (.t 12), some (11, true)⟩,
    ⟨some 14, .len 1 (.t 13), some (11, true)⟩,
    ⟨some 15, .bin .geq (.t 14) (.c (.int .i64 1)), some (11, true)⟩,
    ⟨some 16, .pick (.t 11) (.t 15) (.c (.bool false)), none⟩,
    ⟨some 17, .mv (.t 16), none⟩,
    ⟨some 18, .fad 2 (.t 1), some (17, true)⟩,
    ⟨some 19, .load 1 false (.t 18), some (17, true)⟩,
    ⟨some 20, .len 1 (.t 19), some (17, true)⟩,
    ⟨some 21, .bin .leq (.t 20) (.c (.int .i64 30)), some (17, true)⟩,
    ⟨some 22, .pick (.t 17) (.t 21) (.c (.bool false)), none⟩,
    ⟨some 23, .mv (.t 22), none⟩,
    ⟨some 24, .fad 3 (.t 1), some (23, true)⟩,
    ⟨some 25, .load 1 false (.t 24), some (23, true)⟩,
    ⟨some 26, .bin .geq (.t 25) (.c (.int .i64 0)), some (23, true)⟩,
    ⟨some 27, .pick (.t 23) (.t 26) (.c (.bool false)), none⟩,
    ⟨some 28, .mv (.t 27), none⟩,
    ⟨some 29, .fad 3 (.t 1), some (28, true)⟩,
    ⟨some 30, .load 1 false (.t 29), some (28, true)⟩,
    ⟨some 31, .bin .lss (.t 30) (.c (.int .i64 5)), some (28, true)⟩,
    ⟨some 32, .pick (.t 28) (.t 31) (.c (.bool false)), none⟩,
    ⟨some 33, .mv (.t 32), none⟩,
    ⟨some 34, .fad 4 (.t 1), some (33, true)⟩,
    ⟨some 35, .load 1 false (.t 34), some (33, true)⟩,
    ⟨some 36, .call (.c (.fn n_outbox_isTime [] [])) [(.t 35)], some (33, true)⟩,
    ⟨some 37, .pick (.t 33) (.t 36) (.c (.bool false)), none⟩,
    ⟨some 2, .mv (.t 37), none⟩])
  (.ret))
theorem k_outbox_may : FnIs AP n_outbox_may c_outbox_may 38 (rsT [2]) := fnIs_of (fn := Go.Proofs.Try.f30) Go.Proofs.Try.func30 (by kernel_rfl) (by kernel_rfl) (by kernel_rfl) (by kernel_rfl) (by kernel_rfl)
theorem a_outbox_may {x0 : V} {H : List Entry} {K : KV} (h : Wf H → awp AP H.length c_outbox_may (finW H.length (rsT [2]) K) ([x0] ++ List.replicate 37 undefV) H) : BCall AP n_outbox_may [x0] H K := k_outbox_may.call (by kernel_rfl) h
/-- tryst/list.With[tryst/api.Out]: 17 slots -/
def c_list_With_api_Out : AC := .seq (.ops [⟨some 5, .box (.t 2), none⟩,
    ⟨some 6, .mv (.c (.nilsl)), none⟩])
  (.seq (.draw [⟨some 7, .mv (.t 0), none⟩,
    ⟨some 8, .mv (.t 1), none⟩,
    ⟨some 9, .slcm 5 (.t 7) none (some (.t 8)) none, none⟩,
    ⟨some 10, .load 5 true (.t 5), none⟩,
    ⟨some 11, .bslm 5 true [(.t 10)], none⟩,
    ⟨some 12, .mv (.t 0), none⟩,
    ⟨some 13, .mv (.t 1), none⟩,
    ⟨some 14, .slcm 5 (.t 12) (some (.t 13)) none none, none⟩,
    ⟨some 15, .bslm 1 false [(.t 9), (.t 11), (.t 14)], none⟩,
    ⟨some 16, .dcall (.c (.fn n_slices_Concat_api_Out_api_Out [] [])) [(.t 15)], none⟩,
    ⟨some 6, .mv (.t 16), none⟩])
  (.ret))
theorem k_list_With_api_Out : FnIs AP n_list_With_api_Out c_list_With_api_Out 17 (rsT [6]) := fnIs_of (fn := Go.Proofs.Try.f31) Go.Proofs.Try.func31 (by kernel_rfl) (by kernel_rfl) (by kernel_rfl) (by kernel_rfl) (by kernel_rfl)
theorem a_list_With_api_Out {x0 x1 x2 : V} {H : List Entry} {K : KV} (h : Wf H → awp AP H.length c_list_With_api_Out (finW H.length (rsT [6]) K) ([x0, x1, x2] ++ List.replicate 14 undefV) H) : BCall AP n_list_With_api_Out [x0, x1, x2] H K := k_list_With_api_Out.call (by kernel_rfl) h
/-- tryst/trystref15.Own: 43 slots -/
def c_trystref15_Own : AC := .seq (.ops [⟨some 1, .box (.t 0), none⟩,
    ⟨some 2, .mv (.c (.bool false)), none⟩])
  (.seq (.ops [⟨some 3, .fad 0 (.t 1), none⟩,
    ⟨some 4, .load 1 false (.t 3), none⟩,
    ⟨some 5, .bin .gtr (.t 4) (.c (.int .u64 0)), none⟩,
    ⟨some 6, .mv (.t 5), none⟩,
    ⟨some 7, .fad 1 (.t 1), some (6, true)⟩,
    ⟨some 8, .load 1 false (.t 7), some (6, true)⟩,
    ⟨some 9, .call (.c (.fn n_trystref04_Field [] [])) [(.t 8)], some (6, true)⟩,
    ⟨some 10, .pick (.t 6) (.t 9) (.c (.bool false)), none⟩,
    ⟨some 11, .mv (.t 10), none⟩,
    ⟨some 12, .fad 2 (.t 1), some (11, true)⟩,
    ⟨some 13, .load 1 false (.t 12), some (11, true)⟩,
    ⟨some 14, .len 1 (.t 13), some (11, true)⟩,
    ⟨some 15, .bin .leq (.c (.int .i64 1)) (.t 14), some (11, true)⟩,
    ⟨some 16, .pick (.t 11) (.t 15) (.c (.bool false)), none⟩,
    ⟨some 17, .mv (.t 16), none⟩,
    ⟨some 18, .fad 2 (.t 1), some (17, true)⟩,
    ⟨some 19, .load 1 false (.t 18), some (17, true)⟩,
    ⟨some 20, .len 1 (.t 19), some (17, true)⟩,
    ⟨some 21, .bin .leq (.t 20) (.c (.int .i64 30)), some (17, true)⟩,
    ⟨some 22, .pick (.t 17) (.t 21) (.c (.bool false)), none⟩,
    ⟨some 23, .mv (.t 22), none⟩,
    ⟨some 24, .fad 3 (.t 1), some (23, true)⟩,
    ⟨some 25, .load 1 false (.t 24), some (23, true)⟩,
    ⟨some 26, .bin .leq (.c (.int .i64 0)) (.t 25), some (23, true)⟩,
    ⟨some 27, .pick (.t 23) (.t 26) (.c (.bool false)), none⟩,
    ⟨some 28, .mv (.t 27), none⟩,
    ⟨some 29, .fad 3 (.t 1), some (28, true)⟩,
    ⟨some 30, .load 1 false (.t 29), some (28, true)⟩,
    ⟨some 31, .bin .leq (.t 30) (.c (.int .i64 4)), some (28, true)⟩,
    ⟨some 32, .pick (.t 28) (.t 31) (.c (.bool false)), none⟩,
    ⟨some 33, .mv (.t 32), none⟩,
    ⟨some 34, .fad 4 (.t 1), some (33, true)⟩,
    ⟨some 35, .load 1 false (.t 34), some (33, true)⟩,
    ⟨some 36, .bin .leq (.c (.int .i64 0)) (.t 35), some (33, true)⟩,
    ⟨some 37, .pick (.t 33) (.t 36) (.c (.bool false)), none⟩,
    ⟨some 38, .mv (.t 37), none⟩,
    ⟨some 39, .fad 4 (.t 1), some (38, true)⟩,
    ⟨some 40, .load 1 false (.t 39), some (38, true)⟩,
    ⟨some 41, .bin .leq (.t 40) (.c (.int .i64 1099511627775)), some (38, true)⟩,
    ⟨some 42, .pick (.t 38) (.t 41) (.c (.bool false)), none⟩,
    ⟨some 2, .mv (.t 42), none⟩])
  (.ret))
theorem k_trystref15_Own : FnIs AP n_trystref15_Own c_trystref15_Own 43 (rsT [2]) := fnIs_of (fn := Go.Proofs.Try.f32) Go.Proofs.Try.func32 (by kernel_rfl) (by kernel_rfl) (by kernel_rfl) (by kernel_rfl) (by kernel_rfl)
theorem a_trystref15_Own {x0 : V} {H : List Entry} {K : KV} (h : Wf H → awp AP H.length c_trystref15_Own (finW H.length (rsT [2]) K) ([x0] ++ List.replicate 42 undefV) H) : BCall AP n_trystref15_Own [x0] H K := k_trystref15_Own.call (by kernel_rfl) h
/-- tryst/trystref15.With: 55 slots -/
def c_trystref15_With : AC := .seq (.ops [⟨some 3, .box (.t 1), none⟩,
    ⟨some 4, .mv (.c (.nilsl)), none⟩])
  (.seq (.ops [⟨some 5, .mv (.c (.nilsl)), none⟩])
  (.seq (.seq (.ops [⟨some 6, .mv (.c (.int .i64 0)), none⟩])
  (.block 0 (.loop (.seq (.seq (.ops [⟨some 8, .mv (.t 6), none⟩,
    ⟨some 9, .mv (.t 0), none⟩,
    ⟨some 10, .len 1 (.t 9), none⟩,
    ⟨some 11, .bin .lss (.t 8) (.t 10), none⟩])
  (.cond (.t 11) (.skip) (.exit 0)))
  (.seq (.block 1 (.seq (.draw [⟨some 14, .mv (.t 0), none⟩,
    ⟨some 15, .mv (.t 6), none⟩,
    ⟨some 16, .iad 5 true (.t 14) (.t 15), none⟩,
    ⟨some 17, .fad 0 (.t 16), none⟩,
    ⟨some 18, .load 1 false (.t 17), none⟩,
    ⟨some 19, .fad 0 (.t 3), none⟩,
    ⟨some 20, .load 1 false (.t 19), none⟩,
    ⟨some 21, .bin .lss (.t 18) (.t 20), none⟩])
  (.cond (.t 21) (.ops [⟨some 22, .mv (.t 5), none⟩,
    ⟨some 23, .mv (.t 0), none⟩,
    ⟨some 24, .mv (.t 6), none⟩,
    ⟨some 25, .iad 5 true (.t 23) (.t 24), none⟩,
    ⟨some 26, .load 5 true (.t 25), none⟩,
    ⟨some 27, .bsl 5 true [(.t 26)], none⟩,
    ⟨some 28, .app 26 5 64 true (.t 22) (.t 27), none⟩,
    ⟨some 5, .mv (.t 28), none⟩]) (.skip))))
  (.ops [⟨some 12, .mv (.t 6), none⟩,
    ⟨some 13, .bin .add (.t 12) (.c (.int .i64 1)), none⟩,
    ⟨some 6, .mv (.t 13), none⟩]))))))
  (.seq (.ops [⟨some 29, .mv (.t 5), none⟩,
    ⟨some 30, .load 5 true (.t 3), none⟩,
    ⟨some 31, .bsl 5 true [(.t 30)], none⟩,
    ⟨some 32, .app 26 5 64 true (.t 29) (.t 31), none⟩,
    ⟨some 5, .mv (.t 32), none⟩])
  (.seq (.seq (.ops [⟨some 7, .mv (.c (.int .i64 0)), none⟩])
  (.block 2 (.loop (.seq (.seq (.ops [⟨some 33, .mv (.t 7), none⟩,
    ⟨some 34, .mv (.t 0), none⟩,
    ⟨some 35, .len 1 (.t 34), none⟩,
    ⟨some 36, .bin .lss (.t 33) (.t 35), none⟩])
  (.cond (.t 36) (.skip) (.exit 2)))
  (.seq (.block 3 (.seq (.draw [⟨some 39, .mv (.t 0), none⟩,
    ⟨some 40, .mv (.t 7), none⟩,
    ⟨some 41, .iad 5 true (.t 39) (.t 40), none⟩,
    ⟨some 42, .fad 0 (.t 41), none⟩,
    ⟨some 43, .load 1 false (.t 42), none⟩,
    ⟨some 44, .fad 0 (.t 3), none⟩,
    ⟨some 45, .load 1 false (.t 44), none⟩,
    ⟨some 46, .bin .gtr (.t 43) (.t 45), none⟩])
  (.cond (.t 46) (.ops [⟨some 47, .mv (.t 5), none⟩,
    ⟨some 48, .mv (.t 0), none⟩,
    ⟨some 49, .mv (.t 7), none⟩,
    ⟨some 50, .iad 5 true (.t 48) (.t 49), none⟩,
    ⟨some 51, .load 5 true (.t 50), none⟩,
    ⟨some 52, .bsl 5 true [(.t 51)], none⟩,
    ⟨some 53, .app 26 5 64 true (.t 47) (.t 52), none⟩,
    ⟨some 5, .mv (.t 53), none⟩]) (.skip))))
  (.ops [⟨some 37, .mv (.t 7), none⟩,
    ⟨some 38, .bin .add (.t 37) (.c (.int .i64 1)), none⟩,
    ⟨some 7, .mv (.t 38), none⟩]))))))
  (.seq (.ops [⟨some 54, .mv (.t 5), none⟩,
    ⟨some 4, .mv (.t 54), none⟩])
  (.ret))))))
theorem k_trystref15_With : FnIs AP n_trystref15_With c_trystref15_With 55 (rsT [4]) := fnIs_of (fn := Go.Proofs.Try.f33) Go.Proofs.Try.func33 (by kernel_rfl) (by kernel_rfl) (by kernel_rfl) (by kernel_rfl) (by kernel_rfl)
theorem a_trystref15_With {x0 x1 : V} {H : List Entry} {K : KV} (h : Wf H → awp AP H.length c_trystref15_With (finW H.length (rsT [4]) K) ([x0, x1] ++ List.replicate 53 undefV) H) : BCall AP n_trystref15_With [x0, x1] H K := k_trystref15_With.call (by kernel_rfl) h
/-- tryst/outbox.isTime: 9 slots -/
def c_outbox_isTime : AC := .seq (.ops [⟨some 2, .mv (.c (.bool false)), none⟩])
  (.seq (.ops [⟨some 3, .mv (.t 0), none⟩,
    ⟨some 4, .bin .geq (.t 3) (.c (.int .i64 0)), none⟩,
    ⟨some 5, .mv (.t 4), none⟩,
    ⟨some 6, .mv (.t 0), some (5, true)⟩,
    ⟨some 7, .bin .leq (.t 6) (.c (.int .i64 1099511627775)), some (5, true)⟩,
    ⟨some 8, .pick (.t 5) (.t 7) (.c (.bool false)), none⟩,
    ⟨some 2, .mv (.t 8), none⟩])
  (.ret))
theorem k_outbox_isTime : FnIs AP n_outbox_isTime c_outbox_isTime 9 (rsT [2]) := fnIs_of (fn := Go.Proofs.Try.f34) Go.Proofs.Try.func34 (by kernel_rfl) (by kernel_rfl) (by kernel_rfl) (by kernel_rfl) (by kernel_rfl)
theorem a_outbox_isTime {x0 : V} {H : List Entry} {K : KV} (h : Wf H → awp AP H.length c_outbox_isTime (finW H.length (rsT [2]) K) ([x0] ++ List.replicate 8 undefV) H) : BCall AP n_outbox_isTime [x0] H K := k_outbox_isTime.call (by kernel_rfl) h
/-- tryst/list.Place[tryst/api.Out]: 14 slots -/
def c_list_Place_api_Out : AC := .seq (.ops [⟨some 4, .mv (.c (.int .i64 0)), none⟩])
  (.seq (.seq (.ops [⟨some 6, .mv (.t 0), none⟩,
    ⟨some 7, .mv (.t 1), none⟩,
    ⟨some 8, .call (.c (.fn n_slices_IndexFunc_api_Out_api_Out [] [])) [(.t 6), (.t 7)], none⟩,
    ⟨some 5, .mv (.t 8), none⟩])
  (.seq (.ops [⟨some 9, .mv (.t 5), none⟩,
    ⟨some 10, .bin .geq (.t 9) (.c (.int .i64 0)), none⟩])
  (.cond (.t 10) (.seq (.ops [⟨some 11, .mv (.t 5), none⟩,
    ⟨some 4, .mv (.t 11), none⟩])
  (.ret)) (.skip))))
  (.seq (.ops [⟨some 12, .mv (.t 0), none⟩,
    ⟨some 13, .len 1 (.t 12), none⟩,
    ⟨some 4, .mv (.t 13), none⟩])
  (.ret)))
theorem k_list_Place_api_Out : FnIs AP n_list_Place_api_Out c_list_Place_api_Out 14 (rsT [4]) := fnIs_of (fn := Go.Proofs.Try.f35) Go.Proofs.Try.func35 (by kernel_rfl) (by kernel_rfl) (by kernel_rfl) (by kernel_rfl) (by kernel_rfl)
theorem a_list_Place_api_Out {x0 x1 : V} {H : List Entry} {K : KV} (h : Wf H → awp AP H.length c_list_Place_api_Out (finW H.length (rsT [4]) K) ([x0, x1] ++ List.replicate 12 undefV) H) : BCall AP n_list_Place_api_Out [x0, x1] H K := k_list_Place_api_Out.call (by kernel_rfl) h
/-- tryst/outbox.Again$1: 9 slots -/
def c_outbox_Again_1 : AC := .seq (.ops [⟨some 2, .box (.t 0), none⟩,
    ⟨some 3, .mv (.c (.bool false)), none⟩])
  (.seq (.ops [⟨some 4, .fad 0 (.t 2), none⟩,
    ⟨some 5, .load 1 false (.t 4), none⟩,
    ⟨some 6, .fad 0 (.t 1), none⟩,
    ⟨some 7, .load 1 false (.t 6), none⟩,
    ⟨some 8, .bin .gtr (.t 5) (.t 7), none⟩,
    ⟨some 3, .mv (.t 8), none⟩])
  (.ret))
theorem k_outbox_Again_1 : FnIs AP n_outbox_Again_1 c_outbox_Again_1 9 (rsT [3]) := fnIs_of (fn := Go.Proofs.Try.f36) Go.Proofs.Try.func36 (by kernel_rfl) (by kernel_rfl) (by kernel_rfl) (by kernel_rfl) (by kernel_rfl)
theorem a_outbox_Again_1 {x0 x1 : V} {H : List Entry} {K : KV} (h : Wf H → awp AP H.length c_outbox_Again_1 (finW H.length (rsT [3]) K) ([x0, x1] ++ List.replicate 7 undefV) H) : BCall AP n_outbox_Again_1 [x0, x1] H K := k_outbox_Again_1.call (by kernel_rfl) h
/-- tryst/outbox.Check$1: 6 slots -/
def c_outbox_Check_1 : AC := .seq (.ops [⟨some 1, .box (.t 0), none⟩,
    ⟨some 2, .mv (.c (.bool false)), none⟩])
  (.seq (.ops [⟨some 3, .load 5 true (.t 1), none⟩,
    ⟨some 4, .call (.c (.fn n_outbox_may [] [])) [(.t 3)], none⟩,
    ⟨some 5, .un .not (.t 4), none⟩,
    ⟨some 2, .mv (.t 5), none⟩])
  (.ret))
theorem k_outbox_Check_1 : FnIs AP n_outbox_Check_1 c_outbox_Check_1 6 (rsT [2]) := fnIs_of (fn := Go.Proofs.Try.f37) Go.Proofs.Try.func37 (by kernel_rfl) (by kernel_rfl) (by kernel_rfl) (by kernel_rfl) (by kernel_rfl)
theorem a_outbox_Check_1 {x0 : V} {H : List Entry} {K : KV} (h : Wf H → awp AP H.length c_outbox_Check_1 (finW H.length (rsT [2]) K) ([x0] ++ List.replicate 5 undefV) H) : BCall AP n_outbox_Check_1 [x0] H K := k_outbox_Check_1.call (by kernel_rfl) h
/-- tryst/outbox.Check$2: 10 slots -/
def c_outbox_Check_2 : AC := .seq (.ops [⟨some 2, .box (.t 0), none⟩,
    ⟨some 3, .box (.t 1), none⟩,
    ⟨some 4, .mv (.c (.int .i64 0)), none⟩])
  (.seq (.ops [⟨some 5, .fad 0 (.t 2), none⟩,
    ⟨some 6, .load 1 false (.t 5), none⟩,
    ⟨some 7, .fad 0 (.t 3), none⟩,
    ⟨some 8, .load 1 false (.t 7), none⟩,
    ⟨some 9, .call (.c (.fn n_cmp_Compare_uint64 [] [])) [(.t 6), (.t 8)], none⟩,
    ⟨some 4, .mv (.t 9), none⟩])
  (.ret))
theorem k_outbox_Check_2 : FnIs AP n_outbox_Check_2 c_outbox_Check_2 10 (rsT [4]) := fnIs_of (fn := Go.Proofs.Try.f38) Go.Proofs.Try.func38 (by kernel_rfl) (by kernel_rfl) (by kernel_rfl) (by kernel_rfl) (by kernel_rfl)
theorem a_outbox_Check_2 {x0 x1 : V} {H : List Entry} {K : KV} (h : Wf H → awp AP H.length c_outbox_Check_2 (finW H.length (rsT [4]) K) ([x0, x1] ++ List.replicate 8 undefV) H) : BCall AP n_outbox_Check_2 [x0, x1] H K := k_outbox_Check_2.call (by kernel_rfl) h
/-- cmp.Compare[uint64]: 20 slots -/
def c_cmp_Compare_uint64 : AC := .seq (.ops [⟨some 4, .mv (.c (.int .i64 0)), none⟩])
  (.seq (.ops [⟨some 7, .mv (.t 0), none⟩,
    ⟨some 8, .call (.c (.fn n_cmp_isNaN_uint64 [] [])) [(.t 7)], none⟩,
    ⟨some 5, .mv (.t 8), none⟩])
  (.seq (.ops [⟨some 9, .mv (.t 1), none⟩,
    ⟨some 10, .call (.c (.fn n_cmp_isNaN_uint64 [] [])) [(.t 9)], none⟩,
    ⟨some 6, .mv (.t 10), none⟩])
  (.seq (.seq (.ops [⟨some 11, .mv (.t 5), none⟩])
  (.cond (.t 11) (.seq (.seq (.ops [⟨some 12, .mv (.t 6), none⟩])
  (.cond (.t 12) (.seq (.ops [⟨some 4, .mv (.c (.int .i64 0)), none⟩])
  (.ret)) (.skip)))
  (.seq (.ops [⟨some 4, .mv (.c (.int .i64 (-1))), none⟩])
  (.ret))) (.skip)))
  (.seq (.seq (.ops [⟨some 13, .mv (.t 6), none⟩])
  (.cond (.t 13) (.seq (.ops [⟨some 4, .mv (.c (.int .i64 1)), none⟩])
  (.ret)) (.skip)))
  (.seq (.seq (.ops [⟨some 14, .mv (.t 0), none⟩,
    ⟨some 15, .mv (.t 1), none⟩,
    ⟨some 16, .bin .lss (.t 14) (.t 15), none⟩])
  (.cond (.t 16) (.seq (.ops [⟨some 4, .mv (.c (.int .i64 (-1))), none⟩])
  (.ret)) (.skip)))
  (.seq (.seq (.ops [⟨some 17, .mv (.t 0), none⟩,
    ⟨some 18, .mv (.t 1), none⟩,
    ⟨some 19, .bin .gtr (.t 17) (.t 18), none⟩])
  (.cond (.t 19) (.seq (.ops [⟨some 4, .mv (.c (.int .i64 1)), none⟩])
  (.ret)) (.skip)))
  (.seq (.ops [⟨some 4, .mv (.c (.int .i64 0)), none⟩])
  (.ret))))))))
theorem k_cmp_Compare_uint64 : FnIs AP n_cmp_Compare_uint64 c_cmp_Compare_uint64 20 (rsT [4]) := fnIs_of (fn := Go.Proofs.Try.f39) Go.Proofs.Try.func39 (by kernel_rfl) (by kernel_rfl) (by kernel_rfl) (by kernel_rfl) (by kernel_rfl)
theorem a_cmp_Compare_uint64 {x0 x1 : V} {H : List Entry} {K : KV} (h : Wf H → awp AP H.length c_cmp_Compare_uint64 (finW H.length (rsT [4]) K) ([x0, x1] ++ List.replicate 18 undefV) H) : BCall AP n_cmp_Compare_uint64 [x0, x1] H K := k_cmp_Compare_uint64.call (by kernel_rfl) h
/-- slices.ContainsFunc[[]tryst/api.Out,tryst/api.Out]: 9 slots -/
def c_slices_ContainsFunc_api_Out_api_Out : AC := .seq (.ops [⟨some 4, .mv (.c (.bool false)), none⟩])
  (.seq (.ops [⟨some 5, .mv (.t 0), none⟩,
    ⟨some 6, .mv (.t 1), none⟩,
    ⟨some 7, .call (.c (.fn n_slices_IndexFunc_api_Out_api_Out [] [])) [(.t 5), (.t 6)], none⟩,
    ⟨some 8, .bin .geq (.t 7) (.c (.int .i64 0)), none⟩,
    ⟨some 4, .mv (.t 8), none⟩])
  (.ret))
theorem k_slices_ContainsFunc_api_Out_api_Out : FnIs AP n_slices_ContainsFunc_api_Out_api_Out c_slices_ContainsFunc_api_Out_api_Out 9 (rsT [4]) := fnIs_of (fn := Go.Proofs.Try.f40) Go.Proofs.Try.func40 (by kernel_rfl) (by kernel_rfl) (by kernel_rfl) (by kernel_rfl) (by kernel_rfl)
theorem a_slices_ContainsFunc_api_Out_api_Out {x0 x1 : V} {H : List Entry} {K : KV} (h : Wf H → awp AP H.length c_slices_ContainsFunc_api_Out_api_Out (finW H.length (rsT [4]) K) ([x0, x1] ++ List.replicate 7 undefV) H) : BCall AP n_slices_ContainsFunc_api_Out_api_Out [x0, x1] H K := k_slices_ContainsFunc_api_Out_api_Out.call (by kernel_rfl) h
/-- tryst/list.Rises[tryst/api.Out]: 24 slots -/
def c_list_Rises_api_Out : AC := .seq (.ops [⟨some 4, .mv (.c (.bool false)), none⟩])
  (.seq (.seq (.ops [⟨some 5, .mv (.c (.int .i64 1)), none⟩])
  (.block 0 (.loop (.seq (.seq (.ops [⟨some 6, .mv (.t 5), none⟩,
    ⟨some 7, .mv (.t 0), none⟩,
    ⟨some 8, .len 1 (.t 7), none⟩,
    ⟨some 9, .bin .lss (.t 6) (.t 8), none⟩])
  (.cond (.t 9) (.skip) (.exit 0)))
  (.seq (.block 1 (.seq (.draw [⟨some 12, .mv (.t 1), none⟩,
    ⟨some 13, .mv (.t 0), none⟩,
    ⟨some 14, .mv (.t 5), none⟩,
    ⟨some 15, .bin .sub (.t 14) (.c (.int .i64 1)), none⟩,
    ⟨some 16, .iad 5 true (.t 13) (.t 15), none⟩,
    ⟨some 17, .load 5 true (.t 16), none⟩,
    ⟨some 18, .mv (.t 0), none⟩,
    ⟨some 19, .mv (.t 5), none⟩,
    ⟨some 20, .iad 5 true (.t 18) (.t 19), none⟩,
    ⟨some 21, .load 5 true (.t 20), none⟩,
    ⟨some 22, .dcall (.t 12) [(.t 17), (.t 21)], none⟩,
    ⟨some 23, .bin .geq (.t 22) (.c (.int .i64 0)), none⟩])
  (.cond (.t 23) (.seq (.ops [⟨some 4, .mv (.c (.bool false)), none⟩])
  (.ret)) (.skip))))
  (.ops [⟨some 10, .mv (.t 5), none⟩,
    ⟨some 11, .bin .add (.t 10) (.c (.int .i64 1)), none⟩,
    ⟨some 5, .mv (.t 11), none⟩]))))))
  (.seq (.ops [⟨some 4, .mv (.c (.bool true)), none⟩])
  (.ret)))
theorem k_list_Rises_api_Out : FnIs AP n_list_Rises_api_Out c_list_Rises_api_Out 24 (rsT [4]) := fnIs_of (fn := Go.Proofs.Try.f41) Go.Proofs.Try.func41 (by kernel_rfl) (by kernel_rfl) (by kernel_rfl) (by kernel_rfl) (by kernel_rfl)
theorem a_list_Rises_api_Out {x0 x1 : V} {H : List Entry} {K : KV} (h : Wf H → awp AP H.length c_list_Rises_api_Out (finW H.length (rsT [4]) K) ([x0, x1] ++ List.replicate 22 undefV) H) : BCall AP n_list_Rises_api_Out [x0, x1] H K := k_list_Rises_api_Out.call (by kernel_rfl) h
/-- slices.IndexFunc[[]tryst/api.Out,tryst/api.Out]: 19 slots -/
def c_slices_IndexFunc_api_Out_api_Out : AC := .seq (.ops [⟨some 4, .mv (.c (.int .i64 0)), none⟩])
  (.seq (.seq (.ops [⟨some 6, .mv (.t 0), none⟩,
    ⟨some 7, .len 1 (.t 6), none⟩,
    ⟨some 8, .mv (.c (.int .i64 0)), none⟩])
  (.block 0 (.loop (.seq (.ops [⟨some 9, .bin .lss (.t 8) (.t 7), none⟩])
  (.seq (.cond (.t 9) (.skip) (.exit 0))
  (.seq (.block 1 (.seq (.ops [⟨some 10, .mv (.t 8), none⟩,
    ⟨some 5, .mv (.t 10), none⟩])
  (.seq (.ops [⟨some 11, .mv (.t 1), none⟩,
    ⟨some 12, .mv (.t 0), none⟩,
    ⟨some 13, .mv (.t 5), none⟩,
    ⟨some 14, .iad 5 true (.t 12) (.t 13), none⟩,
    ⟨some 15, .load 5 true (.t 14), none⟩,
    ⟨some 16, .call (.t 11) [(.t 15)], none⟩])
  (.cond (.t 16) (.seq (.ops [⟨some 17, .mv (.t 5), none⟩,
    ⟨some 4, .mv (.t 17), none⟩])
  (.ret)) (.skip)))))
  (.ops [⟨some 18, .bin .add (.t 8) (.c (.int .i64 1)), none⟩,
    ⟨some 8, .mv (.t 18), none⟩])))))))
  (.seq (.ops [⟨some 4, .mv (.c (.int .i64 (-1))), none⟩])
  (.ret)))
theorem k_slices_IndexFunc_api_Out_api_Out : FnIs AP n_slices_IndexFunc_api_Out_api_Out c_slices_IndexFunc_api_Out_api_Out 19 (rsT [4]) := fnIs_of (fn := Go.Proofs.Try.f42) Go.Proofs.Try.func42 (by kernel_rfl) (by kernel_rfl) (by kernel_rfl) (by kernel_rfl) (by kernel_rfl)
theorem a_slices_IndexFunc_api_Out_api_Out {x0 x1 : V} {H : List Entry} {K : KV} (h : Wf H → awp AP H.length c_slices_IndexFunc_api_Out_api_Out (finW H.length (rsT [4]) K) ([x0, x1] ++ List.replicate 17 undefV) H) : BCall AP n_slices_IndexFunc_api_Out_api_Out [x0, x1] H K := k_slices_IndexFunc_api_Out_api_Out.call (by kernel_rfl) h
/-- tryst/outbox.Find$1: 8 slots -/
def c_outbox_Find_1 : AC := .seq (.ops [⟨some 2, .box (.t 0), none⟩,
    ⟨some 3, .mv (.c (.bool false)), none⟩])
  (.seq (.ops [⟨some 4, .fad 0 (.t 2), none⟩,
    ⟨some 5, .load 1 false (.t 4), none⟩,
    ⟨some 6, .load 1 false (.t 1), none⟩,
    ⟨some 7, .bin .eql (.t 5) (.t 6), none⟩,
    ⟨some 3, .mv (.t 7), none⟩])
  (.ret))
theorem k_outbox_Find_1 : FnIs AP n_outbox_Find_1 c_outbox_Find_1 8 (rsT [3]) := fnIs_of (fn := Go.Proofs.Try.f43) Go.Proofs.Try.func43 (by kernel_rfl) (by kernel_rfl) (by kernel_rfl) (by kernel_rfl) (by kernel_rfl)
theorem a_outbox_Find_1 {x0 x1 : V} {H : List Entry} {K : KV} (h : Wf H → awp AP H.length c_outbox_Find_1 (finW H.length (rsT [3]) K) ([x0, x1] ++ List.replicate 6 undefV) H) : BCall AP n_outbox_Find_1 [x0, x1] H K := k_outbox_Find_1.call (by kernel_rfl) h
/-- slices.EqualFunc[[]tryst/api.Out,[]tryst/api.Out,tryst/api.Out,tryst/api.Out]: 32 slots -/
def c_slices_EqualFunc_api_Out_api_Out_api_Out_api_Out : AC := .seq (.ops [⟨some 6, .mv (.c (.bool false)), none⟩])
  (.seq (.seq (.ops [⟨some 10, .mv (.t 0), none⟩,
    ⟨some 11, .len 1 (.t 10), none⟩,
    ⟨some 12, .mv (.t 1), none⟩,
    ⟨some 13, .len 1 (.t 12), none⟩,
    ⟨some 14, .bin .neq (.t 11) (.t 13), none⟩])
  (.cond (.t 14) (.seq (.ops [⟨some 6, .mv (.c (.bool false)), none⟩])
  (.ret)) (.skip)))
  (.seq (.seq (.ops [⟨some 15, .mv (.t 0), none⟩,
    ⟨some 16, .len 1 (.t 15), none⟩,
    ⟨some 17, .mv (.c (.int .i64 0)), none⟩])
  (.block 0 (.loop (.seq (.ops [⟨some 18, .bin .lss (.t 17) (.t 16), none⟩])
  (.seq (.cond (.t 18) (.skip) (.exit 0))
  (.seq (.block 1 (.seq (.ops [⟨some 19, .mv (.t 17), none⟩,
    ⟨some 20, .iad 5 true (.t 15) (.t 17), none⟩,
    ⟨some 21, .load 5 true (.t 20), none⟩,
    ⟨some 8, .alloc [.int .u64 0, .str [], .nilsl, .int .i64 0, .int .i64 0], none⟩,
    ⟨some 7, .mv (.t 19), none⟩,
    ⟨none, .store 5 (.t 8) (.t 21), none⟩])
  (.seq (.ops [⟨some 22, .mv (.t 1), none⟩,
    ⟨some 23, .mv (.t 7), none⟩,
    ⟨some 24, .iad 5 true (.t 22) (.t 23), none⟩,
    ⟨some 25, .load 5 true (.t 24), none⟩,
    ⟨some 9, .alloc [.int .u64 0, .str [], .nilsl, .int .i64 0, .int .i64 0], none⟩,
    ⟨none, .store 5 (.t 9) (.t 25), none⟩])
  (.seq (.ops [⟨some 26, .mv (.t 2), none⟩,
    ⟨some 27, .load 5 true (.t 8), none⟩,
    ⟨some 28, .load 5 true (.t 9), none⟩,
    ⟨some 29, .call (.t 26) [(.t 27), (.t 28)], none⟩,
    ⟨some 30, .un .not (.t 29), none⟩])
  (.cond (.t 30) (.seq (.ops [⟨some 6, .mv (.c (.bool false)), none⟩])
  (.ret)) (.skip))))))
  (.ops [⟨some 31, .bin .add (.t 17) (.c (.int .i64 1)), none⟩,
    ⟨some 17, .mv (.t 31), none⟩])))))))
  (.seq (.ops [⟨some 6, .mv (.c (.bool true)), none⟩])
  (.ret))))
theorem k_slices_EqualFunc_api_Out_api_Out_api_Out_api_Out : FnIs AP n_slices_EqualFunc_api_Out_api_Out_api_Out_api_Out c_slices_EqualFunc_api_Out_api_Out_api_Out_api_Out 32 (rsT [6]) := fnIs_of (fn := Go.Proofs.Try.f44) Go.Proofs.Try.func44 (by kernel_rfl) (by kernel_rfl) (by kernel_rfl) (by kernel_rfl) (by kernel_rfl)
theorem a_slices_EqualFunc_api_Out_api_Out_api_Out_api_Out {x0 x1 x2 : V} {H : List Entry} {K : KV} (h : Wf H → awp AP H.length c_slices_EqualFunc_api_Out_api_Out_api_Out_api_Out (finW H.length (rsT [6]) K) ([x0, x1, x2] ++ List.replicate 29 undefV) H) : BCall AP n_slices_EqualFunc_api_Out_api_Out_api_Out_api_Out [x0, x1, x2] H K := k_slices_EqualFunc_api_Out_api_Out_api_Out_api_Out.call (by kernel_rfl) h
/-- tryst/outbox.sameOut: 38 slots -/
def c_outbox_sameOut : AC := .seq (.ops [⟨some 2, .box (.t 0), none⟩,
    ⟨some 3, .box (.t 1), none⟩,
    ⟨some 4, .mv (.c (.bool false)), none⟩])
  (.seq (.ops [⟨some 5, .fad 0 (.t 2), none⟩,
    ⟨some 6, .load 1 false (.t 5), none⟩,
    ⟨some 7, .fad 0 (.t 3), none⟩,
    ⟨some 8, .load 1 false (.t 7), none⟩,
    ⟨some 9, .bin .eql (.t 6) (.t 8), none⟩,
    ⟨some 10, .mv (.t 9), none⟩,
    ⟨some 11, .fad 1 (.t 2), some (10, true)⟩,
    ⟨some 12, .load 1 false (.t 11), some (10, true)⟩,
    ⟨some 13, .fad 1 (.t 3), some (10, true)⟩,
    ⟨some 14, .load 1 false (.t 13), some (10, true)⟩,
    ⟨some 15, .bin .eql (.t 12) (.t 14), some (10, true)⟩,
    ⟨some 16, .pick (.t 10) (.t 15) (.c (.bool false)), none⟩,
    ⟨some 17, .mv (.t 16), none⟩,
    ⟨some 18, .fad 3 (.t 2), some (17, true)⟩,
    ⟨some 19, .load 1 false (.t 18), some (17, true)⟩,
    ⟨some 20, .fad 3 (.t 3), some (17, true)⟩,
    ⟨some 21, .load 1 false (.t 20), some (17, true)⟩,
    ⟨some 22, .bin .eql (.t 19) (.t 21), some (17, true)⟩,
    ⟨some 23, .pick (.t 17) (.t 22) (.c (.bool false)), none⟩,
    ⟨some 24, .mv (.t 23), none⟩,
    ⟨some 25, .fad 4 (.t 2), some (24, true)⟩,
    ⟨some 26, .load 1 false (.t 25), some (24, true)⟩,
    ⟨some 27, .fad 4 (.t 3), some (24, true)⟩,
    ⟨some 28, .load 1 false (.t 27), some (24, true)⟩,
    ⟨some 29, .bin .eql (.t 26) (.t 28), some (24, true)⟩,
    ⟨some 30, .pick (.t 24) (.t 29) (.c (.bool false)), none⟩,
    ⟨some 31, .mv (.t 30), none⟩,
    ⟨some 32, .fad 2 (.t 2), some (31, true)⟩,
    ⟨some 33, .load 1 false (.t 32), some (31, true)⟩,
    ⟨some 34, .fad 2 (.t 3), some (31, true)⟩,
    ⟨some 35, .load 1 false (.t 34), some (31, true)⟩,
    ⟨some 36, .call (.c (.fn n_slices_Equal_uint64_uint64 [] [])) [(.t 33), (.t 35)], some (31, true)⟩,
    ⟨some 37, .pick (.t 31) (.t 36) (.c (.bool false)), none⟩,
    ⟨some 4, .mv (.t 37), none⟩])
  (.ret))
theorem k_outbox_sameOut : FnIs AP n_outbox_sameOut c_outbox_sameOut 38 (rsT [4]) := fnIs_of (fn := Go.Proofs.Try.f45) Go.Proofs.Try.func45 (by kernel_rfl) (by kernel_rfl) (by kernel_rfl) (by kernel_rfl) (by kernel_rfl)
theorem a_outbox_sameOut {x0 x1 : V} {H : List Entry} {K : KV} (h : Wf H → awp AP H.length c_outbox_sameOut (finW H.length (rsT [4]) K) ([x0, x1] ++ List.replicate 36 undefV) H) : BCall AP n_outbox_sameOut [x0, x1] H K := k_outbox_sameOut.call (by kernel_rfl) h
/-- tryst/outbox.first: 42 slots -/
def c_outbox_first : AC := .seq (.ops [⟨some 2, .alloc [.int .i64 0, .int .u64 0, .int .u64 0, .str [], .nilsl, .int .i64 0, .int .i64 0], none⟩,
    ⟨some 3, .mv (.c (.bool false)), none⟩])
  (.seq (.ops [⟨some 4, .mv (.c (.nilsl)), none⟩])
  (.seq (.seq (.ops [⟨some 9, .mv (.t 0), none⟩,
    ⟨some 10, .len 1 (.t 9), none⟩,
    ⟨some 11, .mv (.c (.int .i64 0)), none⟩])
  (.block 0 (.loop (.seq (.ops [⟨some 12, .bin .lss (.t 11) (.t 10), none⟩])
  (.seq (.cond (.t 12) (.skip) (.exit 0))
  (.seq (.block 1 (.seq (.ops [⟨some 13, .iad 5 true (.t 9) (.t 11), none⟩,
    ⟨some 14, .load 5 true (.t 13), none⟩,
    ⟨some 6, .alloc [.int .u64 0, .str [], .nilsl, .int .i64 0, .int .i64 0], none⟩,
    ⟨none, .store 5 (.t 6) (.t 14), none⟩])
  (.ops [⟨some 16, .mv (.t 4), none⟩,
    ⟨some 17, .fad 0 (.t 6), none⟩,
    ⟨some 18, .load 1 false (.t 17), none⟩,
    ⟨some 19, .fad 4 (.t 6), none⟩,
    ⟨some 20, .load 1 false (.t 19), none⟩,
    ⟨some 21, .call (.c (.fn n_wheel_Set [] [])) [(.t 16), (.t 18), (.t 20)], none⟩,
    ⟨some 15, .mv (.t 21), none⟩,
    ⟨some 22, .ext (.t 15) 0, none⟩,
    ⟨some 23, .ext (.t 15) 1, none⟩,
    ⟨some 4, .mv (.t 22), none⟩])))
  (.ops [⟨some 24, .bin .add (.t 11) (.c (.int .i64 1)), none⟩,
    ⟨some 11, .mv (.t 24), none⟩])))))))
  (.seq (.ops [⟨some 26, .mv (.t 4), none⟩,
    ⟨some 27, .call (.c (.fn n_wheel_Next [] [])) [(.t 26)], none⟩,
    ⟨some 25, .mv (.t 27), none⟩,
    ⟨some 28, .ext (.t 25) 0, none⟩,
    ⟨some 29, .ext (.t 25) 1, none⟩,
    ⟨some 7, .alloc [.int .i64 0, .int .u64 0], none⟩,
    ⟨none, .store 2 (.t 7) (.t 28), none⟩,
    ⟨some 8, .mv (.t 29), none⟩])
  (.seq (.seq (.ops [⟨some 30, .mv (.t 8), none⟩,
    ⟨some 31, .un .not (.t 30), none⟩])
  (.cond (.t 31) (.seq (.ops [⟨some 32, .build [.int .i64 0, .int .u64 0, .int .u64 0, .str [], .nilsl, .int .i64 0, .int .i64 0] [], none⟩,
    ⟨none, .store 7 (.t 2) (.t 32), none⟩,
    ⟨some 3, .mv (.c (.bool false)), none⟩])
  (.ret)) (.skip)))
  (.seq (.draw [⟨some 33, .load 2 true (.t 7), none⟩,
    ⟨some 34, .mv (.t 0), none⟩,
    ⟨some 35, .mv (.t 0), none⟩,
    ⟨some 36, .fad 1 (.t 7), none⟩,
    ⟨some 37, .load 1 false (.t 36), none⟩,
    ⟨some 38, .dcall (.c (.fn n_outbox_Find [] [])) [(.t 35), (.t 37)], none⟩,
    ⟨some 39, .iad 5 true (.t 34) (.t 38), none⟩,
    ⟨some 40, .load 5 true (.t 39), none⟩,
    ⟨some 41, .build [.int .i64 0, .int .u64 0, .int .u64 0, .str [], .nilsl, .int .i64 0, .int .i64 0] [(0, 2, (.t 33)), (2, 5, (.t 40))], none⟩,
    ⟨none, .store 7 (.t 2) (.t 41), none⟩,
    ⟨some 3, .mv (.c (.bool true)), none⟩])
  (.ret))))))
theorem k_outbox_first : FnIs AP n_outbox_first c_outbox_first 42 [.cell 2 7 true, .tmp 3] := fnIs_of (fn := Go.Proofs.Try.f46) Go.Proofs.Try.func46 (by kernel_rfl) (by kernel_rfl) (by kernel_rfl) (by kernel_rfl) (by kernel_rfl)
theorem a_outbox_first {x0 : V} {H : List Entry} {K : KV} (h : Wf H → awp AP H.length c_outbox_first (finW H.length [.cell 2 7 true, .tmp 3] K) ([x0] ++ List.replicate 41 undefV) H) : BCall AP n_outbox_first [x0] H K := k_outbox_first.call (by kernel_rfl) h
/-- tryst/outbox.find: 16 slots -/
def c_outbox_find : AC := .seq (.ops [⟨some 4, .mv (.c (.int .i64 0)), none⟩,
    ⟨some 5, .mv (.c (.int .i64 0)), none⟩])
  (.seq (.seq (.ops [⟨some 7, .mv (.t 0), none⟩,
    ⟨some 8, .call (.c (.fn n_outbox_Check [] [])) [(.t 7)], none⟩,
    ⟨some 9, .bin .neq (.t 8) (.c (.int .i64 0)), none⟩])
  (.cond (.t 9) (.seq (.ops [⟨some 4, .mv (.c (.int .i64 0)), none⟩,
    ⟨some 5, .mv (.c (.int .i64 1)), none⟩])
  (.ret)) (.skip)))
  (.seq (.ops [⟨some 10, .mv (.t 0), none⟩,
    ⟨some 11, .mv (.t 1), none⟩,
    ⟨some 12, .call (.c (.fn n_outbox_Find [] [])) [(.t 10), (.t 11)], none⟩,
    ⟨some 6, .mv (.t 12), none⟩])
  (.seq (.seq (.ops [⟨some 13, .mv (.t 6), none⟩,
    ⟨some 14, .bin .lss (.t 13) (.c (.int .i64 0)), none⟩])
  (.cond (.t 14) (.seq (.ops [⟨some 4, .mv (.c (.int .i64 0)), none⟩,
    ⟨some 5, .mv (.c (.int .i64 4)), none⟩])
  (.ret)) (.skip)))
  (.seq (.ops [⟨some 15, .mv (.t 6), none⟩,
    ⟨some 4, .mv (.t 15), none⟩,
    ⟨some 5, .mv (.c (.int .i64 0)), none⟩])
  (.ret)))))
theorem k_outbox_find : FnIs AP n_outbox_find c_outbox_find 16 (rsT [4, 5]) := fnIs_of (fn := Go.Proofs.Try.f47) Go.Proofs.Try.func47 (by kernel_rfl) (by kernel_rfl) (by kernel_rfl) (by kernel_rfl) (by kernel_rfl)
theorem a_outbox_find {x0 x1 : V} {H : List Entry} {K : KV} (h : Wf H → awp AP H.length c_outbox_find (finW H.length (rsT [4, 5]) K) ([x0, x1] ++ List.replicate 14 undefV) H) : BCall AP n_outbox_find [x0, x1] H K := k_outbox_find.call (by kernel_rfl) h
/-- tryst/list.Without[tryst/api.Out]: 14 slots -/
def c_list_Without_api_Out : AC := .seq (.ops [⟨some 4, .mv (.c (.nilsl)), none⟩])
  (.seq (.draw [⟨some 5, .mv (.t 0), none⟩,
    ⟨some 6, .mv (.t 1), none⟩,
    ⟨some 7, .slcm 5 (.t 5) none (some (.t 6)) none, none⟩,
    ⟨some 8, .mv (.t 0), none⟩,
    ⟨some 9, .mv (.t 1), none⟩,
    ⟨some 10, .bin .add (.t 9) (.c (.int .i64 1)), none⟩,
    ⟨some 11, .slcm 5 (.t 8) (some (.t 10)) none none, none⟩,
    ⟨some 12, .bslm 1 false [(.t 7), (.t 11)], none⟩,
    ⟨some 13, .dcall (.c (.fn n_slices_Concat_api_Out_api_Out [] [])) [(.t 12)], none⟩,
    ⟨some 4, .mv (.t 13), none⟩])
  (.ret))
theorem k_list_Without_api_Out : FnIs AP n_list_Without_api_Out c_list_Without_api_Out 14 (rsT [4]) := fnIs_of (fn := Go.Proofs.Try.f48) Go.Proofs.Try.func48 (by kernel_rfl) (by kernel_rfl) (by kernel_rfl) (by kernel_rfl) (by kernel_rfl)
theorem a_list_Without_api_Out {x0 x1 : V} {H : List Entry} {K : KV} (h : Wf H → awp AP H.length c_list_Without_api_Out (finW H.length (rsT [4]) K) ([x0, x1] ++ List.replicate 12 undefV) H) : BCall AP n_list_Without_api_Out [x0, x1] H K := k_list_Without_api_Out.call (by kernel_rfl) h
/-- tryst/list.Set[tryst/api.Out]: 15 slots -/
def c_list_Set_api_Out : AC := .seq (.ops [⟨some 5, .box (.t 2), none⟩,
    ⟨some 6, .mv (.c (.nilsl)), none⟩])
  (.seq (.ops [⟨some 8, .mv (.t 0), none⟩,
    ⟨some 9, .call (.c (.fn n_slices_Clone_api_Out_api_Out [] [])) [(.t 8)], none⟩,
    ⟨some 7, .mv (.t 9), none⟩])
  (.seq (.ops [⟨some 10, .mv (.t 7), none⟩,
    ⟨some 11, .mv (.t 1), none⟩,
    ⟨some 12, .load 5 true (.t 5), none⟩,
    ⟨some 13, .iad 5 true (.t 10) (.t 11), none⟩,
    ⟨none, .store 5 (.t 13) (.t 12), none⟩])
  (.seq (.ops [⟨some 14, .mv (.t 7), none⟩,
    ⟨some 6, .mv (.t 14), none⟩])
  (.ret))))
theorem k_list_Set_api_Out : FnIs AP n_list_Set_api_Out c_list_Set_api_Out 15 (rsT [6]) := fnIs_of (fn := Go.Proofs.Try.f49) Go.Proofs.Try.func49 (by kernel_rfl) (by kernel_rfl) (by kernel_rfl) (by kernel_rfl) (by kernel_rfl)
theorem a_list_Set_api_Out {x0 x1 x2 : V} {H : List Entry} {K : KV} (h : Wf H → awp AP H.length c_list_Set_api_Out (finW H.length (rsT [6]) K) ([x0, x1, x2] ++ List.replicate 12 undefV) H) : BCall AP n_list_Set_api_Out [x0, x1, x2] H K := k_list_Set_api_Out.call (by kernel_rfl) h
/-- tryst/trystref11.Ids: 26 slots -/
def c_trystref11_Ids : AC := .seq (.ops [⟨some 4, .mv (.c (.bool false)), none⟩])
  (.seq (.seq (.ops [⟨some 6, .mv (.t 0), none⟩,
    ⟨some 7, .len 1 (.t 6), none⟩,
    ⟨some 8, .mv (.t 1), none⟩,
    ⟨some 9, .len 1 (.t 8), none⟩,
    ⟨some 10, .bin .neq (.t 7) (.t 9), none⟩])
  (.cond (.t 10) (.seq (.ops [⟨some 4, .mv (.c (.bool false)), none⟩])
  (.ret)) (.skip)))
  (.seq (.seq (.ops [⟨some 5, .mv (.c (.int .i64 0)), none⟩])
  (.block 0 (.loop (.seq (.seq (.ops [⟨some 11, .mv (.t 5), none⟩,
    ⟨some 12, .mv (.t 0), none⟩,
    ⟨some 13, .len 1 (.t 12), none⟩,
    ⟨some 14, .bin .lss (.t 11) (.t 13), none⟩])
  (.cond (.t 14) (.skip) (.exit 0)))
  (.seq (.block 1 (.seq (.draw [⟨some 17, .mv (.t 0), none⟩,
    ⟨some 18, .mv (.t 5), none⟩,
    ⟨some 19, .iad 1 false (.t 17) (.t 18), none⟩,
    ⟨some 20, .load 1 false (.t 19), none⟩,
    ⟨some 21, .mv (.t 1), none⟩,
    ⟨some 22, .mv (.t 5), none⟩,
    ⟨some 23, .iad 1 false (.t 21) (.t 22), none⟩,
    ⟨some 24, .load 1 false (.t 23), none⟩,
    ⟨some 25, .bin .neq (.t 20) (.t 24), none⟩])
  (.cond (.t 25) (.seq (.ops [⟨some 4, .mv (.c (.bool false)), none⟩])
  (.ret)) (.skip))))
  (.ops [⟨some 15, .mv (.t 5), none⟩,
    ⟨some 16, .bin .add (.t 15) (.c (.int .i64 1)), none⟩,
    ⟨some 5, .mv (.t 16), none⟩]))))))
  (.seq (.ops [⟨some 4, .mv (.c (.bool true)), none⟩])
  (.ret))))
theorem k_trystref11_Ids : FnIs AP n_trystref11_Ids c_trystref11_Ids 26 (rsT [4]) := fnIs_of (fn := Go.Proofs.Try.f50) Go.Proofs.Try.func50 (by kernel_rfl) (by kernel_rfl) (by kernel_rfl) (by kernel_rfl) (by kernel_rfl)
theorem a_trystref11_Ids {x0 x1 : V} {H : List Entry} {K : KV} (h : Wf H → awp AP H.length c_trystref11_Ids (finW H.length (rsT [4]) K) ([x0, x1] ++ List.replicate 24 undefV) H) : BCall AP n_trystref11_Ids [x0, x1] H K := k_trystref11_Ids.call (by kernel_rfl) h
/-- tryst/event.Field: 15 slots -/
def c_event_Field : AC := .seq (.ops [⟨some 2, .mv (.c (.bool false)), none⟩])
  (.seq (.ops [⟨some 3, .mv (.t 0), none⟩,
    ⟨some 4, .len 0 (.t 3), none⟩,
    ⟨some 5, .bin .leq (.t 4) (.c (.int .i64 16)), none⟩,
    ⟨some 6, .mv (.t 5), none⟩,
    ⟨some 7, .mv (.t 0), some (6, true)⟩,
    ⟨some 8, .call (.c (.fn n_strings_Contains [] [])) [(.t 7), (.c (.str [46]))], some (6, true)⟩,
    ⟨some 9, .un .not (.t 8), some (6, true)⟩,
    ⟨some 10, .pick (.t 6) (.t 9) (.c (.bool false)), none⟩,
    ⟨some 11, .mv (.t 10), none⟩,
    ⟨some 12, .mv (.t 0), some (11, true)⟩,
    ⟨some 13, .call (.c (.fn n_name_Topic [] [])) [(.t 12)], some (11, true)⟩,
    ⟨some 14, .pick (.t 11) (.t 13) (.c (.bool false)), none⟩,
    ⟨some 2, .mv (.t 14), none⟩])
  (.ret))
theorem k_event_Field : FnIs AP n_event_Field c_event_Field 15 (rsT [2]) := fnIs_of (fn := Go.Proofs.Try.f51) Go.Proofs.Try.func51 (by kernel_rfl) (by kernel_rfl) (by kernel_rfl) (by kernel_rfl) (by kernel_rfl)
theorem a_event_Field {x0 : V} {H : List Entry} {K : KV} (h : Wf H → awp AP H.length c_event_Field (finW H.length (rsT [2]) K) ([x0] ++ List.replicate 14 undefV) H) : BCall AP n_event_Field [x0] H K := k_event_Field.call (by kernel_rfl) h
/-- slices.Concat[[]tryst/api.Out,tryst/api.Out]: 36 slots -/
def c_slices_Concat_api_Out_api_Out : AC := .seq (.ops [⟨some 2, .mv (.c (.nilsl)), none⟩])
  (.seq (.ops [⟨some 3, .mv (.c (.int .i64 0)), none⟩])
  (.seq (.seq (.ops [⟨some 9, .mv (.t 0), none⟩,
    ⟨some 10, .len 1 (.t 9), none⟩,
    ⟨some 11, .mv (.c (.int .i64 0)), none⟩])
  (.block 0 (.loop (.seq (.ops [⟨some 12, .bin .lss (.t 11) (.t 10), none⟩])
  (.seq (.cond (.t 12) (.skip) (.exit 0))
  (.seq (.block 1 (.seq (.ops [⟨some 13, .iad 1 false (.t 9) (.t 11), none⟩,
    ⟨some 14, .load 1 false (.t 13), none⟩,
    ⟨some 5, .mv (.t 14), none⟩])
  (.seq (.ops [⟨some 15, .mv (.t 3), none⟩,
    ⟨some 16, .mv (.t 5), none⟩,
    ⟨some 17, .len 1 (.t 16), none⟩,
    ⟨some 18, .bin .add (.t 15) (.t 17), none⟩,
    ⟨some 3, .mv (.t 18), none⟩])
  (.seq (.ops [⟨some 19, .mv (.t 3), none⟩,
    ⟨some 20, .bin .lss (.t 19) (.c (.int .i64 0)), none⟩])
  (.cond (.t 20) (.bad) (.skip))))))
  (.ops [⟨some 22, .bin .add (.t 11) (.c (.int .i64 1)), none⟩,
    ⟨some 11, .mv (.t 22), none⟩])))))))
  (.seq (.ops [⟨some 23, .mv (.t 3), none⟩,
    ⟨some 24, .call (.c (.fn n_slices_Grow_api_Out_api_Out [] [])) [(.c (.nilsl)), (.t 23)], none⟩,
    ⟨some 6, .mv (.t 24), none⟩])
  (.seq (.seq (.ops [⟨some 25, .mv (.t 0), none⟩,
    ⟨some 26, .len 1 (.t 25), none⟩,
    ⟨some 27, .mv (.c (.int .i64 0)), none⟩])
  (.block 2 (.loop (.seq (.ops [⟨some 28, .bin .lss (.t 27) (.t 26), none⟩])
  (.seq (.cond (.t 28) (.skip) (.exit 2))
  (.seq (.block 3 (.seq (.ops [⟨some 29, .iad 1 false (.t 25) (.t 27), none⟩,
    ⟨some 30, .load 1 false (.t 29), none⟩,
    ⟨some 8, .mv (.t 30), none⟩])
  (.ops [⟨some 31, .mv (.t 6), none⟩,
    ⟨some 32, .mv (.t 8), none⟩,
    ⟨some 33, .app 26 5 64 true (.t 31) (.t 32), none⟩,
    ⟨some 6, .mv (.t 33), none⟩])))
  (.ops [⟨some 34, .bin .add (.t 27) (.c (.int .i64 1)), none⟩,
    ⟨some 27, .mv (.t 34), none⟩])))))))
  (.seq (.ops [⟨some 35, .mv (.t 6), none⟩,
    ⟨some 2, .mv (.t 35), none⟩])
  (.ret))))))
theorem k_slices_Concat_api_Out_api_Out : FnIs AP n_slices_Concat_api_Out_api_Out c_slices_Concat_api_Out_api_Out 36 (rsT [2]) := fnIs_of (fn := Go.Proofs.Try.f52) Go.Proofs.Try.func52 (by kernel_rfl) (by kernel_rfl) (by kernel_rfl) (by kernel_rfl) (by kernel_rfl)
theorem a_slices_Concat_api_Out_api_Out {x0 : V} {H : List Entry} {K : KV} (h : Wf H → awp AP H.length c_slices_Concat_api_Out_api_Out (finW H.length (rsT [2]) K) ([x0] ++ List.replicate 35 undefV) H) : BCall AP n_slices_Concat_api_Out_api_Out [x0] H K := k_slices_Concat_api_Out_api_Out.call (by kernel_rfl) h
-- 52 slices.Concat[[]tryst/api.Out,tryst/api.Out]: [slices.go:496, slices.go:496]
/-- tryst/trystref04.Field: 21 slots -/
def c_trystref04_Field : AC := .seq (.ops [⟨some 2, .mv (.c (.bool false)), none⟩])
  (.seq (.seq (.ops [⟨some 3, .mv (.c (.int .i64 0)), none⟩])
  (.block 0 (.loop (.seq (.seq (.ops [⟨some 4, .mv (.t 3), none⟩,
    ⟨some 5, .mv (.t 0), none⟩,
    ⟨some 6, .len 0 (.t 5), none⟩,
    ⟨some 7, .bin .lss (.t 4) (.t 6), none⟩])
  (.cond (.t 7) (.skip) (.exit 0)))
  (.seq (.block 1 (.seq (.ops [⟨some 10, .mv (.t 0), none⟩,
    ⟨some 11, .mv (.t 3), none⟩,
    ⟨some 12, .ixs (.t 10) (.t 11), none⟩,
    ⟨some 13, .bin .eql (.t 12) (.c (.int .u8 46)), none⟩])
  (.cond (.t 13) (.seq (.ops [⟨some 2, .mv (.c (.bool false)), none⟩])
  (.ret)) (.skip))))
  (.ops [⟨some 8, .mv (.t 3), none⟩,
    ⟨some 9, .bin .add (.t 8) (.c (.int .i64 1)), none⟩,
    ⟨some 3, .mv (.t 9), none⟩]))))))
  (.seq (.ops [⟨some 14, .mv (.t 0), none⟩,
    ⟨some 15, .call (.c (.fn n_trystref02_Topic [] [])) [(.t 14)], none⟩,
    ⟨some 16, .mv (.t 15), none⟩,
    ⟨some 17, .mv (.t 0), some (16, true)⟩,
    ⟨some 18, .len 0 (.t 17), some (16, true)⟩,
    ⟨some 19, .bin .leq (.t 18) (.c (.int .i64 16)), some (16, true)⟩,
    ⟨some 20, .pick (.t 16) (.t 19) (.c (.bool false)), none⟩,
    ⟨some 2, .mv (.t 20), none⟩])
  (.ret)))
theorem k_trystref04_Field : FnIs AP n_trystref04_Field c_trystref04_Field 21 (rsT [2]) := fnIs_of (fn := Go.Proofs.Try.f53) Go.Proofs.Try.func53 (by kernel_rfl) (by kernel_rfl) (by kernel_rfl) (by kernel_rfl) (by kernel_rfl)
theorem a_trystref04_Field {x0 : V} {H : List Entry} {K : KV} (h : Wf H → awp AP H.length c_trystref04_Field (finW H.length (rsT [2]) K) ([x0] ++ List.replicate 20 undefV) H) : BCall AP n_trystref04_Field [x0] H K := k_trystref04_Field.call (by kernel_rfl) h
/-- cmp.isNaN[uint64]: 6 slots -/
def c_cmp_isNaN_uint64 : AC := .seq (.ops [⟨some 2, .mv (.c (.bool false)), none⟩])
  (.seq (.ops [⟨some 3, .mv (.t 0), none⟩,
    ⟨some 4, .mv (.t 0), none⟩,
    ⟨some 5, .bin .neq (.t 3) (.t 4), none⟩,
    ⟨some 2, .mv (.t 5), none⟩])
  (.ret))
theorem k_cmp_isNaN_uint64 : FnIs AP n_cmp_isNaN_uint64 c_cmp_isNaN_uint64 6 (rsT [2]) := fnIs_of (fn := Go.Proofs.Try.f54) Go.Proofs.Try.func54 (by kernel_rfl) (by kernel_rfl) (by kernel_rfl) (by kernel_rfl) (by kernel_rfl)
theorem a_cmp_isNaN_uint64 {x0 : V} {H : List Entry} {K : KV} (h : Wf H → awp AP H.length c_cmp_isNaN_uint64 (finW H.length (rsT [2]) K) ([x0] ++ List.replicate 5 undefV) H) : BCall AP n_cmp_isNaN_uint64 [x0] H K := k_cmp_isNaN_uint64.call (by kernel_rfl) h
/-- slices.Equal[[]uint64,uint64]: 26 slots -/
def c_slices_Equal_uint64_uint64 : AC := .seq (.ops [⟨some 4, .mv (.c (.bool false)), none⟩])
  (.seq (.seq (.ops [⟨some 6, .mv (.t 0), none⟩,
    ⟨some 7, .len 1 (.t 6), none⟩,
    ⟨some 8, .mv (.t 1), none⟩,
    ⟨some 9, .len 1 (.t 8), none⟩,
    ⟨some 10, .bin .neq (.t 7) (.t 9), none⟩])
  (.cond (.t 10) (.seq (.ops [⟨some 4, .mv (.c (.bool false)), none⟩])
  (.ret)) (.skip)))
  (.seq (.seq (.ops [⟨some 11, .mv (.t 0), none⟩,
    ⟨some 12, .len 1 (.t 11), none⟩,
    ⟨some 13, .mv (.c (.int .i64 0)), none⟩])
  (.block 0 (.loop (.seq (.ops [⟨some 14, .bin .lss (.t 13) (.t 12), none⟩])
  (.seq (.cond (.t 14) (.skip) (.exit 0))
  (.seq (.block 1 (.seq (.ops [⟨some 15, .mv (.t 13), none⟩,
    ⟨some 5, .mv (.t 15), none⟩])
  (.seq (.draw [⟨some 16, .mv (.t 0), none⟩,
    ⟨some 17, .mv (.t 5), none⟩,
    ⟨some 18, .iad 1 false (.t 16) (.t 17), none⟩,
    ⟨some 19, .load 1 false (.t 18), none⟩,
    ⟨some 20, .mv (.t 1), none⟩,
    ⟨some 21, .mv (.t 5), none⟩,
    ⟨some 22, .iad 1 false (.t 20) (.t 21), none⟩,
    ⟨some 23, .load 1 false (.t 22), none⟩,
    ⟨some 24, .bin .neq (.t 19) (.t 23), none⟩])
  (.cond (.t 24) (.seq (.ops [⟨some 4, .mv (.c (.bool false)), none⟩])
  (.ret)) (.skip)))))
  (.ops [⟨some 25, .bin .add (.t 13) (.c (.int .i64 1)), none⟩,
    ⟨some 13, .mv (.t 25), none⟩])))))))
  (.seq (.ops [⟨some 4, .mv (.c (.bool true)), none⟩])
  (.ret))))
theorem k_slices_Equal_uint64_uint64 : FnIs AP n_slices_Equal_uint64_uint64 c_slices_Equal_uint64_uint64 26 (rsT [4]) := fnIs_of (fn := Go.Proofs.Try.f55) Go.Proofs.Try.func55 (by kernel_rfl) (by kernel_rfl) (by kernel_rfl) (by kernel_rfl) (by kernel_rfl)
theorem a_slices_Equal_uint64_uint64 {x0 x1 : V} {H : List Entry} {K : KV} (h : Wf H → awp AP H.length c_slices_Equal_uint64_uint64 (finW H.length (rsT [4]) K) ([x0, x1] ++ List.replicate 24 undefV) H) : BCall AP n_slices_Equal_uint64_uint64 [x0, x1] H K := k_slices_Equal_uint64_uint64.call (by kernel_rfl) h
/-- tryst/wheel.Set: 37 slots -/
def c_wheel_Set : AC := .seq (.ops [⟨some 6, .mv (.c (.nilsl)), none⟩,
    ⟨some 7, .mv (.c (.int .i64 0)), none⟩])
  (.seq (.seq (.ops [⟨some 11, .mv (.t 0), none⟩,
    ⟨some 12, .call (.c (.fn n_wheel_Check [] [])) [(.t 11)], none⟩,
    ⟨some 13, .bin .neq (.t 12) (.c (.int .i64 0)), none⟩,
    ⟨some 14, .mv (.t 13), none⟩,
    ⟨some 15, .mv (.t 2), some (14, false)⟩,
    ⟨some 16, .call (.c (.fn n_wheel_isTime [] [])) [(.t 15)], some (14, false)⟩,
    ⟨some 17, .un .not (.t 16), some (14, false)⟩,
    ⟨some 18, .pick (.t 14) (.c (.bool true)) (.t 17), none⟩])
  (.cond (.t 18) (.seq (.ops [⟨some 6, .mv (.c (.nilsl)), none⟩,
    ⟨some 7, .mv (.c (.int .i64 1)), none⟩])
  (.ret)) (.skip)))
  (.seq (.ops [⟨some 20, .mv (.t 0), none⟩,
    ⟨some 21, .mv (.t 1), none⟩,
    ⟨some 22, .call (.c (.fn n_wheel_Stop [] [])) [(.t 20), (.t 21)], none⟩,
    ⟨some 19, .mv (.t 22), none⟩,
    ⟨some 23, .ext (.t 19) 0, none⟩,
    ⟨some 24, .ext (.t 19) 1, none⟩,
    ⟨some 8, .mv (.t 23), none⟩,
    ⟨some 9, .mv (.t 24), none⟩])
  (.seq (.seq (.ops [⟨some 25, .mv (.t 8), none⟩,
    ⟨some 26, .len 1 (.t 25), none⟩,
    ⟨some 27, .bin .eql (.t 26) (.c (.int .i64 120)), none⟩])
  (.cond (.t 27) (.seq (.ops [⟨some 6, .mv (.c (.nilsl)), none⟩,
    ⟨some 7, .mv (.c (.int .i64 6)), none⟩])
  (.ret)) (.skip)))
  (.seq (.ops [⟨some 28, .mv (.t 2), none⟩,
    ⟨some 29, .mv (.t 1), none⟩,
    ⟨some 30, .build [.int .i64 0, .int .u64 0] [(0, 1, (.t 28)), (1, 1, (.t 29))], none⟩,
    ⟨some 10, .alloc [.int .i64 0, .int .u64 0], none⟩,
    ⟨none, .store 2 (.t 10) (.t 30), none⟩])
  (.seq (.draw [⟨some 31, .mv (.t 8), none⟩,
    ⟨some 32, .mv (.t 8), none⟩,
    ⟨some 33, .load 2 true (.t 10), none⟩,
    ⟨some 34, .dcall (.c (.fn n_wheel_place [] [])) [(.t 32), (.t 33), (.c (.fn n_wheel_timer_order [] []))], none⟩,
    ⟨some 35, .load 2 true (.t 10), none⟩,
    ⟨some 36, .dcall (.c (.fn n_list_With_api_Timer [] [])) [(.t 31), (.t 34), (.t 35)], none⟩,
    ⟨some 6, .mv (.t 36), none⟩,
    ⟨some 7, .mv (.c (.int .i64 0)), none⟩])
  (.ret))))))
theorem k_wheel_Set : FnIs AP n_wheel_Set c_wheel_Set 37 (rsT [6, 7]) := fnIs_of (fn := Go.Proofs.Try.f56) Go.Proofs.Try.func56 (by kernel_rfl) (by kernel_rfl) (by kernel_rfl) (by kernel_rfl) (by kernel_rfl)
theorem a_wheel_Set {x0 x1 x2 : V} {H : List Entry} {K : KV} (h : Wf H → awp AP H.length c_wheel_Set (finW H.length (rsT [6, 7]) K) ([x0, x1, x2] ++ List.replicate 34 undefV) H) : BCall AP n_wheel_Set [x0, x1, x2] H K := k_wheel_Set.call (by kernel_rfl) h
/-- tryst/wheel.Next: 16 slots -/
def c_wheel_Next : AC := .seq (.ops [⟨some 2, .alloc [.int .i64 0, .int .u64 0], none⟩,
    ⟨some 3, .mv (.c (.bool false)), none⟩])
  (.seq (.seq (.ops [⟨some 4, .mv (.t 0), none⟩,
    ⟨some 5, .len 1 (.t 4), none⟩,
    ⟨some 6, .bin .eql (.t 5) (.c (.int .i64 0)), none⟩,
    ⟨some 7, .mv (.t 6), none⟩,
    ⟨some 8, .mv (.t 0), some (7, false)⟩,
    ⟨some 9, .call (.c (.fn n_wheel_Check [] [])) [(.t 8)], some (7, false)⟩,
    ⟨some 10, .bin .neq (.t 9) (.c (.int .i64 0)), some (7, false)⟩,
    ⟨some 11, .pick (.t 7) (.c (.bool true)) (.t 10), none⟩])
  (.cond (.t 11) (.seq (.ops [⟨some 12, .build [.int .i64 0, .int .u64 0] [], none⟩,
    ⟨none, .store 2 (.t 2) (.t 12), none⟩,
    ⟨some 3, .mv (.c (.bool false)), none⟩])
  (.ret)) (.skip)))
  (.seq (.ops [⟨some 13, .mv (.t 0), none⟩,
    ⟨some 14, .iad 2 true (.t 13) (.c (.int .i64 0)), none⟩,
    ⟨some 15, .load 2 true (.t 14), none⟩,
    ⟨none, .store 2 (.t 2) (.t 15), none⟩,
    ⟨some 3, .mv (.c (.bool true)), none⟩])
  (.ret)))
theorem k_wheel_Next : FnIs AP n_wheel_Next c_wheel_Next 16 [.cell 2 2 true, .tmp 3] := fnIs_of (fn := Go.Proofs.Try.f57) Go.Proofs.Try.func57 (by kernel_rfl) (by kernel_rfl) (by kernel_rfl) (by kernel_rfl) (by kernel_rfl)
theorem a_wheel_Next {x0 : V} {H : List Entry} {K : KV} (h : Wf H → awp AP H.length c_wheel_Next (finW H.length [.cell 2 2 true, .tmp 3] K) ([x0] ++ List.replicate 15 undefV) H) : BCall AP n_wheel_Next [x0] H K := k_wheel_Next.call (by kernel_rfl) h
/-- slices.Clone[[]tryst/api.Out,tryst/api.Out]: 8 slots -/
def c_slices_Clone_api_Out_api_Out : AC := .seq (.ops [⟨some 2, .mv (.c (.nilsl)), none⟩])
  (.seq (.seq (.ops [⟨some 3, .mv (.t 0), none⟩,
    ⟨some 4, .cnil 0 false (.t 3) (.c (.nilsl)), none⟩])
  (.cond (.t 4) (.seq (.ops [⟨some 2, .mv (.c (.nilsl)), none⟩])
  (.ret)) (.skip)))
  (.seq (.ops [⟨some 5, .bsl 5 true [], none⟩,
    ⟨some 6, .mv (.t 0), none⟩,
    ⟨some 7, .app 26 5 64 true (.t 5) (.t 6), none⟩,
    ⟨some 2, .mv (.t 7), none⟩])
  (.ret)))
theorem k_slices_Clone_api_Out_api_Out : FnIs AP n_slices_Clone_api_Out_api_Out c_slices_Clone_api_Out_api_Out 8 (rsT [2]) := fnIs_of (fn := Go.Proofs.Try.f58) Go.Proofs.Try.func58 (by kernel_rfl) (by kernel_rfl) (by kernel_rfl) (by kernel_rfl) (by kernel_rfl)
theorem a_slices_Clone_api_Out_api_Out {x0 : V} {H : List Entry} {K : KV} (h : Wf H → awp AP H.length c_slices_Clone_api_Out_api_Out (finW H.length (rsT [2]) K) ([x0] ++ List.replicate 7 undefV) H) : BCall AP n_slices_Clone_api_Out_api_Out [x0] H K := k_slices_Clone_api_Out_api_Out.call (by kernel_rfl) h
/-- strings.Contains: 9 slots -/
def c_strings_Contains : AC := .seq (.ops [⟨some 4, .mv (.c (.bool false)), none⟩])
  (.seq (.ops [⟨some 5, .mv (.t 0), none⟩,
    ⟨some 6, .mv (.t 1), none⟩,
    ⟨some 7, .call (.c (.fn n_strings_Index [] [])) [(.t 5), (.t 6)], none⟩,
    ⟨some 8, .bin .geq (.t 7) (.c (.int .i64 0)), none⟩,
    ⟨some 4, .mv (.t 8), none⟩])
  (.ret))
theorem k_strings_Contains : FnIs AP n_strings_Contains c_strings_Contains 9 (rsT [4]) := fnIs_of (fn := Go.Proofs.Try.f59) Go.Proofs.Try.func59 (by kernel_rfl) (by kernel_rfl) (by kernel_rfl) (by kernel_rfl) (by kernel_rfl)
theorem a_strings_Contains {x0 x1 : V} {H : List Entry} {K : KV} (h : Wf H → awp AP H.length c_strings_Contains (finW H.length (rsT [4]) K) ([x0, x1] ++ List.replicate 7 undefV) H) : BCall AP n_strings_Contains [x0, x1] H K := k_strings_Contains.call (by kernel_rfl) h
/-- tryst/name.Topic: 5 slots -/
def c_name_Topic : AC := .seq (.ops [⟨some 2, .mv (.c (.bool false)), none⟩])
  (.seq (.ops [⟨some 3, .mv (.t 0), none⟩,
    ⟨some 4, .call (.c (.fn n_name_allParts [] [])) [(.t 3), (.c (.fn n_name_isPart [] []))], none⟩,
    ⟨some 2, .mv (.t 4), none⟩])
  (.ret))
theorem k_name_Topic : FnIs AP n_name_Topic c_name_Topic 5 (rsT [2]) := fnIs_of (fn := Go.Proofs.Try.f60) Go.Proofs.Try.func60 (by kernel_rfl) (by kernel_rfl) (by kernel_rfl) (by kernel_rfl) (by kernel_rfl)
theorem a_name_Topic {x0 : V} {H : List Entry} {K : KV} (h : Wf H → awp AP H.length c_name_Topic (finW H.length (rsT [2]) K) ([x0] ++ List.replicate 4 undefV) H) : BCall AP n_name_Topic [x0] H K := k_name_Topic.call (by kernel_rfl) h
/-- slices.Grow[[]tryst/api.Out,tryst/api.Out]: 27 slots -/
def c_slices_Grow_api_Out_api_Out : AC := .seq (.ops [⟨some 4, .mv (.c (.nilsl)), none⟩])
  (.seq (.seq (.ops [⟨some 5, .mv (.t 1), none⟩,
    ⟨some 6, .bin .lss (.t 5) (.c (.int .i64 0)), none⟩])
  (.cond (.t 6) (.bad) (.skip)))
  (.seq (.seq (.bad)
  (.seq (.ops [⟨some 15, .mv (.t 1), none⟩,
    ⟨some 16, .bin .gtr (.t 15) (.c (.int .i64 0)), none⟩])
  (.cond (.t 16) (.bad) (.skip))))
  (.seq (.ops [⟨some 26, .mv (.t 0), none⟩,
    ⟨some 4, .mv (.t 26), none⟩])
  (.ret))))
theorem k_slices_Grow_api_Out_api_Out : FnIs AP n_slices_Grow_api_Out_api_Out c_slices_Grow_api_Out_api_Out 27 (rsT [4]) := fnIs_of (fn := Go.Proofs.Try.f61) Go.Proofs.Try.func61 (by kernel_rfl) (by kernel_rfl) (by kernel_rfl) (by kernel_rfl) (by kernel_rfl)
theorem a_slices_Grow_api_Out_api_Out {x0 x1 : V} {H : List Entry} {K : KV} (h : Wf H → awp AP H.length c_slices_Grow_api_Out_api_Out (finW H.length (rsT [4]) K) ([x0, x1] ++ List.replicate 25 undefV) H) : BCall AP n_slices_Grow_api_Out_api_Out [x0, x1] H K := k_slices_Grow_api_Out_api_Out.call (by kernel_rfl) h
-- 61 slices.Grow[[]tryst/api.Out,tryst/api.Out]: [slices.go:424, slices.go:424, slices.go:426, slices.go:428, slices.go:428]
/-- tryst/trystref02.Topic: 5 slots -/
def c_trystref02_Topic : AC := .seq (.ops [⟨some 2, .mv (.c (.bool false)), none⟩])
  (.seq (.ops [⟨some 3, .mv (.t 0), none⟩,
    ⟨some 4, .call (.c (.fn n_trystref02_is [] [])) [(.t 3), (.c (.bool false))], none⟩,
    ⟨some 2, .mv (.t 4), none⟩])
  (.ret))
theorem k_trystref02_Topic : FnIs AP n_trystref02_Topic c_trystref02_Topic 5 (rsT [2]) := fnIs_of (fn := Go.Proofs.Try.f62) Go.Proofs.Try.func62 (by kernel_rfl) (by kernel_rfl) (by kernel_rfl) (by kernel_rfl) (by kernel_rfl)
theorem a_trystref02_Topic {x0 : V} {H : List Entry} {K : KV} (h : Wf H → awp AP H.length c_trystref02_Topic (finW H.length (rsT [2]) K) ([x0] ++ List.replicate 4 undefV) H) : BCall AP n_trystref02_Topic [x0] H K := k_trystref02_Topic.call (by kernel_rfl) h
/-- tryst/wheel.Check: 35 slots -/
def c_wheel_Check : AC := .seq (.ops [⟨some 2, .mv (.c (.int .i64 0)), none⟩])
  (.seq (.seq (.ops [⟨some 6, .mv (.t 0), none⟩,
    ⟨some 7, .len 1 (.t 6), none⟩,
    ⟨some 8, .bin .gtr (.t 7) (.c (.int .i64 120)), none⟩,
    ⟨some 9, .mv (.t 8), none⟩,
    ⟨some 10, .mv (.t 0), some (9, false)⟩,
    ⟨some 11, .call (.c (.fn n_wheel_inOrder [] [])) [(.t 10), (.c (.fn n_wheel_timer_order [] []))], some (9, false)⟩,
    ⟨some 12, .un .not (.t 11), some (9, false)⟩,
    ⟨some 13, .pick (.t 9) (.c (.bool true)) (.t 12), none⟩])
  (.cond (.t 13) (.seq (.ops [⟨some 2, .mv (.c (.int .i64 1)), none⟩])
  (.ret)) (.skip)))
  (.seq (.ops [⟨some 14, .mkm, none⟩,
    ⟨some 3, .mv (.t 14), none⟩])
  (.seq (.seq (.ops [⟨some 15, .mv (.t 0), none⟩,
    ⟨some 16, .len 1 (.t 15), none⟩,
    ⟨some 17, .mv (.c (.int .i64 0)), none⟩])
  (.block 0 (.loop (.seq (.ops [⟨some 18, .bin .lss (.t 17) (.t 16), none⟩])
  (.seq (.cond (.t 18) (.skip) (.exit 0))
  (.seq (.block 1 (.seq (.ops [⟨some 19, .iad 2 true (.t 15) (.t 17), none⟩,
    ⟨some 20, .load 2 true (.t 19), none⟩,
    ⟨some 5, .alloc [.int .i64 0, .int .u64 0], none⟩,
    ⟨none, .store 2 (.t 5) (.t 20), none⟩])
  (.seq (.ops [⟨some 21, .mv (.t 3), none⟩,
    ⟨some 22, .fad 1 (.t 5), none⟩,
    ⟨some 23, .load 1 false (.t 22), none⟩,
    ⟨some 24, .build [] [], none⟩,
    ⟨none, .mput false [1] (.t 21) (.t 23) (.t 24), none⟩])
  (.seq (.ops [⟨some 25, .fad 0 (.t 5), none⟩,
    ⟨some 26, .load 1 false (.t 25), none⟩,
    ⟨some 27, .call (.c (.fn n_wheel_isTime [] [])) [(.t 26)], none⟩,
    ⟨some 28, .un .not (.t 27), none⟩])
  (.cond (.t 28) (.seq (.ops [⟨some 2, .mv (.c (.int .i64 1)), none⟩])
  (.ret)) (.skip))))))
  (.ops [⟨some 29, .bin .add (.t 17) (.c (.int .i64 1)), none⟩,
    ⟨some 17, .mv (.t 29), none⟩])))))))
  (.seq (.seq (.ops [⟨some 30, .mv (.t 3), none⟩,
    ⟨some 31, .len 2 (.t 30), none⟩,
    ⟨some 32, .mv (.t 0), none⟩,
    ⟨some 33, .len 1 (.t 32), none⟩,
    ⟨some 34, .bin .lss (.t 31) (.t 33), none⟩])
  (.cond (.t 34) (.seq (.ops [⟨some 2, .mv (.c (.int .i64 1)), none⟩])
  (.ret)) (.skip)))
  (.seq (.ops [⟨some 2, .mv (.c (.int .i64 0)), none⟩])
  (.ret))))))
theorem k_wheel_Check : FnIs AP n_wheel_Check c_wheel_Check 35 (rsT [2]) := fnIs_of (fn := Go.Proofs.Try.f63) Go.Proofs.Try.func63 (by kernel_rfl) (by kernel_rfl) (by kernel_rfl) (by kernel_rfl) (by kernel_rfl)
theorem a_wheel_Check {x0 : V} {H : List Entry} {K : KV} (h : Wf H → awp AP H.length c_wheel_Check (finW H.length (rsT [2]) K) ([x0] ++ List.replicate 34 undefV) H) : BCall AP n_wheel_Check [x0] H K := k_wheel_Check.call (by kernel_rfl) h
/-- tryst/wheel.isTime: 9 slots -/
def c_wheel_isTime : AC := .seq (.ops [⟨some 2, .mv (.c (.bool false)), none⟩])
  (.seq (.ops [⟨some 3, .mv (.t 0), none⟩,
    ⟨some 4, .bin .geq (.t 3) (.c (.int .i64 0)), none⟩,
    ⟨some 5, .mv (.t 4), none⟩,
    ⟨some 6, .mv (.t 0), some (5, true)⟩,
    ⟨some 7, .bin .leq (.t 6) (.c (.int .i64 1099511627775)), some (5, true)⟩,
    ⟨some 8, .pick (.t 5) (.t 7) (.c (.bool false)), none⟩,
    ⟨some 2, .mv (.t 8), none⟩])
  (.ret))
theorem k_wheel_isTime : FnIs AP n_wheel_isTime c_wheel_isTime 9 (rsT [2]) := fnIs_of (fn := Go.Proofs.Try.f64) Go.Proofs.Try.func64 (by kernel_rfl) (by kernel_rfl) (by kernel_rfl) (by kernel_rfl) (by kernel_rfl)
theorem a_wheel_isTime {x0 : V} {H : List Entry} {K : KV} (h : Wf H → awp AP H.length c_wheel_isTime (finW H.length (rsT [2]) K) ([x0] ++ List.replicate 8 undefV) H) : BCall AP n_wheel_isTime [x0] H K := k_wheel_isTime.call (by kernel_rfl) h
/-- tryst/wheel.Stop: 20 slots -/
def c_wheel_Stop : AC := .seq (.ops [⟨some 4, .mv (.c (.nilsl)), none⟩,
    ⟨some 5, .mv (.c (.bool false)), none⟩])
  (.seq (.seq (.ops [⟨some 7, .mv (.t 0), none⟩,
    ⟨some 8, .call (.c (.fn n_wheel_Check [] [])) [(.t 7)], none⟩,
    ⟨some 9, .bin .neq (.t 8) (.c (.int .i64 0)), none⟩])
  (.cond (.t 9) (.seq (.ops [⟨some 4, .mv (.c (.nilsl)), none⟩,
    ⟨some 5, .mv (.c (.bool false)), none⟩])
  (.ret)) (.skip)))
  (.seq (.ops [⟨some 10, .mv (.t 0), none⟩,
    ⟨some 11, .mv (.t 1), none⟩,
    ⟨some 12, .call (.c (.fn n_wheel_find [] [])) [(.t 10), (.t 11)], none⟩,
    ⟨some 6, .mv (.t 12), none⟩])
  (.seq (.seq (.ops [⟨some 13, .mv (.t 6), none⟩,
    ⟨some 14, .bin .lss (.t 13) (.c (.int .i64 0)), none⟩])
  (.cond (.t 14) (.seq (.ops [⟨some 15, .mv (.t 0), none⟩,
    ⟨some 16, .call (.c (.fn n_slices_Clone_api_Timer_api_Timer [] [])) [(.t 15)], none⟩,
    ⟨some 4, .mv (.t 16), none⟩,
    ⟨some 5, .mv (.c (.bool false)), none⟩])
  (.ret)) (.skip)))
  (.seq (.ops [⟨some 17, .mv (.t 0), none⟩,
    ⟨some 18, .mv (.t 6), none⟩,
    ⟨some 19, .call (.c (.fn n_list_Without_api_Timer [] [])) [(.t 17), (.t 18)], none⟩,
    ⟨some 4, .mv (.t 19), none⟩,
    ⟨some 5, .mv (.c (.bool true)), none⟩])
  (.ret)))))
theorem k_wheel_Stop : FnIs AP n_wheel_Stop c_wheel_Stop 20 (rsT [4, 5]) := fnIs_of (fn := Go.Proofs.Try.f65) Go.Proofs.Try.func65 (by kernel_rfl) (by kernel_rfl) (by kernel_rfl) (by kernel_rfl) (by kernel_rfl)
theorem a_wheel_Stop {x0 x1 : V} {H : List Entry} {K : KV} (h : Wf H → awp AP H.length c_wheel_Stop (finW H.length (rsT [4, 5]) K) ([x0, x1] ++ List.replicate 18 undefV) H) : BCall AP n_wheel_Stop [x0, x1] H K := k_wheel_Stop.call (by kernel_rfl) h
/-- tryst/list.With[tryst/api.Timer]: 17 slots -/
def c_list_With_api_Timer : AC := .seq (.ops [⟨some 5, .box (.t 2), none⟩,
    ⟨some 6, .mv (.c (.nilsl)), none⟩])
  (.seq (.draw [⟨some 7, .mv (.t 0), none⟩,
    ⟨some 8, .mv (.t 1), none⟩,
    ⟨some 9, .slcm 2 (.t 7) none (some (.t 8)) none, none⟩,
    ⟨some 10, .load 2 true (.t 5), none⟩,
    ⟨some 11, .bslm 2 true [(.t 10)], none⟩,
    ⟨some 12, .mv (.t 0), none⟩,
    ⟨some 13, .mv (.t 1), none⟩,
    ⟨some 14, .slcm 2 (.t 12) (some (.t 13)) none none, none⟩,
    ⟨some 15, .bslm 1 false [(.t 9), (.t 11), (.t 14)], none⟩,
    ⟨some 16, .dcall (.c (.fn n_slices_Concat_api_Timer_api_Timer [] [])) [(.t 15)], none⟩,
    ⟨some 6, .mv (.t 16), none⟩])
  (.ret))
theorem k_list_With_api_Timer : FnIs AP n_list_With_api_Timer c_list_With_api_Timer 17 (rsT [6]) := fnIs_of (fn := Go.Proofs.Try.f66) Go.Proofs.Try.func66 (by kernel_rfl) (by kernel_rfl) (by kernel_rfl) (by kernel_rfl) (by kernel_rfl)
theorem a_list_With_api_Timer {x0 x1 x2 : V} {H : List Entry} {K : KV} (h : Wf H → awp AP H.length c_list_With_api_Timer (finW H.length (rsT [6]) K) ([x0, x1, x2] ++ List.replicate 14 undefV) H) : BCall AP n_list_With_api_Timer [x0, x1, x2] H K := k_list_With_api_Timer.call (by kernel_rfl) h
/-- tryst/wheel.place: 10 slots -/
def c_wheel_place : AC := .seq (.ops [⟨some 4, .box (.t 1), none⟩,
    ⟨some 5, .box (.t 2), none⟩,
    ⟨some 6, .mv (.c (.int .i64 0)), none⟩])
  (.seq (.ops [⟨some 7, .mv (.t 0), none⟩,
    ⟨some 8, .mkfn n_wheel_place_1 [] [(.t 5), (.t 4)], none⟩,
    ⟨some 9, .call (.c (.fn n_list_Place_api_Timer [] [])) [(.t 7), (.t 8)], none⟩,
    ⟨some 6, .mv (.t 9), none⟩])
  (.ret))
theorem k_wheel_place : FnIs AP n_wheel_place c_wheel_place 10 (rsT [6]) := fnIs_of (fn := Go.Proofs.Try.f67) Go.Proofs.Try.func67 (by kernel_rfl) (by kernel_rfl) (by kernel_rfl) (by kernel_rfl) (by kernel_rfl)
theorem a_wheel_place {x0 x1 x2 : V} {H : List Entry} {K : KV} (h : Wf H → awp AP H.length c_wheel_place (finW H.length (rsT [6]) K) ([x0, x1, x2] ++ List.replicate 7 undefV) H) : BCall AP n_wheel_place [x0, x1, x2] H K := k_wheel_place.call (by kernel_rfl) h
/-- (tryst/wheel.timer).order: 17 slots -/
def c_wheel_timer_order : AC := .seq (.ops [⟨some 2, .box (.t 0), none⟩,
    ⟨some 3, .box (.t 1), none⟩,
    ⟨some 4, .mv (.c (.int .i64 0)), none⟩])
  (.seq (.draw [⟨some 5, .fad 0 (.t 2), none⟩,
    ⟨some 6, .load 1 false (.t 5), none⟩,
    ⟨some 7, .fad 0 (.t 3), none⟩,
    ⟨some 8, .load 1 false (.t 7), none⟩,
    ⟨some 9, .dcall (.c (.fn n_cmp_Compare_int [] [])) [(.t 6), (.t 8)], none⟩,
    ⟨some 10, .fad 1 (.t 2), none⟩,
    ⟨some 11, .load 1 false (.t 10), none⟩,
    ⟨some 12, .fad 1 (.t 3), none⟩,
    ⟨some 13, .load 1 false (.t 12), none⟩,
    ⟨some 14, .dcall (.c (.fn n_cmp_Compare_uint64 [] [])) [(.t 11), (.t 13)], none⟩,
    ⟨some 15, .bslm 1 false [(.t 9), (.t 14)], none⟩,
    ⟨some 16, .dcall (.c (.fn n_cmp_Or_int [] [])) [(.t 15)], none⟩,
    ⟨some 4, .mv (.t 16), none⟩])
  (.ret))
theorem k_wheel_timer_order : FnIs AP n_wheel_timer_order c_wheel_timer_order 17 (rsT [4]) := fnIs_of (fn := Go.Proofs.Try.f68) Go.Proofs.Try.func68 (by kernel_rfl) (by kernel_rfl) (by kernel_rfl) (by kernel_rfl) (by kernel_rfl)
theorem a_wheel_timer_order {x0 x1 : V} {H : List Entry} {K : KV} (h : Wf H → awp AP H.length c_wheel_timer_order (finW H.length (rsT [4]) K) ([x0, x1] ++ List.replicate 15 undefV) H) : BCall AP n_wheel_timer_order [x0, x1] H K := k_wheel_timer_order.call (by kernel_rfl) h
/-- strings.Index: 8 slots -/
def c_strings_Index : AC := .seq (.ops [⟨some 4, .mv (.c (.int .i64 0)), none⟩])
  (.seq (.ops [⟨some 5, .mv (.t 0), none⟩,
    ⟨some 6, .mv (.t 1), none⟩,
    ⟨some 7, .call (.c (.fn n_internal_stringslite_Index [] [])) [(.t 5), (.t 6)], none⟩,
    ⟨some 4, .mv (.t 7), none⟩])
  (.ret))
theorem k_strings_Index : FnIs AP n_strings_Index c_strings_Index 8 (rsT [4]) := fnIs_of (fn := Go.Proofs.Try.f69) Go.Proofs.Try.func69 (by kernel_rfl) (by kernel_rfl) (by kernel_rfl) (by kernel_rfl) (by kernel_rfl)
theorem a_strings_Index {x0 x1 : V} {H : List Entry} {K : KV} (h : Wf H → awp AP H.length c_strings_Index (finW H.length (rsT [4]) K) ([x0, x1] ++ List.replicate 6 undefV) H) : BCall AP n_strings_Index [x0, x1] H K := k_strings_Index.call (by kernel_rfl) h
/-- tryst/name.allParts: 32 slots -/
def c_name_allParts : AC := .seq (.ops [⟨some 2, .box (.t 0), none⟩,
    ⟨some 3, .box (.t 1), none⟩,
    ⟨some 4, .mv (.c (.bool false)), none⟩])
  (.seq (.seq (.ops [⟨some 10, .load 1 false (.t 2), none⟩,
    ⟨some 11, .len 0 (.t 10), none⟩,
    ⟨some 12, .bin .gtr (.t 11) (.c (.int .i64 40)), none⟩])
  (.cond (.t 12) (.seq (.ops [⟨some 4, .mv (.c (.bool false)), none⟩])
  (.ret)) (.skip)))
  (.seq (.ops [⟨some 5, .alloc [.int .i64 0], none⟩,
    ⟨some 6, .alloc [.int .i64 0], none⟩,
    ⟨none, .store 1 (.t 5) (.c (.int .i64 0)), none⟩,
    ⟨none, .store 1 (.t 6) (.c (.int .i64 0)), none⟩])
  (.seq (.ops [⟨some 13, .mkfn n_name_allParts_1 [] [(.t 2), (.t 5), (.t 6), (.t 3)], none⟩,
    ⟨some 7, .mv (.t 13), none⟩])
  (.seq (.seq (.ops [⟨some 14, .load 1 false (.t 2), none⟩,
    ⟨some 15, .rng (.t 14), none⟩])
  (.block 0 (.loop (.seq (.ops [⟨some 16, .nxt true (.t 15), none⟩,
    ⟨some 17, .ext (.t 16) 0, none⟩])
  (.seq (.cond (.t 17) (.skip) (.exit 0))
  (.block 1 (.seq (.ops [⟨some 18, .ext (.t 16) 1, none⟩,
    ⟨some 19, .ext (.t 16) 2, none⟩,
    ⟨some 8, .mv (.t 18), none⟩,
    ⟨some 9, .mv (.t 19), none⟩])
  (.seq (.ops [⟨some 20, .mv (.t 9), none⟩,
    ⟨some 21, .bin .eql (.t 20) (.c (.int .i32 46)), none⟩,
    ⟨some 22, .mv (.t 21), none⟩,
    ⟨some 23, .mv (.t 7), some (22, true)⟩,
    ⟨some 24, .mv (.t 8), some (22, true)⟩,
    ⟨some 25, .call (.t 23) [(.t 24)], some (22, true)⟩,
    ⟨some 26, .un .not (.t 25), some (22, true)⟩,
    ⟨some 27, .pick (.t 22) (.t 26) (.c (.bool false)), none⟩])
  (.cond (.t 27) (.seq (.ops [⟨some 4, .mv (.c (.bool false)), none⟩])
  (.ret)) (.skip))))))))))
  (.seq (.ops [⟨some 28, .mv (.t 7), none⟩,
    ⟨some 29, .load 1 false (.t 2), none⟩,
    ⟨some 30, .len 0 (.t 29), none⟩,
    ⟨some 31, .call (.t 28) [(.t 30)], none⟩,
    ⟨some 4, .mv (.t 31), none⟩])
  (.ret))))))
theorem k_name_allParts : FnIs AP n_name_allParts c_name_allParts 32 (rsT [4]) := fnIs_of (fn := Go.Proofs.Try.f70) Go.Proofs.Try.func70 (by kernel_rfl) (by kernel_rfl) (by kernel_rfl) (by kernel_rfl) (by kernel_rfl)
theorem a_name_allParts {x0 x1 : V} {H : List Entry} {K : KV} (h : Wf H → awp AP H.length c_name_allParts (finW H.length (rsT [4]) K) ([x0, x1] ++ List.replicate 30 undefV) H) : BCall AP n_name_allParts [x0, x1] H K := k_name_allParts.call (by kernel_rfl) h
/-- tryst/name.isPart: 9 slots -/
def c_name_isPart : AC := .seq (.ops [⟨some 2, .mv (.c (.bool false)), none⟩])
  (.seq (.ops [⟨some 3, .mv (.t 0), none⟩,
    ⟨some 4, .bin .neq (.t 3) (.c (.str [])), none⟩,
    ⟨some 5, .mv (.t 4), none⟩,
    ⟨some 6, .mv (.t 0), some (5, true)⟩,
    ⟨some 7, .call (.c (.fn n_name_allRunes [] [])) [(.t 6), (.c (.fn n_name_isPart_1 [] []))], some (5, true)⟩,
    ⟨some 8, .pick (.t 5) (.t 7) (.c (.bool false)), none⟩,
    ⟨some 2, .mv (.t 8), none⟩])
  (.ret))
theorem k_name_isPart : FnIs AP n_name_isPart c_name_isPart 9 (rsT [2]) := fnIs_of (fn := Go.Proofs.Try.f71) Go.Proofs.Try.func71 (by kernel_rfl) (by kernel_rfl) (by kernel_rfl) (by kernel_rfl) (by kernel_rfl)
theorem a_name_isPart {x0 : V} {H : List Entry} {K : KV} (h : Wf H → awp AP H.length c_name_isPart (finW H.length (rsT [2]) K) ([x0] ++ List.replicate 8 undefV) H) : BCall AP n_name_isPart [x0] H K := k_name_isPart.call (by kernel_rfl) h
/-- tryst/trystref02.is: 47 slots -/
def c_trystref02_is : AC := .seq (.ops [⟨some 4, .mv (.c (.bool false)), none⟩])
  (.seq (.ops [⟨some 7, .mv (.t 0), none⟩,
    ⟨some 8, .call (.c (.fn n_trystref02_cut [] [])) [(.t 7)], none⟩,
    ⟨some 5, .mv (.t 8), none⟩])
  (.seq (.seq (.ops [⟨some 6, .mv (.c (.int .i64 0)), none⟩])
  (.block 0 (.loop (.seq (.seq (.ops [⟨some 9, .mv (.t 6), none⟩,
    ⟨some 10, .mv (.t 5), none⟩,
    ⟨some 11, .len 1 (.t 10), none⟩,
    ⟨some 12, .bin .lss (.t 9) (.t 11), none⟩])
  (.cond (.t 12) (.skip) (.exit 0)))
  (.seq (.block 1 (.seq (.ops [⟨some 15, .mv (.t 5), none⟩,
    ⟨some 16, .mv (.t 6), none⟩,
    ⟨some 17, .iad 1 false (.t 15) (.t 16), none⟩,
    ⟨some 18, .load 1 false (.t 17), none⟩,
    ⟨some 19, .call (.c (.fn n_trystref02_part [] [])) [(.t 18)], none⟩,
    ⟨some 20, .un .not (.t 19), none⟩,
    ⟨some 21, .mv (.t 20), none⟩,
    ⟨some 22, .mv (.t 1), some (21, true)⟩,
    ⟨some 23, .mv (.t 22), some (21, true)⟩,
    ⟨some 24, .mv (.t 5), some (23, true)⟩,
    ⟨some 25, .mv (.t 6), some (23, true)⟩,
    ⟨some 26, .iad 1 false (.t 24) (.t 25), some (23, true)⟩,
    ⟨some 27, .load 1 false (.t 26), some (23, true)⟩,
    ⟨some 28, .bin .eql (.t 27) (.c (.str [42])), some (23, true)⟩,
    ⟨some 29, .mv (.t 28), some (23, true)⟩,
    ⟨some 30, .mv (.t 5), some (29, false)⟩,
    ⟨some 31, .mv (.t 6), some (29, false)⟩,
    ⟨some 32, .iad 1 false (.t 30) (.t 31), some (29, false)⟩,
    ⟨some 33, .load 1 false (.t 32), some (29, false)⟩,
    ⟨some 34, .bin .eql (.t 33) (.c (.str [42, 42])), some (29, false)⟩,
    ⟨some 35, .pick (.t 29) (.c (.bool true)) (.t 34), some (23, true)⟩,
    ⟨some 36, .pick (.t 23) (.t 35) (.c (.bool false)), some (21, true)⟩,
    ⟨some 37, .un .not (.t 36), some (21, true)⟩,
    ⟨some 38, .pick (.t 21) (.t 37) (.c (.bool false)), none⟩])
  (.cond (.t 38) (.seq (.ops [⟨some 4, .mv (.c (.bool false)), none⟩])
  (.ret)) (.skip))))
  (.ops [⟨some 13, .mv (.t 6), none⟩,
    ⟨some 14, .bin .add (.t 13) (.c (.int .i64 1)), none⟩,
    ⟨some 6, .mv (.t 14), none⟩]))))))
  (.seq (.ops [⟨some 39, .mv (.t 5), none⟩,
    ⟨some 40, .len 1 (.t 39), none⟩,
    ⟨some 41, .bin .leq (.t 40) (.c (.int .i64 8)), none⟩,
    ⟨some 42, .mv (.t 41), none⟩,
    ⟨some 43, .mv (.t 0), some (42, true)⟩,
    ⟨some 44, .len 0 (.t 43), some (42, true)⟩,
    ⟨some 45, .bin .leq (.t 44) (.c (.int .i64 40)), some (42, true)⟩,
    ⟨some 46, .pick (.t 42) (.t 45) (.c (.bool false)), none⟩,
    ⟨some 4, .mv (.t 46), none⟩])
  (.ret))))
theorem k_trystref02_is : FnIs AP n_trystref02_is c_trystref02_is 47 (rsT [4]) := fnIs_of (fn := Go.Proofs.Try.f72) Go.Proofs.Try.func72 (by kernel_rfl) (by kernel_rfl) (by kernel_rfl) (by kernel_rfl) (by kernel_rfl)
theorem a_trystref02_is {x0 x1 : V} {H : List Entry} {K : KV} (h : Wf H → awp AP H.length c_trystref02_is (finW H.length (rsT [4]) K) ([x0, x1] ++ List.replicate 45 undefV) H) : BCall AP n_trystref02_is [x0, x1] H K := k_trystref02_is.call (by kernel_rfl) h
/-- tryst/wheel.inOrder: 8 slots -/
def c_wheel_inOrder : AC := .seq (.ops [⟨some 3, .box (.t 1), none⟩,
    ⟨some 4, .mv (.c (.bool false)), none⟩])
  (.seq (.ops [⟨some 5, .mv (.t 0), none⟩,
    ⟨some 6, .mkfn n_wheel_inOrder_1 [] [(.t 3)], none⟩,
    ⟨some 7, .call (.c (.fn n_list_Rises_api_Timer [] [])) [(.t 5), (.t 6)], none⟩,
    ⟨some 4, .mv (.t 7), none⟩])
  (.ret))
theorem k_wheel_inOrder : FnIs AP n_wheel_inOrder c_wheel_inOrder 8 (rsT [4]) := fnIs_of (fn := Go.Proofs.Try.f73) Go.Proofs.Try.func73 (by kernel_rfl) (by kernel_rfl) (by kernel_rfl) (by kernel_rfl) (by kernel_rfl)
theorem a_wheel_inOrder {x0 x1 : V} {H : List Entry} {K : KV} (h : Wf H → awp AP H.length c_wheel_inOrder (finW H.length (rsT [4]) K) ([x0, x1] ++ List.replicate 6 undefV) H) : BCall AP n_wheel_inOrder [x0, x1] H K := k_wheel_inOrder.call (by kernel_rfl) h
/-- tryst/wheel.find: 8 slots -/
def c_wheel_find : AC := .seq (.ops [⟨some 3, .box (.t 1), none⟩,
    ⟨some 4, .mv (.c (.int .i64 0)), none⟩])
  (.seq (.ops [⟨some 5, .mv (.t 0), none⟩,
    ⟨some 6, .mkfn n_wheel_find_1 [] [(.t 3)], none⟩,
    ⟨some 7, .call (.c (.fn n_slices_IndexFunc_api_Timer_api_Timer [] [])) [(.t 5), (.t 6)], none⟩,
    ⟨some 4, .mv (.t 7), none⟩])
  (.ret))
theorem k_wheel_find : FnIs AP n_wheel_find c_wheel_find 8 (rsT [4]) := fnIs_of (fn := Go.Proofs.Try.f74) Go.Proofs.Try.func74 (by kernel_rfl) (by kernel_rfl) (by kernel_rfl) (by kernel_rfl) (by kernel_rfl)
theorem a_wheel_find {x0 x1 : V} {H : List Entry} {K : KV} (h : Wf H → awp AP H.length c_wheel_find (finW H.length (rsT [4]) K) ([x0, x1] ++ List.replicate 6 undefV) H) : BCall AP n_wheel_find [x0, x1] H K := k_wheel_find.call (by kernel_rfl) h
/-- slices.Clone[[]tryst/api.Timer,tryst/api.Timer]: 8 slots -/
def c_slices_Clone_api_Timer_api_Timer : AC := .seq (.ops [⟨some 2, .mv (.c (.nilsl)), none⟩])
  (.seq (.seq (.ops [⟨some 3, .mv (.t 0), none⟩,
    ⟨some 4, .cnil 0 false (.t 3) (.c (.nilsl)), none⟩])
  (.cond (.t 4) (.seq (.ops [⟨some 2, .mv (.c (.nilsl)), none⟩])
  (.ret)) (.skip)))
  (.seq (.ops [⟨some 5, .bsl 2 true [], none⟩,
    ⟨some 6, .mv (.t 0), none⟩,
    ⟨some 7, .app 73 2 16 true (.t 5) (.t 6), none⟩,
    ⟨some 2, .mv (.t 7), none⟩])
  (.ret)))
theorem k_slices_Clone_api_Timer_api_Timer : FnIs AP n_slices_Clone_api_Timer_api_Timer c_slices_Clone_api_Timer_api_Timer 8 (rsT [2]) := fnIs_of (fn := Go.Proofs.Try.f75) Go.Proofs.Try.func75 (by kernel_rfl) (by kernel_rfl) (by kernel_rfl) (by kernel_rfl) (by kernel_rfl)
theorem a_slices_Clone_api_Timer_api_Timer {x0 : V} {H : List Entry} {K : KV} (h : Wf H → awp AP H.length c_slices_Clone_api_Timer_api_Timer (finW H.length (rsT [2]) K) ([x0] ++ List.replicate 7 undefV) H) : BCall AP n_slices_Clone_api_Timer_api_Timer [x0] H K := k_slices_Clone_api_Timer_api_Timer.call (by kernel_rfl) h
/-- tryst/list.Without[tryst/api.Timer]: 14 slots -/
def c_list_Without_api_Timer : AC := .seq (.ops [⟨some 4, .mv (.c (.nilsl)), none⟩])
  (.seq (.draw [⟨some 5, .mv (.t 0), none⟩,
    ⟨some 6, .mv (.t 1), none⟩,
    ⟨some 7, .slcm 2 (.t 5) none (some (.t 6)) none, none⟩,
    ⟨some 8, .mv (.t 0), none⟩,
    ⟨some 9, .mv (.t 1), none⟩,
    ⟨some 10, .bin .add (.t 9) (.c (.int .i64 1)), none⟩,
    ⟨some 11, .slcm 2 (.t 8) (some (.t 10)) none none, none⟩,
    ⟨some 12, .bslm 1 false [(.t 7), (.t 11)], none⟩,
    ⟨some 13, .dcall (.c (.fn n_slices_Concat_api_Timer_api_Timer [] [])) [(.t 12)], none⟩,
    ⟨some 4, .mv (.t 13), none⟩])
  (.ret))
theorem k_list_Without_api_Timer : FnIs AP n_list_Without_api_Timer c_list_Without_api_Timer 14 (rsT [4]) := fnIs_of (fn := Go.Proofs.Try.f76) Go.Proofs.Try.func76 (by kernel_rfl) (by kernel_rfl) (by kernel_rfl) (by kernel_rfl) (by kernel_rfl)
theorem a_list_Without_api_Timer {x0 x1 : V} {H : List Entry} {K : KV} (h : Wf H → awp AP H.length c_list_Without_api_Timer (finW H.length (rsT [4]) K) ([x0, x1] ++ List.replicate 12 undefV) H) : BCall AP n_list_Without_api_Timer [x0, x1] H K := k_list_Without_api_Timer.call (by kernel_rfl) h
/-- slices.Concat[[]tryst/api.Timer,tryst/api.Timer]: 36 slots -/
def c_slices_Concat_api_Timer_api_Timer : AC := .seq (.ops [⟨some 2, .mv (.c (.nilsl)), none⟩])
  (.seq (.ops [⟨some 3, .mv (.c (.int .i64 0)), none⟩])
  (.seq (.seq (.ops [⟨some 9, .mv (.t 0), none⟩,
    ⟨some 10, .len 1 (.t 9), none⟩,
    ⟨some 11, .mv (.c (.int .i64 0)), none⟩])
  (.block 0 (.loop (.seq (.ops [⟨some 12, .bin .lss (.t 11) (.t 10), none⟩])
  (.seq (.cond (.t 12) (.skip) (.exit 0))
  (.seq (.block 1 (.seq (.ops [⟨some 13, .iad 1 false (.t 9) (.t 11), none⟩,
    ⟨some 14, .load 1 false (.t 13), none⟩,
    ⟨some 5, .mv (.t 14), none⟩])
  (.seq (.ops [⟨some 15, .mv (.t 3), none⟩,
    ⟨some 16, .mv (.t 5), none⟩,
    ⟨some 17, .len 1 (.t 16), none⟩,
    ⟨some 18, .bin .add (.t 15) (.t 17), none⟩,
    ⟨some 3, .mv (.t 18), none⟩])
  (.seq (.ops [⟨some 19, .mv (.t 3), none⟩,
    ⟨some 20, .bin .lss (.t 19) (.c (.int .i64 0)), none⟩])
  (.cond (.t 20) (.bad) (.skip))))))
  (.ops [⟨some 22, .bin .add (.t 11) (.c (.int .i64 1)), none⟩,
    ⟨some 11, .mv (.t 22), none⟩])))))))
  (.seq (.ops [⟨some 23, .mv (.t 3), none⟩,
    ⟨some 24, .call (.c (.fn n_slices_Grow_api_Timer_api_Timer [] [])) [(.c (.nilsl)), (.t 23)], none⟩,
    ⟨some 6, .mv (.t 24), none⟩])
  (.seq (.seq (.ops [⟨some 25, .mv (.t 0), none⟩,
    ⟨some 26, .len 1 (.t 25), none⟩,
    ⟨some 27, .mv (.c (.int .i64 0)), none⟩])
  (.block 2 (.loop (.seq (.ops [⟨some 28, .bin .lss (.t 27) (.t 26), none⟩])
  (.seq (.cond (.t 28) (.skip) (.exit 2))
  (.seq (.block 3 (.seq (.ops [⟨some 29, .iad 1 false (.t 25) (.t 27), none⟩,
    ⟨some 30, .load 1 false (.t 29), none⟩,
    ⟨some 8, .mv (.t 30), none⟩])
  (.ops [⟨some 31, .mv (.t 6), none⟩,
    ⟨some 32, .mv (.t 8), none⟩,
    ⟨some 33, .app 73 2 16 true (.t 31) (.t 32), none⟩,
    ⟨some 6, .mv (.t 33), none⟩])))
  (.ops [⟨some 34, .bin .add (.t 27) (.c (.int .i64 1)), none⟩,
    ⟨some 27, .mv (.t 34), none⟩])))))))
  (.seq (.ops [⟨some 35, .mv (.t 6), none⟩,
    ⟨some 2, .mv (.t 35), none⟩])
  (.ret))))))
theorem k_slices_Concat_api_Timer_api_Timer : FnIs AP n_slices_Concat_api_Timer_api_Timer c_slices_Concat_api_Timer_api_Timer 36 (rsT [2]) := fnIs_of (fn := Go.Proofs.Try.f77) Go.Proofs.Try.func77 (by kernel_rfl) (by kernel_rfl) (by kernel_rfl) (by kernel_rfl) (by kernel_rfl)
theorem a_slices_Concat_api_Timer_api_Timer {x0 : V} {H : List Entry} {K : KV} (h : Wf H → awp AP H.length c_slices_Concat_api_Timer_api_Timer (finW H.length (rsT [2]) K) ([x0] ++ List.replicate 35 undefV) H) : BCall AP n_slices_Concat_api_Timer_api_Timer [x0] H K := k_slices_Concat_api_Timer_api_Timer.call (by kernel_rfl) h
-- 77 slices.Concat[[]tryst/api.Timer,tryst/api.Timer]: [slices.go:496, slices.go:496]
/-- tryst/list.Place[tryst/api.Timer]: 14 slots -/
def c_list_Place_api_Timer : AC := .seq (.ops [⟨some 4, .mv (.c (.int .i64 0)), none⟩])
  (.seq (.seq (.ops [⟨some 6, .mv (.t 0), none⟩,
    ⟨some 7, .mv (.t 1), none⟩,
    ⟨some 8, .call (.c (.fn n_slices_IndexFunc_api_Timer_api_Timer [] [])) [(.t 6), (.t 7)], none⟩,
    ⟨some 5, .mv (.t 8), none⟩])
  (.seq (.ops [⟨some 9, .mv (.t 5), none⟩,
    ⟨some 10, .bin .geq (.t 9) (.c (.int .i64 0)), none⟩])
  (.cond (.t 10) (.seq (.ops [⟨some 11, .mv (.t 5), none⟩,
    ⟨some 4, .mv (.t 11), none⟩])
  (.ret)) (.skip))))
  (.seq (.ops [⟨some 12, .mv (.t 0), none⟩,
    ⟨some 13, .len 1 (.t 12), none⟩,
    ⟨some 4, .mv (.t 13), none⟩])
  (.ret)))
theorem k_list_Place_api_Timer : FnIs AP n_list_Place_api_Timer c_list_Place_api_Timer 14 (rsT [4]) := fnIs_of (fn := Go.Proofs.Try.f78) Go.Proofs.Try.func78 (by kernel_rfl) (by kernel_rfl) (by kernel_rfl) (by kernel_rfl) (by kernel_rfl)
theorem a_list_Place_api_Timer {x0 x1 : V} {H : List Entry} {K : KV} (h : Wf H → awp AP H.length c_list_Place_api_Timer (finW H.length (rsT [4]) K) ([x0, x1] ++ List.replicate 12 undefV) H) : BCall AP n_list_Place_api_Timer [x0, x1] H K := k_list_Place_api_Timer.call (by kernel_rfl) h
/-- tryst/wheel.place$1: 10 slots -/
def c_wheel_place_1 : AC := .seq (.ops [⟨some 3, .box (.t 0), none⟩,
    ⟨some 4, .mv (.c (.bool false)), none⟩])
  (.seq (.ops [⟨some 5, .load 1 false (.t 1), none⟩,
    ⟨some 6, .load 2 true (.t 3), none⟩,
    ⟨some 7, .load 2 true (.t 2), none⟩,
    ⟨some 8, .call (.t 5) [(.t 6), (.t 7)], none⟩,
    ⟨some 9, .bin .gtr (.t 8) (.c (.int .i64 0)), none⟩,
    ⟨some 4, .mv (.t 9), none⟩])
  (.ret))
theorem k_wheel_place_1 : FnIs AP n_wheel_place_1 c_wheel_place_1 10 (rsT [4]) := fnIs_of (fn := Go.Proofs.Try.f79) Go.Proofs.Try.func79 (by kernel_rfl) (by kernel_rfl) (by kernel_rfl) (by kernel_rfl) (by kernel_rfl)
theorem a_wheel_place_1 {x0 x1 x2 : V} {H : List Entry} {K : KV} (h : Wf H → awp AP H.length c_wheel_place_1 (finW H.length (rsT [4]) K) ([x0, x1, x2] ++ List.replicate 7 undefV) H) : BCall AP n_wheel_place_1 [x0, x1, x2] H K := k_wheel_place_1.call (by kernel_rfl) h
/-- cmp.Or[int]: 18 slots -/
def c_cmp_Or_int : AC := .seq (.ops [⟨some 2, .mv (.c (.int .i64 0)), none⟩])
  (.seq (.ops [⟨some 3, .mv (.c (.int .i64 0)), none⟩])
  (.seq (.seq (.ops [⟨some 6, .mv (.t 0), none⟩,
    ⟨some 7, .len 1 (.t 6), none⟩,
    ⟨some 8, .mv (.c (.int .i64 0)), none⟩])
  (.block 0 (.loop (.seq (.ops [⟨some 9, .bin .lss (.t 8) (.t 7), none⟩])
  (.seq (.cond (.t 9) (.skip) (.exit 0))
  (.seq (.block 1 (.seq (.ops [⟨some 10, .iad 1 false (.t 6) (.t 8), none⟩,
    ⟨some 11, .load 1 false (.t 10), none⟩,
    ⟨some 5, .mv (.t 11), none⟩])
  (.seq (.ops [⟨some 12, .mv (.t 5), none⟩,
    ⟨some 13, .mv (.t 3), none⟩,
    ⟨some 14, .bin .neq (.t 12) (.t 13), none⟩])
  (.cond (.t 14) (.seq (.ops [⟨some 15, .mv (.t 5), none⟩,
    ⟨some 2, .mv (.t 15), none⟩])
  (.ret)) (.skip)))))
  (.ops [⟨some 16, .bin .add (.t 8) (.c (.int .i64 1)), none⟩,
    ⟨some 8, .mv (.t 16), none⟩])))))))
  (.seq (.ops [⟨some 17, .mv (.t 3), none⟩,
    ⟨some 2, .mv (.t 17), none⟩])
  (.ret))))
theorem k_cmp_Or_int : FnIs AP n_cmp_Or_int c_cmp_Or_int 18 (rsT [2]) := fnIs_of (fn := Go.Proofs.Try.f80) Go.Proofs.Try.func80 (by kernel_rfl) (by kernel_rfl) (by kernel_rfl) (by kernel_rfl) (by kernel_rfl)
theorem a_cmp_Or_int {x0 : V} {H : List Entry} {K : KV} (h : Wf H → awp AP H.length c_cmp_Or_int (finW H.length (rsT [2]) K) ([x0] ++ List.replicate 17 undefV) H) : BCall AP n_cmp_Or_int [x0] H K := k_cmp_Or_int.call (by kernel_rfl) h
/-- cmp.Compare[int]: 20 slots -/
def c_cmp_Compare_int : AC := .seq (.ops [⟨some 4, .mv (.c (.int .i64 0)), none⟩])
  (.seq (.ops [⟨some 7, .mv (.t 0), none⟩,
    ⟨some 8, .call (.c (.fn n_cmp_isNaN_int [] [])) [(.t 7)], none⟩,
    ⟨some 5, .mv (.t 8), none⟩])
  (.seq (.ops [⟨some 9, .mv (.t 1), none⟩,
    ⟨some 10, .call (.c (.fn n_cmp_isNaN_int [] [])) [(.t 9)], none⟩,
    ⟨some 6, .mv (.t 10), none⟩])
  (.seq (.seq (.ops [⟨some 11, .mv (.t 5), none⟩])
  (.cond (.t 11) (.seq (.seq (.ops [⟨some 12, .mv (.t 6), none⟩])
  (.cond (.t 12) (.seq (.ops [⟨some 4, .mv (.c (.int .i64 0)), none⟩])
  (.ret)) (.skip)))
  (.seq (.ops [⟨some 4, .mv (.c (.int .i64 (-1))), none⟩])
  (.ret))) (.skip)))
  (.seq (.seq (.ops [⟨some 13, .mv (.t 6), none⟩])
  (.cond (.t 13) (.seq (.ops [⟨some 4, .mv (.c (.int .i64 1)), none⟩])
  (.ret)) (.skip)))
  (.seq (.seq (.ops [⟨some 14, .mv (.t 0), none⟩,
    ⟨some 15, .mv (.t 1), none⟩,
    ⟨some 16, .bin .lss (.t 14) (.t 15), none⟩])
  (.cond (.t 16) (.seq (.ops [⟨some 4, .mv (.c (.int .i64 (-1))), none⟩])
  (.ret)) (.skip)))
  (.seq (.seq (.ops [⟨some 17, .mv (.t 0), none⟩,
    ⟨some 18, .mv (.t 1), none⟩,
    ⟨some 19, .bin .gtr (.t 17) (.t 18), none⟩])
  (.cond (.t 19) (.seq (.ops [⟨some 4, .mv (.c (.int .i64 1)), none⟩])
  (.ret)) (.skip)))
  (.seq (.ops [⟨some 4, .mv (.c (.int .i64 0)), none⟩])
  (.ret))))))))
theorem k_cmp_Compare_int : FnIs AP n_cmp_Compare_int c_cmp_Compare_int 20 (rsT [4]) := fnIs_of (fn := Go.Proofs.Try.f81) Go.Proofs.Try.func81 (by kernel_rfl) (by kernel_rfl) (by kernel_rfl) (by kernel_rfl) (by kernel_rfl)
theorem a_cmp_Compare_int {x0 x1 : V} {H : List Entry} {K : KV} (h : Wf H → awp AP H.length c_cmp_Compare_int (finW H.length (rsT [4]) K) ([x0, x1] ++ List.replicate 18 undefV) H) : BCall AP n_cmp_Compare_int [x0, x1] H K := k_cmp_Compare_int.call (by kernel_rfl) h
/-- internal/stringslite.Index: 143 slots -/
def c_internal_stringslite_Index : AC := .seq (.ops [⟨some 4, .mv (.c (.int .i64 0)), none⟩])
  (.seq (.ops [⟨some 14, .mv (.t 1), none⟩,
    ⟨some 15, .len 0 (.t 14), none⟩,
    ⟨some 5, .mv (.t 15), none⟩])
  (.seq (.block 0 (.seq (.ops [⟨some 17, .mv (.t 5), none⟩,
    ⟨some 18, .bin .eql (.t 17) (.c (.int .i64 0)), none⟩,
    ⟨some 19, .mv (.t 18), none⟩,
    ⟨some 20, .mv (.t 1), some (19, false)⟩,
    ⟨some 21, .mv (.t 0), some (19, false)⟩,
    ⟨some 22, .bin .eql (.t 20) (.t 21), some (19, false)⟩,
    ⟨some 23, .pick (.t 19) (.c (.bool true)) (.t 22), none⟩,
    ⟨some 16, .mv (.t 23), none⟩])
  (.cond (.t 16) (.seq (.ops [⟨some 4, .mv (.c (.int .i64 0)), none⟩])
  (.ret)) (.seq (.ops [⟨some 25, .mv (.t 5), none⟩,
    ⟨some 26, .bin .eql (.t 25) (.c (.int .i64 1)), none⟩,
    ⟨some 24, .mv (.t 26), none⟩])
  (.cond (.t 24) (.seq (.ops [⟨some 27, .mv (.t 0), none⟩,
    ⟨some 28, .mv (.t 1), none⟩,
    ⟨some 29, .ixs (.t 28) (.c (.int .i64 0)), none⟩,
    ⟨some 30, .call (.c (.fn n_internal_stringslite_IndexByte [] [])) [(.t 27), (.t 29)], none⟩,
    ⟨some 4, .mv (.t 30), none⟩])
  (.ret)) (.seq (.ops [⟨some 32, .mv (.t 5), none⟩,
    ⟨some 33, .mv (.t 0), none⟩,
    ⟨some 34, .len 0 (.t 33), none⟩,
    ⟨some 35, .bin .geq (.t 32) (.t 34), none⟩,
    ⟨some 31, .mv (.t 35), none⟩])
  (.cond (.t 31) (.seq (.ops [⟨some 4, .mv (.c (.int .i64 (-1))), none⟩])
  (.ret)) (.seq (.bad)
  (.cond (.t 36) (.seq (.ops [⟨some 45, .mv (.t 0), none⟩,
    ⟨some 46, .mv (.t 1), none⟩,
    ⟨some 47, .call (.c (.fn n_internal_bytealg_IndexString [] [])) [(.t 45), (.t 46)], none⟩,
    ⟨some 4, .mv (.t 47), none⟩])
  (.ret)) (.skip))))))))))
  (.seq (.ops [⟨some 48, .mv (.t 1), none⟩,
    ⟨some 49, .ixs (.t 48) (.c (.int .i64 0)), none⟩,
    ⟨some 6, .mv (.t 49), none⟩])
  (.seq (.ops [⟨some 50, .mv (.t 1), none⟩,
    ⟨some 51, .ixs (.t 50) (.c (.int .i64 1)), none⟩,
    ⟨some 7, .mv (.t 51), none⟩])
  (.seq (.ops [⟨some 8, .mv (.c (.int .i64 0)), none⟩])
  (.seq (.ops [⟨some 52, .mv (.t 0), none⟩,
    ⟨some 53, .len 0 (.t 52), none⟩,
    ⟨some 54, .mv (.t 5), none⟩,
    ⟨some 55, .bin .sub (.t 53) (.t 54), none⟩,
    ⟨some 56, .bin .add (.t 55) (.c (.int .i64 1)), none⟩,
    ⟨some 9, .mv (.t 56), none⟩])
  (.seq (.ops [⟨some 10, .mv (.c (.int .i64 0)), none⟩])
  (.seq (.block 1 (.loop (.seq (.seq (.ops [⟨some 57, .mv (.t 8), none⟩,
    ⟨some 58, .mv (.t 9), none⟩,
    ⟨some 59, .bin .lss (.t 57) (.t 58), none⟩])
  (.cond (.t 59) (.skip) (.exit 1)))
  (.block 2 (.seq (.seq (.ops [⟨some 60, .mv (.t 0), none⟩,
    ⟨some 61, .mv (.t 8), none⟩,
    ⟨some 62, .ixs (.t 60) (.t 61), none⟩,
    ⟨some 63, .mv (.t 6), none⟩,
    ⟨some 64, .bin .neq (.t 62) (.t 63), none⟩])
  (.cond (.t 64) (.seq (.ops [⟨some 65, .mv (.t 0), none⟩,
    ⟨some 66, .mv (.t 8), none⟩,
    ⟨some 67, .bin .add (.t 66) (.c (.int .i64 1)), none⟩,
    ⟨some 68, .mv (.t 9), none⟩,
    ⟨some 69, .sls (.t 65) (some (.t 67)) (some (.t 68)), none⟩,
    ⟨some 70, .mv (.t 6), none⟩,
    ⟨some 71, .call (.c (.fn n_internal_stringslite_IndexByte [] [])) [(.t 69), (.t 70)], none⟩,
    ⟨some 11, .mv (.t 71), none⟩])
  (.seq (.seq (.ops [⟨some 72, .mv (.t 11), none⟩,
    ⟨some 73, .bin .lss (.t 72) (.c (.int .i64 0)), none⟩])
  (.cond (.t 73) (.seq (.ops [⟨some 4, .mv (.c (.int .i64 (-1))), none⟩])
  (.ret)) (.skip)))
  (.ops [⟨some 74, .mv (.t 8), none⟩,
    ⟨some 75, .mv (.t 11), none⟩,
    ⟨some 76, .bin .add (.t 75) (.c (.int .i64 1)), none⟩,
    ⟨some 77, .bin .add (.t 74) (.t 76), none⟩,
    ⟨some 8, .mv (.t 77), none⟩]))) (.skip)))
  (.seq (.seq (.ops [⟨some 78, .mv (.t 0), none⟩,
    ⟨some 79, .mv (.t 8), none⟩,
    ⟨some 80, .bin .add (.t 79) (.c (.int .i64 1)), none⟩,
    ⟨some 81, .ixs (.t 78) (.t 80), none⟩,
    ⟨some 82, .mv (.t 7), none⟩,
    ⟨some 83, .bin .eql (.t 81) (.t 82), none⟩,
    ⟨some 84, .mv (.t 83), none⟩,
    ⟨some 85, .mv (.t 0), some (84, true)⟩,
    ⟨some 86, .mv (.t 8), some (84, true)⟩,
    ⟨some 87, .mv (.t 8), some (84, true)⟩,
    ⟨some 88, .mv (.t 5), some (84, true)⟩,
    ⟨some 89, .bin .add (.t 87) (.t 88), some (84, true)⟩,
    ⟨some 90, .sls (.t 85) (some (.t 86)) (some (.t 89)), some (84, true)⟩,
    ⟨some 91, .mv (.t 1), some (84, true)⟩,
    ⟨some 92, .bin .eql (.t 90) (.t 91), some (84, true)⟩,
    ⟨some 93, .pick (.t 84) (.t 92) (.c (.bool false)), none⟩])
  (.cond (.t 93) (.seq (.ops [⟨some 94, .mv (.t 8), none⟩,
    ⟨some 4, .mv (.t 94), none⟩])
  (.ret)) (.skip)))
  (.seq (.ops [⟨some 95, .mv (.t 8), none⟩,
    ⟨some 96, .bin .add (.t 95) (.c (.int .i64 1)), none⟩,
    ⟨some 8, .mv (.t 96), none⟩])
  (.seq (.ops [⟨some 97, .mv (.t 10), none⟩,
    ⟨some 98, .bin .add (.t 97) (.c (.int .i64 1)), none⟩,
    ⟨some 10, .mv (.t 98), none⟩])
  (.seq (.bad)
  (.cond (.t 107) (.seq (.ops [⟨some 108, .mv (.t 0), none⟩,
    ⟨some 109, .mv (.t 8), none⟩,
    ⟨some 110, .sls (.t 108) (some (.t 109)) none, none⟩,
    ⟨some 111, .mv (.t 1), none⟩,
    ⟨some 112, .call (.c (.fn n_internal_bytealg_IndexString [] [])) [(.t 110), (.t 111)], none⟩,
    ⟨some 12, .mv (.t 112), none⟩])
  (.seq (.seq (.ops [⟨some 113, .mv (.t 12), none⟩,
    ⟨some 114, .bin .geq (.t 113) (.c (.int .i64 0)), none⟩])
  (.cond (.t 114) (.seq (.ops [⟨some 115, .mv (.t 12), none⟩,
    ⟨some 116, .mv (.t 8), none⟩,
    ⟨some 117, .bin .add (.t 115) (.t 116), none⟩,
    ⟨some 4, .mv (.t 117), none⟩])
  (.ret)) (.skip)))
  (.seq (.ops [⟨some 4, .mv (.c (.int .i64 (-1))), none⟩])
  (.ret)))) (.seq (.bad)
  (.cond (.t 132) (.seq (.ops [⟨some 133, .mv (.t 0), none⟩,
    ⟨some 134, .mv (.t 8), none⟩,
    ⟨some 135, .sls (.t 133) (some (.t 134)) none, none⟩,
    ⟨some 136, .mv (.t 1), none⟩,
    ⟨some 137, .call (.c (.fn n_internal_bytealg_IndexRabinKarp_string [] [])) [(.t 135), (.t 136)], none⟩,
    ⟨some 13, .mv (.t 137), none⟩])
  (.seq (.seq (.ops [⟨some 138, .mv (.t 13), none⟩,
    ⟨some 139, .bin .lss (.t 138) (.c (.int .i64 0)), none⟩])
  (.cond (.t 139) (.seq (.ops [⟨some 4, .mv (.c (.int .i64 (-1))), none⟩])
  (.ret)) (.skip)))
  (.seq (.ops [⟨some 140, .mv (.t 8), none⟩,
    ⟨some 141, .mv (.t 13), none⟩,
    ⟨some 142, .bin .add (.t 140) (.t 141), none⟩,
    ⟨some 4, .mv (.t 142), none⟩])
  (.ret)))) (.skip)))))))))))))
  (.seq (.ops [⟨some 4, .mv (.c (.int .i64 (-1))), none⟩])
  (.ret))))))))))
theorem k_internal_stringslite_Index : FnIs AP n_internal_stringslite_Index c_internal_stringslite_Index 143 (rsT [4]) := fnIs_of (fn := Go.Proofs.Try.f82) Go.Proofs.Try.func82 (by kernel_rfl) (by kernel_rfl) (by kernel_rfl) (by kernel_rfl) (by kernel_rfl)
theorem a_internal_stringslite_Index {x0 x1 : V} {H : List Entry} {K : KV} (h : Wf H → awp AP H.length c_internal_stringslite_Index (finW H.length (rsT [4]) K) ([x0, x1] ++ List.replicate 141 undefV) H) : BCall AP n_internal_stringslite_Index [x0, x1] H K := k_internal_stringslite_Index.call (by kernel_rfl) h
-- 82 internal/stringslite.Index: [strings.go:37, strings.go:61, strings.go:68]
/-- tryst/name.allParts$1: 23 slots -/
def c_name_allParts_1 : AC := .seq (.ops [⟨some 6, .mv (.c (.bool false)), none⟩])
  (.seq (.ops [⟨some 8, .load 1 false (.t 1), none⟩,
    ⟨some 9, .load 1 false (.t 2), none⟩,
    ⟨some 10, .mv (.t 0), none⟩,
    ⟨some 11, .sls (.t 8) (some (.t 9)) (some (.t 10)), none⟩,
    ⟨some 7, .mv (.t 11), none⟩])
  (.seq (.ops [⟨some 12, .mv (.t 0), none⟩,
    ⟨some 13, .bin .add (.t 12) (.c (.int .i64 1)), none⟩,
    ⟨none, .store 1 (.t 2) (.t 13), none⟩])
  (.seq (.ops [⟨some 14, .load 1 false (.t 3), none⟩,
    ⟨some 15, .bin .add (.t 14) (.c (.int .i64 1)), none⟩,
    ⟨none, .store 1 (.t 3) (.t 15), none⟩])
  (.seq (.ops [⟨some 16, .load 1 false (.t 4), none⟩,
    ⟨some 17, .mv (.t 7), none⟩,
    ⟨some 18, .call (.t 16) [(.t 17)], none⟩,
    ⟨some 19, .mv (.t 18), none⟩,
    ⟨some 20, .load 1 false (.t 3), some (19, true)⟩,
    ⟨some 21, .bin .leq (.t 20) (.c (.int .i64 8)), some (19, true)⟩,
    ⟨some 22, .pick (.t 19) (.t 21) (.c (.bool false)), none⟩,
    ⟨some 6, .mv (.t 22), none⟩])
  (.ret)))))
theorem k_name_allParts_1 : FnIs AP n_name_allParts_1 c_name_allParts_1 23 (rsT [6]) := fnIs_of (fn := Go.Proofs.Try.f83) Go.Proofs.Try.func83 (by kernel_rfl) (by kernel_rfl) (by kernel_rfl) (by kernel_rfl) (by kernel_rfl)
theorem a_name_allParts_1 {x0 x1 x2 x3 x4 : V} {H : List Entry} {K : KV} (h : Wf H → awp AP H.length c_name_allParts_1 (finW H.length (rsT [6]) K) ([x0, x1, x2, x3, x4] ++ List.replicate 18 undefV) H) : BCall AP n_name_allParts_1 [x0, x1, x2, x3, x4] H K := k_name_allParts_1.call (by kernel_rfl) h
/-- tryst/name.allRunes: 16 slots -/
def c_name_allRunes : AC := .seq (.ops [⟨some 4, .mv (.c (.bool false)), none⟩])
  (.seq (.seq (.ops [⟨some 7, .mv (.t 0), none⟩,
    ⟨some 8, .rng (.t 7), none⟩])
  (.block 0 (.loop (.seq (.ops [⟨some 9, .nxt true (.t 8), none⟩,
    ⟨some 10, .ext (.t 9) 0, none⟩])
  (.seq (.cond (.t 10) (.skip) (.exit 0))
  (.block 1 (.seq (.ops [⟨some 11, .ext (.t 9) 2, none⟩,
    ⟨some 6, .mv (.t 11), none⟩])
  (.seq (.ops [⟨some 12, .mv (.t 1), none⟩,
    ⟨some 13, .mv (.t 6), none⟩,
    ⟨some 14, .call (.t 12) [(.t 13)], none⟩,
    ⟨some 15, .un .not (.t 14), none⟩])
  (.cond (.t 15) (.seq (.ops [⟨some 4, .mv (.c (.bool false)), none⟩])
  (.ret)) (.skip))))))))))
  (.seq (.ops [⟨some 4, .mv (.c (.bool true)), none⟩])
  (.ret)))
theorem k_name_allRunes : FnIs AP n_name_allRunes c_name_allRunes 16 (rsT [4]) := fnIs_of (fn := Go.Proofs.Try.f84) Go.Proofs.Try.func84 (by kernel_rfl) (by kernel_rfl) (by kernel_rfl) (by kernel_rfl) (by kernel_rfl)
theorem a_name_allRunes {x0 x1 : V} {H : List Entry} {K : KV} (h : Wf H → awp AP H.length c_name_allRunes (finW H.length (rsT [4]) K) ([x0, x1] ++ List.replicate 14 undefV) H) : BCall AP n_name_allRunes [x0, x1] H K := k_name_allRunes.call (by kernel_rfl) h
/-- tryst/name.isPart$1: 21 slots -/
def c_name_isPart_1 : AC := .seq (.ops [⟨some 2, .mv (.c (.bool false)), none⟩])
  (.seq (.ops [⟨some 3, .mv (.t 0), none⟩,
    ⟨some 4, .bin .leq (.c (.int .i32 97)) (.t 3), none⟩,
    ⟨some 5, .mv (.t 4), none⟩,
    ⟨some 6, .mv (.t 0), some (5, true)⟩,
    ⟨some 7, .bin .leq (.t 6) (.c (.int .i32 122)), some (5, true)⟩,
    ⟨some 8, .pick (.t 5) (.t 7) (.c (.bool false)), none⟩,
    ⟨some 9, .mv (.t 8), none⟩,
    ⟨some 10, .mv (.t 0), some (9, false)⟩,
    ⟨some 11, .bin .leq (.c (.int .i32 48)) (.t 10), some (9, false)⟩,
    ⟨some 12, .mv (.t 11), some (9, false)⟩,
    ⟨some 13, .mv (.t 0), some (12, true)⟩,
    ⟨some 14, .bin .leq (.t 13) (.c (.int .i32 57)), some (12, true)⟩,
    ⟨some 15, .pick (.t 12) (.t 14) (.c (.bool false)), some (9, false)⟩,
    ⟨some 16, .pick (.t 9) (.c (.bool true)) (.t 15), none⟩,
    ⟨some 17, .mv (.t 16), none⟩,
    ⟨some 18, .mv (.t 0), some (17, false)⟩,
    ⟨some 19, .bin .eql (.t 18) (.c (.int .i32 95)), some (17, false)⟩,
    ⟨some 20, .pick (.t 17) (.c (.bool true)) (.t 19), none⟩,
    ⟨some 2, .mv (.t 20), none⟩])
  (.ret))
theorem k_name_isPart_1 : FnIs AP n_name_isPart_1 c_name_isPart_1 21 (rsT [2]) := fnIs_of (fn := Go.Proofs.Try.f85) Go.Proofs.Try.func85 (by kernel_rfl) (by kernel_rfl) (by kernel_rfl) (by kernel_rfl) (by kernel_rfl)
theorem a_name_isPart_1 {x0 : V} {H : List Entry} {K : KV} (h : Wf H → awp AP H.length c_name_isPart_1 (finW H.length (rsT [2]) K) ([x0] ++ List.replicate 20 undefV) H) : BCall AP n_name_isPart_1 [x0] H K := k_name_isPart_1.call (by kernel_rfl) h
/-- tryst/trystref02.cut: 33 slots -/
def c_trystref02_cut : AC := .seq (.ops [⟨some 2, .mv (.c (.nilsl)), none⟩])
  (.seq (.ops [⟨some 5, .bsl 1 false [(.c (.str []))], none⟩,
    ⟨some 3, .mv (.t 5), none⟩])
  (.seq (.seq (.ops [⟨some 4, .mv (.c (.int .i64 0)), none⟩])
  (.block 0 (.loop (.seq (.seq (.ops [⟨some 6, .mv (.t 4), none⟩,
    ⟨some 7, .mv (.t 0), none⟩,
    ⟨some 8, .len 0 (.t 7), none⟩,
    ⟨some 9, .bin .lss (.t 6) (.t 8), none⟩])
  (.cond (.t 9) (.skip) (.exit 0)))
  (.seq (.block 1 (.seq (.ops [⟨some 12, .mv (.t 0), none⟩,
    ⟨some 13, .mv (.t 4), none⟩,
    ⟨some 14, .ixs (.t 12) (.t 13), none⟩,
    ⟨some 15, .bin .eql (.t 14) (.c (.int .u8 46)), none⟩])
  (.cond (.t 15) (.ops [⟨some 16, .mv (.t 3), none⟩,
    ⟨some 17, .bsl 1 false [(.c (.str []))], none⟩,
    ⟨some 18, .app 9 1 16 false (.t 16) (.t 17), none⟩,
    ⟨some 3, .mv (.t 18), none⟩]) (.draw [⟨some 19, .mv (.t 3), none⟩,
    ⟨some 20, .mv (.t 3), none⟩,
    ⟨some 21, .len 1 (.t 20), none⟩,
    ⟨some 22, .bin .sub (.t 21) (.c (.int .i64 1)), none⟩,
    ⟨some 23, .iad 1 false (.t 19) (.t 22), none⟩,
    ⟨some 24, .load 1 false (.t 23), none⟩,
    ⟨some 25, .mv (.t 0), none⟩,
    ⟨some 26, .mv (.t 4), none⟩,
    ⟨some 27, .mv (.t 4), none⟩,
    ⟨some 28, .bin .add (.t 27) (.c (.int .i64 1)), none⟩,
    ⟨some 29, .sls (.t 25) (some (.t 26)) (some (.t 28)), none⟩,
    ⟨some 30, .bin .add (.t 24) (.t 29), none⟩,
    ⟨some 31, .iad 1 false (.t 19) (.t 22), none⟩,
    ⟨none, .store 1 (.t 31) (.t 30), none⟩]))))
  (.ops [⟨some 10, .mv (.t 4), none⟩,
    ⟨some 11, .bin .add (.t 10) (.c (.int .i64 1)), none⟩,
    ⟨some 4, .mv (.t 11), none⟩]))))))
  (.seq (.ops [⟨some 32, .mv (.t 3), none⟩,
    ⟨some 2, .mv (.t 32), none⟩])
  (.ret))))
theorem k_trystref02_cut : FnIs AP n_trystref02_cut c_trystref02_cut 33 (rsT [2]) := fnIs_of (fn := Go.Proofs.Try.f86) Go.Proofs.Try.func86 (by kernel_rfl) (by kernel_rfl) (by kernel_rfl) (by kernel_rfl) (by kernel_rfl)
theorem a_trystref02_cut {x0 : V} {H : List Entry} {K : KV} (h : Wf H → awp AP H.length c_trystref02_cut (finW H.length (rsT [2]) K) ([x0] ++ List.replicate 32 undefV) H) : BCall AP n_trystref02_cut [x0] H K := k_trystref02_cut.call (by kernel_rfl) h
/-- tryst/trystref02.part: 35 slots -/
def c_trystref02_part : AC := .seq (.ops [⟨some 2, .mv (.c (.bool false)), none⟩])
  (.seq (.seq (.ops [⟨some 3, .mv (.c (.int .i64 0)), none⟩])
  (.block 0 (.loop (.seq (.seq (.ops [⟨some 5, .mv (.t 3), none⟩,
    ⟨some 6, .mv (.t 0), none⟩,
    ⟨some 7, .len 0 (.t 6), none⟩,
    ⟨some 8, .bin .lss (.t 5) (.t 7), none⟩])
  (.cond (.t 8) (.skip) (.exit 0)))
  (.seq (.block 1 (.seq (.ops [⟨some 11, .mv (.t 0), none⟩,
    ⟨some 12, .mv (.t 3), none⟩,
    ⟨some 13, .ixs (.t 11) (.t 12), none⟩,
    ⟨some 4, .mv (.t 13), none⟩])
  (.seq (.ops [⟨some 14, .mv (.t 4), none⟩,
    ⟨some 15, .bin .leq (.c (.int .u8 97)) (.t 14), none⟩,
    ⟨some 16, .mv (.t 15), none⟩,
    ⟨some 17, .mv (.t 4), some (16, true)⟩,
    ⟨some 18, .bin .leq (.t 17) (.c (.int .u8 122)), some (16, true)⟩,
    ⟨some 19, .pick (.t 16) (.t 18) (.c (.bool false)), none⟩,
    ⟨some 20, .mv (.t 19), none⟩,
    ⟨some 21, .mv (.t 4), some (20, false)⟩,
    ⟨some 22, .bin .leq (.c (.int .u8 48)) (.t 21), some (20, false)⟩,
    ⟨some 23, .mv (.t 22), some (20, false)⟩,
    ⟨some 24, .mv (.t 4), some (23, true)⟩,
    ⟨some 25, .bin .leq (.t 24) (.c (.int .u8 57)), some (23, true)⟩,
    ⟨some 26, .pick (.t 23) (.t 25) (.c (.bool false)), some (20, false)⟩,
    ⟨some 27, .pick (.t 20) (.c (.bool true)) (.t 26), none⟩,
    ⟨some 28, .mv (.t 27), none⟩,
    ⟨some 29, .mv (.t 4), some (28, false)⟩,
    ⟨some 30, .bin .eql (.t 29) (.c (.int .u8 95)), some (28, false)⟩,
    ⟨some 31, .pick (.t 28) (.c (.bool true)) (.t 30), none⟩,
    ⟨some 32, .un .not (.t 31), none⟩])
  (.cond (.t 32) (.seq (.ops [⟨some 2, .mv (.c (.bool false)), none⟩])
  (.ret)) (.skip)))))
  (.ops [⟨some 9, .mv (.t 3), none⟩,
    ⟨some 10, .bin .add (.t 9) (.c (.int .i64 1)), none⟩,
    ⟨some 3, .mv (.t 10), none⟩]))))))
  (.seq (.ops [⟨some 33, .mv (.t 0), none⟩,
    ⟨some 34, .bin .neq (.t 33) (.c (.str [])), none⟩,
    ⟨some 2, .mv (.t 34), none⟩])
  (.ret)))
theorem k_trystref02_part : FnIs AP n_trystref02_part c_trystref02_part 35 (rsT [2]) := fnIs_of (fn := Go.Proofs.Try.f87) Go.Proofs.Try.func87 (by kernel_rfl) (by kernel_rfl) (by kernel_rfl) (by kernel_rfl) (by kernel_rfl)
theorem a_trystref02_part {x0 : V} {H : List Entry} {K : KV} (h : Wf H → awp AP H.length c_trystref02_part (finW H.length (rsT [2]) K) ([x0] ++ List.replicate 34 undefV) H) : BCall AP n_trystref02_part [x0] H K := k_trystref02_part.call (by kernel_rfl) h
/-- tryst/list.Rises[tryst/api.Timer]: 24 slots -/
def c_list_Rises_api_Timer : AC := .seq (.ops [⟨some 4, .mv (.c (.bool false)), none⟩])
  (.seq (.seq (.ops [⟨some 5, .mv (.c (.int .i64 1)), none⟩])
  (.block 0 (.loop (.seq (.seq (.ops [⟨some 6, .mv (.t 5), none⟩,
    ⟨some 7, .mv (.t 0), none⟩,
    ⟨some 8, .len 1 (.t 7), none⟩,
    ⟨some 9, .bin .lss (.t 6) (.t 8), none⟩])
  (.cond (.t 9) (.skip) (.exit 0)))
  (.seq (.block 1 (.seq (.draw [⟨some 12, .mv (.t 1), none⟩,
    ⟨some 13, .mv (.t 0), none⟩,
    ⟨some 14, .mv (.t 5), none⟩,
    ⟨some 15, .bin .sub (.t 14) (.c (.int .i64 1)), none⟩,
    ⟨some 16, .iad 2 true (.t 13) (.t 15), none⟩,
    ⟨some 17, .load 2 true (.t 16), none⟩,
    ⟨some 18, .mv (.t 0), none⟩,
    ⟨some 19, .mv (.t 5), none⟩,
    ⟨some 20, .iad 2 true (.t 18) (.t 19), none⟩,
    ⟨some 21, .load 2 true (.t 20), none⟩,
    ⟨some 22, .dcall (.t 12) [(.t 17), (.t 21)], none⟩,
    ⟨some 23, .bin .geq (.t 22) (.c (.int .i64 0)), none⟩])
  (.cond (.t 23) (.seq (.ops [⟨some 4, .mv (.c (.bool false)), none⟩])
  (.ret)) (.skip))))
  (.ops [⟨some 10, .mv (.t 5), none⟩,
    ⟨some 11, .bin .add (.t 10) (.c (.int .i64 1)), none⟩,
    ⟨some 5, .mv (.t 11), none⟩]))))))
  (.seq (.ops [⟨some 4, .mv (.c (.bool true)), none⟩])
  (.ret)))
theorem k_list_Rises_api_Timer : FnIs AP n_list_Rises_api_Timer c_list_Rises_api_Timer 24 (rsT [4]) := fnIs_of (fn := Go.Proofs.Try.f88) Go.Proofs.Try.func88 (by kernel_rfl) (by kernel_rfl) (by kernel_rfl) (by kernel_rfl) (by kernel_rfl)
theorem a_list_Rises_api_Timer {x0 x1 : V} {H : List Entry} {K : KV} (h : Wf H → awp AP H.length c_list_Rises_api_Timer (finW H.length (rsT [4]) K) ([x0, x1] ++ List.replicate 22 undefV) H) : BCall AP n_list_Rises_api_Timer [x0, x1] H K := k_list_Rises_api_Timer.call (by kernel_rfl) h
/-- tryst/wheel.inOrder$1: 10 slots -/
def c_wheel_inOrder_1 : AC := .seq (.ops [⟨some 3, .box (.t 0), none⟩,
    ⟨some 4, .box (.t 1), none⟩,
    ⟨some 5, .mv (.c (.int .i64 0)), none⟩])
  (.seq (.ops [⟨some 6, .load 1 false (.t 2), none⟩,
    ⟨some 7, .load 2 true (.t 3), none⟩,
    ⟨some 8, .load 2 true (.t 4), none⟩,
    ⟨some 9, .call (.t 6) [(.t 7), (.t 8)], none⟩,
    ⟨some 5, .mv (.t 9), none⟩])
  (.ret))
theorem k_wheel_inOrder_1 : FnIs AP n_wheel_inOrder_1 c_wheel_inOrder_1 10 (rsT [5]) := fnIs_of (fn := Go.Proofs.Try.f89) Go.Proofs.Try.func89 (by kernel_rfl) (by kernel_rfl) (by kernel_rfl) (by kernel_rfl) (by kernel_rfl)
theorem a_wheel_inOrder_1 {x0 x1 x2 : V} {H : List Entry} {K : KV} (h : Wf H → awp AP H.length c_wheel_inOrder_1 (finW H.length (rsT [5]) K) ([x0, x1, x2] ++ List.replicate 7 undefV) H) : BCall AP n_wheel_inOrder_1 [x0, x1, x2] H K := k_wheel_inOrder_1.call (by kernel_rfl) h
/-- slices.IndexFunc[[]tryst/api.Timer,tryst/api.Timer]: 19 slots -/
def c_slices_IndexFunc_api_Timer_api_Timer : AC := .seq (.ops [⟨some 4, .mv (.c (.int .i64 0)), none⟩])
  (.seq (.seq (.ops [⟨some 6, .mv (.t 0), none⟩,
    ⟨some 7, .len 1 (.t 6), none⟩,
    ⟨some 8, .mv (.c (.int .i64 0)), none⟩])
  (.block 0 (.loop (.seq (.ops [⟨some 9, .bin .lss (.t 8) (.t 7), none⟩])
  (.seq (.cond (.t 9) (.skip) (.exit 0))
  (.seq (.block 1 (.seq (.ops [⟨some 10, .mv (.t 8), none⟩,
    ⟨some 5, .mv (.t 10), none⟩])
  (.seq (.ops [⟨some 11, .mv (.t 1), none⟩,
    ⟨some 12, .mv (.t 0), none⟩,
    ⟨some 13, .mv (.t 5), none⟩,
    ⟨some 14, .iad 2 true (.t 12) (.t 13), none⟩,
    ⟨some 15, .load 2 true (.t 14), none⟩,
    ⟨some 16, .call (.t 11) [(.t 15)], none⟩])
  (.cond (.t 16) (.seq (.ops [⟨some 17, .mv (.t 5), none⟩,
    ⟨some 4, .mv (.t 17), none⟩])
  (.ret)) (.skip)))))
  (.ops [⟨some 18, .bin .add (.t 8) (.c (.int .i64 1)), none⟩,
    ⟨some 8, .mv (.t 18), none⟩])))))))
  (.seq (.ops [⟨some 4, .mv (.c (.int .i64 (-1))), none⟩])
  (.ret)))
theorem k_slices_IndexFunc_api_Timer_api_Timer : FnIs AP n_slices_IndexFunc_api_Timer_api_Timer c_slices_IndexFunc_api_Timer_api_Timer 19 (rsT [4]) := fnIs_of (fn := Go.Proofs.Try.f90) Go.Proofs.Try.func90 (by kernel_rfl) (by kernel_rfl) (by kernel_rfl) (by kernel_rfl) (by kernel_rfl)
theorem a_slices_IndexFunc_api_Timer_api_Timer {x0 x1 : V} {H : List Entry} {K : KV} (h : Wf H → awp AP H.length c_slices_IndexFunc_api_Timer_api_Timer (finW H.length (rsT [4]) K) ([x0, x1] ++ List.replicate 17 undefV) H) : BCall AP n_slices_IndexFunc_api_Timer_api_Timer [x0, x1] H K := k_slices_IndexFunc_api_Timer_api_Timer.call (by kernel_rfl) h
/-- tryst/wheel.find$1: 8 slots -/
def c_wheel_find_1 : AC := .seq (.ops [⟨some 2, .box (.t 0), none⟩,
    ⟨some 3, .mv (.c (.bool false)), none⟩])
  (.seq (.ops [⟨some 4, .fad 1 (.t 2), none⟩,
    ⟨some 5, .load 1 false (.t 4), none⟩,
    ⟨some 6, .load 1 false (.t 1), none⟩,
    ⟨some 7, .bin .eql (.t 5) (.t 6), none⟩,
    ⟨some 3, .mv (.t 7), none⟩])
  (.ret))
theorem k_wheel_find_1 : FnIs AP n_wheel_find_1 c_wheel_find_1 8 (rsT [3]) := fnIs_of (fn := Go.Proofs.Try.f91) Go.Proofs.Try.func91 (by kernel_rfl) (by kernel_rfl) (by kernel_rfl) (by kernel_rfl) (by kernel_rfl)
theorem a_wheel_find_1 {x0 x1 : V} {H : List Entry} {K : KV} (h : Wf H → awp AP H.length c_wheel_find_1 (finW H.length (rsT [3]) K) ([x0, x1] ++ List.replicate 6 undefV) H) : BCall AP n_wheel_find_1 [x0, x1] H K := k_wheel_find_1.call (by kernel_rfl) h
/-- slices.Grow[[]tryst/api.Timer,tryst/api.Timer]: 27 slots -/
def c_slices_Grow_api_Timer_api_Timer : AC := .seq (.ops [⟨some 4, .mv (.c (.nilsl)), none⟩])
  (.seq (.seq (.ops [⟨some 5, .mv (.t 1), none⟩,
    ⟨some 6, .bin .lss (.t 5) (.c (.int .i64 0)), none⟩])
  (.cond (.t 6) (.bad) (.skip)))
  (.seq (.seq (.bad)
  (.seq (.ops [⟨some 15, .mv (.t 1), none⟩,
    ⟨some 16, .bin .gtr (.t 15) (.c (.int .i64 0)), none⟩])
  (.cond (.t 16) (.bad) (.skip))))
  (.seq (.ops [⟨some 26, .mv (.t 0), none⟩,
    ⟨some 4, .mv (.t 26), none⟩])
  (.ret))))
theorem k_slices_Grow_api_Timer_api_Timer : FnIs AP n_slices_Grow_api_Timer_api_Timer c_slices_Grow_api_Timer_api_Timer 27 (rsT [4]) := fnIs_of (fn := Go.Proofs.Try.f92) Go.Proofs.Try.func92 (by kernel_rfl) (by kernel_rfl) (by kernel_rfl) (by kernel_rfl) (by kernel_rfl)
theorem a_slices_Grow_api_Timer_api_Timer {x0 x1 : V} {H : List Entry} {K : KV} (h : Wf H → awp AP H.length c_slices_Grow_api_Timer_api_Timer (finW H.length (rsT [4]) K) ([x0, x1] ++ List.replicate 25 undefV) H) : BCall AP n_slices_Grow_api_Timer_api_Timer [x0, x1] H K := k_slices_Grow_api_Timer_api_Timer.call (by kernel_rfl) h
-- 92 slices.Grow[[]tryst/api.Timer,tryst/api.Timer]: [slices.go:424, slices.go:424, slices.go:426, slices.go:428, slices.go:428]
/-- cmp.isNaN[int]: 6 slots -/
def c_cmp_isNaN_int : AC := .seq (.ops [⟨some 2, .mv (.c (.bool false)), none⟩])
  (.seq (.ops [⟨some 3, .mv (.t 0), none⟩,
    ⟨some 4, .mv (.t 0), none⟩,
    ⟨some 5, .bin .neq (.t 3) (.t 4), none⟩,
    ⟨some 2, .mv (.t 5), none⟩])
  (.ret))
theorem k_cmp_isNaN_int : FnIs AP n_cmp_isNaN_int c_cmp_isNaN_int 6 (rsT [2]) := fnIs_of (fn := Go.Proofs.Try.f93) Go.Proofs.Try.func93 (by kernel_rfl) (by kernel_rfl) (by kernel_rfl) (by kernel_rfl) (by kernel_rfl)
theorem a_cmp_isNaN_int {x0 : V} {H : List Entry} {K : KV} (h : Wf H → awp AP H.length c_cmp_isNaN_int (finW H.length (rsT [2]) K) ([x0] ++ List.replicate 5 undefV) H) : BCall AP n_cmp_isNaN_int [x0] H K := k_cmp_isNaN_int.call (by kernel_rfl) h
/-- internal/stringslite.IndexByte: 8 slots -/
def c_internal_stringslite_IndexByte : AC := .seq (.ops [⟨some 4, .mv (.c (.int .i64 0)), none⟩])
  (.seq (.ops [⟨some 5, .mv (.t 0), none⟩,
    ⟨some 6, .mv (.t 1), none⟩,
    ⟨some 7, .call (.c (.fn n_internal_bytealg_IndexByteString [] [])) [(.t 5), (.t 6)], none⟩,
    ⟨some 4, .mv (.t 7), none⟩])
  (.ret))
theorem k_internal_stringslite_IndexByte : FnIs AP n_internal_stringslite_IndexByte c_internal_stringslite_IndexByte 8 (rsT [4]) := fnIs_of (fn := Go.Proofs.Try.f94) Go.Proofs.Try.func94 (by kernel_rfl) (by kernel_rfl) (by kernel_rfl) (by kernel_rfl) (by kernel_rfl)
theorem a_internal_stringslite_IndexByte {x0 x1 : V} {H : List Entry} {K : KV} (h : Wf H → awp AP H.length c_internal_stringslite_IndexByte (finW H.length (rsT [4]) K) ([x0, x1] ++ List.replicate 6 undefV) H) : BCall AP n_internal_stringslite_IndexByte [x0, x1] H K := k_internal_stringslite_IndexByte.call (by kernel_rfl) h
/-- internal/bytealg.Cutover: 6 slots -/
def c_internal_bytealg_Cutover : AC := .seq (.ops [⟨some 2, .mv (.c (.int .i64 0)), none⟩])
  (.seq (.ops [⟨some 3, .mv (.t 0), none⟩,
    ⟨some 4, .bin .add (.t 3) (.c (.int .i64 16)), none⟩,
    ⟨some 5, .bin .quo (.t 4) (.c (.int .i64 8)), none⟩,
    ⟨some 2, .mv (.t 5), none⟩])
  (.ret))
theorem k_internal_bytealg_Cutover : FnIs AP n_internal_bytealg_Cutover c_internal_bytealg_Cutover 6 (rsT [2]) := fnIs_of (fn := Go.Proofs.Try.f96) Go.Proofs.Try.func96 (by kernel_rfl) (by kernel_rfl) (by kernel_rfl) (by kernel_rfl) (by kernel_rfl)
theorem a_internal_bytealg_Cutover {x0 : V} {H : List Entry} {K : KV} (h : Wf H → awp AP H.length c_internal_bytealg_Cutover (finW H.length (rsT [2]) K) ([x0] ++ List.replicate 5 undefV) H) : BCall AP n_internal_bytealg_Cutover [x0] H K := k_internal_bytealg_Cutover.call (by kernel_rfl) h
/-- internal/bytealg.IndexRabinKarp[string]: 81 slots -/
def c_internal_bytealg_IndexRabinKarp_string : AC := .seq (.ops [⟨some 4, .mv (.c (.int .i64 0)), none⟩])
  (.seq (.ops [⟨some 12, .mv (.t 1), none⟩,
    ⟨some 13, .call (.c (.fn n_internal_bytealg_hashStr_string [] [])) [(.t 12)], none⟩,
    ⟨some 11, .mv (.t 13), none⟩,
    ⟨some 14, .ext (.t 11) 0, none⟩,
    ⟨some 15, .ext (.t 11) 1, none⟩,
    ⟨some 5, .mv (.t 14), none⟩,
    ⟨some 6, .mv (.t 15), none⟩])
  (.seq (.ops [⟨some 16, .mv (.t 1), none⟩,
    ⟨some 17, .len 0 (.t 16), none⟩,
    ⟨some 7, .mv (.t 17), none⟩])
  (.seq (.ops [⟨some 8, .mv (.c (.int .u32 0)), none⟩])
  (.seq (.seq (.ops [⟨some 9, .mv (.c (.int .i64 0)), none⟩])
  (.block 0 (.loop (.seq (.seq (.ops [⟨some 18, .mv (.t 9), none⟩,
    ⟨some 19, .mv (.t 7), none⟩,
    ⟨some 20, .bin .lss (.t 18) (.t 19), none⟩])
  (.cond (.t 20) (.skip) (.exit 0)))
  (.seq (.block 1 (.ops [⟨some 23, .mv (.t 8), none⟩,
    ⟨some 24, .bin .mul (.t 23) (.c (.int .u32 16777619)), none⟩,
    ⟨some 25, .mv (.t 0), none⟩,
    ⟨some 26, .mv (.t 9), none⟩,
    ⟨some 27, .ixs (.t 25) (.t 26), none⟩,
    ⟨some 28, .cvi .u32 (.t 27), none⟩,
    ⟨some 29, .bin .add (.t 24) (.t 28), none⟩,
    ⟨some 8, .mv (.t 29), none⟩]))
  (.ops [⟨some 21, .mv (.t 9), none⟩,
    ⟨some 22, .bin .add (.t 21) (.c (.int .i64 1)), none⟩,
    ⟨some 9, .mv (.t 22), none⟩]))))))
  (.seq (.seq (.ops [⟨some 30, .mv (.t 8), none⟩,
    ⟨some 31, .mv (.t 5), none⟩,
    ⟨some 32, .bin .eql (.t 30) (.t 31), none⟩,
    ⟨some 33, .mv (.t 32), none⟩,
    ⟨some 34, .mv (.t 0), some (33, true)⟩,
    ⟨some 35, .mv (.t 7), some (33, true)⟩,
    ⟨some 36, .sls (.t 34) none (some (.t 35)), some (33, true)⟩,
    ⟨some 37, .mv (.t 1), some (33, true)⟩,
    ⟨some 38, .bin .eql (.t 36) (.t 37), some (33, true)⟩,
    ⟨some 39, .pick (.t 33) (.t 38) (.c (.bool false)), none⟩])
  (.cond (.t 39) (.seq (.ops [⟨some 4, .mv (.c (.int .i64 0)), none⟩])
  (.ret)) (.skip)))
  (.seq (.seq (.ops [⟨some 40, .mv (.t 7), none⟩,
    ⟨some 10, .mv (.t 40), none⟩])
  (.block 2 (.loop (.seq (.seq (.ops [⟨some 41, .mv (.t 10), none⟩,
    ⟨some 42, .mv (.t 0), none⟩,
    ⟨some 43, .len 0 (.t 42), none⟩,
    ⟨some 44, .bin .lss (.t 41) (.t 43), none⟩])
  (.cond (.t 44) (.skip) (.exit 2)))
  (.block 3 (.seq (.ops [⟨some 45, .mv (.t 8), none⟩,
    ⟨some 46, .bin .mul (.t 45) (.c (.int .u32 16777619)), none⟩,
    ⟨some 8, .mv (.t 46), none⟩])
  (.seq (.ops [⟨some 47, .mv (.t 8), none⟩,
    ⟨some 48, .mv (.t 0), none⟩,
    ⟨some 49, .mv (.t 10), none⟩,
    ⟨some 50, .ixs (.t 48) (.t 49), none⟩,
    ⟨some 51, .cvi .u32 (.t 50), none⟩,
    ⟨some 52, .bin .add (.t 47) (.t 51), none⟩,
    ⟨some 8, .mv (.t 52), none⟩])
  (.seq (.ops [⟨some 53, .mv (.t 8), none⟩,
    ⟨some 54, .mv (.t 6), none⟩,
    ⟨some 55, .mv (.t 0), none⟩,
    ⟨some 56, .mv (.t 10), none⟩,
    ⟨some 57, .mv (.t 7), none⟩,
    ⟨some 58, .bin .sub (.t 56) (.t 57), none⟩,
    ⟨some 59, .ixs (.t 55) (.t 58), none⟩,
    ⟨some 60, .cvi .u32 (.t 59), none⟩,
    ⟨some 61, .bin .mul (.t 54) (.t 60), none⟩,
    ⟨some 62, .bin .sub (.t 53) (.t 61), none⟩,
    ⟨some 8, .mv (.t 62), none⟩])
  (.seq (.ops [⟨some 63, .mv (.t 10), none⟩,
    ⟨some 64, .bin .add (.t 63) (.c (.int .i64 1)), none⟩,
    ⟨some 10, .mv (.t 64), none⟩])
  (.seq (.ops [⟨some 65, .mv (.t 8), none⟩,
    ⟨some 66, .mv (.t 5), none⟩,
    ⟨some 67, .bin .eql (.t 65) (.t 66), none⟩,
    ⟨some 68, .mv (.t 67), none⟩,
    ⟨some 69, .mv (.t 0), some (68, true)⟩,
    ⟨some 70, .mv (.t 10), some (68, true)⟩,
    ⟨some 71, .mv (.t 7), some (68, true)⟩,
    ⟨some 72, .bin .sub (.t 70) (.t 71), some (68, true)⟩,
    ⟨some 73, .mv (.t 10), some (68, true)⟩,
    ⟨some 74, .sls (.t 69) (some (.t 72)) (some (.t 73)), some (68, true)⟩,
    ⟨some 75, .mv (.t 1), some (68, true)⟩,
    ⟨some 76, .bin .eql (.t 74) (.t 75), some (68, true)⟩,
    ⟨some 77, .pick (.t 68) (.t 76) (.c (.bool false)), none⟩])
  (.cond (.t 77) (.seq (.ops [⟨some 78, .mv (.t 10), none⟩,
    ⟨some 79, .mv (.t 7), none⟩,
    ⟨some 80, .bin .sub (.t 78) (.t 79), none⟩,
    ⟨some 4, .mv (.t 80), none⟩])
  (.ret)) (.skip))))))))))))
  (.seq (.ops [⟨some 4, .mv (.c (.int .i64 (-1))), none⟩])
  (.ret))))))))
theorem k_internal_bytealg_IndexRabinKarp_string : FnIs AP n_internal_bytealg_IndexRabinKarp_string c_internal_bytealg_IndexRabinKarp_string 81 (rsT [4]) := fnIs_of (fn := Go.Proofs.Try.f97) Go.Proofs.Try.func97 (by kernel_rfl) (by kernel_rfl) (by kernel_rfl) (by kernel_rfl) (by kernel_rfl)
theorem a_internal_bytealg_IndexRabinKarp_string {x0 x1 : V} {H : List Entry} {K : KV} (h : Wf H → awp AP H.length c_internal_bytealg_IndexRabinKarp_string (finW H.length (rsT [4]) K) ([x0, x1] ++ List.replicate 79 undefV) H) : BCall AP n_internal_bytealg_IndexRabinKarp_string [x0, x1] H K := k_internal_bytealg_IndexRabinKarp_string.call (by kernel_rfl) h
/-- internal/bytealg.hashStr[string]: 39 slots -/
def c_internal_bytealg_hashStr_string : AC := .seq (.ops [⟨some 2, .mv (.c (.int .u32 0)), none⟩,
    ⟨some 3, .mv (.c (.int .u32 0)), none⟩])
  (.seq (.ops [⟨some 4, .mv (.c (.int .u32 0)), none⟩])
  (.seq (.seq (.ops [⟨some 5, .mv (.c (.int .i64 0)), none⟩])
  (.block 0 (.loop (.seq (.seq (.ops [⟨some 9, .mv (.t 5), none⟩,
    ⟨some 10, .mv (.t 0), none⟩,
    ⟨some 11, .len 0 (.t 10), none⟩,
    ⟨some 12, .bin .lss (.t 9) (.t 11), none⟩])
  (.cond (.t 12) (.skip) (.exit 0)))
  (.seq (.block 1 (.ops [⟨some 15, .mv (.t 4), none⟩,
    ⟨some 16, .bin .mul (.t 15) (.c (.int .u32 16777619)), none⟩,
    ⟨some 17, .mv (.t 0), none⟩,
    ⟨some 18, .mv (.t 5), none⟩,
    ⟨some 19, .ixs (.t 17) (.t 18), none⟩,
    ⟨some 20, .cvi .u32 (.t 19), none⟩,
    ⟨some 21, .bin .add (.t 16) (.t 20), none⟩,
    ⟨some 4, .mv (.t 21), none⟩]))
  (.ops [⟨some 13, .mv (.t 5), none⟩,
    ⟨some 14, .bin .add (.t 13) (.c (.int .i64 1)), none⟩,
    ⟨some 5, .mv (.t 14), none⟩]))))))
  (.seq (.ops [⟨some 6, .mv (.c (.int .u32 1)), none⟩,
    ⟨some 7, .mv (.c (.int .u32 16777619)), none⟩])
  (.seq (.seq (.ops [⟨some 22, .mv (.t 0), none⟩,
    ⟨some 23, .len 0 (.t 22), none⟩,
    ⟨some 8, .mv (.t 23), none⟩])
  (.block 2 (.loop (.seq (.seq (.ops [⟨some 24, .mv (.t 8), none⟩,
    ⟨some 25, .bin .gtr (.t 24) (.c (.int .i64 0)), none⟩])
  (.cond (.t 25) (.skip) (.exit 2)))
  (.seq (.block 3 (.seq (.seq (.ops [⟨some 28, .mv (.t 8), none⟩,
    ⟨some 29, .bin .and (.t 28) (.c (.int .i64 1)), none⟩,
    ⟨some 30, .bin .neq (.t 29) (.c (.int .i64 0)), none⟩])
  (.cond (.t 30) (.ops [⟨some 31, .mv (.t 6), none⟩,
    ⟨some 32, .mv (.t 7), none⟩,
    ⟨some 33, .bin .mul (.t 31) (.t 32), none⟩,
    ⟨some 6, .mv (.t 33), none⟩]) (.skip)))
  (.ops [⟨some 34, .mv (.t 7), none⟩,
    ⟨some 35, .mv (.t 7), none⟩,
    ⟨some 36, .bin .mul (.t 34) (.t 35), none⟩,
    ⟨some 7, .mv (.t 36), none⟩])))
  (.ops [⟨some 26, .mv (.t 8), none⟩,
    ⟨some 27, .bin .shr (.t 26) (.c (.int .u64 1)), none⟩,
    ⟨some 8, .mv (.t 27), none⟩]))))))
  (.seq (.ops [⟨some 37, .mv (.t 4), none⟩,
    ⟨some 38, .mv (.t 6), none⟩,
    ⟨some 2, .mv (.t 37), none⟩,
    ⟨some 3, .mv (.t 38), none⟩])
  (.ret))))))
theorem k_internal_bytealg_hashStr_string : FnIs AP n_internal_bytealg_hashStr_string c_internal_bytealg_hashStr_string 39 (rsT [2, 3]) := fnIs_of (fn := Go.Proofs.Try.f99) Go.Proofs.Try.func99 (by kernel_rfl) (by kernel_rfl) (by kernel_rfl) (by kernel_rfl) (by kernel_rfl)
theorem a_internal_bytealg_hashStr_string {x0 : V} {H : List Entry} {K : KV} (h : Wf H → awp AP H.length c_internal_bytealg_hashStr_string (finW H.length (rsT [2, 3]) K) ([x0] ++ List.replicate 38 undefV) H) : BCall AP n_internal_bytealg_hashStr_string [x0] H K := k_internal_bytealg_hashStr_string.call (by kernel_rfl) h
def tab : List (FuncId × Fn) := [(n_trystlaw15_OutboxAdds, ⟨c_trystlaw15_OutboxAdds, 102, (rsT [6])⟩), (n_trystlaw15_OutboxTakes, ⟨c_trystlaw15_OutboxTakes, 107, (rsT [6])⟩), (n_trystlaw15_OutboxKeeps, ⟨c_trystlaw15_OutboxKeeps, 183, (rsT [4])⟩), (n_trystlaw15_OutboxTurns, ⟨c_trystlaw15_OutboxTurns, 93, (rsT [6])⟩), (n_trystlaw15_OutboxWaits, ⟨c_trystlaw15_OutboxWaits, 127, (rsT [6])⟩), (n_trystlaw15_OutboxBack, ⟨c_trystlaw15_OutboxBack, 104, (rsT [6])⟩), (n_trystlaw15_Few, ⟨c_trystlaw15_Few, 24, (rsT [2])⟩), (n_trystlaw15_One, ⟨c_trystlaw15_One, 21, [.cell 2 5 true]⟩), (n_outbox_Add, ⟨c_outbox_Add, 37, (rsT [4, 5])⟩), (n_trystref15_Add, ⟨c_trystref15_Add, 35, (rsT [4, 5])⟩), (n_outbox_Again, ⟨c_outbox_Again, 40, (rsT [6, 7])⟩), (n_trystref15_Again, ⟨c_trystref15_Again, 38, (rsT [6, 7])⟩), (n_trystref15_Same, ⟨c_trystref15_Same, 27, (rsT [4])⟩), (n_outbox_Check, ⟨c_outbox_Check, 19, (rsT [2])⟩), (n_trystref15_May, ⟨c_trystref15_May, 37, (rsT [2])⟩), (n_outbox_Find, ⟨c_outbox_Find, 8, (rsT [4])⟩), (n_trystref15_Find, ⟨c_trystref15_Find, 20, (rsT [4])⟩), (n_outbox_Same, ⟨c_outbox_Same, 8, (rsT [4])⟩), (n_trystlaw15_awake, ⟨c_trystlaw15_awake, 77, (rsT [0])⟩), (n_outbox_Next, ⟨c_outbox_Next, 29, [.cell 4 5 true, .tmp 5]⟩), (n_trystref15_Next, ⟨c_trystref15_Next, 50, [.cell 4 5 true, .tmp 5]⟩), (n_outbox_Ack, ⟨c_outbox_Ack, 20, (rsT [4, 5])⟩), (n_trystref15_Ack, ⟨c_trystref15_Ack, 36, (rsT [4, 5])⟩), (n_outbox_Nack, ⟨c_outbox_Nack, 49, (rsT [6, 7, 8])⟩), (n_trystref15_Nack, ⟨c_trystref15_Nack, 62, (rsT [6, 7, 8])⟩), (n_trystref15_SameOne, ⟨c_trystref15_SameOne, 38, (rsT [4])⟩), (n_trystlaw02_Few, ⟨c_trystlaw02_Few, 9, (rsT [2])⟩), (n_outbox_may, ⟨c_outbox_may, 38, (rsT [2])⟩), (n_list_With_api_Out, ⟨c_list_With_api_Out, 17, (rsT [6])⟩), (n_trystref15_Own, ⟨c_trystref15_Own, 43, (rsT [2])⟩), (n_trystref15_With, ⟨c_trystref15_With, 55, (rsT [4])⟩), (n_outbox_isTime, ⟨c_outbox_isTime, 9, (rsT [2])⟩), (n_list_Place_api_Out, ⟨c_list_Place_api_Out, 14, (rsT [4])⟩), (n_outbox_Again_1, ⟨c_outbox_Again_1, 9, (rsT [3])⟩), (n_outbox_Check_1, ⟨c_outbox_Check_1, 6, (rsT [2])⟩), (n_outbox_Check_2, ⟨c_outbox_Check_2, 10, (rsT [4])⟩), (n_cmp_Compare_uint64, ⟨c_cmp_Compare_uint64, 20, (rsT [4])⟩), (n_slices_ContainsFunc_api_Out_api_Out, ⟨c_slices_ContainsFunc_api_Out_api_Out, 9, (rsT [4])⟩), (n_list_Rises_api_Out, ⟨c_list_Rises_api_Out, 24, (rsT [4])⟩), (n_slices_IndexFunc_api_Out_api_Out, ⟨c_slices_IndexFunc_api_Out_api_Out, 19, (rsT [4])⟩), (n_outbox_Find_1, ⟨c_outbox_Find_1, 8, (rsT [3])⟩), (n_slices_EqualFunc_api_Out_api_Out_api_Out_api_Out, ⟨c_slices_EqualFunc_api_Out_api_Out_api_Out_api_Out, 32, (rsT [6])⟩), (n_outbox_sameOut, ⟨c_outbox_sameOut, 38, (rsT [4])⟩), (n_outbox_first, ⟨c_outbox_first, 42, [.cell 2 7 true, .tmp 3]⟩), (n_outbox_find, ⟨c_outbox_find, 16, (rsT [4, 5])⟩), (n_list_Without_api_Out, ⟨c_list_Without_api_Out, 14, (rsT [4])⟩), (n_list_Set_api_Out, ⟨c_list_Set_api_Out, 15, (rsT [6])⟩), (n_trystref11_Ids, ⟨c_trystref11_Ids, 26, (rsT [4])⟩), (n_event_Field, ⟨c_event_Field, 15, (rsT [2])⟩), (n_slices_Concat_api_Out_api_Out, ⟨c_slices_Concat_api_Out_api_Out, 36, (rsT [2])⟩), (n_trystref04_Field, ⟨c_trystref04_Field, 21, (rsT [2])⟩), (n_cmp_isNaN_uint64, ⟨c_cmp_isNaN_uint64, 6, (rsT [2])⟩), (n_slices_Equal_uint64_uint64, ⟨c_slices_Equal_uint64_uint64, 26, (rsT [4])⟩), (n_wheel_Set, ⟨c_wheel_Set, 37, (rsT [6, 7])⟩), (n_wheel_Next, ⟨c_wheel_Next, 16, [.cell 2 2 true, .tmp 3]⟩), (n_slices_Clone_api_Out_api_Out, ⟨c_slices_Clone_api_Out_api_Out, 8, (rsT [2])⟩), (n_strings_Contains, ⟨c_strings_Contains, 9, (rsT [4])⟩), (n_name_Topic, ⟨c_name_Topic, 5, (rsT [2])⟩), (n_slices_Grow_api_Out_api_Out, ⟨c_slices_Grow_api_Out_api_Out, 27, (rsT [4])⟩), (n_trystref02_Topic, ⟨c_trystref02_Topic, 5, (rsT [2])⟩), (n_wheel_Check, ⟨c_wheel_Check, 35, (rsT [2])⟩), (n_wheel_isTime, ⟨c_wheel_isTime, 9, (rsT [2])⟩), (n_wheel_Stop, ⟨c_wheel_Stop, 20, (rsT [4, 5])⟩), (n_list_With_api_Timer, ⟨c_list_With_api_Timer, 17, (rsT [6])⟩), (n_wheel_place, ⟨c_wheel_place, 10, (rsT [6])⟩), (n_wheel_timer_order, ⟨c_wheel_timer_order, 17, (rsT [4])⟩), (n_strings_Index, ⟨c_strings_Index, 8, (rsT [4])⟩), (n_name_allParts, ⟨c_name_allParts, 32, (rsT [4])⟩), (n_name_isPart, ⟨c_name_isPart, 9, (rsT [2])⟩), (n_trystref02_is, ⟨c_trystref02_is, 47, (rsT [4])⟩), (n_wheel_inOrder, ⟨c_wheel_inOrder, 8, (rsT [4])⟩), (n_wheel_find, ⟨c_wheel_find, 8, (rsT [4])⟩), (n_slices_Clone_api_Timer_api_Timer, ⟨c_slices_Clone_api_Timer_api_Timer, 8, (rsT [2])⟩), (n_list_Without_api_Timer, ⟨c_list_Without_api_Timer, 14, (rsT [4])⟩), (n_slices_Concat_api_Timer_api_Timer, ⟨c_slices_Concat_api_Timer_api_Timer, 36, (rsT [2])⟩), (n_list_Place_api_Timer, ⟨c_list_Place_api_Timer, 14, (rsT [4])⟩), (n_wheel_place_1, ⟨c_wheel_place_1, 10, (rsT [4])⟩), (n_cmp_Or_int, ⟨c_cmp_Or_int, 18, (rsT [2])⟩), (n_cmp_Compare_int, ⟨c_cmp_Compare_int, 20, (rsT [4])⟩), (n_internal_stringslite_Index, ⟨c_internal_stringslite_Index, 143, (rsT [4])⟩), (n_name_allParts_1, ⟨c_name_allParts_1, 23, (rsT [6])⟩), (n_name_allRunes, ⟨c_name_allRunes, 16, (rsT [4])⟩), (n_name_isPart_1, ⟨c_name_isPart_1, 21, (rsT [2])⟩), (n_trystref02_cut, ⟨c_trystref02_cut, 33, (rsT [2])⟩), (n_trystref02_part, ⟨c_trystref02_part, 35, (rsT [2])⟩), (n_list_Rises_api_Timer, ⟨c_list_Rises_api_Timer, 24, (rsT [4])⟩), (n_wheel_inOrder_1, ⟨c_wheel_inOrder_1, 10, (rsT [5])⟩), (n_slices_IndexFunc_api_Timer_api_Timer, ⟨c_slices_IndexFunc_api_Timer_api_Timer, 19, (rsT [4])⟩), (n_wheel_find_1, ⟨c_wheel_find_1, 8, (rsT [3])⟩), (n_slices_Grow_api_Timer_api_Timer, ⟨c_slices_Grow_api_Timer_api_Timer, 27, (rsT [4])⟩), (n_cmp_isNaN_int, ⟨c_cmp_isNaN_int, 6, (rsT [2])⟩), (n_internal_stringslite_IndexByte, ⟨c_internal_stringslite_IndexByte, 8, (rsT [4])⟩), (n_internal_bytealg_Cutover, ⟨c_internal_bytealg_Cutover, 6, (rsT [2])⟩), (n_internal_bytealg_IndexRabinKarp_string, ⟨c_internal_bytealg_IndexRabinKarp_string, 81, (rsT [4])⟩), (n_internal_bytealg_hashStr_string, ⟨c_internal_bytealg_hashStr_string, 39, (rsT [2, 3])⟩)]
theorem tabOk : TabOk AP tab := ⟨k_trystlaw15_OutboxAdds, k_trystlaw15_OutboxTakes, k_trystlaw15_OutboxKeeps, k_trystlaw15_OutboxTurns, k_trystlaw15_OutboxWaits, k_trystlaw15_OutboxBack, k_trystlaw15_Few, k_trystlaw15_One, k_outbox_Add, k_trystref15_Add, k_outbox_Again, k_trystref15_Again, k_trystref15_Same, k_outbox_Check, k_trystref15_May, k_outbox_Find, k_trystref15_Find, k_outbox_Same, k_trystlaw15_awake, k_outbox_Next, k_trystref15_Next, k_outbox_Ack, k_trystref15_Ack, k_outbox_Nack, k_trystref15_Nack, k_trystref15_SameOne, k_trystlaw02_Few, k_outbox_may, k_list_With_api_Out, k_trystref15_Own, k_trystref15_With, k_outbox_isTime, k_list_Place_api_Out, k_outbox_Again_1, k_outbox_Check_1, k_outbox_Check_2, k_cmp_Compare_uint64, k_slices_ContainsFunc_api_Out_api_Out, k_list_Rises_api_Out, k_slices_IndexFunc_api_Out_api_Out, k_outbox_Find_1, k_slices_EqualFunc_api_Out_api_Out_api_Out_api_Out, k_outbox_sameOut, k_outbox_first, k_outbox_find, k_list_Without_api_Out, k_list_Set_api_Out, k_trystref11_Ids, k_event_Field, k_slices_Concat_api_Out_api_Out, k_trystref04_Field, k_cmp_isNaN_uint64, k_slices_Equal_uint64_uint64, k_wheel_Set, k_wheel_Next, k_slices_Clone_api_Out_api_Out, k_strings_Contains, k_name_Topic, k_slices_Grow_api_Out_api_Out, k_trystref02_Topic, k_wheel_Check, k_wheel_isTime, k_wheel_Stop, k_list_With_api_Timer, k_wheel_place, k_wheel_timer_order, k_strings_Index, k_name_allParts, k_name_isPart, k_trystref02_is, k_wheel_inOrder, k_wheel_find, k_slices_Clone_api_Timer_api_Timer, k_list_Without_api_Timer, k_slices_Concat_api_Timer_api_Timer, k_list_Place_api_Timer, k_wheel_place_1, k_cmp_Or_int, k_cmp_Compare_int, k_internal_stringslite_Index, k_name_allParts_1, k_name_allRunes, k_name_isPart_1, k_trystref02_cut, k_trystref02_part, k_list_Rises_api_Timer, k_wheel_inOrder_1, k_slices_IndexFunc_api_Timer_api_Timer, k_wheel_find_1, k_slices_Grow_api_Timer_api_Timer, k_cmp_isNaN_int, k_internal_stringslite_IndexByte, k_internal_bytealg_Cutover, k_internal_bytealg_IndexRabinKarp_string, k_internal_bytealg_hashStr_string, trivial⟩
end
end Go.Av
