/- A part of a way to reckon what a Go program does without its memory (Ac). -/
import Derived.Test.YthonnheklgmkaaaAvRun
import Derived.Test.YthonnheklgmkaaaProg
namespace Go.Av
open Go
set_option autoImplicit false
set_option linter.all false
noncomputable section
noncomputable abbrev AP : Program := Go.Proofs.Try.prog
abbrev n_main_main : FuncId := 0
abbrev n_gosem_cut : FuncId := 1
abbrev n_gosem_cut_init : FuncId := 2
abbrev n_trystlaw04_EventLays : FuncId := 3
abbrev n_trystlaw04_EventPuts : FuncId := 4
abbrev n_trystlaw04_EventBack : FuncId := 5
abbrev n_trystlaw04_EventApart : FuncId := 6
abbrev n_trystlaw04_EventTurns : FuncId := 7
abbrev n_trystlaw04_EventShort : FuncId := 8
abbrev n_trystlaw04_Few : FuncId := 9
abbrev n_trystlaw02_Few : FuncId := 10
abbrev n_event_May : FuncId := 11
abbrev n_trystref04_May : FuncId := 12
abbrev n_event_Same : FuncId := 13
abbrev n_trystref04_Same : FuncId := 14
abbrev n_event_Field : FuncId := 15
abbrev n_trystref04_Field : FuncId := 16
abbrev n_event_Lay : FuncId := 17
abbrev n_trystlaw04_awake : FuncId := 18
abbrev n_event_Take : FuncId := 19
abbrev n_trystref04_Lay : FuncId := 20
abbrev n_trystlaw03_Few : FuncId := 21
abbrev n_event_Get : FuncId := 22
abbrev n_trystref04_Get : FuncId := 23
abbrev n_event_Put : FuncId := 24
abbrev n_trystref04_Put : FuncId := 25
abbrev n_name_Topic : FuncId := 26
abbrev n_event_mayFields : FuncId := 27
abbrev n_trystref03_May : FuncId := 28
abbrev n_trystref02_Topic : FuncId := 29
abbrev n_slices_Equal_api_Field_api_Field : FuncId := 30
abbrev n_strings_Contains : FuncId := 31
abbrev n_event_layText : FuncId := 32
abbrev n_num_Pack : FuncId := 33
abbrev n_val_Lay : FuncId := 34
abbrev n_event_reader_event : FuncId := 35
abbrev n_trystref04_text : FuncId := 36
abbrev n_trystref01_Pack : FuncId := 37
abbrev n_trystref03_Lay : FuncId := 38
abbrev n_event_place : FuncId := 39
abbrev n_list_Set_api_Field : FuncId := 40
abbrev n_list_Place_api_Field : FuncId := 41
abbrev n_event_Put_1 : FuncId := 42
abbrev n_list_With_api_Field : FuncId := 43
abbrev n_name_allParts : FuncId := 44
abbrev n_name_isPart : FuncId := 45
abbrev n_event_mayFields_1 : FuncId := 46
abbrev n_val_May : FuncId := 47
abbrev n_event_mayFields_2 : FuncId := 48
abbrev n_cmp_Compare_string : FuncId := 49
abbrev n_slices_ContainsFunc_api_Field_api_Field : FuncId := 50
abbrev n_list_Rises_api_Field : FuncId := 51
abbrev n_trystref02_is : FuncId := 52
abbrev n_strings_Index : FuncId := 53
abbrev n_num_packedWide : FuncId := 54
abbrev n_num_Fold : FuncId := 55
abbrev n_event_reader_text : FuncId := 56
abbrev n_event_reader_number : FuncId := 57
abbrev n_event_reader_size : FuncId := 58
abbrev n_event_reader_value : FuncId := 59
abbrev n_trystref01_Fold : FuncId := 60
abbrev n_slices_IndexFunc_api_Field_api_Field : FuncId := 61
abbrev n_event_place_1 : FuncId := 62
abbrev n_slices_Clone_api_Field_api_Field : FuncId := 63
abbrev n_slices_Concat_api_Field_api_Field : FuncId := 64
abbrev n_name_allParts_1 : FuncId := 65
abbrev n_name_allRunes : FuncId := 66
abbrev n_name_isPart_1 : FuncId := 67
abbrev n_cmp_isNaN_string : FuncId := 68
abbrev n_trystref02_cut : FuncId := 69
abbrev n_trystref02_part : FuncId := 70
abbrev n_internal_stringslite_Index : FuncId := 71
abbrev n_math_bits_Len64 : FuncId := 72
abbrev n_num_Unpack : FuncId := 73
abbrev n_val_Take : FuncId := 74
abbrev n_slices_Grow_api_Field_api_Field : FuncId := 75
abbrev n_internal_stringslite_IndexByte : FuncId := 76
abbrev n_internal_bytealg_IndexString : FuncId := 77
abbrev n_internal_bytealg_Cutover : FuncId := 78
abbrev n_internal_bytealg_IndexRabinKarp_string : FuncId := 79
abbrev n_num_mayEnd : FuncId := 80
abbrev n_num_Unfold : FuncId := 81
abbrev n_val_takeText : FuncId := 82
abbrev n_internal_bytealg_IndexByteString : FuncId := 83
abbrev n_internal_bytealg_hashStr_string : FuncId := 84
abbrev n_runtime_boundsError_Error : FuncId := 85
abbrev n_runtime_boundsError_RuntimeError : FuncId := 86
abbrev n_runtime_errorString_Error : FuncId := 87
abbrev n_runtime_errorString_RuntimeError : FuncId := 88
abbrev n_runtime_plainError_Error : FuncId := 89
abbrev n_runtime_plainError_RuntimeError : FuncId := 90
abbrev n_runtime_errorAddressString_Error : FuncId := 91
abbrev n_runtime_errorAddressString_RuntimeError : FuncId := 92
abbrev n_runtime_TypeAssertionError_Error : FuncId := 93
abbrev n_runtime_TypeAssertionError_RuntimeError : FuncId := 94
abbrev n_runtime_PanicNilError_Error : FuncId := 95
abbrev n_runtime_PanicNilError_RuntimeError : FuncId := 96
abbrev n_internal_abi_Type_Align : FuncId := 97
abbrev n_internal_runtime_maps_unhashableTypeError_Error : FuncId := 98
abbrev n_internal_runtime_maps_unhashableTypeError_RuntimeError : FuncId := 99
abbrev n_internal_abi_Kind_String : FuncId := 100
/-- tryst/trystlaw04.EventLays: 101 slots -/
def c_trystlaw04_EventLays : AC := .seq (.ops [⟨some 3, .box (.t 0), none⟩,
    ⟨some 4, .box (.t 1), none⟩,
    ⟨some 6, .mv (.c (.bool false)), none⟩])
  (.seq (.draw [⟨some 12, .load 4 true (.t 3), none⟩,
    ⟨some 13, .dcall (.c (.fn n_trystlaw04_Few [] [])) [(.t 12)], none⟩,
    ⟨some 14, .load 4 true (.t 4), none⟩,
    ⟨some 15, .dcall (.c (.fn n_trystlaw04_Few [] [])) [(.t 14)], none⟩,
    ⟨some 16, .mv (.t 2), none⟩,
    ⟨some 17, .dcall (.c (.fn n_trystlaw02_Few [] [])) [(.t 16)], none⟩,
    ⟨none, .store 4 (.t 3) (.t 13), none⟩,
    ⟨none, .store 4 (.t 4) (.t 15), none⟩,
    ⟨some 2, .mv (.t 17), none⟩])
  (.seq (.seq (.draw [⟨some 18, .load 4 true (.t 3), none⟩,
    ⟨some 19, .dcall (.c (.fn n_event_May [] [])) [(.t 18)], none⟩,
    ⟨some 20, .load 4 true (.t 3), none⟩,
    ⟨some 21, .dcall (.c (.fn n_trystref04_May [] [])) [(.t 20)], none⟩,
    ⟨some 22, .binb true (.t 19) (.t 21), none⟩,
    ⟨some 23, .mv (.t 22), none⟩,
    ⟨some 24, .load 4 true (.t 3), some (23, false)⟩,
    ⟨some 25, .load 4 true (.t 4), some (23, false)⟩,
    ⟨some 26, .dcall (.c (.fn n_event_Same [] [])) [(.t 24), (.t 25)], some (23, false)⟩,
    ⟨some 27, .load 4 true (.t 3), some (23, false)⟩,
    ⟨some 28, .load 4 true (.t 4), some (23, false)⟩,
    ⟨some 29, .dcall (.c (.fn n_trystref04_Same [] [])) [(.t 27), (.t 28)], some (23, false)⟩,
    ⟨some 30, .binb true (.t 26) (.t 29), some (23, false)⟩,
    ⟨some 31, .pick (.t 23) (.c (.bool true)) (.t 30), none⟩,
    ⟨some 32, .mv (.t 31), none⟩,
    ⟨some 33, .mv (.t 2), some (32, false)⟩,
    ⟨some 34, .dcall (.c (.fn n_event_Field [] [])) [(.t 33)], some (32, false)⟩,
    ⟨some 35, .mv (.t 2), some (32, false)⟩,
    ⟨some 36, .dcall (.c (.fn n_trystref04_Field [] [])) [(.t 35)], some (32, false)⟩,
    ⟨some 37, .binb true (.t 34) (.t 36), some (32, false)⟩,
    ⟨some 38, .pick (.t 32) (.c (.bool true)) (.t 37), none⟩,
    ⟨some 39, .mv (.t 38), none⟩,
    ⟨some 40, .load 4 true (.t 3), some (39, false)⟩,
    ⟨some 41, .load 4 true (.t 3), some (39, false)⟩,
    ⟨some 42, .dcall (.c (.fn n_event_Same [] [])) [(.t 40), (.t 41)], some (39, false)⟩,
    ⟨some 43, .un .not (.t 42), some (39, false)⟩,
    ⟨some 44, .pick (.t 39) (.c (.bool true)) (.t 43), none⟩])
  (.cond (.t 44) (.seq (.ops [⟨some 6, .mv (.c (.bool false)), none⟩])
  (.ret)) (.skip)))
  (.seq (.ops [⟨some 46, .load 4 true (.t 3), none⟩,
    ⟨some 47, .call (.c (.fn n_event_Lay [] [])) [(.t 46)], none⟩,
    ⟨some 45, .mv (.t 47), none⟩,
    ⟨some 48, .ext (.t 45) 0, none⟩,
    ⟨some 49, .ext (.t 45) 1, none⟩,
    ⟨some 7, .mv (.t 48), none⟩,
    ⟨some 8, .mv (.t 49), none⟩])
  (.seq (.seq (.ops [⟨some 50, .load 4 true (.t 3), none⟩,
    ⟨some 51, .call (.c (.fn n_trystref04_May [] [])) [(.t 50)], none⟩,
    ⟨some 52, .un .not (.t 51), none⟩])
  (.cond (.t 52) (.seq (.ops [⟨some 53, .mv (.t 7), none⟩,
    ⟨some 54, .bin .eql (.t 53) (.c (.str [])), none⟩,
    ⟨some 55, .mv (.t 54), none⟩,
    ⟨some 56, .mv (.t 8), some (55, true)⟩,
    ⟨some 57, .bin .eql (.t 56) (.c (.int .i64 1)), some (55, true)⟩,
    ⟨some 58, .pick (.t 55) (.t 57) (.c (.bool false)), none⟩,
    ⟨some 59, .mv (.t 58), none⟩,
    ⟨some 60, .call (.c (.fn n_trystlaw04_awake [] [])) [], some (59, true)⟩,
    ⟨some 61, .pick (.t 59) (.t 60) (.c (.bool false)), none⟩,
    ⟨some 6, .mv (.t 61), none⟩])
  (.ret)) (.skip)))
  (.seq (.ops [⟨some 63, .mv (.t 7), none⟩,
    ⟨some 64, .mv (.t 2), none⟩,
    ⟨some 65, .bin .add (.t 63) (.t 64), none⟩,
    ⟨some 66, .call (.c (.fn n_event_Take [] [])) [(.t 65)], none⟩,
    ⟨some 62, .mv (.t 66), none⟩,
    ⟨some 67, .ext (.t 62) 0, none⟩,
    ⟨some 68, .ext (.t 62) 1, none⟩,
    ⟨some 69, .ext (.t 62) 2, none⟩,
    ⟨some 9, .alloc [.str [], .str [], .int .u64 0, .nilsl], none⟩,
    ⟨none, .store 4 (.t 9) (.t 67), none⟩,
    ⟨some 10, .mv (.t 68), none⟩,
    ⟨some 11, .mv (.t 69), none⟩])
  (.seq (.ops [⟨some 70, .mv (.t 7), none⟩,
    ⟨some 71, .load 4 true (.t 3), none⟩,
    ⟨some 72, .call (.c (.fn n_trystref04_Lay [] [])) [(.t 71)], none⟩,
    ⟨some 73, .bin .eql (.t 70) (.t 72), none⟩,
    ⟨some 74, .mv (.t 73), none⟩,
    ⟨some 75, .mv (.t 8), some (74, true)⟩,
    ⟨some 76, .bin .eql (.t 75) (.c (.int .i64 0)), some (74, true)⟩,
    ⟨some 77, .pick (.t 74) (.t 76) (.c (.bool false)), none⟩,
    ⟨some 78, .mv (.t 77), none⟩,
    ⟨some 79, .mv (.t 7), some (78, true)⟩,
    ⟨some 80, .len 0 (.t 79), some (78, true)⟩,
    ⟨some 81, .bin .leq (.t 80) (.c (.int .i64 800)), some (78, true)⟩,
    ⟨some 82, .pick (.t 78) (.t 81) (.c (.bool false)), none⟩,
    ⟨some 83, .mv (.t 82), none⟩,
    ⟨some 84, .load 4 true (.t 9), some (83, true)⟩,
    ⟨some 85, .load 4 true (.t 3), some (83, true)⟩,
    ⟨some 86, .call (.c (.fn n_trystref04_Same [] [])) [(.t 84), (.t 85)], some (83, true)⟩,
    ⟨some 87, .pick (.t 83) (.t 86) (.c (.bool false)), none⟩,
    ⟨some 88, .mv (.t 87), none⟩,
    ⟨some 89, .mv (.t 10), some (88, true)⟩,
    ⟨some 90, .mv (.t 7), some (88, true)⟩,
    ⟨some 91, .len 0 (.t 90), some (88, true)⟩,
    ⟨some 92, .bin .eql (.t 89) (.t 91), some (88, true)⟩,
    ⟨some 93, .pick (.t 88) (.t 92) (.c (.bool false)), none⟩,
    ⟨some 94, .mv (.t 93), none⟩,
    ⟨some 95, .mv (.t 11), some (94, true)⟩,
    ⟨some 96, .bin .eql (.t 95) (.c (.int .i64 0)), some (94, true)⟩,
    ⟨some 97, .pick (.t 94) (.t 96) (.c (.bool false)), none⟩,
    ⟨some 98, .mv (.t 97), none⟩,
    ⟨some 99, .call (.c (.fn n_trystlaw04_awake [] [])) [], some (98, true)⟩,
    ⟨some 100, .pick (.t 98) (.t 99) (.c (.bool false)), none⟩,
    ⟨some 6, .mv (.t 100), none⟩])
  (.ret)))))))
theorem k_trystlaw04_EventLays : FnIs AP n_trystlaw04_EventLays c_trystlaw04_EventLays 101 (rsT [6]) := fnIs_of (fn := Go.Proofs.Try.f3) Go.Proofs.Try.func3 (by kernel_rfl) (by kernel_rfl) (by kernel_rfl) (by kernel_rfl) (by kernel_rfl)
theorem a_trystlaw04_EventLays {x0 x1 x2 : V} {H : List Entry} {K : KV} (h : Wf H → awp AP H.length c_trystlaw04_EventLays (finW H.length (rsT [6]) K) ([x0, x1, x2] ++ List.replicate 98 undefV) H) : BCall AP n_trystlaw04_EventLays [x0, x1, x2] H K := k_trystlaw04_EventLays.call (by kernel_rfl) h
/-- tryst/trystlaw04.EventPuts: 59 slots -/
def c_trystlaw04_EventPuts : AC := .seq (.ops [⟨some 3, .box (.t 0), none⟩,
    ⟨some 5, .box (.t 2), none⟩,
    ⟨some 6, .mv (.c (.bool false)), none⟩])
  (.seq (.draw [⟨some 12, .load 4 true (.t 3), none⟩,
    ⟨some 13, .dcall (.c (.fn n_trystlaw04_Few [] [])) [(.t 12)], none⟩,
    ⟨some 14, .mv (.t 1), none⟩,
    ⟨some 15, .dcall (.c (.fn n_trystlaw02_Few [] [])) [(.t 14)], none⟩,
    ⟨some 16, .load 3 true (.t 5), none⟩,
    ⟨some 17, .dcall (.c (.fn n_trystlaw03_Few [] [])) [(.t 16)], none⟩,
    ⟨none, .store 4 (.t 3) (.t 13), none⟩,
    ⟨some 1, .mv (.t 15), none⟩,
    ⟨none, .store 3 (.t 5) (.t 17), none⟩])
  (.seq (.ops [⟨some 18, .load 4 true (.t 3), none⟩,
    ⟨some 19, .call (.c (.fn n_trystlaw04_Few [] [])) [(.t 18)], none⟩,
    ⟨some 7, .alloc [.str [], .str [], .int .u64 0, .nilsl], none⟩,
    ⟨none, .store 4 (.t 7) (.t 19), none⟩])
  (.seq (.ops [⟨some 21, .load 4 true (.t 3), none⟩,
    ⟨some 22, .mv (.t 1), none⟩,
    ⟨some 23, .call (.c (.fn n_event_Get [] [])) [(.t 21), (.t 22)], none⟩,
    ⟨some 20, .mv (.t 23), none⟩,
    ⟨some 24, .ext (.t 20) 0, none⟩,
    ⟨some 25, .ext (.t 20) 1, none⟩,
    ⟨some 8, .alloc [.bool false, .int .i64 0, .str []], none⟩,
    ⟨none, .store 3 (.t 8) (.t 24), none⟩,
    ⟨some 9, .mv (.t 25), none⟩])
  (.seq (.ops [⟨some 27, .load 4 true (.t 3), none⟩,
    ⟨some 28, .mv (.t 1), none⟩,
    ⟨some 29, .call (.c (.fn n_trystref04_Get [] [])) [(.t 27), (.t 28)], none⟩,
    ⟨some 26, .mv (.t 29), none⟩,
    ⟨some 30, .ext (.t 26) 0, none⟩,
    ⟨some 31, .ext (.t 26) 1, none⟩,
    ⟨some 10, .alloc [.bool false, .int .i64 0, .str []], none⟩,
    ⟨none, .store 3 (.t 10) (.t 30), none⟩,
    ⟨some 11, .mv (.t 31), none⟩])
  (.seq (.draw [⟨some 32, .load 3 true (.t 8), none⟩,
    ⟨some 33, .load 3 true (.t 10), none⟩,
    ⟨some 34, .eqa false [0, 1, 2] (.t 32) (.t 33), none⟩,
    ⟨some 35, .mv (.t 34), none⟩,
    ⟨some 36, .mv (.t 9), some (35, true)⟩,
    ⟨some 37, .mv (.t 11), some (35, true)⟩,
    ⟨some 38, .binb false (.t 36) (.t 37), some (35, true)⟩,
    ⟨some 39, .pick (.t 35) (.t 38) (.c (.bool false)), none⟩,
    ⟨some 40, .mv (.t 39), none⟩,
    ⟨some 41, .load 4 true (.t 3), some (40, true)⟩,
    ⟨some 42, .mv (.t 1), some (40, true)⟩,
    ⟨some 43, .load 3 true (.t 5), some (40, true)⟩,
    ⟨some 44, .dcall (.c (.fn n_event_Put [] [])) [(.t 41), (.t 42), (.t 43)], some (40, true)⟩,
    ⟨some 45, .load 4 true (.t 3), some (40, true)⟩,
    ⟨some 46, .mv (.t 1), some (40, true)⟩,
    ⟨some 47, .load 3 true (.t 5), some (40, true)⟩,
    ⟨some 48, .dcall (.c (.fn n_trystref04_Put [] [])) [(.t 45), (.t 46), (.t 47)], some (40, true)⟩,
    ⟨some 49, .dcall (.c (.fn n_trystref04_Same [] [])) [(.t 44), (.t 48)], some (40, true)⟩,
    ⟨some 50, .pick (.t 40) (.t 49) (.c (.bool false)), none⟩,
    ⟨some 51, .mv (.t 50), none⟩,
    ⟨some 52, .load 4 true (.t 3), some (51, true)⟩,
    ⟨some 53, .load 4 true (.t 7), some (51, true)⟩,
    ⟨some 54, .dcall (.c (.fn n_trystref04_Same [] [])) [(.t 52), (.t 53)], some (51, true)⟩,
    ⟨some 55, .pick (.t 51) (.t 54) (.c (.bool false)), none⟩,
    ⟨some 56, .mv (.t 55), none⟩,
    ⟨some 57, .dcall (.c (.fn n_trystlaw04_awake [] [])) [], some (56, true)⟩,
    ⟨some 58, .pick (.t 56) (.t 57) (.c (.bool false)), none⟩,
    ⟨some 6, .mv (.t 58), none⟩])
  (.ret))))))
theorem k_trystlaw04_EventPuts : FnIs AP n_trystlaw04_EventPuts c_trystlaw04_EventPuts 59 (rsT [6]) := fnIs_of (fn := Go.Proofs.Try.f4) Go.Proofs.Try.func4 (by kernel_rfl) (by kernel_rfl) (by kernel_rfl) (by kernel_rfl) (by kernel_rfl)
theorem a_trystlaw04_EventPuts {x0 x1 x2 : V} {H : List Entry} {K : KV} (h : Wf H → awp AP H.length c_trystlaw04_EventPuts (finW H.length (rsT [6]) K) ([x0, x1, x2] ++ List.replicate 56 undefV) H) : BCall AP n_trystlaw04_EventPuts [x0, x1, x2] H K := k_trystlaw04_EventPuts.call (by kernel_rfl) h
/-- tryst/trystlaw04.EventBack: 106 slots -/
def c_trystlaw04_EventBack : AC := .seq (.ops [⟨some 1, .box (.t 0), none⟩,
    ⟨some 2, .mv (.c (.bool false)), none⟩])
  (.seq (.drawX [[.str [], .str [], .int .u64 0, .nilsl], [.bool false, .int .i64 0, .str []]] [] [⟨some 16, .fad 0 (.t 1), none⟩,
    ⟨some 17, .load 4 true (.t 16), none⟩,
    ⟨some 18, .pcall (.c (.fn n_trystlaw04_Few [] [])) [(.t 17)], none⟩,
    ⟨some 19, .fad 4 (.t 1), none⟩,
    ⟨some 20, .load 1 false (.t 19), none⟩,
    ⟨some 21, .pcall (.c (.fn n_trystlaw02_Few [] [])) [(.t 20)], none⟩,
    ⟨some 22, .fad 5 (.t 1), none⟩,
    ⟨some 23, .load 1 false (.t 22), none⟩,
    ⟨some 24, .pcall (.c (.fn n_trystlaw02_Few [] [])) [(.t 23)], none⟩,
    ⟨some 25, .fad 6 (.t 1), none⟩,
    ⟨some 26, .load 3 true (.t 25), none⟩,
    ⟨some 27, .pcall (.c (.fn n_trystlaw03_Few [] [])) [(.t 26)], none⟩,
    ⟨some 3, .alcR 0 [.str [], .str [], .int .u64 0, .nilsl], none⟩,
    ⟨some 6, .alcR 1 [.bool false, .int .i64 0, .str []], none⟩,
    ⟨none, .store 4 (.t 3) (.t 18), none⟩,
    ⟨some 4, .mv (.t 21), none⟩,
    ⟨some 5, .mv (.t 24), none⟩,
    ⟨none, .store 3 (.t 6) (.t 27), none⟩])
  (.seq (.ops [⟨some 28, .load 4 true (.t 3), none⟩,
    ⟨some 29, .mv (.t 4), none⟩,
    ⟨some 30, .load 3 true (.t 6), none⟩,
    ⟨some 31, .call (.c (.fn n_event_Put [] [])) [(.t 28), (.t 29), (.t 30)], none⟩,
    ⟨some 7, .alloc [.str [], .str [], .int .u64 0, .nilsl], none⟩,
    ⟨none, .store 4 (.t 7) (.t 31), none⟩])
  (.seq (.ops [⟨some 33, .load 4 true (.t 7), none⟩,
    ⟨some 34, .mv (.t 4), none⟩,
    ⟨some 35, .call (.c (.fn n_event_Get [] [])) [(.t 33), (.t 34)], none⟩,
    ⟨some 32, .mv (.t 35), none⟩,
    ⟨some 36, .ext (.t 32) 0, none⟩,
    ⟨some 37, .ext (.t 32) 1, none⟩,
    ⟨some 8, .alloc [.bool false, .int .i64 0, .str []], none⟩,
    ⟨none, .store 3 (.t 8) (.t 36), none⟩,
    ⟨some 9, .mv (.t 37), none⟩])
  (.seq (.seq (.ops [⟨some 38, .load 3 true (.t 8), none⟩,
    ⟨some 39, .load 3 true (.t 6), none⟩,
    ⟨some 40, .eqa true [0, 1, 2] (.t 38) (.t 39), none⟩,
    ⟨some 41, .mv (.t 40), none⟩,
    ⟨some 42, .mv (.t 9), some (41, false)⟩,
    ⟨some 43, .un .not (.t 42), some (41, false)⟩,
    ⟨some 44, .pick (.t 41) (.c (.bool true)) (.t 43), none⟩])
  (.cond (.t 44) (.seq (.ops [⟨some 2, .mv (.c (.bool false)), none⟩])
  (.ret)) (.skip)))
  (.seq (.ops [⟨some 46, .load 4 true (.t 3), none⟩,
    ⟨some 47, .mv (.t 5), none⟩,
    ⟨some 48, .call (.c (.fn n_event_Get [] [])) [(.t 46), (.t 47)], none⟩,
    ⟨some 45, .mv (.t 48), none⟩,
    ⟨some 49, .ext (.t 45) 0, none⟩,
    ⟨some 50, .ext (.t 45) 1, none⟩,
    ⟨some 10, .alloc [.bool false, .int .i64 0, .str []], none⟩,
    ⟨none, .store 3 (.t 10) (.t 49), none⟩,
    ⟨some 11, .mv (.t 50), none⟩])
  (.seq (.ops [⟨some 52, .load 4 true (.t 7), none⟩,
    ⟨some 53, .mv (.t 5), none⟩,
    ⟨some 54, .call (.c (.fn n_event_Get [] [])) [(.t 52), (.t 53)], none⟩,
    ⟨some 51, .mv (.t 54), none⟩,
    ⟨some 55, .ext (.t 51) 0, none⟩,
    ⟨some 56, .ext (.t 51) 1, none⟩,
    ⟨some 12, .alloc [.bool false, .int .i64 0, .str []], none⟩,
    ⟨none, .store 3 (.t 12) (.t 55), none⟩,
    ⟨some 13, .mv (.t 56), none⟩])
  (.seq (.seq (.ops [⟨some 57, .mv (.t 5), none⟩,
    ⟨some 58, .mv (.t 4), none⟩,
    ⟨some 59, .bin .neq (.t 57) (.t 58), none⟩,
    ⟨some 60, .mv (.t 59), none⟩,
    ⟨some 61, .load 3 true (.t 10), some (60, true)⟩,
    ⟨some 62, .load 3 true (.t 12), some (60, true)⟩,
    ⟨some 63, .eqa true [0, 1, 2] (.t 61) (.t 62), some (60, true)⟩,
    ⟨some 64, .mv (.t 63), some (60, true)⟩,
    ⟨some 65, .mv (.t 11), some (64, false)⟩,
    ⟨some 66, .mv (.t 13), some (64, false)⟩,
    ⟨some 67, .binb true (.t 65) (.t 66), some (64, false)⟩,
    ⟨some 68, .pick (.t 64) (.c (.bool true)) (.t 67), some (60, true)⟩,
    ⟨some 69, .pick (.t 60) (.t 68) (.c (.bool false)), none⟩])
  (.cond (.t 69) (.seq (.ops [⟨some 2, .mv (.c (.bool false)), none⟩])
  (.ret)) (.skip)))
  (.seq (.ops [⟨some 71, .load 4 true (.t 3), none⟩,
    ⟨some 72, .mv (.t 4), none⟩,
    ⟨some 73, .call (.c (.fn n_event_Get [] [])) [(.t 71), (.t 72)], none⟩,
    ⟨some 70, .mv (.t 73), none⟩,
    ⟨some 74, .ext (.t 70) 0, none⟩,
    ⟨some 75, .ext (.t 70) 1, none⟩,
    ⟨some 14, .alloc [.bool false, .int .i64 0, .str []], none⟩,
    ⟨none, .store 3 (.t 14) (.t 74), none⟩,
    ⟨some 15, .mv (.t 75), none⟩])
  (.seq (.seq (.ops [⟨some 76, .load 4 true (.t 3), none⟩,
    ⟨some 77, .call (.c (.fn n_event_May [] [])) [(.t 76)], none⟩,
    ⟨some 78, .un .not (.t 77), none⟩,
    ⟨some 79, .mv (.t 78), none⟩,
    ⟨some 80, .mv (.t 4), some (79, false)⟩,
    ⟨some 81, .call (.c (.fn n_event_Field [] [])) [(.t 80)], some (79, false)⟩,
    ⟨some 82, .un .not (.t 81), some (79, false)⟩,
    ⟨some 83, .pick (.t 79) (.c (.bool true)) (.t 82), none⟩,
    ⟨some 84, .mv (.t 83), none⟩,
    ⟨some 85, .load 3 true (.t 6), some (84, false)⟩,
    ⟨some 86, .build [.str [], .bool false, .int .i64 0, .str []] [(0, 1, (.c (.str [120]))), (1, 3, (.t 85))], some (84, false)⟩,
    ⟨some 87, .bsl 4 true [(.t 86)], some (84, false)⟩,
    ⟨some 88, .build [.str [], .str [], .int .u64 0, .nilsl] [(0, 1, (.c (.str [97]))), (1, 1, (.c (.str [112]))), (2, 1, (.c (.int .u64 1))), (3, 1, (.t 87))], some (84, false)⟩,
    ⟨some 89, .call (.c (.fn n_trystref04_May [] [])) [(.t 88)], some (84, false)⟩,
    ⟨some 90, .un .not (.t 89), some (84, false)⟩,
    ⟨some 91, .pick (.t 84) (.c (.bool true)) (.t 90), none⟩])
  (.cond (.t 91) (.seq (.ops [⟨some 92, .call (.c (.fn n_trystlaw04_awake [] [])) [], none⟩,
    ⟨some 2, .mv (.t 92), none⟩])
  (.ret)) (.skip)))
  (.seq (.ops [⟨some 93, .load 4 true (.t 7), none⟩,
    ⟨some 94, .call (.c (.fn n_event_May [] [])) [(.t 93)], none⟩,
    ⟨some 95, .mv (.t 15), none⟩,
    ⟨some 96, .mv (.t 95), none⟩,
    ⟨some 97, .fad 3 (.t 3), some (96, false)⟩,
    ⟨some 98, .load 1 false (.t 97), some (96, false)⟩,
    ⟨some 99, .len 1 (.t 98), some (96, false)⟩,
    ⟨some 100, .bin .lss (.t 99) (.c (.int .i64 8)), some (96, false)⟩,
    ⟨some 101, .pick (.t 96) (.c (.bool true)) (.t 100), none⟩,
    ⟨some 102, .binb false (.t 94) (.t 101), none⟩,
    ⟨some 103, .mv (.t 102), none⟩,
    ⟨some 104, .call (.c (.fn n_trystlaw04_awake [] [])) [], some (103, true)⟩,
    ⟨some 105, .pick (.t 103) (.t 104) (.c (.bool false)), none⟩,
    ⟨some 2, .mv (.t 105), none⟩])
  (.ret)))))))))))
theorem k_trystlaw04_EventBack : FnIs AP n_trystlaw04_EventBack c_trystlaw04_EventBack 106 (rsT [2]) := fnIs_of (fn := Go.Proofs.Try.f5) Go.Proofs.Try.func5 (by kernel_rfl) (by kernel_rfl) (by kernel_rfl) (by kernel_rfl) (by kernel_rfl)
theorem a_trystlaw04_EventBack {x0 : V} {H : List Entry} {K : KV} (h : Wf H → awp AP H.length c_trystlaw04_EventBack (finW H.length (rsT [2]) K) ([x0] ++ List.replicate 105 undefV) H) : BCall AP n_trystlaw04_EventBack [x0] H K := k_trystlaw04_EventBack.call (by kernel_rfl) h
/-- tryst/trystlaw04.EventApart: 60 slots -/
def c_trystlaw04_EventApart : AC := .seq (.ops [⟨some 2, .box (.t 0), none⟩,
    ⟨some 3, .box (.t 1), none⟩,
    ⟨some 4, .mv (.c (.bool false)), none⟩])
  (.seq (.draw [⟨some 9, .load 4 true (.t 2), none⟩,
    ⟨some 10, .dcall (.c (.fn n_trystlaw04_Few [] [])) [(.t 9)], none⟩,
    ⟨some 11, .load 4 true (.t 3), none⟩,
    ⟨some 12, .dcall (.c (.fn n_trystlaw04_Few [] [])) [(.t 11)], none⟩,
    ⟨none, .store 4 (.t 2) (.t 10), none⟩,
    ⟨none, .store 4 (.t 3) (.t 12), none⟩])
  (.seq (.ops [⟨some 14, .load 4 true (.t 2), none⟩,
    ⟨some 15, .call (.c (.fn n_event_Lay [] [])) [(.t 14)], none⟩,
    ⟨some 13, .mv (.t 15), none⟩,
    ⟨some 16, .ext (.t 13) 0, none⟩,
    ⟨some 17, .ext (.t 13) 1, none⟩,
    ⟨some 5, .mv (.t 16), none⟩,
    ⟨some 6, .mv (.t 17), none⟩])
  (.seq (.ops [⟨some 19, .load 4 true (.t 3), none⟩,
    ⟨some 20, .call (.c (.fn n_event_Lay [] [])) [(.t 19)], none⟩,
    ⟨some 18, .mv (.t 20), none⟩,
    ⟨some 21, .ext (.t 18) 0, none⟩,
    ⟨some 22, .ext (.t 18) 1, none⟩,
    ⟨some 7, .mv (.t 21), none⟩,
    ⟨some 8, .mv (.t 22), none⟩])
  (.seq (.seq (.ops [⟨some 23, .mv (.t 6), none⟩,
    ⟨some 24, .bin .neq (.t 23) (.c (.int .i64 0)), none⟩,
    ⟨some 25, .mv (.t 24), none⟩,
    ⟨some 26, .mv (.t 8), some (25, false)⟩,
    ⟨some 27, .bin .neq (.t 26) (.c (.int .i64 0)), some (25, false)⟩,
    ⟨some 28, .pick (.t 25) (.c (.bool true)) (.t 27), none⟩])
  (.cond (.t 28) (.seq (.ops [⟨some 29, .call (.c (.fn n_trystlaw04_awake [] [])) [], none⟩,
    ⟨some 4, .mv (.t 29), none⟩])
  (.ret)) (.skip)))
  (.seq (.ops [⟨some 30, .mv (.t 5), none⟩,
    ⟨some 31, .mv (.t 7), none⟩,
    ⟨some 32, .bin .eql (.t 30) (.t 31), none⟩,
    ⟨some 33, .load 4 true (.t 2), none⟩,
    ⟨some 34, .load 4 true (.t 3), none⟩,
    ⟨some 35, .call (.c (.fn n_trystref04_Same [] [])) [(.t 33), (.t 34)], none⟩,
    ⟨some 36, .binb false (.t 32) (.t 35), none⟩,
    ⟨some 37, .mv (.t 36), none⟩,
    ⟨some 38, .mv (.t 5), some (37, true)⟩,
    ⟨some 39, .mv (.t 7), some (37, true)⟩,
    ⟨some 40, .bin .eql (.t 38) (.t 39), some (37, true)⟩,
    ⟨some 41, .mv (.t 40), some (37, true)⟩,
    ⟨some 42, .mv (.t 5), some (41, false)⟩,
    ⟨some 43, .len 0 (.t 42), some (41, false)⟩,
    ⟨some 44, .mv (.t 7), some (41, false)⟩,
    ⟨some 45, .len 0 (.t 44), some (41, false)⟩,
    ⟨some 46, .bin .gtr (.t 43) (.t 45), some (41, false)⟩,
    ⟨some 47, .pick (.t 41) (.c (.bool true)) (.t 46), some (37, true)⟩,
    ⟨some 48, .mv (.t 47), some (37, true)⟩,
    ⟨some 49, .mv (.t 7), some (48, false)⟩,
    ⟨some 50, .mv (.t 5), some (48, false)⟩,
    ⟨some 51, .len 0 (.t 50), some (48, false)⟩,
    ⟨some 52, .sls (.t 49) none (some (.t 51)), some (48, false)⟩,
    ⟨some 53, .mv (.t 5), some (48, false)⟩,
    ⟨some 54, .bin .neq (.t 52) (.t 53), some (48, false)⟩,
    ⟨some 55, .pick (.t 48) (.c (.bool true)) (.t 54), some (37, true)⟩,
    ⟨some 56, .pick (.t 37) (.t 55) (.c (.bool false)), none⟩,
    ⟨some 57, .mv (.t 56), none⟩,
    ⟨some 58, .call (.c (.fn n_trystlaw04_awake [] [])) [], some (57, true)⟩,
    ⟨some 59, .pick (.t 57) (.t 58) (.c (.bool false)), none⟩,
    ⟨some 4, .mv (.t 59), none⟩])
  (.ret))))))
theorem k_trystlaw04_EventApart : FnIs AP n_trystlaw04_EventApart c_trystlaw04_EventApart 60 (rsT [4]) := fnIs_of (fn := Go.Proofs.Try.f6) Go.Proofs.Try.func6 (by kernel_rfl) (by kernel_rfl) (by kernel_rfl) (by kernel_rfl) (by kernel_rfl)
theorem a_trystlaw04_EventApart {x0 x1 : V} {H : List Entry} {K : KV} (h : Wf H → awp AP H.length c_trystlaw04_EventApart (finW H.length (rsT [4]) K) ([x0, x1] ++ List.replicate 58 undefV) H) : BCall AP n_trystlaw04_EventApart [x0, x1] H K := k_trystlaw04_EventApart.call (by kernel_rfl) h
/-- tryst/trystlaw04.EventTurns: 61 slots -/
def c_trystlaw04_EventTurns : AC := .seq (.ops [⟨some 1, .box (.t 0), none⟩,
    ⟨some 2, .mv (.c (.bool false)), none⟩])
  (.seq (.drawX [[.str [], .str [], .int .u64 0, .nilsl], [.bool false, .int .i64 0, .str []]] [] [⟨some 8, .fad 0 (.t 1), none⟩,
    ⟨some 9, .load 4 true (.t 8), none⟩,
    ⟨some 10, .pcall (.c (.fn n_trystlaw04_Few [] [])) [(.t 9)], none⟩,
    ⟨some 11, .fad 4 (.t 1), none⟩,
    ⟨some 12, .load 1 false (.t 11), none⟩,
    ⟨some 13, .pcall (.c (.fn n_trystlaw02_Few [] [])) [(.t 12)], none⟩,
    ⟨some 14, .fad 5 (.t 1), none⟩,
    ⟨some 15, .load 1 false (.t 14), none⟩,
    ⟨some 16, .pcall (.c (.fn n_trystlaw02_Few [] [])) [(.t 15)], none⟩,
    ⟨some 17, .fad 6 (.t 1), none⟩,
    ⟨some 18, .load 3 true (.t 17), none⟩,
    ⟨some 19, .pcall (.c (.fn n_trystlaw03_Few [] [])) [(.t 18)], none⟩,
    ⟨some 3, .alcR 0 [.str [], .str [], .int .u64 0, .nilsl], none⟩,
    ⟨some 6, .alcR 1 [.bool false, .int .i64 0, .str []], none⟩,
    ⟨none, .store 4 (.t 3) (.t 10), none⟩,
    ⟨some 4, .mv (.t 13), none⟩,
    ⟨some 5, .mv (.t 16), none⟩,
    ⟨none, .store 3 (.t 6) (.t 19), none⟩])
  (.seq (.ops [⟨some 20, .build [.bool false, .int .i64 0, .str []] [(0, 1, (.c (.bool true))), (1, 1, (.c (.int .i64 77)))], none⟩,
    ⟨some 7, .alloc [.bool false, .int .i64 0, .str []], none⟩,
    ⟨none, .store 3 (.t 7) (.t 20), none⟩])
  (.seq (.seq (.draw [⟨some 21, .mv (.t 4), none⟩,
    ⟨some 22, .mv (.t 5), none⟩,
    ⟨some 23, .bin .neq (.t 21) (.t 22), none⟩,
    ⟨some 24, .mv (.t 23), none⟩,
    ⟨some 25, .load 4 true (.t 3), some (24, true)⟩,
    ⟨some 26, .dcall (.c (.fn n_event_May [] [])) [(.t 25)], some (24, true)⟩,
    ⟨some 27, .pick (.t 24) (.t 26) (.c (.bool false)), none⟩,
    ⟨some 28, .mv (.t 27), none⟩,
    ⟨some 29, .load 4 true (.t 3), some (28, true)⟩,
    ⟨some 30, .mv (.t 4), some (28, true)⟩,
    ⟨some 31, .load 3 true (.t 6), some (28, true)⟩,
    ⟨some 32, .dcall (.c (.fn n_event_Put [] [])) [(.t 29), (.t 30), (.t 31)], some (28, true)⟩,
    ⟨some 33, .mv (.t 5), some (28, true)⟩,
    ⟨some 34, .load 3 true (.t 7), some (28, true)⟩,
    ⟨some 35, .dcall (.c (.fn n_event_Put [] [])) [(.t 32), (.t 33), (.t 34)], some (28, true)⟩,
    ⟨some 36, .load 4 true (.t 3), some (28, true)⟩,
    ⟨some 37, .mv (.t 5), some (28, true)⟩,
    ⟨some 38, .load 3 true (.t 7), some (28, true)⟩,
    ⟨some 39, .dcall (.c (.fn n_event_Put [] [])) [(.t 36), (.t 37), (.t 38)], some (28, true)⟩,
    ⟨some 40, .mv (.t 4), some (28, true)⟩,
    ⟨some 41, .load 3 true (.t 6), some (28, true)⟩,
    ⟨some 42, .dcall (.c (.fn n_event_Put [] [])) [(.t 39), (.t 40), (.t 41)], some (28, true)⟩,
    ⟨some 43, .dcall (.c (.fn n_event_Same [] [])) [(.t 35), (.t 42)], some (28, true)⟩,
    ⟨some 44, .un .not (.t 43), some (28, true)⟩,
    ⟨some 45, .pick (.t 28) (.t 44) (.c (.bool false)), none⟩])
  (.cond (.t 45) (.seq (.ops [⟨some 2, .mv (.c (.bool false)), none⟩])
  (.ret)) (.skip)))
  (.seq (.draw [⟨some 46, .load 4 true (.t 3), none⟩,
    ⟨some 47, .mv (.t 4), none⟩,
    ⟨some 48, .load 3 true (.t 7), none⟩,
    ⟨some 49, .dcall (.c (.fn n_event_Put [] [])) [(.t 46), (.t 47), (.t 48)], none⟩,
    ⟨some 50, .mv (.t 4), none⟩,
    ⟨some 51, .load 3 true (.t 6), none⟩,
    ⟨some 52, .dcall (.c (.fn n_event_Put [] [])) [(.t 49), (.t 50), (.t 51)], none⟩,
    ⟨some 53, .load 4 true (.t 3), none⟩,
    ⟨some 54, .mv (.t 4), none⟩,
    ⟨some 55, .load 3 true (.t 6), none⟩,
    ⟨some 56, .dcall (.c (.fn n_event_Put [] [])) [(.t 53), (.t 54), (.t 55)], none⟩,
    ⟨some 57, .dcall (.c (.fn n_event_Same [] [])) [(.t 52), (.t 56)], none⟩,
    ⟨some 58, .mv (.t 57), none⟩,
    ⟨some 59, .dcall (.c (.fn n_trystlaw04_awake [] [])) [], some (58, true)⟩,
    ⟨some 60, .pick (.t 58) (.t 59) (.c (.bool false)), none⟩,
    ⟨some 2, .mv (.t 60), none⟩])
  (.ret)))))
theorem k_trystlaw04_EventTurns : FnIs AP n_trystlaw04_EventTurns c_trystlaw04_EventTurns 61 (rsT [2]) := fnIs_of (fn := Go.Proofs.Try.f7) Go.Proofs.Try.func7 (by kernel_rfl) (by kernel_rfl) (by kernel_rfl) (by kernel_rfl) (by kernel_rfl)
theorem a_trystlaw04_EventTurns {x0 : V} {H : List Entry} {K : KV} (h : Wf H → awp AP H.length c_trystlaw04_EventTurns (finW H.length (rsT [2]) K) ([x0] ++ List.replicate 60 undefV) H) : BCall AP n_trystlaw04_EventTurns [x0] H K := k_trystlaw04_EventTurns.call (by kernel_rfl) h
/-- tryst/trystlaw04.EventShort: 55 slots -/
def c_trystlaw04_EventShort : AC := .seq (.ops [⟨some 2, .box (.t 0), none⟩,
    ⟨some 4, .mv (.c (.bool false)), none⟩])
  (.seq (.ops [⟨some 10, .load 4 true (.t 2), none⟩,
    ⟨some 11, .call (.c (.fn n_trystlaw04_Few [] [])) [(.t 10)], none⟩,
    ⟨none, .store 4 (.t 2) (.t 11), none⟩])
  (.seq (.ops [⟨some 13, .load 4 true (.t 2), none⟩,
    ⟨some 14, .call (.c (.fn n_event_Lay [] [])) [(.t 13)], none⟩,
    ⟨some 12, .mv (.t 14), none⟩,
    ⟨some 15, .ext (.t 12) 0, none⟩,
    ⟨some 16, .ext (.t 12) 1, none⟩,
    ⟨some 5, .mv (.t 15), none⟩,
    ⟨some 6, .mv (.t 16), none⟩])
  (.seq (.seq (.ops [⟨some 17, .mv (.t 6), none⟩,
    ⟨some 18, .bin .neq (.t 17) (.c (.int .i64 0)), none⟩,
    ⟨some 19, .mv (.t 18), none⟩,
    ⟨some 20, .mv (.t 5), some (19, false)⟩,
    ⟨some 21, .len 0 (.t 20), some (19, false)⟩,
    ⟨some 22, .bin .eql (.t 21) (.c (.int .i64 0)), some (19, false)⟩,
    ⟨some 23, .pick (.t 19) (.c (.bool true)) (.t 22), none⟩])
  (.cond (.t 23) (.seq (.ops [⟨some 24, .mv (.t 6), none⟩,
    ⟨some 25, .bin .eql (.t 24) (.c (.int .i64 1)), none⟩,
    ⟨some 26, .mv (.t 25), none⟩,
    ⟨some 27, .call (.c (.fn n_trystlaw04_awake [] [])) [], some (26, true)⟩,
    ⟨some 28, .pick (.t 26) (.t 27) (.c (.bool false)), none⟩,
    ⟨some 4, .mv (.t 28), none⟩])
  (.ret)) (.skip)))
  (.seq (.ops [⟨some 30, .mv (.t 5), none⟩,
    ⟨some 31, .mv (.t 1), none⟩,
    ⟨some 32, .cvi .i64 (.t 31), none⟩,
    ⟨some 33, .mv (.t 5), none⟩,
    ⟨some 34, .len 0 (.t 33), none⟩,
    ⟨some 35, .bin .rem (.t 32) (.t 34), none⟩,
    ⟨some 36, .sls (.t 30) none (some (.t 35)), none⟩,
    ⟨some 37, .call (.c (.fn n_event_Take [] [])) [(.t 36)], none⟩,
    ⟨some 29, .mv (.t 37), none⟩,
    ⟨some 38, .ext (.t 29) 0, none⟩,
    ⟨some 39, .ext (.t 29) 1, none⟩,
    ⟨some 40, .ext (.t 29) 2, none⟩,
    ⟨some 7, .alloc [.str [], .str [], .int .u64 0, .nilsl], none⟩,
    ⟨none, .store 4 (.t 7) (.t 38), none⟩,
    ⟨some 8, .mv (.t 39), none⟩,
    ⟨some 9, .mv (.t 40), none⟩])
  (.seq (.ops [⟨some 41, .load 4 true (.t 7), none⟩,
    ⟨some 42, .build [.str [], .str [], .int .u64 0, .nilsl] [], none⟩,
    ⟨some 43, .call (.c (.fn n_trystref04_Same [] [])) [(.t 41), (.t 42)], none⟩,
    ⟨some 44, .mv (.t 43), none⟩,
    ⟨some 45, .mv (.t 8), some (44, true)⟩,
    ⟨some 46, .bin .eql (.t 45) (.c (.int .i64 0)), some (44, true)⟩,
    ⟨some 47, .pick (.t 44) (.t 46) (.c (.bool false)), none⟩,
    ⟨some 48, .mv (.t 47), none⟩,
    ⟨some 49, .mv (.t 9), some (48, true)⟩,
    ⟨some 50, .bin .eql (.t 49) (.c (.int .i64 3)), some (48, true)⟩,
    ⟨some 51, .pick (.t 48) (.t 50) (.c (.bool false)), none⟩,
    ⟨some 52, .mv (.t 51), none⟩,
    ⟨some 53, .call (.c (.fn n_trystlaw04_awake [] [])) [], some (52, true)⟩,
    ⟨some 54, .pick (.t 52) (.t 53) (.c (.bool false)), none⟩,
    ⟨some 4, .mv (.t 54), none⟩])
  (.ret))))))
theorem k_trystlaw04_EventShort : FnIs AP n_trystlaw04_EventShort c_trystlaw04_EventShort 55 (rsT [4]) := fnIs_of (fn := Go.Proofs.Try.f8) Go.Proofs.Try.func8 (by kernel_rfl) (by kernel_rfl) (by kernel_rfl) (by kernel_rfl) (by kernel_rfl)
theorem a_trystlaw04_EventShort {x0 x1 : V} {H : List Entry} {K : KV} (h : Wf H → awp AP H.length c_trystlaw04_EventShort (finW H.length (rsT [4]) K) ([x0, x1] ++ List.replicate 53 undefV) H) : BCall AP n_trystlaw04_EventShort [x0, x1] H K := k_trystlaw04_EventShort.call (by kernel_rfl) h
/-- tryst/trystlaw04.Few: 46 slots -/
def c_trystlaw04_Few : AC := .seq (.ops [⟨some 1, .box (.t 0), none⟩,
    ⟨some 2, .alloc [.str [], .str [], .int .u64 0, .nilsl], none⟩])
  (.seq (.draw [⟨some 5, .fad 0 (.t 1), none⟩,
    ⟨some 6, .load 1 false (.t 5), none⟩,
    ⟨some 7, .pcall (.c (.fn n_trystlaw02_Few [] [])) [(.t 6)], none⟩,
    ⟨some 8, .fad 1 (.t 1), none⟩,
    ⟨some 9, .load 1 false (.t 8), none⟩,
    ⟨some 10, .pcall (.c (.fn n_trystlaw02_Few [] [])) [(.t 9)], none⟩,
    ⟨some 11, .fad 2 (.t 1), none⟩,
    ⟨some 12, .load 1 false (.t 11), none⟩,
    ⟨some 13, .build [.str [], .str [], .int .u64 0, .nilsl] [(0, 1, (.t 7)), (1, 1, (.t 10)), (2, 1, (.t 12))], none⟩,
    ⟨some 3, .alloc [.str [], .str [], .int .u64 0, .nilsl], none⟩,
    ⟨none, .store 4 (.t 3) (.t 13), none⟩])
  (.seq (.seq (.ops [⟨some 4, .mv (.c (.int .i64 0)), none⟩])
  (.block 0 (.loop (.seq (.seq (.ops [⟨some 14, .mv (.t 4), none⟩,
    ⟨some 15, .fad 3 (.t 1), none⟩,
    ⟨some 16, .load 1 false (.t 15), none⟩,
    ⟨some 17, .len 1 (.t 16), none⟩,
    ⟨some 18, .bin .lss (.t 14) (.t 17), none⟩,
    ⟨some 19, .mv (.t 18), none⟩,
    ⟨some 20, .mv (.t 4), some (19, true)⟩,
    ⟨some 21, .bin .lss (.t 20) (.c (.int .i64 10)), some (19, true)⟩,
    ⟨some 22, .pick (.t 19) (.t 21) (.c (.bool false)), none⟩])
  (.cond (.t 22) (.skip) (.exit 0)))
  (.seq (.block 1 (.draw [⟨some 25, .fad 3 (.t 3), none⟩,
    ⟨some 26, .load 1 false (.t 25), none⟩,
    ⟨some 27, .fad 3 (.t 1), none⟩,
    ⟨some 28, .load 1 false (.t 27), none⟩,
    ⟨some 29, .mv (.t 4), none⟩,
    ⟨some 30, .iad 4 true (.t 28) (.t 29), none⟩,
    ⟨some 31, .fad 0 (.t 30), none⟩,
    ⟨some 32, .load 1 false (.t 31), none⟩,
    ⟨some 33, .dcall (.c (.fn n_trystlaw02_Few [] [])) [(.t 32)], none⟩,
    ⟨some 34, .fad 3 (.t 1), none⟩,
    ⟨some 35, .load 1 false (.t 34), none⟩,
    ⟨some 36, .mv (.t 4), none⟩,
    ⟨some 37, .iad 4 true (.t 35) (.t 36), none⟩,
    ⟨some 38, .fad 1 (.t 37), none⟩,
    ⟨some 39, .load 3 true (.t 38), none⟩,
    ⟨some 40, .dcall (.c (.fn n_trystlaw03_Few [] [])) [(.t 39)], none⟩,
    ⟨some 41, .build [.str [], .bool false, .int .i64 0, .str []] [(0, 1, (.t 33)), (1, 3, (.t 40))], none⟩,
    ⟨some 42, .bslm 4 true [(.t 41)], none⟩,
    ⟨some 43, .app 49 4 48 true (.t 26) (.t 42), none⟩,
    ⟨some 44, .fad 3 (.t 3), none⟩,
    ⟨none, .store 1 (.t 44) (.t 43), none⟩]))
  (.ops [⟨some 23, .mv (.t 4), none⟩,
    ⟨some 24, .bin .add (.t 23) (.c (.int .i64 1)), none⟩,
    ⟨some 4, .mv (.t 24), none⟩]))))))
  (.seq (.ops [⟨some 45, .load 4 true (.t 3), none⟩,
    ⟨none, .store 4 (.t 2) (.t 45), none⟩])
  (.ret))))
theorem k_trystlaw04_Few : FnIs AP n_trystlaw04_Few c_trystlaw04_Few 46 [.cell 2 4 true] := fnIs_of (fn := Go.Proofs.Try.f9) Go.Proofs.Try.func9 (by kernel_rfl) (by kernel_rfl) (by kernel_rfl) (by kernel_rfl) (by kernel_rfl)
theorem a_trystlaw04_Few {x0 : V} {H : List Entry} {K : KV} (h : Wf H → awp AP H.length c_trystlaw04_Few (finW H.length [.cell 2 4 true] K) ([x0] ++ List.replicate 45 undefV) H) : BCall AP n_trystlaw04_Few [x0] H K := k_trystlaw04_Few.call (by kernel_rfl) h
/-- tryst/trystlaw02.Few: 9 slots -/
def c_trystlaw02_Few : AC := .seq (.ops [⟨some 2, .mv (.c (.str [])), none⟩])
  (.seq (.seq (.ops [⟨some 3, .mv (.t 0), none⟩,
    ⟨some 4, .len 0 (.t 3), none⟩,
    ⟨some 5, .bin .gtr (.t 4) (.c (.int .i64 60)), none⟩])
  (.cond (.t 5) (.seq (.ops [⟨some 6, .mv (.t 0), none⟩,
    ⟨some 7, .sls (.t 6) none (some (.c (.int .i64 60))), none⟩,
    ⟨some 2, .mv (.t 7), none⟩])
  (.ret)) (.skip)))
  (.seq (.ops [⟨some 8, .mv (.t 0), none⟩,
    ⟨some 2, .mv (.t 8), none⟩])
  (.ret)))
theorem k_trystlaw02_Few : FnIs AP n_trystlaw02_Few c_trystlaw02_Few 9 (rsT [2]) := fnIs_of (fn := Go.Proofs.Try.f10) Go.Proofs.Try.func10 (by kernel_rfl) (by kernel_rfl) (by kernel_rfl) (by kernel_rfl) (by kernel_rfl)
theorem a_trystlaw02_Few {x0 : V} {H : List Entry} {K : KV} (h : Wf H → awp AP H.length c_trystlaw02_Few (finW H.length (rsT [2]) K) ([x0] ++ List.replicate 8 undefV) H) : BCall AP n_trystlaw02_Few [x0] H K := k_trystlaw02_Few.call (by kernel_rfl) h
/-- tryst/event.May: 21 slots -/
def c_event_May : AC := .seq (.ops [⟨some 1, .box (.t 0), none⟩,
    ⟨some 2, .mv (.c (.bool false)), none⟩])
  (.seq (.ops [⟨some 3, .fad 0 (.t 1), none⟩,
    ⟨some 4, .load 1 false (.t 3), none⟩,
    ⟨some 5, .call (.c (.fn n_name_Topic [] [])) [(.t 4)], none⟩,
    ⟨some 6, .mv (.t 5), none⟩,
    ⟨some 7, .fad 1 (.t 1), some (6, true)⟩,
    ⟨some 8, .load 1 false (.t 7), some (6, true)⟩,
    ⟨some 9, .call (.c (.fn n_event_Field [] [])) [(.t 8)], some (6, true)⟩,
    ⟨some 10, .pick (.t 6) (.t 9) (.c (.bool false)), none⟩,
    ⟨some 11, .mv (.t 10), none⟩,
    ⟨some 12, .fad 2 (.t 1), some (11, true)⟩,
    ⟨some 13, .load 1 false (.t 12), some (11, true)⟩,
    ⟨some 14, .bin .geq (.t 13) (.c (.int .u64 1)), some (11, true)⟩,
    ⟨some 15, .pick (.t 11) (.t 14) (.c (.bool false)), none⟩,
    ⟨some 16, .mv (.t 15), none⟩,
    ⟨some 17, .fad 3 (.t 1), some (16, true)⟩,
    ⟨some 18, .load 1 false (.t 17), some (16, true)⟩,
    ⟨some 19, .call (.c (.fn n_event_mayFields [] [])) [(.t 18)], some (16, true)⟩,
    ⟨some 20, .pick (.t 16) (.t 19) (.c (.bool false)), none⟩,
    ⟨some 2, .mv (.t 20), none⟩])
  (.ret))
theorem k_event_May : FnIs AP n_event_May c_event_May 21 (rsT [2]) := fnIs_of (fn := Go.Proofs.Try.f11) Go.Proofs.Try.func11 (by kernel_rfl) (by kernel_rfl) (by kernel_rfl) (by kernel_rfl) (by kernel_rfl)
theorem a_event_May {x0 : V} {H : List Entry} {K : KV} (h : Wf H → awp AP H.length c_event_May (finW H.length (rsT [2]) K) ([x0] ++ List.replicate 20 undefV) H) : BCall AP n_event_May [x0] H K := k_event_May.call (by kernel_rfl) h
/-- tryst/trystref04.May: 68 slots -/
def c_trystref04_May : AC := .seq (.ops [⟨some 1, .box (.t 0), none⟩,
    ⟨some 2, .mv (.c (.bool false)), none⟩])
  (.seq (.seq (.ops [⟨some 3, .mv (.c (.int .i64 0)), none⟩])
  (.block 0 (.loop (.seq (.seq (.ops [⟨some 4, .mv (.t 3), none⟩,
    ⟨some 5, .fad 3 (.t 1), none⟩,
    ⟨some 6, .load 1 false (.t 5), none⟩,
    ⟨some 7, .len 1 (.t 6), none⟩,
    ⟨some 8, .bin .lss (.t 4) (.t 7), none⟩])
  (.cond (.t 8) (.skip) (.exit 0)))
  (.seq (.block 1 (.seq (.draw [⟨some 11, .fad 3 (.t 1), none⟩,
    ⟨some 12, .load 1 false (.t 11), none⟩,
    ⟨some 13, .mv (.t 3), none⟩,
    ⟨some 14, .iad 4 true (.t 12) (.t 13), none⟩,
    ⟨some 15, .fad 0 (.t 14), none⟩,
    ⟨some 16, .load 1 false (.t 15), none⟩,
    ⟨some 17, .dcall (.c (.fn n_trystref04_Field [] [])) [(.t 16)], none⟩,
    ⟨some 18, .un .not (.t 17), none⟩,
    ⟨some 19, .mv (.t 18), none⟩,
    ⟨some 20, .fad 3 (.t 1), some (19, false)⟩,
    ⟨some 21, .load 1 false (.t 20), some (19, false)⟩,
    ⟨some 22, .mv (.t 3), some (19, false)⟩,
    ⟨some 23, .iad 4 true (.t 21) (.t 22), some (19, false)⟩,
    ⟨some 24, .fad 1 (.t 23), some (19, false)⟩,
    ⟨some 25, .load 3 true (.t 24), some (19, false)⟩,
    ⟨some 26, .dcall (.c (.fn n_trystref03_May [] [])) [(.t 25)], some (19, false)⟩,
    ⟨some 27, .un .not (.t 26), some (19, false)⟩,
    ⟨some 28, .pick (.t 19) (.c (.bool true)) (.t 27), none⟩,
    ⟨some 29, .mv (.t 28), none⟩,
    ⟨some 30, .mv (.t 3), some (29, false)⟩,
    ⟨some 31, .bin .gtr (.t 30) (.c (.int .i64 0)), some (29, false)⟩,
    ⟨some 32, .mv (.t 31), some (29, false)⟩,
    ⟨some 33, .fad 3 (.t 1), some (32, true)⟩,
    ⟨some 34, .load 1 false (.t 33), some (32, true)⟩,
    ⟨some 35, .mv (.t 3), some (32, true)⟩,
    ⟨some 36, .bin .sub (.t 35) (.c (.int .i64 1)), some (32, true)⟩,
    ⟨some 37, .iad 4 true (.t 34) (.t 36), some (32, true)⟩,
    ⟨some 38, .fad 0 (.t 37), some (32, true)⟩,
    ⟨some 39, .load 1 false (.t 38), some (32, true)⟩,
    ⟨some 40, .fad 3 (.t 1), some (32, true)⟩,
    ⟨some 41, .load 1 false (.t 40), some (32, true)⟩,
    ⟨some 42, .mv (.t 3), some (32, true)⟩,
    ⟨some 43, .iad 4 true (.t 41) (.t 42), some (32, true)⟩,
    ⟨some 44, .fad 0 (.t 43), some (32, true)⟩,
    ⟨some 45, .load 1 false (.t 44), some (32, true)⟩,
    ⟨some 46, .bin .geq (.t 39) (.t 45), some (32, true)⟩,
    ⟨some 47, .pick (.t 32) (.t 46) (.c (.bool false)), some (29, false)⟩,
    ⟨some 48, .pick (.t 29) (.c (.bool true)) (.t 47), none⟩])
  (.cond (.t 48) (.seq (.ops [⟨some 2, .mv (.c (.bool false)), none⟩])
  (.ret)) (.skip))))
  (.ops [⟨some 9, .mv (.t 3), none⟩,
    ⟨some 10, .bin .add (.t 9) (.c (.int .i64 1)), none⟩,
    ⟨some 3, .mv (.t 10), none⟩]))))))
  (.seq (.ops [⟨some 49, .fad 0 (.t 1), none⟩,
    ⟨some 50, .load 1 false (.t 49), none⟩,
    ⟨some 51, .call (.c (.fn n_trystref02_Topic [] [])) [(.t 50)], none⟩,
    ⟨some 52, .mv (.t 51), none⟩,
    ⟨some 53, .fad 1 (.t 1), some (52, true)⟩,
    ⟨some 54, .load 1 false (.t 53), some (52, true)⟩,
    ⟨some 55, .call (.c (.fn n_trystref04_Field [] [])) [(.t 54)], some (52, true)⟩,
    ⟨some 56, .pick (.t 52) (.t 55) (.c (.bool false)), none⟩,
    ⟨some 57, .mv (.t 56), none⟩,
    ⟨some 58, .fad 2 (.t 1), some (57, true)⟩,
    ⟨some 59, .load 1 false (.t 58), some (57, true)⟩,
    ⟨some 60, .bin .gtr (.t 59) (.c (.int .u64 0)), some (57, true)⟩,
    ⟨some 61, .pick (.t 57) (.t 60) (.c (.bool false)), none⟩,
    ⟨some 62, .mv (.t 61), none⟩,
    ⟨some 63, .fad 3 (.t 1), some (62, true)⟩,
    ⟨some 64, .load 1 false (.t 63), some (62, true)⟩,
    ⟨some 65, .len 1 (.t 64), some (62, true)⟩,
    ⟨some 66, .bin .leq (.t 65) (.c (.int .i64 8)), some (62, true)⟩,
    ⟨some 67, .pick (.t 62) (.t 66) (.c (.bool false)), none⟩,
    ⟨some 2, .mv (.t 67), none⟩])
  (.ret)))
theorem k_trystref04_May : FnIs AP n_trystref04_May c_trystref04_May 68 (rsT [2]) := fnIs_of (fn := Go.Proofs.Try.f12) Go.Proofs.Try.func12 (by kernel_rfl) (by kernel_rfl) (by kernel_rfl) (by kernel_rfl) (by kernel_rfl)
theorem a_trystref04_May {x0 : V} {H : List Entry} {K : KV} (h : Wf H → awp AP H.length c_trystref04_May (finW H.length (rsT [2]) K) ([x0] ++ List.replicate 67 undefV) H) : BCall AP n_trystref04_May [x0] H K := k_trystref04_May.call (by kernel_rfl) h
/-- tryst/event.Same: 31 slots -/
def c_event_Same : AC := .seq (.ops [⟨some 2, .box (.t 0), none⟩,
    ⟨some 3, .box (.t 1), none⟩,
    ⟨some 4, .mv (.c (.bool false)), none⟩])
  (.seq (.ops [⟨some 5, .fad 0 (.t 2), none⟩,
    ⟨some 6, .load 1 false (.t 5), none⟩,
    ⟨some 7, .fad 0 (.t 3), none⟩,
    ⟨some 8, .load 1 false (.t 7), none⟩,
    ⟨some 9, .bin .eql (.t 6) (.t 8), none⟩,
    ⟨some 10, .mv (.t 9), none⟩,
    ⟨some 11, .fad 1 (.t 2), some (10, true)⟩,
    ⟨some 12, .load 1 false (.t 11), some (10, true)⟩,
    ⟨some 13, .fad 1 (.t 3), some (10, true)⟩,
    ⟨some 14, .load 1 false (.t 13), some (10, true)⟩,
    ⟨some 15, .bin .eql (.t 12) (.t 14), some (10, true)⟩,
    ⟨some 16, .pick (.t 10) (.t 15) (.c (.bool false)), none⟩,
    ⟨some 17, .mv (.t 16), none⟩,
    ⟨some 18, .fad 2 (.t 2), some (17, true)⟩,
    ⟨some 19, .load 1 false (.t 18), some (17, true)⟩,
    ⟨some 20, .fad 2 (.t 3), some (17, true)⟩,
    ⟨some 21, .load 1 false (.t 20), some (17, true)⟩,
    ⟨some 22, .bin .eql (.t 19) (.t 21), some (17, true)⟩,
    ⟨some 23, .pick (.t 17) (.t 22) (.c (.bool false)), none⟩,
    ⟨some 24, .mv (.t 23), none⟩,
    ⟨some 25, .fad 3 (.t 2), some (24, true)⟩,
    ⟨some 26, .load 1 false (.t 25), some (24, true)⟩,
    ⟨some 27, .fad 3 (.t 3), some (24, true)⟩,
    ⟨some 28, .load 1 false (.t 27), some (24, true)⟩,
    ⟨some 29, .call (.c (.fn n_slices_Equal_api_Field_api_Field [] [])) [(.t 26), (.t 28)], some (24, true)⟩,
    ⟨some 30, .pick (.t 24) (.t 29) (.c (.bool false)), none⟩,
    ⟨some 4, .mv (.t 30), none⟩])
  (.ret))
theorem k_event_Same : FnIs AP n_event_Same c_event_Same 31 (rsT [4]) := fnIs_of (fn := Go.Proofs.Try.f13) Go.Proofs.Try.func13 (by kernel_rfl) (by kernel_rfl) (by kernel_rfl) (by kernel_rfl) (by kernel_rfl)
theorem a_event_Same {x0 x1 : V} {H : List Entry} {K : KV} (h : Wf H → awp AP H.length c_event_Same (finW H.length (rsT [4]) K) ([x0, x1] ++ List.replicate 29 undefV) H) : BCall AP n_event_Same [x0, x1] H K := k_event_Same.call (by kernel_rfl) h
/-- tryst/trystref04.Same: 52 slots -/
def c_trystref04_Same : AC := .seq (.ops [⟨some 2, .box (.t 0), none⟩,
    ⟨some 3, .box (.t 1), none⟩,
    ⟨some 4, .mv (.c (.bool false)), none⟩])
  (.seq (.seq (.ops [⟨some 6, .fad 0 (.t 2), none⟩,
    ⟨some 7, .load 1 false (.t 6), none⟩,
    ⟨some 8, .fad 0 (.t 3), none⟩,
    ⟨some 9, .load 1 false (.t 8), none⟩,
    ⟨some 10, .bin .neq (.t 7) (.t 9), none⟩,
    ⟨some 11, .mv (.t 10), none⟩,
    ⟨some 12, .fad 1 (.t 2), some (11, false)⟩,
    ⟨some 13, .load 1 false (.t 12), some (11, false)⟩,
    ⟨some 14, .fad 1 (.t 3), some (11, false)⟩,
    ⟨some 15, .load 1 false (.t 14), some (11, false)⟩,
    ⟨some 16, .bin .neq (.t 13) (.t 15), some (11, false)⟩,
    ⟨some 17, .pick (.t 11) (.c (.bool true)) (.t 16), none⟩,
    ⟨some 18, .mv (.t 17), none⟩,
    ⟨some 19, .fad 2 (.t 2), some (18, false)⟩,
    ⟨some 20, .load 1 false (.t 19), some (18, false)⟩,
    ⟨some 21, .fad 2 (.t 3), some (18, false)⟩,
    ⟨some 22, .load 1 false (.t 21), some (18, false)⟩,
    ⟨some 23, .bin .neq (.t 20) (.t 22), some (18, false)⟩,
    ⟨some 24, .pick (.t 18) (.c (.bool true)) (.t 23), none⟩,
    ⟨some 25, .mv (.t 24), none⟩,
    ⟨some 26, .fad 3 (.t 2), some (25, false)⟩,
    ⟨some 27, .load 1 false (.t 26), some (25, false)⟩,
    ⟨some 28, .len 1 (.t 27), some (25, false)⟩,
    ⟨some 29, .fad 3 (.t 3), some (25, false)⟩,
    ⟨some 30, .load 1 false (.t 29), some (25, false)⟩,
    ⟨some 31, .len 1 (.t 30), some (25, false)⟩,
    ⟨some 32, .bin .neq (.t 28) (.t 31), some (25, false)⟩,
    ⟨some 33, .pick (.t 25) (.c (.bool true)) (.t 32), none⟩])
  (.cond (.t 33) (.seq (.ops [⟨some 4, .mv (.c (.bool false)), none⟩])
  (.ret)) (.skip)))
  (.seq (.seq (.ops [⟨some 5, .mv (.c (.int .i64 0)), none⟩])
  (.block 0 (.loop (.seq (.seq (.ops [⟨some 34, .mv (.t 5), none⟩,
    ⟨some 35, .fad 3 (.t 2), none⟩,
    ⟨some 36, .load 1 false (.t 35), none⟩,
    ⟨some 37, .len 1 (.t 36), none⟩,
    ⟨some 38, .bin .lss (.t 34) (.t 37), none⟩])
  (.cond (.t 38) (.skip) (.exit 0)))
  (.seq (.block 1 (.seq (.draw [⟨some 41, .fad 3 (.t 2), none⟩,
    ⟨some 42, .load 1 false (.t 41), none⟩,
    ⟨some 43, .mv (.t 5), none⟩,
    ⟨some 44, .iad 4 true (.t 42) (.t 43), none⟩,
    ⟨some 45, .load 4 true (.t 44), none⟩,
    ⟨some 46, .fad 3 (.t 3), none⟩,
    ⟨some 47, .load 1 false (.t 46), none⟩,
    ⟨some 48, .mv (.t 5), none⟩,
    ⟨some 49, .iad 4 true (.t 47) (.t 48), none⟩,
    ⟨some 50, .load 4 true (.t 49), none⟩,
    ⟨some 51, .eqa true [2, 0, 1, 2] (.t 45) (.t 50), none⟩])
  (.cond (.t 51) (.seq (.ops [⟨some 4, .mv (.c (.bool false)), none⟩])
  (.ret)) (.skip))))
  (.ops [⟨some 39, .mv (.t 5), none⟩,
    ⟨some 40, .bin .add (.t 39) (.c (.int .i64 1)), none⟩,
    ⟨some 5, .mv (.t 40), none⟩]))))))
  (.seq (.ops [⟨some 4, .mv (.c (.bool true)), none⟩])
  (.ret))))
theorem k_trystref04_Same : FnIs AP n_trystref04_Same c_trystref04_Same 52 (rsT [4]) := fnIs_of (fn := Go.Proofs.Try.f14) Go.Proofs.Try.func14 (by kernel_rfl) (by kernel_rfl) (by kernel_rfl) (by kernel_rfl) (by kernel_rfl)
theorem a_trystref04_Same {x0 x1 : V} {H : List Entry} {K : KV} (h : Wf H → awp AP H.length c_trystref04_Same (finW H.length (rsT [4]) K) ([x0, x1] ++ List.replicate 50 undefV) H) : BCall AP n_trystref04_Same [x0, x1] H K := k_trystref04_Same.call (by kernel_rfl) h
/-- tryst/event.Field: 15 slots -/
def c_event_Field : AC := .seq (.ops [⟨some 2, .mv (.c (.bool false)), none⟩])
  (.seq (.ops [⟨some 3, .mv (.t 0), none⟩,
    ⟨some 4, .len 0 (.t 3), none⟩,
    ⟨some 5, .bin .leq (.t 4) (.c (.int .i64 16)), none⟩,
    ⟨some 6, .mv (.t 5), none⟩,
    ⟨some 7, .mv (.t 0), some (6, true)⟩,
    ⟨some 8, .call (.c (.fn n_strings_Contains [] [])) [(.t 7), (.c (.str [46]))], some (6, true)⟩,
    ⟨some 9, .un .not (.t 8), some (6, true)⟩,
    ⟨some 10, .pick (.t 6) (.t 9) (.c (.bool false)), none⟩,
    ⟨some 11, .mv (.t 10), none⟩,
    ⟨some 12, .mv (.t 0), some (11, true)⟩,
    ⟨some 13, .call (.c (.fn n_name_Topic [] [])) [(.t 12)], some (11, true)⟩,
    ⟨some 14, .pick (.t 11) (.t 13) (.c (.bool false)), none⟩,
    ⟨some 2, .mv (.t 14), none⟩])
  (.ret))
theorem k_event_Field : FnIs AP n_event_Field c_event_Field 15 (rsT [2]) := fnIs_of (fn := Go.Proofs.Try.f15) Go.Proofs.Try.func15 (by kernel_rfl) (by kernel_rfl) (by kernel_rfl) (by kernel_rfl) (by kernel_rfl)
theorem a_event_Field {x0 : V} {H : List Entry} {K : KV} (h : Wf H → awp AP H.length c_event_Field (finW H.length (rsT [2]) K) ([x0] ++ List.replicate 14 undefV) H) : BCall AP n_event_Field [x0] H K := k_event_Field.call (by kernel_rfl) h
/-- tryst/trystref04.Field: 21 slots -/
def c_trystref04_Field : AC := .seq (.ops [⟨some 2, .mv (.c (.bool false)), none⟩])
  (.seq (.seq (.ops [⟨some 3, .mv (.c (.int .i64 0)), none⟩])
  (.block 0 (.loop (.seq (.seq (.ops [⟨some 4, .mv (.t 3), none⟩,
    ⟨some 5, .mv (.t 0), none⟩,
    ⟨some 6, .len 0 (.t 5), none⟩,
    ⟨some 7, .bin .lss (.t 4) (.t 6), none⟩])
  (.cond (.t 7) (.skip) (.exit 0)))
  (.seq (.block 1 (.seq (.ops [⟨some 10, .mv (.t 0), none⟩,
    ⟨some 11, .mv (.t 3), none⟩,
    ⟨some 12, .ixs (.t 10) (.t 11), none⟩,
    ⟨some 13, .bin .eql (.t 12) (.c (.int .u8 46)), none⟩])
  (.cond (.t 13) (.seq (.ops [⟨some 2, .mv (.c (.bool false)), none⟩])
  (.ret)) (.skip))))
  (.ops [⟨some 8, .mv (.t 3), none⟩,
    ⟨some 9, .bin .add (.t 8) (.c (.int .i64 1)), none⟩,
    ⟨some 3, .mv (.t 9), none⟩]))))))
  (.seq (.ops [⟨some 14, .mv (.t 0), none⟩,
    ⟨some 15, .call (.c (.fn n_trystref02_Topic [] [])) [(.t 14)], none⟩,
    ⟨some 16, .mv (.t 15), none⟩,
    ⟨some 17, .mv (.t 0), some (16, true)⟩,
    ⟨some 18, .len 0 (.t 17), some (16, true)⟩,
    ⟨some 19, .bin .leq (.t 18) (.c (.int .i64 16)), some (16, true)⟩,
    ⟨some 20, .pick (.t 16) (.t 19) (.c (.bool false)), none⟩,
    ⟨some 2, .mv (.t 20), none⟩])
  (.ret)))
theorem k_trystref04_Field : FnIs AP n_trystref04_Field c_trystref04_Field 21 (rsT [2]) := fnIs_of (fn := Go.Proofs.Try.f16) Go.Proofs.Try.func16 (by kernel_rfl) (by kernel_rfl) (by kernel_rfl) (by kernel_rfl) (by kernel_rfl)
theorem a_trystref04_Field {x0 : V} {H : List Entry} {K : KV} (h : Wf H → awp AP H.length c_trystref04_Field (finW H.length (rsT [2]) K) ([x0] ++ List.replicate 20 undefV) H) : BCall AP n_trystref04_Field [x0] H K := k_trystref04_Field.call (by kernel_rfl) h
/-- tryst/event.Lay: 51 slots -/
def c_event_Lay : AC := .seq (.ops [⟨some 1, .box (.t 0), none⟩,
    ⟨some 2, .mv (.c (.str [])), none⟩,
    ⟨some 3, .mv (.c (.int .i64 0)), none⟩])
  (.seq (.seq (.ops [⟨some 9, .load 4 true (.t 1), none⟩,
    ⟨some 10, .call (.c (.fn n_event_May [] [])) [(.t 9)], none⟩,
    ⟨some 11, .un .not (.t 10), none⟩])
  (.cond (.t 11) (.seq (.ops [⟨some 2, .mv (.c (.str [])), none⟩,
    ⟨some 3, .mv (.c (.int .i64 1)), none⟩])
  (.ret)) (.skip)))
  (.seq (.draw [⟨some 12, .fad 0 (.t 1), none⟩,
    ⟨some 13, .load 1 false (.t 12), none⟩,
    ⟨some 14, .dcall (.c (.fn n_event_layText [] [])) [(.t 13)], none⟩,
    ⟨some 15, .fad 1 (.t 1), none⟩,
    ⟨some 16, .load 1 false (.t 15), none⟩,
    ⟨some 17, .dcall (.c (.fn n_event_layText [] [])) [(.t 16)], none⟩,
    ⟨some 18, .bin .add (.t 14) (.t 17), none⟩,
    ⟨some 19, .fad 2 (.t 1), none⟩,
    ⟨some 20, .load 1 false (.t 19), none⟩,
    ⟨some 21, .dcall (.c (.fn n_num_Pack [] [])) [(.t 20)], none⟩,
    ⟨some 22, .bin .add (.t 18) (.t 21), none⟩,
    ⟨some 23, .fad 3 (.t 1), none⟩,
    ⟨some 24, .load 1 false (.t 23), none⟩,
    ⟨some 25, .len 1 (.t 24), none⟩,
    ⟨some 26, .cvi .u64 (.t 25), none⟩,
    ⟨some 27, .dcall (.c (.fn n_num_Pack [] [])) [(.t 26)], none⟩,
    ⟨some 28, .bin .add (.t 22) (.t 27), none⟩,
    ⟨some 4, .mv (.t 28), none⟩])
  (.seq (.seq (.ops [⟨some 29, .fad 3 (.t 1), none⟩,
    ⟨some 30, .load 1 false (.t 29), none⟩,
    ⟨some 31, .len 1 (.t 30), none⟩,
    ⟨some 32, .mv (.c (.int .i64 0)), none⟩])
  (.block 0 (.loop (.seq (.ops [⟨some 33, .bin .lss (.t 32) (.t 31), none⟩])
  (.seq (.cond (.t 33) (.skip) (.exit 0))
  (.seq (.block 1 (.seq (.ops [⟨some 34, .iad 4 true (.t 30) (.t 32), none⟩,
    ⟨some 35, .load 4 true (.t 34), none⟩,
    ⟨some 6, .alloc [.str [], .bool false, .int .i64 0, .str []], none⟩,
    ⟨none, .store 4 (.t 6) (.t 35), none⟩])
  (.seq (.ops [⟨some 37, .fad 1 (.t 6), none⟩,
    ⟨some 38, .load 3 true (.t 37), none⟩,
    ⟨some 39, .call (.c (.fn n_val_Lay [] [])) [(.t 38)], none⟩,
    ⟨some 36, .mv (.t 39), none⟩,
    ⟨some 40, .ext (.t 36) 0, none⟩,
    ⟨some 41, .ext (.t 36) 1, none⟩,
    ⟨some 7, .mv (.t 40), none⟩,
    ⟨some 8, .mv (.t 41), none⟩])
  (.ops [⟨some 42, .mv (.t 4), none⟩,
    ⟨some 43, .fad 0 (.t 6), none⟩,
    ⟨some 44, .load 1 false (.t 43), none⟩,
    ⟨some 45, .call (.c (.fn n_event_layText [] [])) [(.t 44)], none⟩,
    ⟨some 46, .mv (.t 7), none⟩,
    ⟨some 47, .bin .add (.t 45) (.t 46), none⟩,
    ⟨some 48, .bin .add (.t 42) (.t 47), none⟩,
    ⟨some 4, .mv (.t 48), none⟩]))))
  (.ops [⟨some 49, .bin .add (.t 32) (.c (.int .i64 1)), none⟩,
    ⟨some 32, .mv (.t 49), none⟩])))))))
  (.seq (.ops [⟨some 50, .mv (.t 4), none⟩,
    ⟨some 2, .mv (.t 50), none⟩,
    ⟨some 3, .mv (.c (.int .i64 0)), none⟩])
  (.ret)))))
theorem k_event_Lay : FnIs AP n_event_Lay c_event_Lay 51 (rsT [2, 3]) := fnIs_of (fn := Go.Proofs.Try.f17) Go.Proofs.Try.func17 (by kernel_rfl) (by kernel_rfl) (by kernel_rfl) (by kernel_rfl) (by kernel_rfl)
theorem a_event_Lay {x0 : V} {H : List Entry} {K : KV} (h : Wf H → awp AP H.length c_event_Lay (finW H.length (rsT [2, 3]) K) ([x0] ++ List.replicate 50 undefV) H) : BCall AP n_event_Lay [x0] H K := k_event_Lay.call (by kernel_rfl) h
/-- tryst/trystlaw04.awake: 60 slots -/
def c_trystlaw04_awake : AC := .seq (.ops [⟨some 0, .mv (.c (.bool false)), none⟩])
  (.seq (.ops [⟨some 9, .build [.str [], .str [], .int .u64 0, .nilsl] [(0, 1, (.c (.str [97, 46, 98]))), (1, 1, (.c (.str [112]))), (2, 1, (.c (.int .u64 1)))], none⟩,
    ⟨some 10, .build [.bool false, .int .i64 0, .str []] [(0, 1, (.c (.bool true))), (1, 1, (.c (.int .i64 7)))], none⟩,
    ⟨some 11, .call (.c (.fn n_event_Put [] [])) [(.t 9), (.c (.str [120])), (.t 10)], none⟩,
    ⟨some 1, .alloc [.str [], .str [], .int .u64 0, .nilsl], none⟩,
    ⟨none, .store 4 (.t 1) (.t 11), none⟩])
  (.seq (.ops [⟨some 13, .load 4 true (.t 1), none⟩,
    ⟨some 14, .call (.c (.fn n_event_Get [] [])) [(.t 13), (.c (.str [120]))], none⟩,
    ⟨some 12, .mv (.t 14), none⟩,
    ⟨some 15, .ext (.t 12) 0, none⟩,
    ⟨some 16, .ext (.t 12) 1, none⟩,
    ⟨some 2, .alloc [.bool false, .int .i64 0, .str []], none⟩,
    ⟨none, .store 3 (.t 2) (.t 15), none⟩,
    ⟨some 3, .mv (.t 16), none⟩])
  (.seq (.ops [⟨some 18, .call (.c (.fn n_event_Take [] [])) [(.c (.str []))], none⟩,
    ⟨some 17, .mv (.t 18), none⟩,
    ⟨some 19, .ext (.t 17) 0, none⟩,
    ⟨some 20, .ext (.t 17) 1, none⟩,
    ⟨some 21, .ext (.t 17) 2, none⟩,
    ⟨some 4, .alloc [.str [], .str [], .int .u64 0, .nilsl], none⟩,
    ⟨none, .store 4 (.t 4) (.t 19), none⟩,
    ⟨some 5, .mv (.t 20), none⟩,
    ⟨some 6, .mv (.t 21), none⟩])
  (.seq (.ops [⟨some 23, .load 4 true (.t 1), none⟩,
    ⟨some 24, .call (.c (.fn n_event_Lay [] [])) [(.t 23)], none⟩,
    ⟨some 22, .mv (.t 24), none⟩,
    ⟨some 25, .ext (.t 22) 0, none⟩,
    ⟨some 26, .ext (.t 22) 1, none⟩,
    ⟨some 7, .mv (.t 25), none⟩,
    ⟨some 8, .mv (.t 26), none⟩])
  (.seq (.ops [⟨some 27, .fad 1 (.t 2), none⟩,
    ⟨some 28, .load 1 false (.t 27), none⟩,
    ⟨some 29, .bin .eql (.t 28) (.c (.int .i64 7)), none⟩,
    ⟨some 30, .mv (.t 29), none⟩,
    ⟨some 31, .mv (.t 3), some (30, true)⟩,
    ⟨some 32, .pick (.t 30) (.t 31) (.c (.bool false)), none⟩,
    ⟨some 33, .mv (.t 32), none⟩,
    ⟨some 34, .mv (.t 6), some (33, true)⟩,
    ⟨some 35, .bin .eql (.t 34) (.c (.int .i64 3)), some (33, true)⟩,
    ⟨some 36, .pick (.t 33) (.t 35) (.c (.bool false)), none⟩,
    ⟨some 37, .mv (.t 36), none⟩,
    ⟨some 38, .mv (.t 7), some (37, true)⟩,
    ⟨some 39, .len 0 (.t 38), some (37, true)⟩,
    ⟨some 40, .bin .gtr (.t 39) (.c (.int .i64 8)), some (37, true)⟩,
    ⟨some 41, .pick (.t 37) (.t 40) (.c (.bool false)), none⟩,
    ⟨some 42, .mv (.t 41), none⟩,
    ⟨some 43, .mv (.t 8), some (42, true)⟩,
    ⟨some 44, .bin .eql (.t 43) (.c (.int .i64 0)), some (42, true)⟩,
    ⟨some 45, .pick (.t 42) (.t 44) (.c (.bool false)), none⟩,
    ⟨some 46, .mv (.t 45), none⟩,
    ⟨some 47, .build [.str [], .bool false, .int .i64 0, .str []] [(0, 1, (.c (.str [120])))], some (46, true)⟩,
    ⟨some 48, .build [.str [], .bool false, .int .i64 0, .str []] [(0, 1, (.c (.str [120])))], some (46, true)⟩,
    ⟨some 49, .bsl 4 true [(.t 47), (.t 48)], some (46, true)⟩,
    ⟨some 50, .build [.str [], .str [], .int .u64 0, .nilsl] [(0, 1, (.c (.str [97]))), (1, 1, (.c (.str [112]))), (2, 1, (.c (.int .u64 1))), (3, 1, (.t 49))], some (46, true)⟩,
    ⟨some 51, .call (.c (.fn n_event_May [] [])) [(.t 50)], some (46, true)⟩,
    ⟨some 52, .un .not (.t 51), some (46, true)⟩,
    ⟨some 53, .pick (.t 46) (.t 52) (.c (.bool false)), none⟩,
    ⟨some 54, .mv (.t 53), none⟩,
    ⟨some 55, .pick (.t 54) (.c (.bool true)) (.c (.bool false)), none⟩,
    ⟨some 56, .mv (.t 55), none⟩,
    ⟨some 57, .pick (.t 56) (.c (.bool true)) (.c (.bool false)), none⟩,
    ⟨some 58, .mv (.t 57), none⟩,
    ⟨some 59, .pick (.t 58) (.c (.bool true)) (.c (.bool false)), none⟩,
    ⟨some 0, .mv (.t 59), none⟩])
  (.ret))))))
theorem k_trystlaw04_awake : FnIs AP n_trystlaw04_awake c_trystlaw04_awake 60 (rsT [0]) := fnIs_of (fn := Go.Proofs.Try.f18) Go.Proofs.Try.func18 (by kernel_rfl) (by kernel_rfl) (by kernel_rfl) (by kernel_rfl) (by kernel_rfl)
theorem a_trystlaw04_awake {H : List Entry} {K : KV} (h : Wf H → awp AP H.length c_trystlaw04_awake (finW H.length (rsT [0]) K) ([] ++ List.replicate 60 undefV) H) : BCall AP n_trystlaw04_awake [] H K := k_trystlaw04_awake.call (by kernel_rfl) h
/-- tryst/event.Take: 38 slots -/
def c_event_Take : AC := .seq (.ops [⟨some 2, .alloc [.str [], .str [], .int .u64 0, .nilsl], none⟩,
    ⟨some 3, .mv (.c (.int .i64 0)), none⟩,
    ⟨some 4, .mv (.c (.int .i64 0)), none⟩])
  (.seq (.ops [⟨some 8, .mv (.t 0), none⟩,
    ⟨some 9, .build [.str [], .int .i64 0] [(0, 1, (.t 8))], none⟩,
    ⟨some 5, .alloc [.str [], .int .i64 0], none⟩,
    ⟨none, .store 2 (.t 5) (.t 9), none⟩])
  (.seq (.ops [⟨some 10, .call (.c (.fn n_event_reader_event [] [])) [(.t 5)], none⟩,
    ⟨some 6, .alloc [.str [], .str [], .int .u64 0, .nilsl], none⟩,
    ⟨none, .store 4 (.t 6) (.t 10), none⟩])
  (.seq (.ops [⟨some 11, .mv (.t 0), none⟩,
    ⟨some 12, .len 0 (.t 11), none⟩,
    ⟨some 13, .fad 0 (.t 5), none⟩,
    ⟨some 14, .load 1 false (.t 13), none⟩,
    ⟨some 15, .len 0 (.t 14), none⟩,
    ⟨some 16, .bin .sub (.t 12) (.t 15), none⟩,
    ⟨some 7, .mv (.t 16), none⟩])
  (.seq (.seq (.ops [⟨some 17, .fad 1 (.t 5), none⟩,
    ⟨some 18, .load 1 false (.t 17), none⟩,
    ⟨some 19, .bin .eql (.t 18) (.c (.int .i64 0)), none⟩,
    ⟨some 20, .mv (.t 19), none⟩,
    ⟨some 21, .load 4 true (.t 6), some (20, true)⟩,
    ⟨some 22, .call (.c (.fn n_event_May [] [])) [(.t 21)], some (20, true)⟩,
    ⟨some 23, .un .not (.t 22), some (20, true)⟩,
    ⟨some 24, .mv (.t 23), some (20, true)⟩,
    ⟨some 25, .mv (.t 7), some (24, false)⟩,
    ⟨some 26, .bin .gtr (.t 25) (.c (.int .i64 800)), some (24, false)⟩,
    ⟨some 27, .pick (.t 24) (.c (.bool true)) (.t 26), some (20, true)⟩,
    ⟨some 28, .pick (.t 20) (.t 27) (.c (.bool false)), none⟩])
  (.cond (.t 28) (.ops [⟨some 29, .fad 1 (.t 5), none⟩,
    ⟨none, .store 1 (.t 29) (.c (.int .i64 2)), none⟩]) (.skip)))
  (.seq (.seq (.ops [⟨some 30, .fad 1 (.t 5), none⟩,
    ⟨some 31, .load 1 false (.t 30), none⟩,
    ⟨some 32, .bin .neq (.t 31) (.c (.int .i64 0)), none⟩])
  (.cond (.t 32) (.seq (.drawX [] [(5, 2), (34, 2)] [⟨some 33, .build [.str [], .str [], .int .u64 0, .nilsl] [], none⟩,
    ⟨some 34, .fad 1 (.t 5), none⟩,
    ⟨some 35, .load 1 false (.t 34), none⟩,
    ⟨none, .store 4 (.t 2) (.t 33), none⟩,
    ⟨some 3, .mv (.c (.int .i64 0)), none⟩,
    ⟨some 4, .mv (.t 35), none⟩])
  (.ret)) (.skip)))
  (.seq (.ops [⟨some 36, .load 4 true (.t 6), none⟩,
    ⟨some 37, .mv (.t 7), none⟩,
    ⟨none, .store 4 (.t 2) (.t 36), none⟩,
    ⟨some 3, .mv (.t 37), none⟩,
    ⟨some 4, .mv (.c (.int .i64 0)), none⟩])
  (.ret)))))))
theorem k_event_Take : FnIs AP n_event_Take c_event_Take 38 [.cell 2 4 true, .tmp 3, .tmp 4] := fnIs_of (fn := Go.Proofs.Try.f19) Go.Proofs.Try.func19 (by kernel_rfl) (by kernel_rfl) (by kernel_rfl) (by kernel_rfl) (by kernel_rfl)
theorem a_event_Take {x0 : V} {H : List Entry} {K : KV} (h : Wf H → awp AP H.length c_event_Take (finW H.length [.cell 2 4 true, .tmp 3, .tmp 4] K) ([x0] ++ List.replicate 37 undefV) H) : BCall AP n_event_Take [x0] H K := k_event_Take.call (by kernel_rfl) h
/-- tryst/trystref04.Lay: 47 slots -/
def c_trystref04_Lay : AC := .seq (.ops [⟨some 1, .box (.t 0), none⟩,
    ⟨some 2, .mv (.c (.str [])), none⟩])
  (.seq (.draw [⟨some 5, .fad 0 (.t 1), none⟩,
    ⟨some 6, .load 1 false (.t 5), none⟩,
    ⟨some 7, .dcall (.c (.fn n_trystref04_text [] [])) [(.t 6)], none⟩,
    ⟨some 8, .fad 1 (.t 1), none⟩,
    ⟨some 9, .load 1 false (.t 8), none⟩,
    ⟨some 10, .dcall (.c (.fn n_trystref04_text [] [])) [(.t 9)], none⟩,
    ⟨some 11, .bin .add (.t 7) (.t 10), none⟩,
    ⟨some 12, .fad 2 (.t 1), none⟩,
    ⟨some 13, .load 1 false (.t 12), none⟩,
    ⟨some 14, .dcall (.c (.fn n_trystref01_Pack [] [])) [(.t 13)], none⟩,
    ⟨some 15, .bin .add (.t 11) (.t 14), none⟩,
    ⟨some 16, .fad 3 (.t 1), none⟩,
    ⟨some 17, .load 1 false (.t 16), none⟩,
    ⟨some 18, .len 1 (.t 17), none⟩,
    ⟨some 19, .cvi .u64 (.t 18), none⟩,
    ⟨some 20, .dcall (.c (.fn n_trystref01_Pack [] [])) [(.t 19)], none⟩,
    ⟨some 21, .bin .add (.t 15) (.t 20), none⟩,
    ⟨some 3, .mv (.t 21), none⟩])
  (.seq (.seq (.ops [⟨some 4, .mv (.c (.int .i64 0)), none⟩])
  (.block 0 (.loop (.seq (.seq (.ops [⟨some 22, .mv (.t 4), none⟩,
    ⟨some 23, .fad 3 (.t 1), none⟩,
    ⟨some 24, .load 1 false (.t 23), none⟩,
    ⟨some 25, .len 1 (.t 24), none⟩,
    ⟨some 26, .bin .lss (.t 22) (.t 25), none⟩])
  (.cond (.t 26) (.skip) (.exit 0)))
  (.seq (.block 1 (.draw [⟨some 29, .mv (.t 3), none⟩,
    ⟨some 30, .fad 3 (.t 1), none⟩,
    ⟨some 31, .load 1 false (.t 30), none⟩,
    ⟨some 32, .mv (.t 4), none⟩,
    ⟨some 33, .iad 4 true (.t 31) (.t 32), none⟩,
    ⟨some 34, .fad 0 (.t 33), none⟩,
    ⟨some 35, .load 1 false (.t 34), none⟩,
    ⟨some 36, .dcall (.c (.fn n_trystref04_text [] [])) [(.t 35)], none⟩,
    ⟨some 37, .fad 3 (.t 1), none⟩,
    ⟨some 38, .load 1 false (.t 37), none⟩,
    ⟨some 39, .mv (.t 4), none⟩,
    ⟨some 40, .iad 4 true (.t 38) (.t 39), none⟩,
    ⟨some 41, .fad 1 (.t 40), none⟩,
    ⟨some 42, .load 3 true (.t 41), none⟩,
    ⟨some 43, .dcall (.c (.fn n_trystref03_Lay [] [])) [(.t 42)], none⟩,
    ⟨some 44, .bin .add (.t 36) (.t 43), none⟩,
    ⟨some 45, .bin .add (.t 29) (.t 44), none⟩,
    ⟨some 3, .mv (.t 45), none⟩]))
  (.ops [⟨some 27, .mv (.t 4), none⟩,
    ⟨some 28, .bin .add (.t 27) (.c (.int .i64 1)), none⟩,
    ⟨some 4, .mv (.t 28), none⟩]))))))
  (.seq (.ops [⟨some 46, .mv (.t 3), none⟩,
    ⟨some 2, .mv (.t 46), none⟩])
  (.ret))))
theorem k_trystref04_Lay : FnIs AP n_trystref04_Lay c_trystref04_Lay 47 (rsT [2]) := fnIs_of (fn := Go.Proofs.Try.f20) Go.Proofs.Try.func20 (by kernel_rfl) (by kernel_rfl) (by kernel_rfl) (by kernel_rfl) (by kernel_rfl)
theorem a_trystref04_Lay {x0 : V} {H : List Entry} {K : KV} (h : Wf H → awp AP H.length c_trystref04_Lay (finW H.length (rsT [2]) K) ([x0] ++ List.replicate 46 undefV) H) : BCall AP n_trystref04_Lay [x0] H K := k_trystref04_Lay.call (by kernel_rfl) h
/-- tryst/trystlaw03.Few: 12 slots -/
def c_trystlaw03_Few : AC := .seq (.ops [⟨some 1, .box (.t 0), none⟩,
    ⟨some 2, .alloc [.bool false, .int .i64 0, .str []], none⟩])
  (.seq (.seq (.ops [⟨some 3, .fad 2 (.t 1), none⟩,
    ⟨some 4, .load 1 false (.t 3), none⟩,
    ⟨some 5, .len 0 (.t 4), none⟩,
    ⟨some 6, .bin .gtr (.t 5) (.c (.int .i64 70)), none⟩])
  (.cond (.t 6) (.ops [⟨some 7, .fad 2 (.t 1), none⟩,
    ⟨some 8, .load 1 false (.t 7), none⟩,
    ⟨some 9, .sls (.t 8) none (some (.c (.int .i64 70))), none⟩,
    ⟨some 10, .fad 2 (.t 1), none⟩,
    ⟨none, .store 1 (.t 10) (.t 9), none⟩]) (.skip)))
  (.seq (.ops [⟨some 11, .load 3 true (.t 1), none⟩,
    ⟨none, .store 3 (.t 2) (.t 11), none⟩])
  (.ret)))
theorem k_trystlaw03_Few : FnIs AP n_trystlaw03_Few c_trystlaw03_Few 12 [.cell 2 3 true] := fnIs_of (fn := Go.Proofs.Try.f21) Go.Proofs.Try.func21 (by kernel_rfl) (by kernel_rfl) (by kernel_rfl) (by kernel_rfl) (by kernel_rfl)
theorem a_trystlaw03_Few {x0 : V} {H : List Entry} {K : KV} (h : Wf H → awp AP H.length c_trystlaw03_Few (finW H.length [.cell 2 3 true] K) ([x0] ++ List.replicate 11 undefV) H) : BCall AP n_trystlaw03_Few [x0] H K := k_trystlaw03_Few.call (by kernel_rfl) h
/-- tryst/event.Get: 19 slots -/
def c_event_Get : AC := .seq (.ops [⟨some 2, .box (.t 0), none⟩,
    ⟨some 4, .alloc [.bool false, .int .i64 0, .str []], none⟩,
    ⟨some 5, .mv (.c (.bool false)), none⟩])
  (.seq (.ops [⟨some 7, .load 4 true (.t 2), none⟩,
    ⟨some 8, .mv (.t 1), none⟩,
    ⟨some 9, .call (.c (.fn n_event_place [] [])) [(.t 7), (.t 8)], none⟩,
    ⟨some 6, .mv (.t 9), none⟩])
  (.seq (.seq (.ops [⟨some 10, .mv (.t 6), none⟩,
    ⟨some 11, .bin .lss (.t 10) (.c (.int .i64 0)), none⟩])
  (.cond (.t 11) (.seq (.ops [⟨some 12, .build [.bool false, .int .i64 0, .str []] [], none⟩,
    ⟨none, .store 3 (.t 4) (.t 12), none⟩,
    ⟨some 5, .mv (.c (.bool false)), none⟩])
  (.ret)) (.skip)))
  (.seq (.ops [⟨some 13, .fad 3 (.t 2), none⟩,
    ⟨some 14, .load 1 false (.t 13), none⟩,
    ⟨some 15, .mv (.t 6), none⟩,
    ⟨some 16, .iad 4 true (.t 14) (.t 15), none⟩,
    ⟨some 17, .fad 1 (.t 16), none⟩,
    ⟨some 18, .load 3 true (.t 17), none⟩,
    ⟨none, .store 3 (.t 4) (.t 18), none⟩,
    ⟨some 5, .mv (.c (.bool true)), none⟩])
  (.ret))))
theorem k_event_Get : FnIs AP n_event_Get c_event_Get 19 [.cell 4 3 true, .tmp 5] := fnIs_of (fn := Go.Proofs.Try.f22) Go.Proofs.Try.func22 (by kernel_rfl) (by kernel_rfl) (by kernel_rfl) (by kernel_rfl) (by kernel_rfl)
theorem a_event_Get {x0 x1 : V} {H : List Entry} {K : KV} (h : Wf H → awp AP H.length c_event_Get (finW H.length [.cell 4 3 true, .tmp 5] K) ([x0, x1] ++ List.replicate 17 undefV) H) : BCall AP n_event_Get [x0, x1] H K := k_event_Get.call (by kernel_rfl) h
/-- tryst/trystref04.Get: 29 slots -/
def c_trystref04_Get : AC := .seq (.ops [⟨some 2, .box (.t 0), none⟩,
    ⟨some 4, .alloc [.bool false, .int .i64 0, .str []], none⟩,
    ⟨some 5, .mv (.c (.bool false)), none⟩])
  (.seq (.seq (.ops [⟨some 6, .mv (.c (.int .i64 0)), none⟩])
  (.block 0 (.loop (.seq (.seq (.ops [⟨some 7, .mv (.t 6), none⟩,
    ⟨some 8, .fad 3 (.t 2), none⟩,
    ⟨some 9, .load 1 false (.t 8), none⟩,
    ⟨some 10, .len 1 (.t 9), none⟩,
    ⟨some 11, .bin .lss (.t 7) (.t 10), none⟩])
  (.cond (.t 11) (.skip) (.exit 0)))
  (.seq (.block 1 (.seq (.ops [⟨some 14, .fad 3 (.t 2), none⟩,
    ⟨some 15, .load 1 false (.t 14), none⟩,
    ⟨some 16, .mv (.t 6), none⟩,
    ⟨some 17, .iad 4 true (.t 15) (.t 16), none⟩,
    ⟨some 18, .fad 0 (.t 17), none⟩,
    ⟨some 19, .load 1 false (.t 18), none⟩,
    ⟨some 20, .mv (.t 1), none⟩,
    ⟨some 21, .bin .eql (.t 19) (.t 20), none⟩])
  (.cond (.t 21) (.seq (.ops [⟨some 22, .fad 3 (.t 2), none⟩,
    ⟨some 23, .load 1 false (.t 22), none⟩,
    ⟨some 24, .mv (.t 6), none⟩,
    ⟨some 25, .iad 4 true (.t 23) (.t 24), none⟩,
    ⟨some 26, .fad 1 (.t 25), none⟩,
    ⟨some 27, .load 3 true (.t 26), none⟩,
    ⟨none, .store 3 (.t 4) (.t 27), none⟩,
    ⟨some 5, .mv (.c (.bool true)), none⟩])
  (.ret)) (.skip))))
  (.ops [⟨some 12, .mv (.t 6), none⟩,
    ⟨some 13, .bin .add (.t 12) (.c (.int .i64 1)), none⟩,
    ⟨some 6, .mv (.t 13), none⟩]))))))
  (.seq (.ops [⟨some 28, .build [.bool false, .int .i64 0, .str []] [], none⟩,
    ⟨none, .store 3 (.t 4) (.t 28), none⟩,
    ⟨some 5, .mv (.c (.bool false)), none⟩])
  (.ret)))
theorem k_trystref04_Get : FnIs AP n_trystref04_Get c_trystref04_Get 29 [.cell 4 3 true, .tmp 5] := fnIs_of (fn := Go.Proofs.Try.f23) Go.Proofs.Try.func23 (by kernel_rfl) (by kernel_rfl) (by kernel_rfl) (by kernel_rfl) (by kernel_rfl)
theorem a_trystref04_Get {x0 x1 : V} {H : List Entry} {K : KV} (h : Wf H → awp AP H.length c_trystref04_Get (finW H.length [.cell 4 3 true, .tmp 5] K) ([x0, x1] ++ List.replicate 27 undefV) H) : BCall AP n_trystref04_Get [x0, x1] H K := k_trystref04_Get.call (by kernel_rfl) h
/-- tryst/event.Put: 36 slots -/
def c_event_Put : AC := .seq (.ops [⟨some 3, .box (.t 0), none⟩,
    ⟨some 4, .box (.t 1), none⟩,
    ⟨some 5, .box (.t 2), none⟩,
    ⟨some 6, .alloc [.str [], .str [], .int .u64 0, .nilsl], none⟩])
  (.seq (.ops [⟨some 10, .load 1 false (.t 4), none⟩,
    ⟨some 11, .load 3 true (.t 5), none⟩,
    ⟨some 12, .build [.str [], .bool false, .int .i64 0, .str []] [(0, 1, (.t 10)), (1, 3, (.t 11))], none⟩,
    ⟨some 7, .alloc [.str [], .bool false, .int .i64 0, .str []], none⟩,
    ⟨none, .store 4 (.t 7) (.t 12), none⟩])
  (.seq (.seq (.ops [⟨some 13, .load 4 true (.t 3), none⟩,
    ⟨some 14, .load 1 false (.t 4), none⟩,
    ⟨some 15, .call (.c (.fn n_event_place [] [])) [(.t 13), (.t 14)], none⟩,
    ⟨some 8, .mv (.t 15), none⟩])
  (.seq (.ops [⟨some 16, .mv (.t 8), none⟩,
    ⟨some 17, .bin .geq (.t 16) (.c (.int .i64 0)), none⟩])
  (.cond (.t 17) (.seq (.ops [⟨some 18, .fad 3 (.t 3), none⟩,
    ⟨some 19, .load 1 false (.t 18), none⟩,
    ⟨some 20, .mv (.t 8), none⟩,
    ⟨some 21, .load 4 true (.t 7), none⟩,
    ⟨some 22, .call (.c (.fn n_list_Set_api_Field [] [])) [(.t 19), (.t 20), (.t 21)], none⟩,
    ⟨some 23, .fad 3 (.t 3), none⟩,
    ⟨none, .store 1 (.t 23) (.t 22), none⟩])
  (.seq (.ops [⟨some 24, .load 4 true (.t 3), none⟩,
    ⟨none, .store 4 (.t 6) (.t 24), none⟩])
  (.ret))) (.skip))))
  (.seq (.ops [⟨some 25, .fad 3 (.t 3), none⟩,
    ⟨some 26, .load 1 false (.t 25), none⟩,
    ⟨some 27, .mkfn n_event_Put_1 [] [(.t 4)], none⟩,
    ⟨some 28, .call (.c (.fn n_list_Place_api_Field [] [])) [(.t 26), (.t 27)], none⟩,
    ⟨some 9, .mv (.t 28), none⟩])
  (.seq (.ops [⟨some 29, .fad 3 (.t 3), none⟩,
    ⟨some 30, .load 1 false (.t 29), none⟩,
    ⟨some 31, .mv (.t 9), none⟩,
    ⟨some 32, .load 4 true (.t 7), none⟩,
    ⟨some 33, .call (.c (.fn n_list_With_api_Field [] [])) [(.t 30), (.t 31), (.t 32)], none⟩,
    ⟨some 34, .fad 3 (.t 3), none⟩,
    ⟨none, .store 1 (.t 34) (.t 33), none⟩])
  (.seq (.ops [⟨some 35, .load 4 true (.t 3), none⟩,
    ⟨none, .store 4 (.t 6) (.t 35), none⟩])
  (.ret))))))
theorem k_event_Put : FnIs AP n_event_Put c_event_Put 36 [.cell 6 4 true] := fnIs_of (fn := Go.Proofs.Try.f24) Go.Proofs.Try.func24 (by kernel_rfl) (by kernel_rfl) (by kernel_rfl) (by kernel_rfl) (by kernel_rfl)
theorem a_event_Put {x0 x1 x2 : V} {H : List Entry} {K : KV} (h : Wf H → awp AP H.length c_event_Put (finW H.length [.cell 6 4 true] K) ([x0, x1, x2] ++ List.replicate 33 undefV) H) : BCall AP n_event_Put [x0, x1, x2] H K := k_event_Put.call (by kernel_rfl) h
/-- tryst/trystref04.Put: 82 slots -/
def c_trystref04_Put : AC := .seq (.ops [⟨some 3, .box (.t 0), none⟩,
    ⟨some 5, .box (.t 2), none⟩,
    ⟨some 6, .alloc [.str [], .str [], .int .u64 0, .nilsl], none⟩])
  (.seq (.ops [⟨some 14, .load 4 true (.t 3), none⟩,
    ⟨some 15, .mv (.t 1), none⟩,
    ⟨some 16, .call (.c (.fn n_trystref04_Get [] [])) [(.t 14), (.t 15)], none⟩,
    ⟨some 13, .mv (.t 16), none⟩,
    ⟨some 17, .ext (.t 13) 0, none⟩,
    ⟨some 18, .ext (.t 13) 1, none⟩,
    ⟨some 7, .alloc [.bool false, .int .i64 0, .str []], none⟩,
    ⟨none, .store 3 (.t 7) (.t 17), none⟩,
    ⟨some 8, .mv (.t 18), none⟩])
  (.seq (.ops [⟨some 9, .mv (.c (.nilsl)), none⟩])
  (.seq (.ops [⟨some 10, .mv (.c (.bool false)), none⟩])
  (.seq (.seq (.ops [⟨some 11, .mv (.c (.int .i64 0)), none⟩])
  (.block 0 (.loop (.seq (.seq (.ops [⟨some 19, .mv (.t 11), none⟩,
    ⟨some 20, .fad 3 (.t 3), none⟩,
    ⟨some 21, .load 1 false (.t 20), none⟩,
    ⟨some 22, .len 1 (.t 21), none⟩,
    ⟨some 23, .bin .lss (.t 19) (.t 22), none⟩])
  (.cond (.t 23) (.skip) (.exit 0)))
  (.seq (.block 1 (.seq (.ops [⟨some 26, .fad 3 (.t 3), none⟩,
    ⟨some 27, .load 1 false (.t 26), none⟩,
    ⟨some 28, .mv (.t 11), none⟩,
    ⟨some 29, .iad 4 true (.t 27) (.t 28), none⟩,
    ⟨some 30, .load 4 true (.t 29), none⟩,
    ⟨some 12, .alloc [.str [], .bool false, .int .i64 0, .str []], none⟩,
    ⟨none, .store 4 (.t 12) (.t 30), none⟩])
  (.seq (.seq (.ops [⟨some 31, .mv (.t 8), none⟩,
    ⟨some 32, .mv (.t 31), none⟩,
    ⟨some 33, .mv (.t 10), some (32, true)⟩,
    ⟨some 34, .un .not (.t 33), some (32, true)⟩,
    ⟨some 35, .pick (.t 32) (.t 34) (.c (.bool false)), none⟩,
    ⟨some 36, .mv (.t 35), none⟩,
    ⟨some 37, .fad 0 (.t 12), some (36, true)⟩,
    ⟨some 38, .load 1 false (.t 37), some (36, true)⟩,
    ⟨some 39, .mv (.t 1), some (36, true)⟩,
    ⟨some 40, .bin .eql (.t 38) (.t 39), some (36, true)⟩,
    ⟨some 41, .pick (.t 36) (.t 40) (.c (.bool false)), none⟩])
  (.cond (.t 41) (.seq (.ops [⟨some 42, .load 3 true (.t 5), none⟩,
    ⟨some 43, .fad 1 (.t 12), none⟩,
    ⟨none, .store 3 (.t 43) (.t 42), none⟩])
  (.ops [⟨some 10, .mv (.c (.bool true)), none⟩])) (.skip)))
  (.seq (.seq (.ops [⟨some 44, .mv (.t 8), none⟩,
    ⟨some 45, .un .not (.t 44), none⟩,
    ⟨some 46, .mv (.t 45), none⟩,
    ⟨some 47, .mv (.t 10), some (46, true)⟩,
    ⟨some 48, .un .not (.t 47), some (46, true)⟩,
    ⟨some 49, .pick (.t 46) (.t 48) (.c (.bool false)), none⟩,
    ⟨some 50, .mv (.t 49), none⟩,
    ⟨some 51, .fad 0 (.t 12), some (50, true)⟩,
    ⟨some 52, .load 1 false (.t 51), some (50, true)⟩,
    ⟨some 53, .mv (.t 1), some (50, true)⟩,
    ⟨some 54, .bin .gtr (.t 52) (.t 53), some (50, true)⟩,
    ⟨some 55, .pick (.t 50) (.t 54) (.c (.bool false)), none⟩])
  (.cond (.t 55) (.seq (.ops [⟨some 56, .mv (.t 9), none⟩,
    ⟨some 57, .mv (.t 1), none⟩,
    ⟨some 58, .load 3 true (.t 5), none⟩,
    ⟨some 59, .build [.str [], .bool false, .int .i64 0, .str []] [(0, 1, (.t 57)), (1, 3, (.t 58))], none⟩,
    ⟨some 60, .bsl 4 true [(.t 59)], none⟩,
    ⟨some 61, .app 49 4 48 true (.t 56) (.t 60), none⟩,
    ⟨some 9, .mv (.t 61), none⟩])
  (.ops [⟨some 10, .mv (.c (.bool true)), none⟩])) (.skip)))
  (.ops [⟨some 62, .mv (.t 9), none⟩,
    ⟨some 63, .load 4 true (.t 12), none⟩,
    ⟨some 64, .bsl 4 true [(.t 63)], none⟩,
    ⟨some 65, .app 49 4 48 true (.t 62) (.t 64), none⟩,
    ⟨some 9, .mv (.t 65), none⟩])))))
  (.ops [⟨some 24, .mv (.t 11), none⟩,
    ⟨some 25, .bin .add (.t 24) (.c (.int .i64 1)), none⟩,
    ⟨some 11, .mv (.t 25), none⟩]))))))
  (.seq (.seq (.ops [⟨some 66, .mv (.t 10), none⟩,
    ⟨some 67, .un .not (.t 66), none⟩])
  (.cond (.t 67) (.ops [⟨some 68, .mv (.t 9), none⟩,
    ⟨some 69, .mv (.t 1), none⟩,
    ⟨some 70, .load 3 true (.t 5), none⟩,
    ⟨some 71, .build [.str [], .bool false, .int .i64 0, .str []] [(0, 1, (.t 69)), (1, 3, (.t 70))], none⟩,
    ⟨some 72, .bsl 4 true [(.t 71)], none⟩,
    ⟨some 73, .app 49 4 48 true (.t 68) (.t 72), none⟩,
    ⟨some 9, .mv (.t 73), none⟩]) (.skip)))
  (.seq (.ops [⟨some 74, .fad 0 (.t 3), none⟩,
    ⟨some 75, .load 1 false (.t 74), none⟩,
    ⟨some 76, .fad 1 (.t 3), none⟩,
    ⟨some 77, .load 1 false (.t 76), none⟩,
    ⟨some 78, .fad 2 (.t 3), none⟩,
    ⟨some 79, .load 1 false (.t 78), none⟩,
    ⟨some 80, .mv (.t 9), none⟩,
    ⟨some 81, .build [.str [], .str [], .int .u64 0, .nilsl] [(0, 1, (.t 75)), (1, 1, (.t 77)), (2, 1, (.t 79)), (3, 1, (.t 80))], none⟩,
    ⟨none, .store 4 (.t 6) (.t 81), none⟩])
  (.ret)))))))
theorem k_trystref04_Put : FnIs AP n_trystref04_Put c_trystref04_Put 82 [.cell 6 4 true] := fnIs_of (fn := Go.Proofs.Try.f25) Go.Proofs.Try.func25 (by kernel_rfl) (by kernel_rfl) (by kernel_rfl) (by kernel_rfl) (by kernel_rfl)
theorem a_trystref04_Put {x0 x1 x2 : V} {H : List Entry} {K : KV} (h : Wf H → awp AP H.length c_trystref04_Put (finW H.length [.cell 6 4 true] K) ([x0, x1, x2] ++ List.replicate 79 undefV) H) : BCall AP n_trystref04_Put [x0, x1, x2] H K := k_trystref04_Put.call (by kernel_rfl) h
/-- tryst/name.Topic: 5 slots -/
def c_name_Topic : AC := .seq (.ops [⟨some 2, .mv (.c (.bool false)), none⟩])
  (.seq (.ops [⟨some 3, .mv (.t 0), none⟩,
    ⟨some 4, .call (.c (.fn n_name_allParts [] [])) [(.t 3), (.c (.fn n_name_isPart [] []))], none⟩,
    ⟨some 2, .mv (.t 4), none⟩])
  (.ret))
theorem k_name_Topic : FnIs AP n_name_Topic c_name_Topic 5 (rsT [2]) := fnIs_of (fn := Go.Proofs.Try.f26) Go.Proofs.Try.func26 (by kernel_rfl) (by kernel_rfl) (by kernel_rfl) (by kernel_rfl) (by kernel_rfl)
theorem a_name_Topic {x0 : V} {H : List Entry} {K : KV} (h : Wf H → awp AP H.length c_name_Topic (finW H.length (rsT [2]) K) ([x0] ++ List.replicate 4 undefV) H) : BCall AP n_name_Topic [x0] H K := k_name_Topic.call (by kernel_rfl) h
/-- tryst/event.mayFields: 17 slots -/
def c_event_mayFields : AC := .seq (.ops [⟨some 2, .mv (.c (.bool false)), none⟩])
  (.seq (.seq (.ops [⟨some 5, .mv (.t 0), none⟩,
    ⟨some 6, .len 1 (.t 5), none⟩,
    ⟨some 7, .bin .gtr (.t 6) (.c (.int .i64 8)), none⟩])
  (.cond (.t 7) (.seq (.ops [⟨some 2, .mv (.c (.bool false)), none⟩])
  (.ret)) (.skip)))
  (.seq (.ops [⟨some 3, .mv (.c (.fn n_event_mayFields_1 [] [])), none⟩])
  (.seq (.ops [⟨some 4, .mv (.c (.fn n_event_mayFields_2 [] [])), none⟩])
  (.seq (.ops [⟨some 8, .mv (.t 0), none⟩,
    ⟨some 9, .mv (.t 3), none⟩,
    ⟨some 10, .call (.c (.fn n_slices_ContainsFunc_api_Field_api_Field [] [])) [(.t 8), (.t 9)], none⟩,
    ⟨some 11, .un .not (.t 10), none⟩,
    ⟨some 12, .mv (.t 11), none⟩,
    ⟨some 13, .mv (.t 0), some (12, true)⟩,
    ⟨some 14, .mv (.t 4), some (12, true)⟩,
    ⟨some 15, .call (.c (.fn n_list_Rises_api_Field [] [])) [(.t 13), (.t 14)], some (12, true)⟩,
    ⟨some 16, .pick (.t 12) (.t 15) (.c (.bool false)), none⟩,
    ⟨some 2, .mv (.t 16), none⟩])
  (.ret)))))
theorem k_event_mayFields : FnIs AP n_event_mayFields c_event_mayFields 17 (rsT [2]) := fnIs_of (fn := Go.Proofs.Try.f27) Go.Proofs.Try.func27 (by kernel_rfl) (by kernel_rfl) (by kernel_rfl) (by kernel_rfl) (by kernel_rfl)
theorem a_event_mayFields {x0 : V} {H : List Entry} {K : KV} (h : Wf H → awp AP H.length c_event_mayFields (finW H.length (rsT [2]) K) ([x0] ++ List.replicate 16 undefV) H) : BCall AP n_event_mayFields [x0] H K := k_event_mayFields.call (by kernel_rfl) h
/-- tryst/trystref03.May: 26 slots -/
def c_trystref03_May : AC := .seq (.ops [⟨some 1, .box (.t 0), none⟩,
    ⟨some 2, .mv (.c (.bool false)), none⟩])
  (.seq (.ops [⟨some 3, .fad 0 (.t 1), none⟩,
    ⟨some 4, .load 1 false (.t 3), none⟩,
    ⟨some 5, .mv (.t 4), none⟩,
    ⟨some 6, .fad 2 (.t 1), some (5, true)⟩,
    ⟨some 7, .load 1 false (.t 6), some (5, true)⟩,
    ⟨some 8, .bin .eql (.t 7) (.c (.str [])), some (5, true)⟩,
    ⟨some 9, .pick (.t 5) (.t 8) (.c (.bool false)), none⟩,
    ⟨some 10, .mv (.t 9), none⟩,
    ⟨some 11, .fad 0 (.t 1), some (10, false)⟩,
    ⟨some 12, .load 1 false (.t 11), some (10, false)⟩,
    ⟨some 13, .un .not (.t 12), some (10, false)⟩,
    ⟨some 14, .mv (.t 13), some (10, false)⟩,
    ⟨some 15, .fad 1 (.t 1), some (14, true)⟩,
    ⟨some 16, .load 1 false (.t 15), some (14, true)⟩,
    ⟨some 17, .bin .eql (.t 16) (.c (.int .i64 0)), some (14, true)⟩,
    ⟨some 18, .pick (.t 14) (.t 17) (.c (.bool false)), some (10, false)⟩,
    ⟨some 19, .mv (.t 18), some (10, false)⟩,
    ⟨some 20, .fad 2 (.t 1), some (19, true)⟩,
    ⟨some 21, .load 1 false (.t 20), some (19, true)⟩,
    ⟨some 22, .len 0 (.t 21), some (19, true)⟩,
    ⟨some 23, .bin .leq (.t 22) (.c (.int .i64 60)), some (19, true)⟩,
    ⟨some 24, .pick (.t 19) (.t 23) (.c (.bool false)), some (10, false)⟩,
    ⟨some 25, .pick (.t 10) (.c (.bool true)) (.t 24), none⟩,
    ⟨some 2, .mv (.t 25), none⟩])
  (.ret))
theorem k_trystref03_May : FnIs AP n_trystref03_May c_trystref03_May 26 (rsT [2]) := fnIs_of (fn := Go.Proofs.Try.f28) Go.Proofs.Try.func28 (by kernel_rfl) (by kernel_rfl) (by kernel_rfl) (by kernel_rfl) (by kernel_rfl)
theorem a_trystref03_May {x0 : V} {H : List Entry} {K : KV} (h : Wf H → awp AP H.length c_trystref03_May (finW H.length (rsT [2]) K) ([x0] ++ List.replicate 25 undefV) H) : BCall AP n_trystref03_May [x0] H K := k_trystref03_May.call (by kernel_rfl) h
/-- tryst/trystref02.Topic: 5 slots -/
def c_trystref02_Topic : AC := .seq (.ops [⟨some 2, .mv (.c (.bool false)), none⟩])
  (.seq (.ops [⟨some 3, .mv (.t 0), none⟩,
    ⟨some 4, .call (.c (.fn n_trystref02_is [] [])) [(.t 3), (.c (.bool false))], none⟩,
    ⟨some 2, .mv (.t 4), none⟩])
  (.ret))
theorem k_trystref02_Topic : FnIs AP n_trystref02_Topic c_trystref02_Topic 5 (rsT [2]) := fnIs_of (fn := Go.Proofs.Try.f29) Go.Proofs.Try.func29 (by kernel_rfl) (by kernel_rfl) (by kernel_rfl) (by kernel_rfl) (by kernel_rfl)
theorem a_trystref02_Topic {x0 : V} {H : List Entry} {K : KV} (h : Wf H → awp AP H.length c_trystref02_Topic (finW H.length (rsT [2]) K) ([x0] ++ List.replicate 4 undefV) H) : BCall AP n_trystref02_Topic [x0] H K := k_trystref02_Topic.call (by kernel_rfl) h
/-- slices.Equal[[]tryst/api.Field,tryst/api.Field]: 26 slots -/
def c_slices_Equal_api_Field_api_Field : AC := .seq (.ops [⟨some 4, .mv (.c (.bool false)), none⟩])
  (.seq (.seq (.ops [⟨some 6, .mv (.t 0), none⟩,
    ⟨some 7, .len 1 (.t 6), none⟩,
    ⟨some 8, .mv (.t 1), none⟩,
    ⟨some 9, .len 1 (.t 8), none⟩,
    ⟨some 10, .bin .neq (.t 7) (.t 9), none⟩])
  (.cond (.t 10) (.seq (.ops [⟨some 4, .mv (.c (.bool false)), none⟩])
  (.ret)) (.skip)))
  (.seq (.seq (.ops [⟨some 11, .mv (.t 0), none⟩,
    ⟨some 12, .len 1 (.t 11), none⟩,
    ⟨some 13, .mv (.c (.int .i64 0)), none⟩])
  (.block 0 (.loop (.seq (.ops [⟨some 14, .bin .lss (.t 13) (.t 12), none⟩])
  (.seq (.cond (.t 14) (.skip) (.exit 0))
  (.seq (.block 1 (.seq (.ops [⟨some 15, .mv (.t 13), none⟩,
    ⟨some 5, .mv (.t 15), none⟩])
  (.seq (.draw [⟨some 16, .mv (.t 0), none⟩,
    ⟨some 17, .mv (.t 5), none⟩,
    ⟨some 18, .iad 4 true (.t 16) (.t 17), none⟩,
    ⟨some 19, .load 4 true (.t 18), none⟩,
    ⟨some 20, .mv (.t 1), none⟩,
    ⟨some 21, .mv (.t 5), none⟩,
    ⟨some 22, .iad 4 true (.t 20) (.t 21), none⟩,
    ⟨some 23, .load 4 true (.t 22), none⟩,
    ⟨some 24, .eqa true [2, 0, 1, 2] (.t 19) (.t 23), none⟩])
  (.cond (.t 24) (.seq (.ops [⟨some 4, .mv (.c (.bool false)), none⟩])
  (.ret)) (.skip)))))
  (.ops [⟨some 25, .bin .add (.t 13) (.c (.int .i64 1)), none⟩,
    ⟨some 13, .mv (.t 25), none⟩])))))))
  (.seq (.ops [⟨some 4, .mv (.c (.bool true)), none⟩])
  (.ret))))
theorem k_slices_Equal_api_Field_api_Field : FnIs AP n_slices_Equal_api_Field_api_Field c_slices_Equal_api_Field_api_Field 26 (rsT [4]) := fnIs_of (fn := Go.Proofs.Try.f30) Go.Proofs.Try.func30 (by kernel_rfl) (by kernel_rfl) (by kernel_rfl) (by kernel_rfl) (by kernel_rfl)
theorem a_slices_Equal_api_Field_api_Field {x0 x1 : V} {H : List Entry} {K : KV} (h : Wf H → awp AP H.length c_slices_Equal_api_Field_api_Field (finW H.length (rsT [4]) K) ([x0, x1] ++ List.replicate 24 undefV) H) : BCall AP n_slices_Equal_api_Field_api_Field [x0, x1] H K := k_slices_Equal_api_Field_api_Field.call (by kernel_rfl) h
/-- strings.Contains: 9 slots -/
def c_strings_Contains : AC := .seq (.ops [⟨some 4, .mv (.c (.bool false)), none⟩])
  (.seq (.ops [⟨some 5, .mv (.t 0), none⟩,
    ⟨some 6, .mv (.t 1), none⟩,
    ⟨some 7, .call (.c (.fn n_strings_Index [] [])) [(.t 5), (.t 6)], none⟩,
    ⟨some 8, .bin .geq (.t 7) (.c (.int .i64 0)), none⟩,
    ⟨some 4, .mv (.t 8), none⟩])
  (.ret))
theorem k_strings_Contains : FnIs AP n_strings_Contains c_strings_Contains 9 (rsT [4]) := fnIs_of (fn := Go.Proofs.Try.f31) Go.Proofs.Try.func31 (by kernel_rfl) (by kernel_rfl) (by kernel_rfl) (by kernel_rfl) (by kernel_rfl)
theorem a_strings_Contains {x0 x1 : V} {H : List Entry} {K : KV} (h : Wf H → awp AP H.length c_strings_Contains (finW H.length (rsT [4]) K) ([x0, x1] ++ List.replicate 7 undefV) H) : BCall AP n_strings_Contains [x0, x1] H K := k_strings_Contains.call (by kernel_rfl) h
/-- tryst/event.layText: 9 slots -/
def c_event_layText : AC := .seq (.ops [⟨some 2, .mv (.c (.str [])), none⟩])
  (.seq (.ops [⟨some 3, .mv (.t 0), none⟩,
    ⟨some 4, .len 0 (.t 3), none⟩,
    ⟨some 5, .cvi .u64 (.t 4), none⟩,
    ⟨some 6, .call (.c (.fn n_num_Pack [] [])) [(.t 5)], none⟩,
    ⟨some 7, .mv (.t 0), none⟩,
    ⟨some 8, .bin .add (.t 6) (.t 7), none⟩,
    ⟨some 2, .mv (.t 8), none⟩])
  (.ret))
theorem k_event_layText : FnIs AP n_event_layText c_event_layText 9 (rsT [2]) := fnIs_of (fn := Go.Proofs.Try.f32) Go.Proofs.Try.func32 (by kernel_rfl) (by kernel_rfl) (by kernel_rfl) (by kernel_rfl) (by kernel_rfl)
theorem a_event_layText {x0 : V} {H : List Entry} {K : KV} (h : Wf H → awp AP H.length c_event_layText (finW H.length (rsT [2]) K) ([x0] ++ List.replicate 8 undefV) H) : BCall AP n_event_layText [x0] H K := k_event_layText.call (by kernel_rfl) h
/-- tryst/num.Pack: 33 slots -/
def c_num_Pack : AC := .seq (.ops [⟨some 2, .mv (.c (.str [])), none⟩])
  (.seq (.ops [⟨some 6, .mv (.t 0), none⟩,
    ⟨some 7, .call (.c (.fn n_num_packedWide [] [])) [(.t 6)], none⟩,
    ⟨some 8, .bin .sub (.t 7) (.c (.int .i64 1)), none⟩,
    ⟨some 3, .mv (.t 8), none⟩])
  (.seq (.ops [⟨some 9, .mv (.t 3), none⟩,
    ⟨some 10, .bin .add (.t 9) (.c (.int .i64 1)), none⟩,
    ⟨some 11, .mks 5 1 false [.int .u8 0] 1 (.t 10) (.t 10), none⟩,
    ⟨some 4, .mv (.t 11), none⟩])
  (.seq (.seq (.ops [⟨some 12, .mv (.t 3), none⟩,
    ⟨some 13, .mv (.c (.int .i64 0)), none⟩])
  (.block 0 (.loop (.seq (.ops [⟨some 14, .bin .lss (.t 13) (.t 12), none⟩])
  (.seq (.cond (.t 14) (.skip) (.exit 0))
  (.seq (.block 1 (.seq (.ops [⟨some 15, .mv (.t 13), none⟩,
    ⟨some 5, .mv (.t 15), none⟩])
  (.seq (.ops [⟨some 16, .mv (.t 4), none⟩,
    ⟨some 17, .mv (.t 5), none⟩,
    ⟨some 18, .mv (.t 0), none⟩,
    ⟨some 19, .bin .and (.t 18) (.c (.int .u64 127)), none⟩,
    ⟨some 20, .cvi .u8 (.t 19), none⟩,
    ⟨some 21, .bin .or (.t 20) (.c (.int .u8 128)), none⟩,
    ⟨some 22, .iad 1 false (.t 16) (.t 17), none⟩,
    ⟨none, .store 1 (.t 22) (.t 21), none⟩])
  (.ops [⟨some 23, .mv (.t 0), none⟩,
    ⟨some 24, .bin .shr (.t 23) (.c (.int .u64 7)), none⟩,
    ⟨some 0, .mv (.t 24), none⟩]))))
  (.ops [⟨some 25, .bin .add (.t 13) (.c (.int .i64 1)), none⟩,
    ⟨some 13, .mv (.t 25), none⟩])))))))
  (.seq (.ops [⟨some 26, .mv (.t 4), none⟩,
    ⟨some 27, .mv (.t 3), none⟩,
    ⟨some 28, .mv (.t 0), none⟩,
    ⟨some 29, .cvi .u8 (.t 28), none⟩,
    ⟨some 30, .iad 1 false (.t 26) (.t 27), none⟩,
    ⟨none, .store 1 (.t 30) (.t 29), none⟩])
  (.seq (.ops [⟨some 31, .mv (.t 4), none⟩,
    ⟨some 32, .b2s (.t 31), none⟩,
    ⟨some 2, .mv (.t 32), none⟩])
  (.ret))))))
theorem k_num_Pack : FnIs AP n_num_Pack c_num_Pack 33 (rsT [2]) := fnIs_of (fn := Go.Proofs.Try.f33) Go.Proofs.Try.func33 (by kernel_rfl) (by kernel_rfl) (by kernel_rfl) (by kernel_rfl) (by kernel_rfl)
theorem a_num_Pack {x0 : V} {H : List Entry} {K : KV} (h : Wf H → awp AP H.length c_num_Pack (finW H.length (rsT [2]) K) ([x0] ++ List.replicate 32 undefV) H) : BCall AP n_num_Pack [x0] H K := k_num_Pack.call (by kernel_rfl) h
/-- tryst/val.Lay: 23 slots -/
def c_val_Lay : AC := .seq (.ops [⟨some 1, .box (.t 0), none⟩,
    ⟨some 2, .mv (.c (.str [])), none⟩,
    ⟨some 3, .mv (.c (.int .i64 0)), none⟩])
  (.seq (.seq (.ops [⟨some 4, .load 3 true (.t 1), none⟩,
    ⟨some 5, .call (.c (.fn n_val_May [] [])) [(.t 4)], none⟩,
    ⟨some 6, .un .not (.t 5), none⟩])
  (.cond (.t 6) (.seq (.ops [⟨some 2, .mv (.c (.str [])), none⟩,
    ⟨some 3, .mv (.c (.int .i64 1)), none⟩])
  (.ret)) (.skip)))
  (.seq (.seq (.ops [⟨some 7, .fad 0 (.t 1), none⟩,
    ⟨some 8, .load 1 false (.t 7), none⟩])
  (.cond (.t 8) (.seq (.ops [⟨some 9, .fad 1 (.t 1), none⟩,
    ⟨some 10, .load 1 false (.t 9), none⟩,
    ⟨some 11, .call (.c (.fn n_num_Fold [] [])) [(.t 10)], none⟩,
    ⟨some 12, .call (.c (.fn n_num_Pack [] [])) [(.t 11)], none⟩,
    ⟨some 13, .bin .add (.c (.str [1])) (.t 12), none⟩,
    ⟨some 2, .mv (.t 13), none⟩,
    ⟨some 3, .mv (.c (.int .i64 0)), none⟩])
  (.ret)) (.skip)))
  (.seq (.draw [⟨some 14, .fad 2 (.t 1), none⟩,
    ⟨some 15, .load 1 false (.t 14), none⟩,
    ⟨some 16, .len 0 (.t 15), none⟩,
    ⟨some 17, .cvi .u64 (.t 16), none⟩,
    ⟨some 18, .dcall (.c (.fn n_num_Pack [] [])) [(.t 17)], none⟩,
    ⟨some 19, .bin .add (.c (.str [2])) (.t 18), none⟩,
    ⟨some 20, .fad 2 (.t 1), none⟩,
    ⟨some 21, .load 1 false (.t 20), none⟩,
    ⟨some 22, .bin .add (.t 19) (.t 21), none⟩,
    ⟨some 2, .mv (.t 22), none⟩,
    ⟨some 3, .mv (.c (.int .i64 0)), none⟩])
  (.ret))))
theorem k_val_Lay : FnIs AP n_val_Lay c_val_Lay 23 (rsT [2, 3]) := fnIs_of (fn := Go.Proofs.Try.f34) Go.Proofs.Try.func34 (by kernel_rfl) (by kernel_rfl) (by kernel_rfl) (by kernel_rfl) (by kernel_rfl)
theorem a_val_Lay {x0 : V} {H : List Entry} {K : KV} (h : Wf H → awp AP H.length c_val_Lay (finW H.length (rsT [2, 3]) K) ([x0] ++ List.replicate 22 undefV) H) : BCall AP n_val_Lay [x0] H K := k_val_Lay.call (by kernel_rfl) h
/-- (*tryst/event.reader).event: 40 slots -/
def c_event_reader_event : AC := .seq (.ops [⟨some 2, .alloc [.str [], .str [], .int .u64 0, .nilsl], none⟩])
  (.seq (.ops [⟨some 3, .alloc [.str [], .str [], .int .u64 0, .nilsl], none⟩])
  (.seq (.ops [⟨some 6, .mv (.t 0), none⟩,
    ⟨some 7, .call (.c (.fn n_event_reader_text [] [])) [(.t 6), (.c (.int .u64 40))], none⟩,
    ⟨some 8, .fad 0 (.t 3), none⟩,
    ⟨none, .store 1 (.t 8) (.t 7), none⟩])
  (.seq (.ops [⟨some 9, .mv (.t 0), none⟩,
    ⟨some 10, .call (.c (.fn n_event_reader_text [] [])) [(.t 9), (.c (.int .u64 16))], none⟩,
    ⟨some 11, .fad 1 (.t 3), none⟩,
    ⟨none, .store 1 (.t 11) (.t 10), none⟩])
  (.seq (.ops [⟨some 12, .mv (.t 0), none⟩,
    ⟨some 13, .call (.c (.fn n_event_reader_number [] [])) [(.t 12)], none⟩,
    ⟨some 14, .fad 2 (.t 3), none⟩,
    ⟨none, .store 1 (.t 14) (.t 13), none⟩])
  (.seq (.seq (.ops [⟨some 15, .mv (.t 0), none⟩,
    ⟨some 16, .call (.c (.fn n_event_reader_size [] [])) [(.t 15), (.c (.int .u64 8))], none⟩,
    ⟨some 4, .mv (.t 16), none⟩])
  (.block 0 (.loop (.seq (.seq (.ops [⟨some 17, .mv (.t 4), none⟩,
    ⟨some 18, .bin .gtr (.t 17) (.c (.int .u64 0)), none⟩,
    ⟨some 19, .mv (.t 18), none⟩,
    ⟨some 20, .mv (.t 0), some (19, true)⟩,
    ⟨some 21, .nck (.t 20), some (19, true)⟩,
    ⟨some 22, .fad 1 (.t 21), some (19, true)⟩,
    ⟨some 23, .load 1 false (.t 22), some (19, true)⟩,
    ⟨some 24, .bin .eql (.t 23) (.c (.int .i64 0)), some (19, true)⟩,
    ⟨some 25, .pick (.t 19) (.t 24) (.c (.bool false)), none⟩])
  (.cond (.t 25) (.skip) (.exit 0)))
  (.seq (.block 1 (.seq (.ops [⟨some 28, .mv (.t 0), none⟩,
    ⟨some 29, .call (.c (.fn n_event_reader_text [] [])) [(.t 28), (.c (.int .u64 16))], none⟩,
    ⟨some 5, .mv (.t 29), none⟩])
  (.drawX [] [(3, 33), (30, 33)] [⟨some 30, .fad 3 (.t 3), none⟩,
    ⟨some 31, .load 1 false (.t 30), none⟩,
    ⟨some 32, .mv (.t 5), none⟩,
    ⟨some 33, .mv (.t 0), none⟩,
    ⟨some 34, .mcall (.c (.fn n_event_reader_value [] [])) (.t 33) [], none⟩,
    ⟨some 35, .build [.str [], .bool false, .int .i64 0, .str []] [(0, 1, (.t 32)), (1, 3, (.t 34))], none⟩,
    ⟨some 36, .bslm 4 true [(.t 35)], none⟩,
    ⟨some 37, .app 49 4 48 true (.t 31) (.t 36), none⟩,
    ⟨some 38, .fad 3 (.t 3), none⟩,
    ⟨none, .store 1 (.t 38) (.t 37), none⟩])))
  (.ops [⟨some 26, .mv (.t 4), none⟩,
    ⟨some 27, .bin .sub (.t 26) (.c (.int .u64 1)), none⟩,
    ⟨some 4, .mv (.t 27), none⟩]))))))
  (.seq (.ops [⟨some 39, .load 4 true (.t 3), none⟩,
    ⟨none, .store 4 (.t 2) (.t 39), none⟩])
  (.ret)))))))
theorem k_event_reader_event : FnIs AP n_event_reader_event c_event_reader_event 40 [.cell 2 4 true] := fnIs_of (fn := Go.Proofs.Try.f35) Go.Proofs.Try.func35 (by kernel_rfl) (by kernel_rfl) (by kernel_rfl) (by kernel_rfl) (by kernel_rfl)
theorem a_event_reader_event {x0 : V} {H : List Entry} {K : KV} (h : Wf H → awp AP H.length c_event_reader_event (finW H.length [.cell 2 4 true] K) ([x0] ++ List.replicate 39 undefV) H) : BCall AP n_event_reader_event [x0] H K := k_event_reader_event.call (by kernel_rfl) h
/-- tryst/trystref04.text: 9 slots -/
def c_trystref04_text : AC := .seq (.ops [⟨some 2, .mv (.c (.str [])), none⟩])
  (.seq (.ops [⟨some 3, .mv (.t 0), none⟩,
    ⟨some 4, .len 0 (.t 3), none⟩,
    ⟨some 5, .cvi .u64 (.t 4), none⟩,
    ⟨some 6, .call (.c (.fn n_trystref01_Pack [] [])) [(.t 5)], none⟩,
    ⟨some 7, .mv (.t 0), none⟩,
    ⟨some 8, .bin .add (.t 6) (.t 7), none⟩,
    ⟨some 2, .mv (.t 8), none⟩])
  (.ret))
theorem k_trystref04_text : FnIs AP n_trystref04_text c_trystref04_text 9 (rsT [2]) := fnIs_of (fn := Go.Proofs.Try.f36) Go.Proofs.Try.func36 (by kernel_rfl) (by kernel_rfl) (by kernel_rfl) (by kernel_rfl) (by kernel_rfl)
theorem a_trystref04_text {x0 : V} {H : List Entry} {K : KV} (h : Wf H → awp AP H.length c_trystref04_text (finW H.length (rsT [2]) K) ([x0] ++ List.replicate 8 undefV) H) : BCall AP n_trystref04_text [x0] H K := k_trystref04_text.call (by kernel_rfl) h
/-- tryst/trystref01.Pack: 19 slots -/
def c_trystref01_Pack : AC := .seq (.ops [⟨some 2, .mv (.c (.str [])), none⟩])
  (.seq (.seq (.ops [⟨some 3, .mv (.t 0), none⟩,
    ⟨some 4, .bin .lss (.t 3) (.c (.int .u64 128)), none⟩])
  (.cond (.t 4) (.seq (.ops [⟨some 5, .mv (.t 0), none⟩,
    ⟨some 6, .cvi .u8 (.t 5), none⟩,
    ⟨some 7, .bsl 1 false [(.t 6)], none⟩,
    ⟨some 8, .b2s (.t 7), none⟩,
    ⟨some 2, .mv (.t 8), none⟩])
  (.ret)) (.skip)))
  (.seq (.draw [⟨some 9, .mv (.t 0), none⟩,
    ⟨some 10, .bin .rem (.t 9) (.c (.int .u64 128)), none⟩,
    ⟨some 11, .bin .add (.c (.int .u64 128)) (.t 10), none⟩,
    ⟨some 12, .cvi .u8 (.t 11), none⟩,
    ⟨some 13, .bslm 1 false [(.t 12)], none⟩,
    ⟨some 14, .b2s (.t 13), none⟩,
    ⟨some 15, .mv (.t 0), none⟩,
    ⟨some 16, .bin .quo (.t 15) (.c (.int .u64 128)), none⟩,
    ⟨some 17, .dcall (.c (.fn n_trystref01_Pack [] [])) [(.t 16)], none⟩,
    ⟨some 18, .bin .add (.t 14) (.t 17), none⟩,
    ⟨some 2, .mv (.t 18), none⟩])
  (.ret)))
theorem k_trystref01_Pack : FnIs AP n_trystref01_Pack c_trystref01_Pack 19 (rsT [2]) := fnIs_of (fn := Go.Proofs.Try.f37) Go.Proofs.Try.func37 (by kernel_rfl) (by kernel_rfl) (by kernel_rfl) (by kernel_rfl) (by kernel_rfl)
theorem a_trystref01_Pack {x0 : V} {H : List Entry} {K : KV} (h : Wf H → awp AP H.length c_trystref01_Pack (finW H.length (rsT [2]) K) ([x0] ++ List.replicate 18 undefV) H) : BCall AP n_trystref01_Pack [x0] H K := k_trystref01_Pack.call (by kernel_rfl) h
/-- tryst/trystref03.Lay: 19 slots -/
def c_trystref03_Lay : AC := .seq (.ops [⟨some 1, .box (.t 0), none⟩,
    ⟨some 2, .mv (.c (.str [])), none⟩])
  (.seq (.seq (.ops [⟨some 3, .fad 0 (.t 1), none⟩,
    ⟨some 4, .load 1 false (.t 3), none⟩])
  (.cond (.t 4) (.seq (.ops [⟨some 5, .fad 1 (.t 1), none⟩,
    ⟨some 6, .load 1 false (.t 5), none⟩,
    ⟨some 7, .call (.c (.fn n_trystref01_Fold [] [])) [(.t 6)], none⟩,
    ⟨some 8, .call (.c (.fn n_trystref01_Pack [] [])) [(.t 7)], none⟩,
    ⟨some 9, .bin .add (.c (.str [1])) (.t 8), none⟩,
    ⟨some 2, .mv (.t 9), none⟩])
  (.ret)) (.skip)))
  (.seq (.draw [⟨some 10, .fad 2 (.t 1), none⟩,
    ⟨some 11, .load 1 false (.t 10), none⟩,
    ⟨some 12, .len 0 (.t 11), none⟩,
    ⟨some 13, .cvi .u64 (.t 12), none⟩,
    ⟨some 14, .dcall (.c (.fn n_trystref01_Pack [] [])) [(.t 13)], none⟩,
    ⟨some 15, .bin .add (.c (.str [2])) (.t 14), none⟩,
    ⟨some 16, .fad 2 (.t 1), none⟩,
    ⟨some 17, .load 1 false (.t 16), none⟩,
    ⟨some 18, .bin .add (.t 15) (.t 17), none⟩,
    ⟨some 2, .mv (.t 18), none⟩])
  (.ret)))
theorem k_trystref03_Lay : FnIs AP n_trystref03_Lay c_trystref03_Lay 19 (rsT [2]) := fnIs_of (fn := Go.Proofs.Try.f38) Go.Proofs.Try.func38 (by kernel_rfl) (by kernel_rfl) (by kernel_rfl) (by kernel_rfl) (by kernel_rfl)
theorem a_trystref03_Lay {x0 : V} {H : List Entry} {K : KV} (h : Wf H → awp AP H.length c_trystref03_Lay (finW H.length (rsT [2]) K) ([x0] ++ List.replicate 18 undefV) H) : BCall AP n_trystref03_Lay [x0] H K := k_trystref03_Lay.call (by kernel_rfl) h
/-- tryst/event.place: 9 slots -/
def c_event_place : AC := .seq (.ops [⟨some 2, .box (.t 0), none⟩,
    ⟨some 3, .box (.t 1), none⟩,
    ⟨some 4, .mv (.c (.int .i64 0)), none⟩])
  (.seq (.ops [⟨some 5, .fad 3 (.t 2), none⟩,
    ⟨some 6, .load 1 false (.t 5), none⟩,
    ⟨some 7, .mkfn n_event_place_1 [] [(.t 3)], none⟩,
    ⟨some 8, .call (.c (.fn n_slices_IndexFunc_api_Field_api_Field [] [])) [(.t 6), (.t 7)], none⟩,
    ⟨some 4, .mv (.t 8), none⟩])
  (.ret))
theorem k_event_place : FnIs AP n_event_place c_event_place 9 (rsT [4]) := fnIs_of (fn := Go.Proofs.Try.f39) Go.Proofs.Try.func39 (by kernel_rfl) (by kernel_rfl) (by kernel_rfl) (by kernel_rfl) (by kernel_rfl)
theorem a_event_place {x0 x1 : V} {H : List Entry} {K : KV} (h : Wf H → awp AP H.length c_event_place (finW H.length (rsT [4]) K) ([x0, x1] ++ List.replicate 7 undefV) H) : BCall AP n_event_place [x0, x1] H K := k_event_place.call (by kernel_rfl) h
/-- tryst/list.Set[tryst/api.Field]: 15 slots -/
def c_list_Set_api_Field : AC := .seq (.ops [⟨some 5, .box (.t 2), none⟩,
    ⟨some 6, .mv (.c (.nilsl)), none⟩])
  (.seq (.ops [⟨some 8, .mv (.t 0), none⟩,
    ⟨some 9, .call (.c (.fn n_slices_Clone_api_Field_api_Field [] [])) [(.t 8)], none⟩,
    ⟨some 7, .mv (.t 9), none⟩])
  (.seq (.ops [⟨some 10, .mv (.t 7), none⟩,
    ⟨some 11, .mv (.t 1), none⟩,
    ⟨some 12, .load 4 true (.t 5), none⟩,
    ⟨some 13, .iad 4 true (.t 10) (.t 11), none⟩,
    ⟨none, .store 4 (.t 13) (.t 12), none⟩])
  (.seq (.ops [⟨some 14, .mv (.t 7), none⟩,
    ⟨some 6, .mv (.t 14), none⟩])
  (.ret))))
theorem k_list_Set_api_Field : FnIs AP n_list_Set_api_Field c_list_Set_api_Field 15 (rsT [6]) := fnIs_of (fn := Go.Proofs.Try.f40) Go.Proofs.Try.func40 (by kernel_rfl) (by kernel_rfl) (by kernel_rfl) (by kernel_rfl) (by kernel_rfl)
theorem a_list_Set_api_Field {x0 x1 x2 : V} {H : List Entry} {K : KV} (h : Wf H → awp AP H.length c_list_Set_api_Field (finW H.length (rsT [6]) K) ([x0, x1, x2] ++ List.replicate 12 undefV) H) : BCall AP n_list_Set_api_Field [x0, x1, x2] H K := k_list_Set_api_Field.call (by kernel_rfl) h
/-- tryst/list.Place[tryst/api.Field]: 14 slots -/
def c_list_Place_api_Field : AC := .seq (.ops [⟨some 4, .mv (.c (.int .i64 0)), none⟩])
  (.seq (.seq (.ops [⟨some 6, .mv (.t 0), none⟩,
    ⟨some 7, .mv (.t 1), none⟩,
    ⟨some 8, .call (.c (.fn n_slices_IndexFunc_api_Field_api_Field [] [])) [(.t 6), (.t 7)], none⟩,
    ⟨some 5, .mv (.t 8), none⟩])
  (.seq (.ops [⟨some 9, .mv (.t 5), none⟩,
    ⟨some 10, .bin .geq (.t 9) (.c (.int .i64 0)), none⟩])
  (.cond (.t 10) (.seq (.ops [⟨some 11, .mv (.t 5), none⟩,
    ⟨some 4, .mv (.t 11), none⟩])
  (.ret)) (.skip))))
  (.seq (.ops [⟨some 12, .mv (.t 0), none⟩,
    ⟨some 13, .len 1 (.t 12), none⟩,
    ⟨some 4, .mv (.t 13), none⟩])
  (.ret)))
theorem k_list_Place_api_Field : FnIs AP n_list_Place_api_Field c_list_Place_api_Field 14 (rsT [4]) := fnIs_of (fn := Go.Proofs.Try.f41) Go.Proofs.Try.func41 (by kernel_rfl) (by kernel_rfl) (by kernel_rfl) (by kernel_rfl) (by kernel_rfl)
theorem a_list_Place_api_Field {x0 x1 : V} {H : List Entry} {K : KV} (h : Wf H → awp AP H.length c_list_Place_api_Field (finW H.length (rsT [4]) K) ([x0, x1] ++ List.replicate 12 undefV) H) : BCall AP n_list_Place_api_Field [x0, x1] H K := k_list_Place_api_Field.call (by kernel_rfl) h
/-- tryst/event.Put$1: 8 slots -/
def c_event_Put_1 : AC := .seq (.ops [⟨some 2, .box (.t 0), none⟩,
    ⟨some 3, .mv (.c (.bool false)), none⟩])
  (.seq (.ops [⟨some 4, .fad 0 (.t 2), none⟩,
    ⟨some 5, .load 1 false (.t 4), none⟩,
    ⟨some 6, .load 1 false (.t 1), none⟩,
    ⟨some 7, .bin .gtr (.t 5) (.t 6), none⟩,
    ⟨some 3, .mv (.t 7), none⟩])
  (.ret))
theorem k_event_Put_1 : FnIs AP n_event_Put_1 c_event_Put_1 8 (rsT [3]) := fnIs_of (fn := Go.Proofs.Try.f42) Go.Proofs.Try.func42 (by kernel_rfl) (by kernel_rfl) (by kernel_rfl) (by kernel_rfl) (by kernel_rfl)
theorem a_event_Put_1 {x0 x1 : V} {H : List Entry} {K : KV} (h : Wf H → awp AP H.length c_event_Put_1 (finW H.length (rsT [3]) K) ([x0, x1] ++ List.replicate 6 undefV) H) : BCall AP n_event_Put_1 [x0, x1] H K := k_event_Put_1.call (by kernel_rfl) h
/-- tryst/list.With[tryst/api.Field]: 17 slots -/
def c_list_With_api_Field : AC := .seq (.ops [⟨some 5, .box (.t 2), none⟩,
    ⟨some 6, .mv (.c (.nilsl)), none⟩])
  (.seq (.draw [⟨some 7, .mv (.t 0), none⟩,
    ⟨some 8, .mv (.t 1), none⟩,
    ⟨some 9, .slcm 4 (.t 7) none (some (.t 8)) none, none⟩,
    ⟨some 10, .load 4 true (.t 5), none⟩,
    ⟨some 11, .bslm 4 true [(.t 10)], none⟩,
    ⟨some 12, .mv (.t 0), none⟩,
    ⟨some 13, .mv (.t 1), none⟩,
    ⟨some 14, .slcm 4 (.t 12) (some (.t 13)) none none, none⟩,
    ⟨some 15, .bslm 1 false [(.t 9), (.t 11), (.t 14)], none⟩,
    ⟨some 16, .dcall (.c (.fn n_slices_Concat_api_Field_api_Field [] [])) [(.t 15)], none⟩,
    ⟨some 6, .mv (.t 16), none⟩])
  (.ret))
theorem k_list_With_api_Field : FnIs AP n_list_With_api_Field c_list_With_api_Field 17 (rsT [6]) := fnIs_of (fn := Go.Proofs.Try.f43) Go.Proofs.Try.func43 (by kernel_rfl) (by kernel_rfl) (by kernel_rfl) (by kernel_rfl) (by kernel_rfl)
theorem a_list_With_api_Field {x0 x1 x2 : V} {H : List Entry} {K : KV} (h : Wf H → awp AP H.length c_list_With_api_Field (finW H.length (rsT [6]) K) ([x0, x1, x2] ++ List.replicate 14 undefV) H) : BCall AP n_list_With_api_Field [x0, x1, x2] H K := k_list_With_api_Field.call (by kernel_rfl) h
/-- tryst/name.allParts: 32 slots -/
def c_name_allParts : AC := .seq (.ops [⟨some 2, .box (.t 0), none⟩,
    ⟨some 3, .box (.t 1), none⟩,
    ⟨some 4, .mv (.c (.bool false)), none⟩])
  (.seq (.seq (.ops [⟨some 10, .load 1 false (.t 2), none⟩,
    ⟨some 11, .len 0 (.t 10), none⟩,
    ⟨some 12, .bin .gtr (.t 11) (.c (.int .i64 40)), none⟩])
  (.cond (.t 12) (.seq (.ops [⟨some 4, .mv (.c (.bool false)), none⟩])
  (.ret)) (.skip)))
  (.seq (.ops [⟨some 5, .alloc [.int .i64 0], none⟩,
    ⟨some 6, .alloc [.int .i64 0], none⟩,
    ⟨none, .store 1 (.t 5) (.c (.int .i64 0)), none⟩,
    ⟨none, .store 1 (.t 6) (.c (.int .i64 0)), none⟩])
  (.seq (.ops [⟨some 13, .mkfn n_name_allParts_1 [] [(.t 2), (.t 5), (.t 6), (.t 3)], none⟩,
    ⟨some 7, .mv (.t 13), none⟩])
  (.seq (.seq (.ops [⟨some 14, .load 1 false (.t 2), none⟩,
    ⟨some 15, .rng (.t 14), none⟩])
  (.block 0 (.loop (.seq (.ops [⟨some 16, .nxt true (.t 15), none⟩,
    ⟨some 17, .ext (.t 16) 0, none⟩])
  (.seq (.cond (.t 17) (.skip) (.exit 0))
  (.block 1 (.seq (.ops [⟨some 18, .ext (.t 16) 1, none⟩,
    ⟨some 19, .ext (.t 16) 2, none⟩,
    ⟨some 8, .mv (.t 18), none⟩,
    ⟨some 9, .mv (.t 19), none⟩])
  (.seq (.ops [⟨some 20, .mv (.t 9), none⟩,
    ⟨some 21, .bin .eql (.t 20) (.c (.int .i32 46)), none⟩,
    ⟨some 22, .mv (.t 21), none⟩,
    ⟨some 23, .mv (.t 7), some (22, true)⟩,
    ⟨some 24, .mv (.t 8), some (22, true)⟩,
    ⟨some 25, .call (.t 23) [(.t 24)], some (22, true)⟩,
    ⟨some 26, .un .not (.t 25), some (22, true)⟩,
    ⟨some 27, .pick (.t 22) (.t 26) (.c (.bool false)), none⟩])
  (.cond (.t 27) (.seq (.ops [⟨some 4, .mv (.c (.bool false)), none⟩])
  (.ret)) (.skip))))))))))
  (.seq (.ops [⟨some 28, .mv (.t 7), none⟩,
    ⟨some 29, .load 1 false (.t 2), none⟩,
    ⟨some 30, .len 0 (.t 29), none⟩,
    ⟨some 31, .call (.t 28) [(.t 30)], none⟩,
    ⟨some 4, .mv (.t 31), none⟩])
  (.ret))))))
theorem k_name_allParts : FnIs AP n_name_allParts c_name_allParts 32 (rsT [4]) := fnIs_of (fn := Go.Proofs.Try.f44) Go.Proofs.Try.func44 (by kernel_rfl) (by kernel_rfl) (by kernel_rfl) (by kernel_rfl) (by kernel_rfl)
theorem a_name_allParts {x0 x1 : V} {H : List Entry} {K : KV} (h : Wf H → awp AP H.length c_name_allParts (finW H.length (rsT [4]) K) ([x0, x1] ++ List.replicate 30 undefV) H) : BCall AP n_name_allParts [x0, x1] H K := k_name_allParts.call (by kernel_rfl) h
/-- tryst/name.isPart: 9 slots -/
def c_name_isPart : AC := .seq (.ops [⟨some 2, .mv (.c (.bool false)), none⟩])
  (.seq (.ops [⟨some 3, .mv (.t 0), none⟩,
    ⟨some 4, .bin .neq (.t 3) (.c (.str [])), none⟩,
    ⟨some 5, .mv (.t 4), none⟩,
    ⟨some 6, .mv (.t 0), some (5, true)⟩,
    ⟨some 7, .call (.c (.fn n_name_allRunes [] [])) [(.t 6), (.c (.fn n_name_isPart_1 [] []))], some (5, true)⟩,
    ⟨some 8, .pick (.t 5) (.t 7) (.c (.bool false)), none⟩,
    ⟨some 2, .mv (.t 8), none⟩])
  (.ret))
theorem k_name_isPart : FnIs AP n_name_isPart c_name_isPart 9 (rsT [2]) := fnIs_of (fn := Go.Proofs.Try.f45) Go.Proofs.Try.func45 (by kernel_rfl) (by kernel_rfl) (by kernel_rfl) (by kernel_rfl) (by kernel_rfl)
theorem a_name_isPart {x0 : V} {H : List Entry} {K : KV} (h : Wf H → awp AP H.length c_name_isPart (finW H.length (rsT [2]) K) ([x0] ++ List.replicate 8 undefV) H) : BCall AP n_name_isPart [x0] H K := k_name_isPart.call (by kernel_rfl) h
/-- tryst/event.mayFields$1: 13 slots -/
def c_event_mayFields_1 : AC := .seq (.ops [⟨some 1, .box (.t 0), none⟩,
    ⟨some 2, .mv (.c (.bool false)), none⟩])
  (.seq (.ops [⟨some 3, .fad 0 (.t 1), none⟩,
    ⟨some 4, .load 1 false (.t 3), none⟩,
    ⟨some 5, .call (.c (.fn n_event_Field [] [])) [(.t 4)], none⟩,
    ⟨some 6, .un .not (.t 5), none⟩,
    ⟨some 7, .mv (.t 6), none⟩,
    ⟨some 8, .fad 1 (.t 1), some (7, false)⟩,
    ⟨some 9, .load 3 true (.t 8), some (7, false)⟩,
    ⟨some 10, .call (.c (.fn n_val_May [] [])) [(.t 9)], some (7, false)⟩,
    ⟨some 11, .un .not (.t 10), some (7, false)⟩,
    ⟨some 12, .pick (.t 7) (.c (.bool true)) (.t 11), none⟩,
    ⟨some 2, .mv (.t 12), none⟩])
  (.ret))
theorem k_event_mayFields_1 : FnIs AP n_event_mayFields_1 c_event_mayFields_1 13 (rsT [2]) := fnIs_of (fn := Go.Proofs.Try.f46) Go.Proofs.Try.func46 (by kernel_rfl) (by kernel_rfl) (by kernel_rfl) (by kernel_rfl) (by kernel_rfl)
theorem a_event_mayFields_1 {x0 : V} {H : List Entry} {K : KV} (h : Wf H → awp AP H.length c_event_mayFields_1 (finW H.length (rsT [2]) K) ([x0] ++ List.replicate 12 undefV) H) : BCall AP n_event_mayFields_1 [x0] H K := k_event_mayFields_1.call (by kernel_rfl) h
/-- tryst/val.May: 17 slots -/
def c_val_May : AC := .seq (.ops [⟨some 1, .box (.t 0), none⟩,
    ⟨some 2, .mv (.c (.bool false)), none⟩])
  (.seq (.seq (.ops [⟨some 3, .fad 0 (.t 1), none⟩,
    ⟨some 4, .load 1 false (.t 3), none⟩])
  (.cond (.t 4) (.seq (.ops [⟨some 5, .fad 2 (.t 1), none⟩,
    ⟨some 6, .load 1 false (.t 5), none⟩,
    ⟨some 7, .bin .eql (.t 6) (.c (.str [])), none⟩,
    ⟨some 2, .mv (.t 7), none⟩])
  (.ret)) (.skip)))
  (.seq (.ops [⟨some 8, .fad 1 (.t 1), none⟩,
    ⟨some 9, .load 1 false (.t 8), none⟩,
    ⟨some 10, .bin .eql (.t 9) (.c (.int .i64 0)), none⟩,
    ⟨some 11, .mv (.t 10), none⟩,
    ⟨some 12, .fad 2 (.t 1), some (11, true)⟩,
    ⟨some 13, .load 1 false (.t 12), some (11, true)⟩,
    ⟨some 14, .len 0 (.t 13), some (11, true)⟩,
    ⟨some 15, .bin .leq (.t 14) (.c (.int .i64 60)), some (11, true)⟩,
    ⟨some 16, .pick (.t 11) (.t 15) (.c (.bool false)), none⟩,
    ⟨some 2, .mv (.t 16), none⟩])
  (.ret)))
theorem k_val_May : FnIs AP n_val_May c_val_May 17 (rsT [2]) := fnIs_of (fn := Go.Proofs.Try.f47) Go.Proofs.Try.func47 (by kernel_rfl) (by kernel_rfl) (by kernel_rfl) (by kernel_rfl) (by kernel_rfl)
theorem a_val_May {x0 : V} {H : List Entry} {K : KV} (h : Wf H → awp AP H.length c_val_May (finW H.length (rsT [2]) K) ([x0] ++ List.replicate 16 undefV) H) : BCall AP n_val_May [x0] H K := k_val_May.call (by kernel_rfl) h
/-- tryst/event.mayFields$2: 10 slots -/
def c_event_mayFields_2 : AC := .seq (.ops [⟨some 2, .box (.t 0), none⟩,
    ⟨some 3, .box (.t 1), none⟩,
    ⟨some 4, .mv (.c (.int .i64 0)), none⟩])
  (.seq (.ops [⟨some 5, .fad 0 (.t 2), none⟩,
    ⟨some 6, .load 1 false (.t 5), none⟩,
    ⟨some 7, .fad 0 (.t 3), none⟩,
    ⟨some 8, .load 1 false (.t 7), none⟩,
    ⟨some 9, .call (.c (.fn n_cmp_Compare_string [] [])) [(.t 6), (.t 8)], none⟩,
    ⟨some 4, .mv (.t 9), none⟩])
  (.ret))
theorem k_event_mayFields_2 : FnIs AP n_event_mayFields_2 c_event_mayFields_2 10 (rsT [4]) := fnIs_of (fn := Go.Proofs.Try.f48) Go.Proofs.Try.func48 (by kernel_rfl) (by kernel_rfl) (by kernel_rfl) (by kernel_rfl) (by kernel_rfl)
theorem a_event_mayFields_2 {x0 x1 : V} {H : List Entry} {K : KV} (h : Wf H → awp AP H.length c_event_mayFields_2 (finW H.length (rsT [4]) K) ([x0, x1] ++ List.replicate 8 undefV) H) : BCall AP n_event_mayFields_2 [x0, x1] H K := k_event_mayFields_2.call (by kernel_rfl) h
/-- cmp.Compare[string]: 20 slots -/
def c_cmp_Compare_string : AC := .seq (.ops [⟨some 4, .mv (.c (.int .i64 0)), none⟩])
  (.seq (.ops [⟨some 7, .mv (.t 0), none⟩,
    ⟨some 8, .call (.c (.fn n_cmp_isNaN_string [] [])) [(.t 7)], none⟩,
    ⟨some 5, .mv (.t 8), none⟩])
  (.seq (.ops [⟨some 9, .mv (.t 1), none⟩,
    ⟨some 10, .call (.c (.fn n_cmp_isNaN_string [] [])) [(.t 9)], none⟩,
    ⟨some 6, .mv (.t 10), none⟩])
  (.seq (.seq (.ops [⟨some 11, .mv (.t 5), none⟩])
  (.cond (.t 11) (.seq (.seq (.ops [⟨some 12, .mv (.t 6), none⟩])
  (.cond (.t 12) (.seq (.ops [⟨some 4, .mv (.c (.int .i64 0)), none⟩])
  (.ret)) (.skip)))
  (.seq (.ops [⟨some 4, .mv (.c (.int .i64 (-1))), none⟩])
  (.ret))) (.skip)))
  (.seq (.seq (.ops [⟨some 13, .mv (.t 6), none⟩])
  (.cond (.t 13) (.seq (.ops [⟨some 4, .mv (.c (.int .i64 1)), none⟩])
  (.ret)) (.skip)))
  (.seq (.seq (.ops [⟨some 14, .mv (.t 0), none⟩,
    ⟨some 15, .mv (.t 1), none⟩,
    ⟨some 16, .bin .lss (.t 14) (.t 15), none⟩])
  (.cond (.t 16) (.seq (.ops [⟨some 4, .mv (.c (.int .i64 (-1))), none⟩])
  (.ret)) (.skip)))
  (.seq (.seq (.ops [⟨some 17, .mv (.t 0), none⟩,
    ⟨some 18, .mv (.t 1), none⟩,
    ⟨some 19, .bin .gtr (.t 17) (.t 18), none⟩])
  (.cond (.t 19) (.seq (.ops [⟨some 4, .mv (.c (.int .i64 1)), none⟩])
  (.ret)) (.skip)))
  (.seq (.ops [⟨some 4, .mv (.c (.int .i64 0)), none⟩])
  (.ret))))))))
theorem k_cmp_Compare_string : FnIs AP n_cmp_Compare_string c_cmp_Compare_string 20 (rsT [4]) := fnIs_of (fn := Go.Proofs.Try.f49) Go.Proofs.Try.func49 (by kernel_rfl) (by kernel_rfl) (by kernel_rfl) (by kernel_rfl) (by kernel_rfl)
theorem a_cmp_Compare_string {x0 x1 : V} {H : List Entry} {K : KV} (h : Wf H → awp AP H.length c_cmp_Compare_string (finW H.length (rsT [4]) K) ([x0, x1] ++ List.replicate 18 undefV) H) : BCall AP n_cmp_Compare_string [x0, x1] H K := k_cmp_Compare_string.call (by kernel_rfl) h
/-- slices.ContainsFunc[[]tryst/api.Field,tryst/api.Field]: 9 slots -/
def c_slices_ContainsFunc_api_Field_api_Field : AC := .seq (.ops [⟨some 4, .mv (.c (.bool false)), none⟩])
  (.seq (.ops [⟨some 5, .mv (.t 0), none⟩,
    ⟨some 6, .mv (.t 1), none⟩,
    ⟨some 7, .call (.c (.fn n_slices_IndexFunc_api_Field_api_Field [] [])) [(.t 5), (.t 6)], none⟩,
    ⟨some 8, .bin .geq (.t 7) (.c (.int .i64 0)), none⟩,
    ⟨some 4, .mv (.t 8), none⟩])
  (.ret))
theorem k_slices_ContainsFunc_api_Field_api_Field : FnIs AP n_slices_ContainsFunc_api_Field_api_Field c_slices_ContainsFunc_api_Field_api_Field 9 (rsT [4]) := fnIs_of (fn := Go.Proofs.Try.f50) Go.Proofs.Try.func50 (by kernel_rfl) (by kernel_rfl) (by kernel_rfl) (by kernel_rfl) (by kernel_rfl)
theorem a_slices_ContainsFunc_api_Field_api_Field {x0 x1 : V} {H : List Entry} {K : KV} (h : Wf H → awp AP H.length c_slices_ContainsFunc_api_Field_api_Field (finW H.length (rsT [4]) K) ([x0, x1] ++ List.replicate 7 undefV) H) : BCall AP n_slices_ContainsFunc_api_Field_api_Field [x0, x1] H K := k_slices_ContainsFunc_api_Field_api_Field.call (by kernel_rfl) h
/-- tryst/list.Rises[tryst/api.Field]: 24 slots -/
def c_list_Rises_api_Field : AC := .seq (.ops [⟨some 4, .mv (.c (.bool false)), none⟩])
  (.seq (.seq (.ops [⟨some 5, .mv (.c (.int .i64 1)), none⟩])
  (.block 0 (.loop (.seq (.seq (.ops [⟨some 6, .mv (.t 5), none⟩,
    ⟨some 7, .mv (.t 0), none⟩,
    ⟨some 8, .len 1 (.t 7), none⟩,
    ⟨some 9, .bin .lss (.t 6) (.t 8), none⟩])
  (.cond (.t 9) (.skip) (.exit 0)))
  (.seq (.block 1 (.seq (.draw [⟨some 12, .mv (.t 1), none⟩,
    ⟨some 13, .mv (.t 0), none⟩,
    ⟨some 14, .mv (.t 5), none⟩,
    ⟨some 15, .bin .sub (.t 14) (.c (.int .i64 1)), none⟩,
    ⟨some 16, .iad 4 true (.t 13) (.t 15), none⟩,
    ⟨some 17, .load 4 true (.t 16), none⟩,
    ⟨some 18, .mv (.t 0), none⟩,
    ⟨some 19, .mv (.t 5), none⟩,
    ⟨some 20, .iad 4 true (.t 18) (.t 19), none⟩,
    ⟨some 21, .load 4 true (.t 20), none⟩,
    ⟨some 22, .dcall (.t 12) [(.t 17), (.t 21)], none⟩,
    ⟨some 23, .bin .geq (.t 22) (.c (.int .i64 0)), none⟩])
  (.cond (.t 23) (.seq (.ops [⟨some 4, .mv (.c (.bool false)), none⟩])
  (.ret)) (.skip))))
  (.ops [⟨some 10, .mv (.t 5), none⟩,
    ⟨some 11, .bin .add (.t 10) (.c (.int .i64 1)), none⟩,
    ⟨some 5, .mv (.t 11), none⟩]))))))
  (.seq (.ops [⟨some 4, .mv (.c (.bool true)), none⟩])
  (.ret)))
theorem k_list_Rises_api_Field : FnIs AP n_list_Rises_api_Field c_list_Rises_api_Field 24 (rsT [4]) := fnIs_of (fn := Go.Proofs.Try.f51) Go.Proofs.Try.func51 (by kernel_rfl) (by kernel_rfl) (by kernel_rfl) (by kernel_rfl) (by kernel_rfl)
theorem a_list_Rises_api_Field {x0 x1 : V} {H : List Entry} {K : KV} (h : Wf H → awp AP H.length c_list_Rises_api_Field (finW H.length (rsT [4]) K) ([x0, x1] ++ List.replicate 22 undefV) H) : BCall AP n_list_Rises_api_Field [x0, x1] H K := k_list_Rises_api_Field.call (by kernel_rfl) h
/-- tryst/trystref02.is: 47 slots -/
def c_trystref02_is : AC := .seq (.ops [⟨some 4, .mv (.c (.bool false)), none⟩])
  (.seq (.ops [⟨some 7, .mv (.t 0), none⟩,
    ⟨some 8, .call (.c (.fn n_trystref02_cut [] [])) [(.t 7)], none⟩,
    ⟨some 5, .mv (.t 8), none⟩])
  (.seq (.seq (.ops [⟨some 6, .mv (.c (.int .i64 0)), none⟩])
  (.block 0 (.loop (.seq (.seq (.ops [⟨some 9, .mv (.t 6), none⟩,
    ⟨some 10, .mv (.t 5), none⟩,
    ⟨some 11, .len 1 (.t 10), none⟩,
    ⟨some 12, .bin .lss (.t 9) (.t 11), none⟩])
  (.cond (.t 12) (.skip) (.exit 0)))
  (.seq (.block 1 (.seq (.ops [⟨some 15, .mv (.t 5), none⟩,
    ⟨some 16, .mv (.t 6), none⟩,
    ⟨some 17, .iad 1 false (.t 15) (.t 16), none⟩,
    ⟨some 18, .load 1 false (.t 17), none⟩,
    ⟨some 19, .call (.c (.fn n_trystref02_part [] [])) [(.t 18)], none⟩,
    ⟨some 20, .un .not (.t 19), none⟩,
    ⟨some 21, .mv (.t 20), none⟩,
    ⟨some 22, .mv (.t 1), some (21, true)⟩,
    ⟨some 23, .mv (.t 22), some (21, true)⟩,
    ⟨some 24, .mv (.t 5), some (23, true)⟩,
    ⟨some 25, .mv (.t 6), some (23, true)⟩,
    ⟨some 26, .iad 1 false (.t 24) (.t 25), some (23, true)⟩,
    ⟨some 27, .load 1 false (.t 26), some (23, true)⟩,
    ⟨some 28, .bin .eql (.t 27) (.c (.str [42])), some (23, true)⟩,
    ⟨some 29, .mv (.t 28), some (23, true)⟩,
    ⟨some 30, .mv (.t 5), some (29, false)⟩,
    ⟨some 31, .mv (.t 6), some (29, false)⟩,
    ⟨some 32, .iad 1 false (.t 30) (.t 31), some (29, false)⟩,
    ⟨some 33, .load 1 false (.t 32), some (29, false)⟩,
    ⟨some 34, .bin .eql (.t 33) (.c (.str [42, 42])), some (29, false)⟩,
    ⟨some 35, .pick (.t 29) (.c (.bool true)) (.t 34), some (23, true)⟩,
    ⟨some 36, .pick (.t 23) (.t 35) (.c (.bool false)), some (21, true)⟩,
    ⟨some 37, .un .not (.t 36), some (21, true)⟩,
    ⟨some 38, .pick (.t 21) (.t 37) (.c (.bool false)), none⟩])
  (.cond (.t 38) (.seq (.ops [⟨some 4, .mv (.c (.bool false)), none⟩])
  (.ret)) (.skip))))
  (.ops [⟨some 13, .mv (.t 6), none⟩,
    ⟨some 14, .bin .add (.t 13) (.c (.int .i64 1)), none⟩,
    ⟨some 6, .mv (.t 14), none⟩]))))))
  (.seq (.ops [⟨some 39, .mv (.t 5), none⟩,
    ⟨some 40, .len 1 (.t 39), none⟩,
    ⟨some 41, .bin .leq (.t 40) (.c (.int .i64 8)), none⟩,
    ⟨some 42, .mv (.t 41), none⟩,
    ⟨some 43, .mv (.t 0), some (42, true)⟩,
    ⟨some 44, .len 0 (.t 43), some (42, true)⟩,
    ⟨some 45, .bin .leq (.t 44) (.c (.int .i64 40)), some (42, true)⟩,
    ⟨some 46, .pick (.t 42) (.t 45) (.c (.bool false)), none⟩,
    ⟨some 4, .mv (.t 46), none⟩])
  (.ret))))
theorem k_trystref02_is : FnIs AP n_trystref02_is c_trystref02_is 47 (rsT [4]) := fnIs_of (fn := Go.Proofs.Try.f52) Go.Proofs.Try.func52 (by kernel_rfl) (by kernel_rfl) (by kernel_rfl) (by kernel_rfl) (by kernel_rfl)
theorem a_trystref02_is {x0 x1 : V} {H : List Entry} {K : KV} (h : Wf H → awp AP H.length c_trystref02_is (finW H.length (rsT [4]) K) ([x0, x1] ++ List.replicate 45 undefV) H) : BCall AP n_trystref02_is [x0, x1] H K := k_trystref02_is.call (by kernel_rfl) h
/-- strings.Index: 8 slots -/
def c_strings_Index : AC := .seq (.ops [⟨some 4, .mv (.c (.int .i64 0)), none⟩])
  (.seq (.ops [⟨some 5, .mv (.t 0), none⟩,
    ⟨some 6, .mv (.t 1), none⟩,
    ⟨some 7, .call (.c (.fn n_internal_stringslite_Index [] [])) [(.t 5), (.t 6)], none⟩,
    ⟨some 4, .mv (.t 7), none⟩])
  (.ret))
theorem k_strings_Index : FnIs AP n_strings_Index c_strings_Index 8 (rsT [4]) := fnIs_of (fn := Go.Proofs.Try.f53) Go.Proofs.Try.func53 (by kernel_rfl) (by kernel_rfl) (by kernel_rfl) (by kernel_rfl) (by kernel_rfl)
theorem a_strings_Index {x0 x1 : V} {H : List Entry} {K : KV} (h : Wf H → awp AP H.length c_strings_Index (finW H.length (rsT [4]) K) ([x0, x1] ++ List.replicate 6 undefV) H) : BCall AP n_strings_Index [x0, x1] H K := k_strings_Index.call (by kernel_rfl) h
/-- tryst/num.packedWide: 8 slots -/
def c_num_packedWide : AC := .seq (.ops [⟨some 2, .mv (.c (.int .i64 0)), none⟩])
  (.seq (.ops [⟨some 3, .mv (.t 0), none⟩,
    ⟨some 4, .bin .or (.t 3) (.c (.int .u64 1)), none⟩,
    ⟨some 5, .call (.c (.fn n_math_bits_Len64 [] [])) [(.t 4)], none⟩,
    ⟨some 6, .bin .add (.t 5) (.c (.int .i64 6)), none⟩,
    ⟨some 7, .bin .quo (.t 6) (.c (.int .i64 7)), none⟩,
    ⟨some 2, .mv (.t 7), none⟩])
  (.ret))
theorem k_num_packedWide : FnIs AP n_num_packedWide c_num_packedWide 8 (rsT [2]) := fnIs_of (fn := Go.Proofs.Try.f54) Go.Proofs.Try.func54 (by kernel_rfl) (by kernel_rfl) (by kernel_rfl) (by kernel_rfl) (by kernel_rfl)
theorem a_num_packedWide {x0 : V} {H : List Entry} {K : KV} (h : Wf H → awp AP H.length c_num_packedWide (finW H.length (rsT [2]) K) ([x0] ++ List.replicate 7 undefV) H) : BCall AP n_num_packedWide [x0] H K := k_num_packedWide.call (by kernel_rfl) h
/-- tryst/num.Fold: 12 slots -/
def c_num_Fold : AC := .seq (.ops [⟨some 2, .mv (.c (.int .u64 0)), none⟩])
  (.seq (.seq (.ops [⟨some 3, .mv (.t 0), none⟩,
    ⟨some 4, .bin .lss (.t 3) (.c (.int .i64 0)), none⟩])
  (.cond (.t 4) (.seq (.ops [⟨some 5, .mv (.t 0), none⟩,
    ⟨some 6, .cvi .u64 (.t 5), none⟩,
    ⟨some 7, .bin .shl (.t 6) (.c (.int .u64 1)), none⟩,
    ⟨some 8, .un .xor (.t 7), none⟩,
    ⟨some 2, .mv (.t 8), none⟩])
  (.ret)) (.skip)))
  (.seq (.ops [⟨some 9, .mv (.t 0), none⟩,
    ⟨some 10, .cvi .u64 (.t 9), none⟩,
    ⟨some 11, .bin .shl (.t 10) (.c (.int .u64 1)), none⟩,
    ⟨some 2, .mv (.t 11), none⟩])
  (.ret)))
theorem k_num_Fold : FnIs AP n_num_Fold c_num_Fold 12 (rsT [2]) := fnIs_of (fn := Go.Proofs.Try.f55) Go.Proofs.Try.func55 (by kernel_rfl) (by kernel_rfl) (by kernel_rfl) (by kernel_rfl) (by kernel_rfl)
theorem a_num_Fold {x0 : V} {H : List Entry} {K : KV} (h : Wf H → awp AP H.length c_num_Fold (finW H.length (rsT [2]) K) ([x0] ++ List.replicate 11 undefV) H) : BCall AP n_num_Fold [x0] H K := k_num_Fold.call (by kernel_rfl) h
/-- (*tryst/event.reader).text: 49 slots -/
def c_event_reader_text : AC := .seq (.ops [⟨some 4, .mv (.c (.str [])), none⟩])
  (.seq (.ops [⟨some 7, .mv (.t 0), none⟩,
    ⟨some 8, .mv (.t 1), none⟩,
    ⟨some 9, .call (.c (.fn n_event_reader_size [] [])) [(.t 7), (.t 8)], none⟩,
    ⟨some 5, .mv (.t 9), none⟩])
  (.seq (.seq (.ops [⟨some 10, .mv (.t 0), none⟩,
    ⟨some 11, .nck (.t 10), none⟩,
    ⟨some 12, .fad 1 (.t 11), none⟩,
    ⟨some 13, .load 1 false (.t 12), none⟩,
    ⟨some 14, .bin .eql (.t 13) (.c (.int .i64 0)), none⟩,
    ⟨some 15, .mv (.t 14), none⟩,
    ⟨some 16, .mv (.t 5), some (15, true)⟩,
    ⟨some 17, .mv (.t 0), some (15, true)⟩,
    ⟨some 18, .nck (.t 17), some (15, true)⟩,
    ⟨some 19, .fad 0 (.t 18), some (15, true)⟩,
    ⟨some 20, .load 1 false (.t 19), some (15, true)⟩,
    ⟨some 21, .len 0 (.t 20), some (15, true)⟩,
    ⟨some 22, .cvi .u64 (.t 21), some (15, true)⟩,
    ⟨some 23, .bin .gtr (.t 16) (.t 22), some (15, true)⟩,
    ⟨some 24, .pick (.t 15) (.t 23) (.c (.bool false)), none⟩])
  (.cond (.t 24) (.ops [⟨some 25, .mv (.t 0), none⟩,
    ⟨some 26, .nck (.t 25), none⟩,
    ⟨some 27, .fad 1 (.t 26), none⟩,
    ⟨none, .store 1 (.t 27) (.c (.int .i64 3)), none⟩]) (.skip)))
  (.seq (.seq (.ops [⟨some 28, .mv (.t 0), none⟩,
    ⟨some 29, .nck (.t 28), none⟩,
    ⟨some 30, .fad 1 (.t 29), none⟩,
    ⟨some 31, .load 1 false (.t 30), none⟩,
    ⟨some 32, .bin .neq (.t 31) (.c (.int .i64 0)), none⟩])
  (.cond (.t 32) (.seq (.ops [⟨some 4, .mv (.c (.str [])), none⟩])
  (.ret)) (.skip)))
  (.seq (.ops [⟨some 33, .mv (.t 0), none⟩,
    ⟨some 34, .nck (.t 33), none⟩,
    ⟨some 35, .fad 0 (.t 34), none⟩,
    ⟨some 36, .load 1 false (.t 35), none⟩,
    ⟨some 37, .mv (.t 5), none⟩,
    ⟨some 38, .sls (.t 36) none (some (.t 37)), none⟩,
    ⟨some 6, .mv (.t 38), none⟩])
  (.seq (.ops [⟨some 39, .mv (.t 0), none⟩,
    ⟨some 40, .mv (.t 0), none⟩,
    ⟨some 41, .nck (.t 40), none⟩,
    ⟨some 42, .fad 0 (.t 41), none⟩,
    ⟨some 43, .load 1 false (.t 42), none⟩,
    ⟨some 44, .mv (.t 5), none⟩,
    ⟨some 45, .sls (.t 43) (some (.t 44)) none, none⟩,
    ⟨some 46, .nck (.t 39), none⟩,
    ⟨some 47, .fad 0 (.t 46), none⟩,
    ⟨none, .store 1 (.t 47) (.t 45), none⟩])
  (.seq (.ops [⟨some 48, .mv (.t 6), none⟩,
    ⟨some 4, .mv (.t 48), none⟩])
  (.ret)))))))
theorem k_event_reader_text : FnIs AP n_event_reader_text c_event_reader_text 49 (rsT [4]) := fnIs_of (fn := Go.Proofs.Try.f56) Go.Proofs.Try.func56 (by kernel_rfl) (by kernel_rfl) (by kernel_rfl) (by kernel_rfl) (by kernel_rfl)
theorem a_event_reader_text {x0 x1 : V} {H : List Entry} {K : KV} (h : Wf H → awp AP H.length c_event_reader_text (finW H.length (rsT [4]) K) ([x0, x1] ++ List.replicate 47 undefV) H) : BCall AP n_event_reader_text [x0, x1] H K := k_event_reader_text.call (by kernel_rfl) h
/-- (*tryst/event.reader).number: 34 slots -/
def c_event_reader_number : AC := .seq (.ops [⟨some 2, .mv (.c (.int .u64 0)), none⟩])
  (.seq (.seq (.ops [⟨some 6, .mv (.t 0), none⟩,
    ⟨some 7, .nck (.t 6), none⟩,
    ⟨some 8, .fad 1 (.t 7), none⟩,
    ⟨some 9, .load 1 false (.t 8), none⟩,
    ⟨some 10, .bin .neq (.t 9) (.c (.int .i64 0)), none⟩])
  (.cond (.t 10) (.seq (.ops [⟨some 2, .mv (.c (.int .u64 0)), none⟩])
  (.ret)) (.skip)))
  (.seq (.ops [⟨some 12, .mv (.t 0), none⟩,
    ⟨some 13, .nck (.t 12), none⟩,
    ⟨some 14, .fad 0 (.t 13), none⟩,
    ⟨some 15, .load 1 false (.t 14), none⟩,
    ⟨some 16, .call (.c (.fn n_num_Unpack [] [])) [(.t 15)], none⟩,
    ⟨some 11, .mv (.t 16), none⟩,
    ⟨some 17, .ext (.t 11) 0, none⟩,
    ⟨some 18, .ext (.t 11) 1, none⟩,
    ⟨some 19, .ext (.t 11) 2, none⟩,
    ⟨some 3, .mv (.t 17), none⟩,
    ⟨some 4, .mv (.t 18), none⟩,
    ⟨some 5, .mv (.t 19), none⟩])
  (.seq (.ops [⟨some 20, .mv (.t 0), none⟩,
    ⟨some 21, .mv (.t 0), none⟩,
    ⟨some 22, .mv (.t 0), none⟩,
    ⟨some 23, .nck (.t 22), none⟩,
    ⟨some 24, .fad 0 (.t 23), none⟩,
    ⟨some 25, .load 1 false (.t 24), none⟩,
    ⟨some 26, .mv (.t 4), none⟩,
    ⟨some 27, .sls (.t 25) (some (.t 26)) none, none⟩,
    ⟨some 28, .mv (.t 5), none⟩,
    ⟨some 29, .nck (.t 20), none⟩,
    ⟨some 30, .fad 0 (.t 29), none⟩,
    ⟨none, .store 1 (.t 30) (.t 27), none⟩,
    ⟨some 31, .nck (.t 21), none⟩,
    ⟨some 32, .fad 1 (.t 31), none⟩,
    ⟨none, .store 1 (.t 32) (.t 28), none⟩])
  (.seq (.ops [⟨some 33, .mv (.t 3), none⟩,
    ⟨some 2, .mv (.t 33), none⟩])
  (.ret)))))
theorem k_event_reader_number : FnIs AP n_event_reader_number c_event_reader_number 34 (rsT [2]) := fnIs_of (fn := Go.Proofs.Try.f57) Go.Proofs.Try.func57 (by kernel_rfl) (by kernel_rfl) (by kernel_rfl) (by kernel_rfl) (by kernel_rfl)
theorem a_event_reader_number {x0 : V} {H : List Entry} {K : KV} (h : Wf H → awp AP H.length c_event_reader_number (finW H.length (rsT [2]) K) ([x0] ++ List.replicate 33 undefV) H) : BCall AP n_event_reader_number [x0] H K := k_event_reader_number.call (by kernel_rfl) h
/-- (*tryst/event.reader).size: 15 slots -/
def c_event_reader_size : AC := .seq (.ops [⟨some 4, .mv (.c (.int .u64 0)), none⟩])
  (.seq (.ops [⟨some 6, .mv (.t 0), none⟩,
    ⟨some 7, .call (.c (.fn n_event_reader_number [] [])) [(.t 6)], none⟩,
    ⟨some 5, .mv (.t 7), none⟩])
  (.seq (.seq (.ops [⟨some 8, .mv (.t 5), none⟩,
    ⟨some 9, .mv (.t 1), none⟩,
    ⟨some 10, .bin .gtr (.t 8) (.t 9), none⟩])
  (.cond (.t 10) (.ops [⟨some 11, .mv (.t 0), none⟩,
    ⟨some 12, .nck (.t 11), none⟩,
    ⟨some 13, .fad 1 (.t 12), none⟩,
    ⟨none, .store 1 (.t 13) (.c (.int .i64 2)), none⟩]) (.skip)))
  (.seq (.ops [⟨some 14, .mv (.t 5), none⟩,
    ⟨some 4, .mv (.t 14), none⟩])
  (.ret))))
theorem k_event_reader_size : FnIs AP n_event_reader_size c_event_reader_size 15 (rsT [4]) := fnIs_of (fn := Go.Proofs.Try.f58) Go.Proofs.Try.func58 (by kernel_rfl) (by kernel_rfl) (by kernel_rfl) (by kernel_rfl) (by kernel_rfl)
theorem a_event_reader_size {x0 x1 : V} {H : List Entry} {K : KV} (h : Wf H → awp AP H.length c_event_reader_size (finW H.length (rsT [4]) K) ([x0, x1] ++ List.replicate 13 undefV) H) : BCall AP n_event_reader_size [x0, x1] H K := k_event_reader_size.call (by kernel_rfl) h
/-- (*tryst/event.reader).value: 35 slots -/
def c_event_reader_value : AC := .seq (.ops [⟨some 2, .alloc [.bool false, .int .i64 0, .str []], none⟩])
  (.seq (.seq (.ops [⟨some 6, .mv (.t 0), none⟩,
    ⟨some 7, .nck (.t 6), none⟩,
    ⟨some 8, .fad 1 (.t 7), none⟩,
    ⟨some 9, .load 1 false (.t 8), none⟩,
    ⟨some 10, .bin .neq (.t 9) (.c (.int .i64 0)), none⟩])
  (.cond (.t 10) (.seq (.ops [⟨some 11, .build [.bool false, .int .i64 0, .str []] [], none⟩,
    ⟨none, .store 3 (.t 2) (.t 11), none⟩])
  (.ret)) (.skip)))
  (.seq (.ops [⟨some 13, .mv (.t 0), none⟩,
    ⟨some 14, .nck (.t 13), none⟩,
    ⟨some 15, .fad 0 (.t 14), none⟩,
    ⟨some 16, .load 1 false (.t 15), none⟩,
    ⟨some 17, .call (.c (.fn n_val_Take [] [])) [(.t 16)], none⟩,
    ⟨some 12, .mv (.t 17), none⟩,
    ⟨some 18, .ext (.t 12) 0, none⟩,
    ⟨some 19, .ext (.t 12) 1, none⟩,
    ⟨some 20, .ext (.t 12) 2, none⟩,
    ⟨some 3, .alloc [.bool false, .int .i64 0, .str []], none⟩,
    ⟨none, .store 3 (.t 3) (.t 18), none⟩,
    ⟨some 4, .mv (.t 19), none⟩,
    ⟨some 5, .mv (.t 20), none⟩])
  (.seq (.ops [⟨some 21, .mv (.t 0), none⟩,
    ⟨some 22, .mv (.t 0), none⟩,
    ⟨some 23, .mv (.t 0), none⟩,
    ⟨some 24, .nck (.t 23), none⟩,
    ⟨some 25, .fad 0 (.t 24), none⟩,
    ⟨some 26, .load 1 false (.t 25), none⟩,
    ⟨some 27, .mv (.t 4), none⟩,
    ⟨some 28, .sls (.t 26) (some (.t 27)) none, none⟩,
    ⟨some 29, .mv (.t 5), none⟩,
    ⟨some 30, .nck (.t 21), none⟩,
    ⟨some 31, .fad 0 (.t 30), none⟩,
    ⟨none, .store 1 (.t 31) (.t 28), none⟩,
    ⟨some 32, .nck (.t 22), none⟩,
    ⟨some 33, .fad 1 (.t 32), none⟩,
    ⟨none, .store 1 (.t 33) (.t 29), none⟩])
  (.seq (.ops [⟨some 34, .load 3 true (.t 3), none⟩,
    ⟨none, .store 3 (.t 2) (.t 34), none⟩])
  (.ret)))))
theorem k_event_reader_value : FnIs AP n_event_reader_value c_event_reader_value 35 [.cell 2 3 true] := fnIs_of (fn := Go.Proofs.Try.f59) Go.Proofs.Try.func59 (by kernel_rfl) (by kernel_rfl) (by kernel_rfl) (by kernel_rfl) (by kernel_rfl)
theorem a_event_reader_value {x0 : V} {H : List Entry} {K : KV} (h : Wf H → awp AP H.length c_event_reader_value (finW H.length [.cell 2 3 true] K) ([x0] ++ List.replicate 34 undefV) H) : BCall AP n_event_reader_value [x0] H K := k_event_reader_value.call (by kernel_rfl) h
/-- tryst/trystref01.Fold: 14 slots -/
def c_trystref01_Fold : AC := .seq (.ops [⟨some 2, .mv (.c (.int .u64 0)), none⟩])
  (.seq (.seq (.ops [⟨some 3, .mv (.t 0), none⟩,
    ⟨some 4, .bin .geq (.t 3) (.c (.int .i64 0)), none⟩])
  (.cond (.t 4) (.seq (.ops [⟨some 5, .mv (.t 0), none⟩,
    ⟨some 6, .cvi .u64 (.t 5), none⟩,
    ⟨some 7, .bin .mul (.c (.int .u64 2)) (.t 6), none⟩,
    ⟨some 2, .mv (.t 7), none⟩])
  (.ret)) (.skip)))
  (.seq (.ops [⟨some 8, .mv (.t 0), none⟩,
    ⟨some 9, .bin .add (.t 8) (.c (.int .i64 1)), none⟩,
    ⟨some 10, .un .neg (.t 9), none⟩,
    ⟨some 11, .cvi .u64 (.t 10), none⟩,
    ⟨some 12, .bin .mul (.c (.int .u64 2)) (.t 11), none⟩,
    ⟨some 13, .bin .add (.t 12) (.c (.int .u64 1)), none⟩,
    ⟨some 2, .mv (.t 13), none⟩])
  (.ret)))
theorem k_trystref01_Fold : FnIs AP n_trystref01_Fold c_trystref01_Fold 14 (rsT [2]) := fnIs_of (fn := Go.Proofs.Try.f60) Go.Proofs.Try.func60 (by kernel_rfl) (by kernel_rfl) (by kernel_rfl) (by kernel_rfl) (by kernel_rfl)
theorem a_trystref01_Fold {x0 : V} {H : List Entry} {K : KV} (h : Wf H → awp AP H.length c_trystref01_Fold (finW H.length (rsT [2]) K) ([x0] ++ List.replicate 13 undefV) H) : BCall AP n_trystref01_Fold [x0] H K := k_trystref01_Fold.call (by kernel_rfl) h
/-- slices.IndexFunc[[]tryst/api.Field,tryst/api.Field]: 19 slots -/
def c_slices_IndexFunc_api_Field_api_Field : AC := .seq (.ops [⟨some 4, .mv (.c (.int .i64 0)), none⟩])
  (.seq (.seq (.ops [⟨some 6, .mv (.t 0), none⟩,
    ⟨some 7, .len 1 (.t 6), none⟩,
    ⟨some 8, .mv (.c (.int .i64 0)), none⟩])
  (.block 0 (.loop (.seq (.ops [⟨some 9, .bin .lss (.t 8) (.t 7), none⟩])
  (.seq (.cond (.t 9) (.skip) (.exit 0))
  (.seq (.block 1 (.seq (.ops [⟨some 10, .mv (.t 8), none⟩,
    ⟨some 5, .mv (.t 10), none⟩])
  (.seq (.ops [⟨some 11, .mv (.t 1), none⟩,
    ⟨some 12, .mv (.t 0), none⟩,
    ⟨some 13, .mv (.t 5), none⟩,
    ⟨some 14, .iad 4 true (.t 12) (.t 13), none⟩,
    ⟨some 15, .load 4 true (.t 14), none⟩,
    ⟨some 16, .call (.t 11) [(.t 15)], none⟩])
  (.cond (.t 16) (.seq (.ops [⟨some 17, .mv (.t 5), none⟩,
    ⟨some 4, .mv (.t 17), none⟩])
  (.ret)) (.skip)))))
  (.ops [⟨some 18, .bin .add (.t 8) (.c (.int .i64 1)), none⟩,
    ⟨some 8, .mv (.t 18), none⟩])))))))
  (.seq (.ops [⟨some 4, .mv (.c (.int .i64 (-1))), none⟩])
  (.ret)))
theorem k_slices_IndexFunc_api_Field_api_Field : FnIs AP n_slices_IndexFunc_api_Field_api_Field c_slices_IndexFunc_api_Field_api_Field 19 (rsT [4]) := fnIs_of (fn := Go.Proofs.Try.f61) Go.Proofs.Try.func61 (by kernel_rfl) (by kernel_rfl) (by kernel_rfl) (by kernel_rfl) (by kernel_rfl)
theorem a_slices_IndexFunc_api_Field_api_Field {x0 x1 : V} {H : List Entry} {K : KV} (h : Wf H → awp AP H.length c_slices_IndexFunc_api_Field_api_Field (finW H.length (rsT [4]) K) ([x0, x1] ++ List.replicate 17 undefV) H) : BCall AP n_slices_IndexFunc_api_Field_api_Field [x0, x1] H K := k_slices_IndexFunc_api_Field_api_Field.call (by kernel_rfl) h
/-- tryst/event.place$1: 8 slots -/
def c_event_place_1 : AC := .seq (.ops [⟨some 2, .box (.t 0), none⟩,
    ⟨some 3, .mv (.c (.bool false)), none⟩])
  (.seq (.ops [⟨some 4, .fad 0 (.t 2), none⟩,
    ⟨some 5, .load 1 false (.t 4), none⟩,
    ⟨some 6, .load 1 false (.t 1), none⟩,
    ⟨some 7, .bin .eql (.t 5) (.t 6), none⟩,
    ⟨some 3, .mv (.t 7), none⟩])
  (.ret))
theorem k_event_place_1 : FnIs AP n_event_place_1 c_event_place_1 8 (rsT [3]) := fnIs_of (fn := Go.Proofs.Try.f62) Go.Proofs.Try.func62 (by kernel_rfl) (by kernel_rfl) (by kernel_rfl) (by kernel_rfl) (by kernel_rfl)
theorem a_event_place_1 {x0 x1 : V} {H : List Entry} {K : KV} (h : Wf H → awp AP H.length c_event_place_1 (finW H.length (rsT [3]) K) ([x0, x1] ++ List.replicate 6 undefV) H) : BCall AP n_event_place_1 [x0, x1] H K := k_event_place_1.call (by kernel_rfl) h
/-- slices.Clone[[]tryst/api.Field,tryst/api.Field]: 8 slots -/
def c_slices_Clone_api_Field_api_Field : AC := .seq (.ops [⟨some 2, .mv (.c (.nilsl)), none⟩])
  (.seq (.seq (.ops [⟨some 3, .mv (.t 0), none⟩,
    ⟨some 4, .cnil 0 false (.t 3) (.c (.nilsl)), none⟩])
  (.cond (.t 4) (.seq (.ops [⟨some 2, .mv (.c (.nilsl)), none⟩])
  (.ret)) (.skip)))
  (.seq (.ops [⟨some 5, .bsl 4 true [], none⟩,
    ⟨some 6, .mv (.t 0), none⟩,
    ⟨some 7, .app 49 4 48 true (.t 5) (.t 6), none⟩,
    ⟨some 2, .mv (.t 7), none⟩])
  (.ret)))
theorem k_slices_Clone_api_Field_api_Field : FnIs AP n_slices_Clone_api_Field_api_Field c_slices_Clone_api_Field_api_Field 8 (rsT [2]) := fnIs_of (fn := Go.Proofs.Try.f63) Go.Proofs.Try.func63 (by kernel_rfl) (by kernel_rfl) (by kernel_rfl) (by kernel_rfl) (by kernel_rfl)
theorem a_slices_Clone_api_Field_api_Field {x0 : V} {H : List Entry} {K : KV} (h : Wf H → awp AP H.length c_slices_Clone_api_Field_api_Field (finW H.length (rsT [2]) K) ([x0] ++ List.replicate 7 undefV) H) : BCall AP n_slices_Clone_api_Field_api_Field [x0] H K := k_slices_Clone_api_Field_api_Field.call (by kernel_rfl) h
/-- slices.Concat[[]tryst/api.Field,tryst/api.Field]: 36 slots -/
def c_slices_Concat_api_Field_api_Field : AC := .seq (.ops [⟨some 2, .mv (.c (.nilsl)), none⟩])
  (.seq (.ops [⟨some 3, .mv (.c (.int .i64 0)), none⟩])
  (.seq (.seq (.ops [⟨some 9, .mv (.t 0), none⟩,
    ⟨some 10, .len 1 (.t 9), none⟩,
    ⟨some 11, .mv (.c (.int .i64 0)), none⟩])
  (.block 0 (.loop (.seq (.ops [⟨some 12, .bin .lss (.t 11) (.t 10), none⟩])
  (.seq (.cond (.t 12) (.skip) (.exit 0))
  (.seq (.block 1 (.seq (.ops [⟨some 13, .iad 1 false (.t 9) (.t 11), none⟩,
    ⟨some 14, .load 1 false (.t 13), none⟩,
    ⟨some 5, .mv (.t 14), none⟩])
  (.seq (.ops [⟨some 15, .mv (.t 3), none⟩,
    ⟨some 16, .mv (.t 5), none⟩,
    ⟨some 17, .len 1 (.t 16), none⟩,
    ⟨some 18, .bin .add (.t 15) (.t 17), none⟩,
    ⟨some 3, .mv (.t 18), none⟩])
  (.seq (.ops [⟨some 19, .mv (.t 3), none⟩,
    ⟨some 20, .bin .lss (.t 19) (.c (.int .i64 0)), none⟩])
  (.cond (.t 20) (.bad) (.skip))))))
  (.ops [⟨some 22, .bin .add (.t 11) (.c (.int .i64 1)), none⟩,
    ⟨some 11, .mv (.t 22), none⟩])))))))
  (.seq (.ops [⟨some 23, .mv (.t 3), none⟩,
    ⟨some 24, .call (.c (.fn n_slices_Grow_api_Field_api_Field [] [])) [(.c (.nilsl)), (.t 23)], none⟩,
    ⟨some 6, .mv (.t 24), none⟩])
  (.seq (.seq (.ops [⟨some 25, .mv (.t 0), none⟩,
    ⟨some 26, .len 1 (.t 25), none⟩,
    ⟨some 27, .mv (.c (.int .i64 0)), none⟩])
  (.block 2 (.loop (.seq (.ops [⟨some 28, .bin .lss (.t 27) (.t 26), none⟩])
  (.seq (.cond (.t 28) (.skip) (.exit 2))
  (.seq (.block 3 (.seq (.ops [⟨some 29, .iad 1 false (.t 25) (.t 27), none⟩,
    ⟨some 30, .load 1 false (.t 29), none⟩,
    ⟨some 8, .mv (.t 30), none⟩])
  (.ops [⟨some 31, .mv (.t 6), none⟩,
    ⟨some 32, .mv (.t 8), none⟩,
    ⟨some 33, .app 49 4 48 true (.t 31) (.t 32), none⟩,
    ⟨some 6, .mv (.t 33), none⟩])))
  (.ops [⟨some 34, .bin .add (.t 27) (.c (.int .i64 1)), none⟩,
    ⟨some 27, .mv (.t 34), none⟩])))))))
  (.seq (.ops [⟨some 35, .mv (.t 6), none⟩,
    ⟨some 2, .mv (.t 35), none⟩])
  (.ret))))))
theorem k_slices_Concat_api_Field_api_Field : FnIs AP n_slices_Concat_api_Field_api_Field c_slices_Concat_api_Field_api_Field 36 (rsT [2]) := fnIs_of (fn := Go.Proofs.Try.f64) Go.Proofs.Try.func64 (by kernel_rfl) (by kernel_rfl) (by kernel_rfl) (by kernel_rfl) (by kernel_rfl)
theorem a_slices_Concat_api_Field_api_Field {x0 : V} {H : List Entry} {K : KV} (h : Wf H → awp AP H.length c_slices_Concat_api_Field_api_Field (finW H.length (rsT [2]) K) ([x0] ++ List.replicate 35 undefV) H) : BCall AP n_slices_Concat_api_Field_api_Field [x0] H K := k_slices_Concat_api_Field_api_Field.call (by kernel_rfl) h
-- 64 slices.Concat[[]tryst/api.Field,tryst/api.Field]: [slices.go:496, slices.go:496]
/-- tryst/name.allParts$1: 23 slots -/
def c_name_allParts_1 : AC := .seq (.ops [⟨some 6, .mv (.c (.bool false)), none⟩])
  (.seq (.ops [⟨some 8, .load 1 false (.t 1), none⟩,
    ⟨some 9, .load 1 false (.t 2), none⟩,
    ⟨some 10, .mv (.t 0), none⟩,
    ⟨some 11, .sls (.t 8) (some (.t 9)) (some (.t 10)), none⟩,
    ⟨some 7, .mv (.t 11), none⟩])
  (.seq (.ops [⟨some 12, .mv (.t 0), none⟩,
    ⟨some 13, .bin .add (.t 12) (.c (.int .i64 1)), none⟩,
    ⟨none, .store 1 (.t 2) (.t 13), none⟩])
  (.seq (.ops [⟨some 14, .load 1 false (.t 3), none⟩,
    ⟨some 15, .bin .add (.t 14) (.c (.int .i64 1)), none⟩,
    ⟨none, .store 1 (.t 3) (.t 15), none⟩])
  (.seq (.ops [⟨some 16, .load 1 false (.t 4), none⟩,
    ⟨some 17, .mv (.t 7), none⟩,
    ⟨some 18, .call (.t 16) [(.t 17)], none⟩,
    ⟨some 19, .mv (.t 18), none⟩,
    ⟨some 20, .load 1 false (.t 3), some (19, true)⟩,
    ⟨some 21, .bin .leq (.t 20) (.c (.int .i64 8)), some (19, true)⟩,
    ⟨some 22, .pick (.t 19) (.t 21) (.c (.bool false)), none⟩,
    ⟨some 6, .mv (.t 22), none⟩])
  (.ret)))))
theorem k_name_allParts_1 : FnIs AP n_name_allParts_1 c_name_allParts_1 23 (rsT [6]) := fnIs_of (fn := Go.Proofs.Try.f65) Go.Proofs.Try.func65 (by kernel_rfl) (by kernel_rfl) (by kernel_rfl) (by kernel_rfl) (by kernel_rfl)
theorem a_name_allParts_1 {x0 x1 x2 x3 x4 : V} {H : List Entry} {K : KV} (h : Wf H → awp AP H.length c_name_allParts_1 (finW H.length (rsT [6]) K) ([x0, x1, x2, x3, x4] ++ List.replicate 18 undefV) H) : BCall AP n_name_allParts_1 [x0, x1, x2, x3, x4] H K := k_name_allParts_1.call (by kernel_rfl) h
/-- tryst/name.allRunes: 16 slots -/
def c_name_allRunes : AC := .seq (.ops [⟨some 4, .mv (.c (.bool false)), none⟩])
  (.seq (.seq (.ops [⟨some 7, .mv (.t 0), none⟩,
    ⟨some 8, .rng (.t 7), none⟩])
  (.block 0 (.loop (.seq (.ops [⟨some 9, .nxt true (.t 8), none⟩,
    ⟨some 10, .ext (.t 9) 0, none⟩])
  (.seq (.cond (.t 10) (.skip) (.exit 0))
  (.block 1 (.seq (.ops [⟨some 11, .ext (.t 9) 2, none⟩,
    ⟨some 6, .mv (.t 11), none⟩])
  (.seq (.ops [⟨some 12, .mv (.t 1), none⟩,
    ⟨some 13, .mv (.t 6), none⟩,
    ⟨some 14, .call (.t 12) [(.t 13)], none⟩,
    ⟨some 15, .un .not (.t 14), none⟩])
  (.cond (.t 15) (.seq (.ops [⟨some 4, .mv (.c (.bool false)), none⟩])
  (.ret)) (.skip))))))))))
  (.seq (.ops [⟨some 4, .mv (.c (.bool true)), none⟩])
  (.ret)))
theorem k_name_allRunes : FnIs AP n_name_allRunes c_name_allRunes 16 (rsT [4]) := fnIs_of (fn := Go.Proofs.Try.f66) Go.Proofs.Try.func66 (by kernel_rfl) (by kernel_rfl) (by kernel_rfl) (by kernel_rfl) (by kernel_rfl)
theorem a_name_allRunes {x0 x1 : V} {H : List Entry} {K : KV} (h : Wf H → awp AP H.length c_name_allRunes (finW H.length (rsT [4]) K) ([x0, x1] ++ List.replicate 14 undefV) H) : BCall AP n_name_allRunes [x0, x1] H K := k_name_allRunes.call (by kernel_rfl) h
/-- tryst/name.isPart$1: 21 slots -/
def c_name_isPart_1 : AC := .seq (.ops [⟨some 2, .mv (.c (.bool false)), none⟩])
  (.seq (.ops [⟨some 3, .mv (.t 0), none⟩,
    ⟨some 4, .bin .leq (.c (.int .i32 97)) (.t 3), none⟩,
    ⟨some 5, .mv (.t 4), none⟩,
    ⟨some 6, .mv (.t 0), some (5, true)⟩,
    ⟨some 7, .bin .leq (.t 6) (.c (.int .i32 122)), some (5, true)⟩,
    ⟨some 8, .pick (.t 5) (.t 7) (.c (.bool false)), none⟩,
    ⟨some 9, .mv (.t 8), none⟩,
    ⟨some 10, .mv (.t 0), some (9, false)⟩,
    ⟨some 11, .bin .leq (.c (.int .i32 48)) (.t 10), some (9, false)⟩,
    ⟨some 12, .mv (.t 11), some (9, false)⟩,
    ⟨some 13, .mv (.t 0), some (12, true)⟩,
    ⟨some 14, .bin .leq (.t 13) (.c (.int .i32 57)), some (12, true)⟩,
    ⟨some 15, .pick (.t 12) (.t 14) (.c (.bool false)), some (9, false)⟩,
    ⟨some 16, .pick (.t 9) (.c (.bool true)) (.t 15), none⟩,
    ⟨some 17, .mv (.t 16), none⟩,
    ⟨some 18, .mv (.t 0), some (17, false)⟩,
    ⟨some 19, .bin .eql (.t 18) (.c (.int .i32 95)), some (17, false)⟩,
    ⟨some 20, .pick (.t 17) (.c (.bool true)) (.t 19), none⟩,
    ⟨some 2, .mv (.t 20), none⟩])
  (.ret))
theorem k_name_isPart_1 : FnIs AP n_name_isPart_1 c_name_isPart_1 21 (rsT [2]) := fnIs_of (fn := Go.Proofs.Try.f67) Go.Proofs.Try.func67 (by kernel_rfl) (by kernel_rfl) (by kernel_rfl) (by kernel_rfl) (by kernel_rfl)
theorem a_name_isPart_1 {x0 : V} {H : List Entry} {K : KV} (h : Wf H → awp AP H.length c_name_isPart_1 (finW H.length (rsT [2]) K) ([x0] ++ List.replicate 20 undefV) H) : BCall AP n_name_isPart_1 [x0] H K := k_name_isPart_1.call (by kernel_rfl) h
/-- cmp.isNaN[string]: 6 slots -/
def c_cmp_isNaN_string : AC := .seq (.ops [⟨some 2, .mv (.c (.bool false)), none⟩])
  (.seq (.ops [⟨some 3, .mv (.t 0), none⟩,
    ⟨some 4, .mv (.t 0), none⟩,
    ⟨some 5, .bin .neq (.t 3) (.t 4), none⟩,
    ⟨some 2, .mv (.t 5), none⟩])
  (.ret))
theorem k_cmp_isNaN_string : FnIs AP n_cmp_isNaN_string c_cmp_isNaN_string 6 (rsT [2]) := fnIs_of (fn := Go.Proofs.Try.f68) Go.Proofs.Try.func68 (by kernel_rfl) (by kernel_rfl) (by kernel_rfl) (by kernel_rfl) (by kernel_rfl)
theorem a_cmp_isNaN_string {x0 : V} {H : List Entry} {K : KV} (h : Wf H → awp AP H.length c_cmp_isNaN_string (finW H.length (rsT [2]) K) ([x0] ++ List.replicate 5 undefV) H) : BCall AP n_cmp_isNaN_string [x0] H K := k_cmp_isNaN_string.call (by kernel_rfl) h
/-- tryst/trystref02.cut: 33 slots -/
def c_trystref02_cut : AC := .seq (.ops [⟨some 2, .mv (.c (.nilsl)), none⟩])
  (.seq (.ops [⟨some 5, .bsl 1 false [(.c (.str []))], none⟩,
    ⟨some 3, .mv (.t 5), none⟩])
  (.seq (.seq (.ops [⟨some 4, .mv (.c (.int .i64 0)), none⟩])
  (.block 0 (.loop (.seq (.seq (.ops [⟨some 6, .mv (.t 4), none⟩,
    ⟨some 7, .mv (.t 0), none⟩,
    ⟨some 8, .len 0 (.t 7), none⟩,
    ⟨some 9, .bin .lss (.t 6) (.t 8), none⟩])
  (.cond (.t 9) (.skip) (.exit 0)))
  (.seq (.block 1 (.seq (.ops [⟨some 12, .mv (.t 0), none⟩,
    ⟨some 13, .mv (.t 4), none⟩,
    ⟨some 14, .ixs (.t 12) (.t 13), none⟩,
    ⟨some 15, .bin .eql (.t 14) (.c (.int .u8 46)), none⟩])
  (.cond (.t 15) (.ops [⟨some 16, .mv (.t 3), none⟩,
    ⟨some 17, .bsl 1 false [(.c (.str []))], none⟩,
    ⟨some 18, .app 9 1 16 false (.t 16) (.t 17), none⟩,
    ⟨some 3, .mv (.t 18), none⟩]) (.draw [⟨some 19, .mv (.t 3), none⟩,
    ⟨some 20, .mv (.t 3), none⟩,
    ⟨some 21, .len 1 (.t 20), none⟩,
    ⟨some 22, .bin .sub (.t 21) (.c (.int .i64 1)), none⟩,
    ⟨some 23, .iad 1 false (.t 19) (.t 22), none⟩,
    ⟨some 24, .load 1 false (.t 23), none⟩,
    ⟨some 25, .mv (.t 0), none⟩,
    ⟨some 26, .mv (.t 4), none⟩,
    ⟨some 27, .mv (.t 4), none⟩,
    ⟨some 28, .bin .add (.t 27) (.c (.int .i64 1)), none⟩,
    ⟨some 29, .sls (.t 25) (some (.t 26)) (some (.t 28)), none⟩,
    ⟨some 30, .bin .add (.t 24) (.t 29), none⟩,
    ⟨some 31, .iad 1 false (.t 19) (.t 22), none⟩,
    ⟨none, .store 1 (.t 31) (.t 30), none⟩]))))
  (.ops [⟨some 10, .mv (.t 4), none⟩,
    ⟨some 11, .bin .add (.t 10) (.c (.int .i64 1)), none⟩,
    ⟨some 4, .mv (.t 11), none⟩]))))))
  (.seq (.ops [⟨some 32, .mv (.t 3), none⟩,
    ⟨some 2, .mv (.t 32), none⟩])
  (.ret))))
theorem k_trystref02_cut : FnIs AP n_trystref02_cut c_trystref02_cut 33 (rsT [2]) := fnIs_of (fn := Go.Proofs.Try.f69) Go.Proofs.Try.func69 (by kernel_rfl) (by kernel_rfl) (by kernel_rfl) (by kernel_rfl) (by kernel_rfl)
theorem a_trystref02_cut {x0 : V} {H : List Entry} {K : KV} (h : Wf H → awp AP H.length c_trystref02_cut (finW H.length (rsT [2]) K) ([x0] ++ List.replicate 32 undefV) H) : BCall AP n_trystref02_cut [x0] H K := k_trystref02_cut.call (by kernel_rfl) h
/-- tryst/trystref02.part: 35 slots -/
def c_trystref02_part : AC := .seq (.ops [⟨some 2, .mv (.c (.bool false)), none⟩])
  (.seq (.seq (.ops [⟨some 3, .mv (.c (.int .i64 0)), none⟩])
  (.block 0 (.loop (.seq (.seq (.ops [⟨some 5, .mv (.t 3), none⟩,
    ⟨some 6, .mv (.t 0), none⟩,
    ⟨some 7, .len 0 (.t 6), none⟩,
    ⟨some 8, .bin .lss (.t 5) (.t 7), none⟩])
  (.cond (.t 8) (.skip) (.exit 0)))
  (.seq (.block 1 (.seq (.ops [⟨some 11, .mv (.t 0), none⟩,
    ⟨some 12, .mv (.t 3), none⟩,
    ⟨some 13, .ixs (.t 11) (.t 12), none⟩,
    ⟨some 4, .mv (.t 13), none⟩])
  (.seq (.ops [⟨some 14, .mv (.t 4), none⟩,
    ⟨some 15, .bin .leq (.c (.int .u8 97)) (.t 14), none⟩,
    ⟨some 16, .mv (.t 15), none⟩,
    ⟨some 17, .mv (.t 4), some (16, true)⟩,
    ⟨some 18, .bin .leq (.t 17) (.c (.int .u8 122)), some (16, true)⟩,
    ⟨some 19, .pick (.t 16) (.t 18) (.c (.bool false)), none⟩,
    ⟨some 20, .mv (.t 19), none⟩,
    ⟨some 21, .mv (.t 4), some (20, false)⟩,
    ⟨some 22, .bin .leq (.c (.int .u8 48)) (.t 21), some (20, false)⟩,
    ⟨some 23, .mv (.t 22), some (20, false)⟩,
    ⟨some 24, .mv (.t 4), some (23, true)⟩,
    ⟨some 25, .bin .leq (.t 24) (.c (.int .u8 57)), some (23, true)⟩,
    ⟨some 26, .pick (.t 23) (.t 25) (.c (.bool false)), some (20, false)⟩,
    ⟨some 27, .pick (.t 20) (.c (.bool true)) (.t 26), none⟩,
    ⟨some 28, .mv (.t 27), none⟩,
    ⟨some 29, .mv (.t 4), some (28, false)⟩,
    ⟨some 30, .bin .eql (.t 29) (.c (.int .u8 95)), some (28, false)⟩,
    ⟨some 31, .pick (.t 28) (.c (.bool true)) (.t 30), none⟩,
    ⟨some 32, .un .not (.t 31), none⟩])
  (.cond (.t 32) (.seq (.ops [⟨some 2, .mv (.c (.bool false)), none⟩])
  (.ret)) (.skip)))))
  (.ops [⟨some 9, .mv (.t 3), none⟩,
    ⟨some 10, .bin .add (.t 9) (.c (.int .i64 1)), none⟩,
    ⟨some 3, .mv (.t 10), none⟩]))))))
  (.seq (.ops [⟨some 33, .mv (.t 0), none⟩,
    ⟨some 34, .bin .neq (.t 33) (.c (.str [])), none⟩,
    ⟨some 2, .mv (.t 34), none⟩])
  (.ret)))
theorem k_trystref02_part : FnIs AP n_trystref02_part c_trystref02_part 35 (rsT [2]) := fnIs_of (fn := Go.Proofs.Try.f70) Go.Proofs.Try.func70 (by kernel_rfl) (by kernel_rfl) (by kernel_rfl) (by kernel_rfl) (by kernel_rfl)
theorem a_trystref02_part {x0 : V} {H : List Entry} {K : KV} (h : Wf H → awp AP H.length c_trystref02_part (finW H.length (rsT [2]) K) ([x0] ++ List.replicate 34 undefV) H) : BCall AP n_trystref02_part [x0] H K := k_trystref02_part.call (by kernel_rfl) h
/-- internal/stringslite.Index: 143 slots -/
def c_internal_stringslite_Index : AC := .seq (.ops [⟨some 4, .mv (.c (.int .i64 0)), none⟩])
  (.seq (.ops [⟨some 14, .mv (.t 1), none⟩,
    ⟨some 15, .len 0 (.t 14), none⟩,
    ⟨some 5, .mv (.t 15), none⟩])
  (.seq (.block 0 (.seq (.ops [⟨some 17, .mv (.t 5), none⟩,
    ⟨some 18, .bin .eql (.t 17) (.c (.int .i64 0)), none⟩,
    ⟨some 19, .mv (.t 18), none⟩,
    ⟨some 20, .mv (.t 1), some (19, false)⟩,
    ⟨some 21, .mv (.t 0), some (19, false)⟩,
    ⟨some 22, .bin .eql (.t 20) (.t 21), some (19, false)⟩,
    ⟨some 23, .pick (.t 19) (.c (.bool true)) (.t 22), none⟩,
    ⟨some 16, .mv (.t 23), none⟩])
  (.cond (.t 16) (.seq (.ops [⟨some 4, .mv (.c (.int .i64 0)), none⟩])
  (.ret)) (.seq (.ops [⟨some 25, .mv (.t 5), none⟩,
    ⟨some 26, .bin .eql (.t 25) (.c (.int .i64 1)), none⟩,
    ⟨some 24, .mv (.t 26), none⟩])
  (.cond (.t 24) (.seq (.ops [⟨some 27, .mv (.t 0), none⟩,
    ⟨some 28, .mv (.t 1), none⟩,
    ⟨some 29, .ixs (.t 28) (.c (.int .i64 0)), none⟩,
    ⟨some 30, .call (.c (.fn n_internal_stringslite_IndexByte [] [])) [(.t 27), (.t 29)], none⟩,
    ⟨some 4, .mv (.t 30), none⟩])
  (.ret)) (.seq (.ops [⟨some 32, .mv (.t 5), none⟩,
    ⟨some 33, .mv (.t 0), none⟩,
    ⟨some 34, .len 0 (.t 33), none⟩,
    ⟨some 35, .bin .geq (.t 32) (.t 34), none⟩,
    ⟨some 31, .mv (.t 35), none⟩])
  (.cond (.t 31) (.seq (.ops [⟨some 4, .mv (.c (.int .i64 (-1))), none⟩])
  (.ret)) (.seq (.bad)
  (.cond (.t 36) (.seq (.ops [⟨some 45, .mv (.t 0), none⟩,
    ⟨some 46, .mv (.t 1), none⟩,
    ⟨some 47, .call (.c (.fn n_internal_bytealg_IndexString [] [])) [(.t 45), (.t 46)], none⟩,
    ⟨some 4, .mv (.t 47), none⟩])
  (.ret)) (.skip))))))))))
  (.seq (.ops [⟨some 48, .mv (.t 1), none⟩,
    ⟨some 49, .ixs (.t 48) (.c (.int .i64 0)), none⟩,
    ⟨some 6, .mv (.t 49), none⟩])
  (.seq (.ops [⟨some 50, .mv (.t 1), none⟩,
    ⟨some 51, .ixs (.t 50) (.c (.int .i64 1)), none⟩,
    ⟨some 7, .mv (.t 51), none⟩])
  (.seq (.ops [⟨some 8, .mv (.c (.int .i64 0)), none⟩])
  (.seq (.ops [⟨some 52, .mv (.t 0), none⟩,
    ⟨some 53, .len 0 (.t 52), none⟩,
    ⟨some 54, .mv (.t 5), none⟩,
    ⟨some 55, .bin .sub (.t 53) (.t 54), none⟩,
    ⟨some 56, .bin .add (.t 55) (.c (.int .i64 1)), none⟩,
    ⟨some 9, .mv (.t 56), none⟩])
  (.seq (.ops [⟨some 10, .mv (.c (.int .i64 0)), none⟩])
  (.seq (.block 1 (.loop (.seq (.seq (.ops [⟨some 57, .mv (.t 8), none⟩,
    ⟨some 58, .mv (.t 9), none⟩,
    ⟨some 59, .bin .lss (.t 57) (.t 58), none⟩])
  (.cond (.t 59) (.skip) (.exit 1)))
  (.block 2 (.seq (.seq (.ops [⟨some 60, .mv (.t 0), none⟩,
    ⟨some 61, .mv (.t 8), none⟩,
    ⟨some 62, .ixs (.t 60) (.t 61), none⟩,
    ⟨some 63, .mv (.t 6), none⟩,
    ⟨some 64, .bin .neq (.t 62) (.t 63), none⟩])
  (.cond (.t 64) (.seq (.ops [⟨some 65, .mv (.t 0), none⟩,
    ⟨some 66, .mv (.t 8), none⟩,
    ⟨some 67, .bin .add (.t 66) (.c (.int .i64 1)), none⟩,
    ⟨some 68, .mv (.t 9), none⟩,
    ⟨some 69, .sls (.t 65) (some (.t 67)) (some (.t 68)), none⟩,
    ⟨some 70, .mv (.t 6), none⟩,
    ⟨some 71, .call (.c (.fn n_internal_stringslite_IndexByte [] [])) [(.t 69), (.t 70)], none⟩,
    ⟨some 11, .mv (.t 71), none⟩])
  (.seq (.seq (.ops [⟨some 72, .mv (.t 11), none⟩,
    ⟨some 73, .bin .lss (.t 72) (.c (.int .i64 0)), none⟩])
  (.cond (.t 73) (.seq (.ops [⟨some 4, .mv (.c (.int .i64 (-1))), none⟩])
  (.ret)) (.skip)))
  (.ops [⟨some 74, .mv (.t 8), none⟩,
    ⟨some 75, .mv (.t 11), none⟩,
    ⟨some 76, .bin .add (.t 75) (.c (.int .i64 1)), none⟩,
    ⟨some 77, .bin .add (.t 74) (.t 76), none⟩,
    ⟨some 8, .mv (.t 77), none⟩]))) (.skip)))
  (.seq (.seq (.ops [⟨some 78, .mv (.t 0), none⟩,
    ⟨some 79, .mv (.t 8), none⟩,
    ⟨some 80, .bin .add (.t 79) (.c (.int .i64 1)), none⟩,
    ⟨some 81, .ixs (.t 78) (.t 80), none⟩,
    ⟨some 82, .mv (.t 7), none⟩,
    ⟨some 83, .bin .eql (.t 81) (.t 82), none⟩,
    ⟨some 84, .mv (.t 83), none⟩,
    ⟨some 85, .mv (.t 0), some (84, true)⟩,
    ⟨some 86, .mv (.t 8), some (84, true)⟩,
    ⟨some 87, .mv (.t 8), some (84, true)⟩,
    ⟨some 88, .mv (.t 5), some (84, true)⟩,
    ⟨some 89, .bin .add (.t 87) (.t 88), some (84, true)⟩,
    ⟨some 90, .sls (.t 85) (some (.t 86)) (some (.t 89)), some (84, true)⟩,
    ⟨some 91, .mv (.t 1), some (84, true)⟩,
    ⟨some 92, .bin .eql (.t 90) (.t 91), some (84, true)⟩,
    ⟨some 93, .pick (.t 84) (.t 92) (.c (.bool false)), none⟩])
  (.cond (.t 93) (.seq (.ops [⟨some 94, .mv (.t 8), none⟩,
    ⟨some 4, .mv (.t 94), none⟩])
  (.ret)) (.skip)))
  (.seq (.ops [⟨some 95, .mv (.t 8), none⟩,
    ⟨some 96, .bin .add (.t 95) (.c (.int .i64 1)), none⟩,
    ⟨some 8, .mv (.t 96), none⟩])
  (.seq (.ops [⟨some 97, .mv (.t 10), none⟩,
    ⟨some 98, .bin .add (.t 97) (.c (.int .i64 1)), none⟩,
    ⟨some 10, .mv (.t 98), none⟩])
  (.seq (.bad)
  (.cond (.t 107) (.seq (.ops [⟨some 108, .mv (.t 0), none⟩,
    ⟨some 109, .mv (.t 8), none⟩,
    ⟨some 110, .sls (.t 108) (some (.t 109)) none, none⟩,
    ⟨some 111, .mv (.t 1), none⟩,
    ⟨some 112, .call (.c (.fn n_internal_bytealg_IndexString [] [])) [(.t 110), (.t 111)], none⟩,
    ⟨some 12, .mv (.t 112), none⟩])
  (.seq (.seq (.ops [⟨some 113, .mv (.t 12), none⟩,
    ⟨some 114, .bin .geq (.t 113) (.c (.int .i64 0)), none⟩])
  (.cond (.t 114) (.seq (.ops [⟨some 115, .mv (.t 12), none⟩,
    ⟨some 116, .mv (.t 8), none⟩,
    ⟨some 117, .bin .add (.t 115) (.t 116), none⟩,
    ⟨some 4, .mv (.t 117), none⟩])
  (.ret)) (.skip)))
  (.seq (.ops [⟨some 4, .mv (.c (.int .i64 (-1))), none⟩])
  (.ret)))) (.seq (.bad)
  (.cond (.t 132) (.seq (.ops [⟨some 133, .mv (.t 0), none⟩,
    ⟨some 134, .mv (.t 8), none⟩,
    ⟨some 135, .sls (.t 133) (some (.t 134)) none, none⟩,
    ⟨some 136, .mv (.t 1), none⟩,
    ⟨some 137, .call (.c (.fn n_internal_bytealg_IndexRabinKarp_string [] [])) [(.t 135), (.t 136)], none⟩,
    ⟨some 13, .mv (.t 137), none⟩])
  (.seq (.seq (.ops [⟨some 138, .mv (.t 13), none⟩,
    ⟨some 139, .bin .lss (.t 138) (.c (.int .i64 0)), none⟩])
  (.cond (.t 139) (.seq (.ops [⟨some 4, .mv (.c (.int .i64 (-1))), none⟩])
  (.ret)) (.skip)))
  (.seq (.ops [⟨some 140, .mv (.t 8), none⟩,
    ⟨some 141, .mv (.t 13), none⟩,
    ⟨some 142, .bin .add (.t 140) (.t 141), none⟩,
    ⟨some 4, .mv (.t 142), none⟩])
  (.ret)))) (.skip)))))))))))))
  (.seq (.ops [⟨some 4, .mv (.c (.int .i64 (-1))), none⟩])
  (.ret))))))))))
theorem k_internal_stringslite_Index : FnIs AP n_internal_stringslite_Index c_internal_stringslite_Index 143 (rsT [4]) := fnIs_of (fn := Go.Proofs.Try.f71) Go.Proofs.Try.func71 (by kernel_rfl) (by kernel_rfl) (by kernel_rfl) (by kernel_rfl) (by kernel_rfl)
theorem a_internal_stringslite_Index {x0 x1 : V} {H : List Entry} {K : KV} (h : Wf H → awp AP H.length c_internal_stringslite_Index (finW H.length (rsT [4]) K) ([x0, x1] ++ List.replicate 141 undefV) H) : BCall AP n_internal_stringslite_Index [x0, x1] H K := k_internal_stringslite_Index.call (by kernel_rfl) h
-- 71 internal/stringslite.Index: [strings.go:37, strings.go:61, strings.go:68]
/-- math/bits.Len64: 25 slots -/
def c_math_bits_Len64 : AC := .seq (.ops [⟨some 2, .mv (.c (.int .i64 0)), none⟩])
  (.seq (.seq (.ops [⟨some 3, .mv (.t 0), none⟩,
    ⟨some 4, .bin .geq (.t 3) (.c (.int .u64 4294967296)), none⟩])
  (.cond (.t 4) (.seq (.ops [⟨some 5, .mv (.t 0), none⟩,
    ⟨some 6, .bin .shr (.t 5) (.c (.int .u64 32)), none⟩,
    ⟨some 0, .mv (.t 6), none⟩])
  (.ops [⟨some 2, .mv (.c (.int .i64 32)), none⟩])) (.skip)))
  (.seq (.seq (.ops [⟨some 7, .mv (.t 0), none⟩,
    ⟨some 8, .bin .geq (.t 7) (.c (.int .u64 65536)), none⟩])
  (.cond (.t 8) (.seq (.ops [⟨some 9, .mv (.t 0), none⟩,
    ⟨some 10, .bin .shr (.t 9) (.c (.int .u64 16)), none⟩,
    ⟨some 0, .mv (.t 10), none⟩])
  (.ops [⟨some 11, .mv (.t 2), none⟩,
    ⟨some 12, .bin .add (.t 11) (.c (.int .i64 16)), none⟩,
    ⟨some 2, .mv (.t 12), none⟩])) (.skip)))
  (.seq (.seq (.ops [⟨some 13, .mv (.t 0), none⟩,
    ⟨some 14, .bin .geq (.t 13) (.c (.int .u64 256)), none⟩])
  (.cond (.t 14) (.seq (.ops [⟨some 15, .mv (.t 0), none⟩,
    ⟨some 16, .bin .shr (.t 15) (.c (.int .u64 8)), none⟩,
    ⟨some 0, .mv (.t 16), none⟩])
  (.ops [⟨some 17, .mv (.t 2), none⟩,
    ⟨some 18, .bin .add (.t 17) (.c (.int .i64 8)), none⟩,
    ⟨some 2, .mv (.t 18), none⟩])) (.skip)))
  (.seq (.ops [⟨some 19, .mv (.t 2), none⟩,
    ⟨some 20, .mv (.t 0), none⟩,
    ⟨some 21, .cvi .u8 (.t 20), none⟩,
    ⟨some 22, .ixs (.c (.str [0, 1, 2, 2, 3, 3, 3, 3, 4, 4, 4, 4, 4, 4, 4, 4, 5, 5, 5, 5, 5, 5, 5, 5, 5, 5, 5, 5, 5, 5, 5, 5, 6, 6, 6, 6, 6, 6, 6, 6, 6, 6, 6, 6, 6, 6, 6, 6, 6, 6, 6, 6, 6, 6, 6, 6, 6, 6, 6, 6, 6, 6, 6, 6, 7, 7, 7, 7, 7, 7, 7, 7, 7, 7, 7, 7, 7, 7, 7, 7, 7, 7, 7, 7, 7, 7, 7, 7, 7, 7, 7, 7, 7, 7, 7, 7, 7, 7, 7, 7, 7, 7, 7, 7, 7, 7, 7, 7, 7, 7, 7, 7, 7, 7, 7, 7, 7, 7, 7, 7, 7, 7, 7, 7, 7, 7, 7, 7, 8, 8, 8, 8, 8, 8, 8, 8, 8, 8, 8, 8, 8, 8, 8, 8, 8, 8, 8, 8, 8, 8, 8, 8, 8, 8, 8, 8, 8, 8, 8, 8, 8, 8, 8, 8, 8, 8, 8, 8, 8, 8, 8, 8, 8, 8, 8, 8, 8, 8, 8, 8, 8, 8, 8, 8, 8, 8, 8, 8, 8, 8, 8, 8, 8, 8, 8, 8, 8, 8, 8, 8, 8, 8, 8, 8, 8, 8, 8, 8, 8, 8, 8, 8, 8, 8, 8, 8, 8, 8, 8, 8, 8, 8, 8, 8, 8, 8, 8, 8, 8, 8, 8, 8, 8, 8, 8, 8, 8, 8, 8, 8, 8, 8, 8, 8, 8, 8, 8, 8, 8, 8, 8, 8, 8, 8, 8, 8])) (.t 21), none⟩,
    ⟨some 23, .cvi .i64 (.t 22), none⟩,
    ⟨some 24, .bin .add (.t 19) (.t 23), none⟩,
    ⟨some 2, .mv (.t 24), none⟩])
  (.ret)))))
theorem k_math_bits_Len64 : FnIs AP n_math_bits_Len64 c_math_bits_Len64 25 (rsT [2]) := fnIs_of (fn := Go.Proofs.Try.f72) Go.Proofs.Try.func72 (by kernel_rfl) (by kernel_rfl) (by kernel_rfl) (by kernel_rfl) (by kernel_rfl)
theorem a_math_bits_Len64 {x0 : V} {H : List Entry} {K : KV} (h : Wf H → awp AP H.length c_math_bits_Len64 (finW H.length (rsT [2]) K) ([x0] ++ List.replicate 24 undefV) H) : BCall AP n_math_bits_Len64 [x0] H K := k_math_bits_Len64.call (by kernel_rfl) h
/-- tryst/num.Unpack: 40 slots -/
def c_num_Unpack : AC := .seq (.ops [⟨some 2, .mv (.c (.int .u64 0)), none⟩,
    ⟨some 3, .mv (.c (.int .i64 0)), none⟩,
    ⟨some 4, .mv (.c (.int .i64 0)), none⟩])
  (.seq (.ops [⟨some 5, .mv (.c (.int .u64 0)), none⟩])
  (.seq (.seq (.ops [⟨some 7, .mv (.t 0), none⟩,
    ⟨some 8, .len 0 (.t 7), none⟩,
    ⟨some 9, .mnx true [(.t 8), (.c (.int .i64 10))], none⟩,
    ⟨some 10, .mv (.c (.int .i64 0)), none⟩])
  (.block 0 (.loop (.seq (.ops [⟨some 11, .bin .lss (.t 10) (.t 9), none⟩])
  (.seq (.cond (.t 11) (.skip) (.exit 0))
  (.seq (.block 1 (.seq (.ops [⟨some 12, .mv (.t 10), none⟩,
    ⟨some 6, .mv (.t 12), none⟩])
  (.seq (.ops [⟨some 13, .mv (.t 5), none⟩,
    ⟨some 14, .mv (.t 0), none⟩,
    ⟨some 15, .mv (.t 6), none⟩,
    ⟨some 16, .ixs (.t 14) (.t 15), none⟩,
    ⟨some 17, .bin .and (.t 16) (.c (.int .u8 127)), none⟩,
    ⟨some 18, .cvi .u64 (.t 17), none⟩,
    ⟨some 19, .mv (.t 6), none⟩,
    ⟨some 20, .bin .mul (.c (.int .i64 7)) (.t 19), none⟩,
    ⟨some 21, .bin .shl (.t 18) (.t 20), none⟩,
    ⟨some 22, .bin .or (.t 13) (.t 21), none⟩,
    ⟨some 5, .mv (.t 22), none⟩])
  (.seq (.seq (.ops [⟨some 23, .mv (.t 0), none⟩,
    ⟨some 24, .mv (.t 6), none⟩,
    ⟨some 25, .ixs (.t 23) (.t 24), none⟩,
    ⟨some 26, .bin .geq (.t 25) (.c (.int .u8 128)), none⟩])
  (.cond (.t 26) (.exit 1) (.skip)))
  (.seq (.seq (.ops [⟨some 27, .mv (.t 6), none⟩,
    ⟨some 28, .mv (.t 0), none⟩,
    ⟨some 29, .mv (.t 6), none⟩,
    ⟨some 30, .ixs (.t 28) (.t 29), none⟩,
    ⟨some 31, .call (.c (.fn n_num_mayEnd [] [])) [(.t 27), (.t 30)], none⟩,
    ⟨some 32, .un .not (.t 31), none⟩])
  (.cond (.t 32) (.seq (.ops [⟨some 2, .mv (.c (.int .u64 0)), none⟩,
    ⟨some 3, .mv (.c (.int .i64 0)), none⟩,
    ⟨some 4, .mv (.c (.int .i64 2)), none⟩])
  (.ret)) (.skip)))
  (.seq (.ops [⟨some 33, .mv (.t 5), none⟩,
    ⟨some 34, .mv (.t 6), none⟩,
    ⟨some 35, .bin .add (.t 34) (.c (.int .i64 1)), none⟩,
    ⟨some 2, .mv (.t 33), none⟩,
    ⟨some 3, .mv (.t 35), none⟩,
    ⟨some 4, .mv (.c (.int .i64 0)), none⟩])
  (.ret)))))))
  (.ops [⟨some 36, .bin .add (.t 10) (.c (.int .i64 1)), none⟩,
    ⟨some 10, .mv (.t 36), none⟩])))))))
  (.seq (.seq (.ops [⟨some 37, .mv (.t 0), none⟩,
    ⟨some 38, .len 0 (.t 37), none⟩,
    ⟨some 39, .bin .lss (.t 38) (.c (.int .i64 10)), none⟩])
  (.cond (.t 39) (.seq (.ops [⟨some 2, .mv (.c (.int .u64 0)), none⟩,
    ⟨some 3, .mv (.c (.int .i64 0)), none⟩,
    ⟨some 4, .mv (.c (.int .i64 3)), none⟩])
  (.ret)) (.skip)))
  (.seq (.ops [⟨some 2, .mv (.c (.int .u64 0)), none⟩,
    ⟨some 3, .mv (.c (.int .i64 0)), none⟩,
    ⟨some 4, .mv (.c (.int .i64 2)), none⟩])
  (.ret)))))
theorem k_num_Unpack : FnIs AP n_num_Unpack c_num_Unpack 40 (rsT [2, 3, 4]) := fnIs_of (fn := Go.Proofs.Try.f73) Go.Proofs.Try.func73 (by kernel_rfl) (by kernel_rfl) (by kernel_rfl) (by kernel_rfl) (by kernel_rfl)
theorem a_num_Unpack {x0 : V} {H : List Entry} {K : KV} (h : Wf H → awp AP H.length c_num_Unpack (finW H.length (rsT [2, 3, 4]) K) ([x0] ++ List.replicate 39 undefV) H) : BCall AP n_num_Unpack [x0] H K := k_num_Unpack.call (by kernel_rfl) h
/-- tryst/val.Take: 47 slots -/
def c_val_Take : AC := .seq (.ops [⟨some 2, .alloc [.bool false, .int .i64 0, .str []], none⟩,
    ⟨some 3, .mv (.c (.int .i64 0)), none⟩,
    ⟨some 4, .mv (.c (.int .i64 0)), none⟩])
  (.seq (.seq (.ops [⟨some 9, .mv (.t 0), none⟩,
    ⟨some 10, .bin .eql (.t 9) (.c (.str [])), none⟩])
  (.cond (.t 10) (.seq (.ops [⟨some 11, .build [.bool false, .int .i64 0, .str []] [], none⟩,
    ⟨none, .store 3 (.t 2) (.t 11), none⟩,
    ⟨some 3, .mv (.c (.int .i64 0)), none⟩,
    ⟨some 4, .mv (.c (.int .i64 3)), none⟩])
  (.ret)) (.skip)))
  (.seq (.ops [⟨some 12, .mv (.t 0), none⟩,
    ⟨some 13, .sls (.t 12) none (some (.c (.int .i64 1))), none⟩,
    ⟨some 5, .mv (.t 13), none⟩])
  (.seq (.seq (.ops [⟨some 14, .mv (.t 5), none⟩,
    ⟨some 15, .bin .neq (.t 14) (.c (.str [1])), none⟩,
    ⟨some 16, .mv (.t 15), none⟩,
    ⟨some 17, .mv (.t 5), some (16, true)⟩,
    ⟨some 18, .bin .neq (.t 17) (.c (.str [2])), some (16, true)⟩,
    ⟨some 19, .pick (.t 16) (.t 18) (.c (.bool false)), none⟩])
  (.cond (.t 19) (.seq (.ops [⟨some 20, .build [.bool false, .int .i64 0, .str []] [], none⟩,
    ⟨none, .store 3 (.t 2) (.t 20), none⟩,
    ⟨some 3, .mv (.c (.int .i64 0)), none⟩,
    ⟨some 4, .mv (.c (.int .i64 2)), none⟩])
  (.ret)) (.skip)))
  (.seq (.ops [⟨some 22, .mv (.t 0), none⟩,
    ⟨some 23, .sls (.t 22) (some (.c (.int .i64 1))) none, none⟩,
    ⟨some 24, .call (.c (.fn n_num_Unpack [] [])) [(.t 23)], none⟩,
    ⟨some 21, .mv (.t 24), none⟩,
    ⟨some 25, .ext (.t 21) 0, none⟩,
    ⟨some 26, .ext (.t 21) 1, none⟩,
    ⟨some 27, .ext (.t 21) 2, none⟩,
    ⟨some 6, .mv (.t 25), none⟩,
    ⟨some 7, .mv (.t 26), none⟩,
    ⟨some 8, .mv (.t 27), none⟩])
  (.seq (.seq (.ops [⟨some 28, .mv (.t 8), none⟩,
    ⟨some 29, .bin .neq (.t 28) (.c (.int .i64 0)), none⟩])
  (.cond (.t 29) (.seq (.ops [⟨some 30, .build [.bool false, .int .i64 0, .str []] [], none⟩,
    ⟨some 31, .mv (.t 8), none⟩,
    ⟨none, .store 3 (.t 2) (.t 30), none⟩,
    ⟨some 3, .mv (.c (.int .i64 0)), none⟩,
    ⟨some 4, .mv (.t 31), none⟩])
  (.ret)) (.skip)))
  (.seq (.seq (.ops [⟨some 32, .mv (.t 5), none⟩,
    ⟨some 33, .bin .eql (.t 32) (.c (.str [1])), none⟩])
  (.cond (.t 33) (.seq (.ops [⟨some 34, .mv (.t 6), none⟩,
    ⟨some 35, .call (.c (.fn n_num_Unfold [] [])) [(.t 34)], none⟩,
    ⟨some 36, .build [.bool false, .int .i64 0, .str []] [(0, 1, (.c (.bool true))), (1, 1, (.t 35))], none⟩,
    ⟨some 37, .mv (.t 7), none⟩,
    ⟨some 38, .bin .add (.c (.int .i64 1)) (.t 37), none⟩,
    ⟨none, .store 3 (.t 2) (.t 36), none⟩,
    ⟨some 3, .mv (.t 38), none⟩,
    ⟨some 4, .mv (.c (.int .i64 0)), none⟩])
  (.ret)) (.skip)))
  (.seq (.ops [⟨some 39, .mv (.t 0), none⟩,
    ⟨some 40, .mv (.t 7), none⟩,
    ⟨some 41, .bin .add (.c (.int .i64 1)) (.t 40), none⟩,
    ⟨some 42, .mv (.t 6), none⟩,
    ⟨some 43, .call (.c (.fn n_val_takeText [] [])) [(.t 39), (.t 41), (.t 42)], none⟩,
    ⟨some 44, .ext (.t 43) 0, none⟩,
    ⟨some 45, .ext (.t 43) 1, none⟩,
    ⟨some 46, .ext (.t 43) 2, none⟩,
    ⟨none, .store 3 (.t 2) (.t 44), none⟩,
    ⟨some 3, .mv (.t 45), none⟩,
    ⟨some 4, .mv (.t 46), none⟩])
  (.ret))))))))
theorem k_val_Take : FnIs AP n_val_Take c_val_Take 47 [.cell 2 3 true, .tmp 3, .tmp 4] := fnIs_of (fn := Go.Proofs.Try.f74) Go.Proofs.Try.func74 (by kernel_rfl) (by kernel_rfl) (by kernel_rfl) (by kernel_rfl) (by kernel_rfl)
theorem a_val_Take {x0 : V} {H : List Entry} {K : KV} (h : Wf H → awp AP H.length c_val_Take (finW H.length [.cell 2 3 true, .tmp 3, .tmp 4] K) ([x0] ++ List.replicate 46 undefV) H) : BCall AP n_val_Take [x0] H K := k_val_Take.call (by kernel_rfl) h
/-- slices.Grow[[]tryst/api.Field,tryst/api.Field]: 27 slots -/
def c_slices_Grow_api_Field_api_Field : AC := .seq (.ops [⟨some 4, .mv (.c (.nilsl)), none⟩])
  (.seq (.seq (.ops [⟨some 5, .mv (.t 1), none⟩,
    ⟨some 6, .bin .lss (.t 5) (.c (.int .i64 0)), none⟩])
  (.cond (.t 6) (.bad) (.skip)))
  (.seq (.seq (.bad)
  (.seq (.ops [⟨some 15, .mv (.t 1), none⟩,
    ⟨some 16, .bin .gtr (.t 15) (.c (.int .i64 0)), none⟩])
  (.cond (.t 16) (.bad) (.skip))))
  (.seq (.ops [⟨some 26, .mv (.t 0), none⟩,
    ⟨some 4, .mv (.t 26), none⟩])
  (.ret))))
theorem k_slices_Grow_api_Field_api_Field : FnIs AP n_slices_Grow_api_Field_api_Field c_slices_Grow_api_Field_api_Field 27 (rsT [4]) := fnIs_of (fn := Go.Proofs.Try.f75) Go.Proofs.Try.func75 (by kernel_rfl) (by kernel_rfl) (by kernel_rfl) (by kernel_rfl) (by kernel_rfl)
theorem a_slices_Grow_api_Field_api_Field {x0 x1 : V} {H : List Entry} {K : KV} (h : Wf H → awp AP H.length c_slices_Grow_api_Field_api_Field (finW H.length (rsT [4]) K) ([x0, x1] ++ List.replicate 25 undefV) H) : BCall AP n_slices_Grow_api_Field_api_Field [x0, x1] H K := k_slices_Grow_api_Field_api_Field.call (by kernel_rfl) h
-- 75 slices.Grow[[]tryst/api.Field,tryst/api.Field]: [slices.go:424, slices.go:424, slices.go:426, slices.go:428, slices.go:428]
/-- internal/stringslite.IndexByte: 8 slots -/
def c_internal_stringslite_IndexByte : AC := .seq (.ops [⟨some 4, .mv (.c (.int .i64 0)), none⟩])
  (.seq (.ops [⟨some 5, .mv (.t 0), none⟩,
    ⟨some 6, .mv (.t 1), none⟩,
    ⟨some 7, .call (.c (.fn n_internal_bytealg_IndexByteString [] [])) [(.t 5), (.t 6)], none⟩,
    ⟨some 4, .mv (.t 7), none⟩])
  (.ret))
theorem k_internal_stringslite_IndexByte : FnIs AP n_internal_stringslite_IndexByte c_internal_stringslite_IndexByte 8 (rsT [4]) := fnIs_of (fn := Go.Proofs.Try.f76) Go.Proofs.Try.func76 (by kernel_rfl) (by kernel_rfl) (by kernel_rfl) (by kernel_rfl) (by kernel_rfl)
theorem a_internal_stringslite_IndexByte {x0 x1 : V} {H : List Entry} {K : KV} (h : Wf H → awp AP H.length c_internal_stringslite_IndexByte (finW H.length (rsT [4]) K) ([x0, x1] ++ List.replicate 6 undefV) H) : BCall AP n_internal_stringslite_IndexByte [x0, x1] H K := k_internal_stringslite_IndexByte.call (by kernel_rfl) h
/-- internal/bytealg.Cutover: 6 slots -/
def c_internal_bytealg_Cutover : AC := .seq (.ops [⟨some 2, .mv (.c (.int .i64 0)), none⟩])
  (.seq (.ops [⟨some 3, .mv (.t 0), none⟩,
    ⟨some 4, .bin .add (.t 3) (.c (.int .i64 16)), none⟩,
    ⟨some 5, .bin .quo (.t 4) (.c (.int .i64 8)), none⟩,
    ⟨some 2, .mv (.t 5), none⟩])
  (.ret))
theorem k_internal_bytealg_Cutover : FnIs AP n_internal_bytealg_Cutover c_internal_bytealg_Cutover 6 (rsT [2]) := fnIs_of (fn := Go.Proofs.Try.f78) Go.Proofs.Try.func78 (by kernel_rfl) (by kernel_rfl) (by kernel_rfl) (by kernel_rfl) (by kernel_rfl)
theorem a_internal_bytealg_Cutover {x0 : V} {H : List Entry} {K : KV} (h : Wf H → awp AP H.length c_internal_bytealg_Cutover (finW H.length (rsT [2]) K) ([x0] ++ List.replicate 5 undefV) H) : BCall AP n_internal_bytealg_Cutover [x0] H K := k_internal_bytealg_Cutover.call (by kernel_rfl) h
/-- internal/bytealg.IndexRabinKarp[string]: 81 slots -/
def c_internal_bytealg_IndexRabinKarp_string : AC := .seq (.ops [⟨some 4, .mv (.c (.int .i64 0)), none⟩])
  (.seq (.ops [⟨some 12, .mv (.t 1), none⟩,
    ⟨some 13, .call (.c (.fn n_internal_bytealg_hashStr_string [] [])) [(.t 12)], none⟩,
    ⟨some 11, .mv (.t 13), none⟩,
    ⟨some 14, .ext (.t 11) 0, none⟩,
    ⟨some 15, .ext (.t 11) 1, none⟩,
    ⟨some 5, .mv (.t 14), none⟩,
    ⟨some 6, .mv (.t 15), none⟩])
  (.seq (.ops [⟨some 16, .mv (.t 1), none⟩,
    ⟨some 17, .len 0 (.t 16), none⟩,
    ⟨some 7, .mv (.t 17), none⟩])
  (.seq (.ops [⟨some 8, .mv (.c (.int .u32 0)), none⟩])
  (.seq (.seq (.ops [⟨some 9, .mv (.c (.int .i64 0)), none⟩])
  (.block 0 (.loop (.seq (.seq (.ops [⟨some 18, .mv (.t 9), none⟩,
    ⟨some 19, .mv (.t 7), none⟩,
    ⟨some 20, .bin .lss (.t 18) (.t 19), none⟩])
  (.cond (.t 20) (.skip) (.exit 0)))
  (.seq (.block 1 (.ops [⟨some 23, .mv (.t 8), none⟩,
    ⟨some 24, .bin .mul (.t 23) (.c (.int .u32 16777619)), none⟩,
    ⟨some 25, .mv (.t 0), none⟩,
    ⟨some 26, .mv (.t 9), none⟩,
    ⟨some 27, .ixs (.t 25) (.t 26), none⟩,
    ⟨some 28, .cvi .u32 (.t 27), none⟩,
    ⟨some 29, .bin .add (.t 24) (.t 28), none⟩,
    ⟨some 8, .mv (.t 29), none⟩]))
  (.ops [⟨some 21, .mv (.t 9), none⟩,
    ⟨some 22, .bin .add (.t 21) (.c (.int .i64 1)), none⟩,
    ⟨some 9, .mv (.t 22), none⟩]))))))
  (.seq (.seq (.ops [⟨some 30, .mv (.t 8), none⟩,
    ⟨some 31, .mv (.t 5), none⟩,
    ⟨some 32, .bin .eql (.t 30) (.t 31), none⟩,
    ⟨some 33, .mv (.t 32), none⟩,
    ⟨some 34, .mv (.t 0), some (33, true)⟩,
    ⟨some 35, .mv (.t 7), some (33, true)⟩,
    ⟨some 36, .sls (.t 34) none (some (.t 35)), some (33, true)⟩,
    ⟨some 37, .mv (.t 1), some (33, true)⟩,
    ⟨some 38, .bin .eql (.t 36) (.t 37), some (33, true)⟩,
    ⟨some 39, .pick (.t 33) (.t 38) (.c (.bool false)), none⟩])
  (.cond (.t 39) (.seq (.ops [⟨some 4, .mv (.c (.int .i64 0)), none⟩])
  (.ret)) (.skip)))
  (.seq (.seq (.ops [⟨some 40, .mv (.t 7), none⟩,
    ⟨some 10, .mv (.t 40), none⟩])
  (.block 2 (.loop (.seq (.seq (.ops [⟨some 41, .mv (.t 10), none⟩,
    ⟨some 42, .mv (.t 0), none⟩,
    ⟨some 43, .len 0 (.t 42), none⟩,
    ⟨some 44, .bin .lss (.t 41) (.t 43), none⟩])
  (.cond (.t 44) (.skip) (.exit 2)))
  (.block 3 (.seq (.ops [⟨some 45, .mv (.t 8), none⟩,
    ⟨some 46, .bin .mul (.t 45) (.c (.int .u32 16777619)), none⟩,
    ⟨some 8, .mv (.t 46), none⟩])
  (.seq (.ops [⟨some 47, .mv (.t 8), none⟩,
    ⟨some 48, .mv (.t 0), none⟩,
    ⟨some 49, .mv (.t 10), none⟩,
    ⟨some 50, .ixs (.t 48) (.t 49), none⟩,
    ⟨some 51, .cvi .u32 (.t 50), none⟩,
    ⟨some 52, .bin .add (.t 47) (.t 51), none⟩,
    ⟨some 8, .mv (.t 52), none⟩])
  (.seq (.ops [⟨some 53, .mv (.t 8), none⟩,
    ⟨some 54, .mv (.t 6), none⟩,
    ⟨some 55, .mv (.t 0), none⟩,
    ⟨some 56, .mv (.t 10), none⟩,
    ⟨some 57, .mv (.t 7), none⟩,
    ⟨some 58, .bin .sub (.t 56) (.t 57), none⟩,
    ⟨some 59, .ixs (.t 55) (.t 58), none⟩,
    ⟨some 60, .cvi .u32 (.t 59), none⟩,
    ⟨some 61, .bin .mul (.t 54) (.t 60), none⟩,
    ⟨some 62, .bin .sub (.t 53) (.t 61), none⟩,
    ⟨some 8, .mv (.t 62), none⟩])
  (.seq (.ops [⟨some 63, .mv (.t 10), none⟩,
    ⟨some 64, .bin .add (.t 63) (.c (.int .i64 1)), none⟩,
    ⟨some 10, .mv (.t 64), none⟩])
  (.seq (.ops [⟨some 65, .mv (.t 8), none⟩,
    ⟨some 66, .mv (.t 5), none⟩,
    ⟨some 67, .bin .eql (.t 65) (.t 66), none⟩,
    ⟨some 68, .mv (.t 67), none⟩,
    ⟨some 69, .mv (.t 0), some (68, true)⟩,
    ⟨some 70, .mv (.t 10), some (68, true)⟩,
    ⟨some 71, .mv (.t 7), some (68, true)⟩,
    ⟨some 72, .bin .sub (.t 70) (.t 71), some (68, true)⟩,
    ⟨some 73, .mv (.t 10), some (68, true)⟩,
    ⟨some 74, .sls (.t 69) (some (.t 72)) (some (.t 73)), some (68, true)⟩,
    ⟨some 75, .mv (.t 1), some (68, true)⟩,
    ⟨some 76, .bin .eql (.t 74) (.t 75), some (68, true)⟩,
    ⟨some 77, .pick (.t 68) (.t 76) (.c (.bool false)), none⟩])
  (.cond (.t 77) (.seq (.ops [⟨some 78, .mv (.t 10), none⟩,
    ⟨some 79, .mv (.t 7), none⟩,
    ⟨some 80, .bin .sub (.t 78) (.t 79), none⟩,
    ⟨some 4, .mv (.t 80), none⟩])
  (.ret)) (.skip))))))))))))
  (.seq (.ops [⟨some 4, .mv (.c (.int .i64 (-1))), none⟩])
  (.ret))))))))
theorem k_internal_bytealg_IndexRabinKarp_string : FnIs AP n_internal_bytealg_IndexRabinKarp_string c_internal_bytealg_IndexRabinKarp_string 81 (rsT [4]) := fnIs_of (fn := Go.Proofs.Try.f79) Go.Proofs.Try.func79 (by kernel_rfl) (by kernel_rfl) (by kernel_rfl) (by kernel_rfl) (by kernel_rfl)
theorem a_internal_bytealg_IndexRabinKarp_string {x0 x1 : V} {H : List Entry} {K : KV} (h : Wf H → awp AP H.length c_internal_bytealg_IndexRabinKarp_string (finW H.length (rsT [4]) K) ([x0, x1] ++ List.replicate 79 undefV) H) : BCall AP n_internal_bytealg_IndexRabinKarp_string [x0, x1] H K := k_internal_bytealg_IndexRabinKarp_string.call (by kernel_rfl) h
/-- tryst/num.mayEnd: 15 slots -/
def c_num_mayEnd : AC := .seq (.ops [⟨some 4, .mv (.c (.bool false)), none⟩])
  (.seq (.seq (.ops [⟨some 5, .mv (.t 0), none⟩,
    ⟨some 6, .bin .eql (.t 5) (.c (.int .i64 9)), none⟩])
  (.cond (.t 6) (.seq (.ops [⟨some 7, .mv (.t 1), none⟩,
    ⟨some 8, .bin .eql (.t 7) (.c (.int .u8 1)), none⟩,
    ⟨some 4, .mv (.t 8), none⟩])
  (.ret)) (.skip)))
  (.seq (.ops [⟨some 9, .mv (.t 0), none⟩,
    ⟨some 10, .bin .eql (.t 9) (.c (.int .i64 0)), none⟩,
    ⟨some 11, .mv (.t 10), none⟩,
    ⟨some 12, .mv (.t 1), some (11, false)⟩,
    ⟨some 13, .bin .neq (.t 12) (.c (.int .u8 0)), some (11, false)⟩,
    ⟨some 14, .pick (.t 11) (.c (.bool true)) (.t 13), none⟩,
    ⟨some 4, .mv (.t 14), none⟩])
  (.ret)))
theorem k_num_mayEnd : FnIs AP n_num_mayEnd c_num_mayEnd 15 (rsT [4]) := fnIs_of (fn := Go.Proofs.Try.f80) Go.Proofs.Try.func80 (by kernel_rfl) (by kernel_rfl) (by kernel_rfl) (by kernel_rfl) (by kernel_rfl)
theorem a_num_mayEnd {x0 x1 : V} {H : List Entry} {K : KV} (h : Wf H → awp AP H.length c_num_mayEnd (finW H.length (rsT [4]) K) ([x0, x1] ++ List.replicate 13 undefV) H) : BCall AP n_num_mayEnd [x0, x1] H K := k_num_mayEnd.call (by kernel_rfl) h
/-- tryst/num.Unfold: 13 slots -/
def c_num_Unfold : AC := .seq (.ops [⟨some 2, .mv (.c (.int .i64 0)), none⟩])
  (.seq (.seq (.ops [⟨some 3, .mv (.t 0), none⟩,
    ⟨some 4, .bin .and (.t 3) (.c (.int .u64 1)), none⟩,
    ⟨some 5, .bin .eql (.t 4) (.c (.int .u64 1)), none⟩])
  (.cond (.t 5) (.seq (.ops [⟨some 6, .mv (.t 0), none⟩,
    ⟨some 7, .bin .shr (.t 6) (.c (.int .u64 1)), none⟩,
    ⟨some 8, .cvi .i64 (.t 7), none⟩,
    ⟨some 9, .un .xor (.t 8), none⟩,
    ⟨some 2, .mv (.t 9), none⟩])
  (.ret)) (.skip)))
  (.seq (.ops [⟨some 10, .mv (.t 0), none⟩,
    ⟨some 11, .bin .shr (.t 10) (.c (.int .u64 1)), none⟩,
    ⟨some 12, .cvi .i64 (.t 11), none⟩,
    ⟨some 2, .mv (.t 12), none⟩])
  (.ret)))
theorem k_num_Unfold : FnIs AP n_num_Unfold c_num_Unfold 13 (rsT [2]) := fnIs_of (fn := Go.Proofs.Try.f81) Go.Proofs.Try.func81 (by kernel_rfl) (by kernel_rfl) (by kernel_rfl) (by kernel_rfl) (by kernel_rfl)
theorem a_num_Unfold {x0 : V} {H : List Entry} {K : KV} (h : Wf H → awp AP H.length c_num_Unfold (finW H.length (rsT [2]) K) ([x0] ++ List.replicate 12 undefV) H) : BCall AP n_num_Unfold [x0] H K := k_num_Unfold.call (by kernel_rfl) h
/-- tryst/val.takeText: 28 slots -/
def c_val_takeText : AC := .seq (.ops [⟨some 6, .alloc [.bool false, .int .i64 0, .str []], none⟩,
    ⟨some 7, .mv (.c (.int .i64 0)), none⟩,
    ⟨some 8, .mv (.c (.int .i64 0)), none⟩])
  (.seq (.seq (.ops [⟨some 10, .mv (.t 2), none⟩,
    ⟨some 11, .bin .gtr (.t 10) (.c (.int .u64 60)), none⟩])
  (.cond (.t 11) (.seq (.ops [⟨some 12, .build [.bool false, .int .i64 0, .str []] [], none⟩,
    ⟨none, .store 3 (.t 6) (.t 12), none⟩,
    ⟨some 7, .mv (.c (.int .i64 0)), none⟩,
    ⟨some 8, .mv (.c (.int .i64 2)), none⟩])
  (.ret)) (.skip)))
  (.seq (.ops [⟨some 13, .mv (.t 1), none⟩,
    ⟨some 14, .mv (.t 2), none⟩,
    ⟨some 15, .cvi .i64 (.t 14), none⟩,
    ⟨some 16, .bin .add (.t 13) (.t 15), none⟩,
    ⟨some 9, .mv (.t 16), none⟩])
  (.seq (.seq (.ops [⟨some 17, .mv (.t 9), none⟩,
    ⟨some 18, .mv (.t 0), none⟩,
    ⟨some 19, .len 0 (.t 18), none⟩,
    ⟨some 20, .bin .gtr (.t 17) (.t 19), none⟩])
  (.cond (.t 20) (.seq (.ops [⟨some 21, .build [.bool false, .int .i64 0, .str []] [], none⟩,
    ⟨none, .store 3 (.t 6) (.t 21), none⟩,
    ⟨some 7, .mv (.c (.int .i64 0)), none⟩,
    ⟨some 8, .mv (.c (.int .i64 3)), none⟩])
  (.ret)) (.skip)))
  (.seq (.ops [⟨some 22, .mv (.t 0), none⟩,
    ⟨some 23, .mv (.t 1), none⟩,
    ⟨some 24, .mv (.t 9), none⟩,
    ⟨some 25, .sls (.t 22) (some (.t 23)) (some (.t 24)), none⟩,
    ⟨some 26, .build [.bool false, .int .i64 0, .str []] [(2, 1, (.t 25))], none⟩,
    ⟨some 27, .mv (.t 9), none⟩,
    ⟨none, .store 3 (.t 6) (.t 26), none⟩,
    ⟨some 7, .mv (.t 27), none⟩,
    ⟨some 8, .mv (.c (.int .i64 0)), none⟩])
  (.ret)))))
theorem k_val_takeText : FnIs AP n_val_takeText c_val_takeText 28 [.cell 6 3 true, .tmp 7, .tmp 8] := fnIs_of (fn := Go.Proofs.Try.f82) Go.Proofs.Try.func82 (by kernel_rfl) (by kernel_rfl) (by kernel_rfl) (by kernel_rfl) (by kernel_rfl)
theorem a_val_takeText {x0 x1 x2 : V} {H : List Entry} {K : KV} (h : Wf H → awp AP H.length c_val_takeText (finW H.length [.cell 6 3 true, .tmp 7, .tmp 8] K) ([x0, x1, x2] ++ List.replicate 25 undefV) H) : BCall AP n_val_takeText [x0, x1, x2] H K := k_val_takeText.call (by kernel_rfl) h
/-- internal/bytealg.hashStr[string]: 39 slots -/
def c_internal_bytealg_hashStr_string : AC := .seq (.ops [⟨some 2, .mv (.c (.int .u32 0)), none⟩,
    ⟨some 3, .mv (.c (.int .u32 0)), none⟩])
  (.seq (.ops [⟨some 4, .mv (.c (.int .u32 0)), none⟩])
  (.seq (.seq (.ops [⟨some 5, .mv (.c (.int .i64 0)), none⟩])
  (.block 0 (.loop (.seq (.seq (.ops [⟨some 9, .mv (.t 5), none⟩,
    ⟨some 10, .mv (.t 0), none⟩,
    ⟨some 11, .len 0 (.t 10), none⟩,
    ⟨some 12, .bin .lss (.t 9) (.t 11), none⟩])
  (.cond (.t 12) (.skip) (.exit 0)))
  (.seq (.block 1 (.ops [⟨some 15, .mv (.t 4), none⟩,
    ⟨some 16, .bin .mul (.t 15) (.c (.int .u32 16777619)), none⟩,
    ⟨some 17, .mv (.t 0), none⟩,
    ⟨some 18, .mv (.t 5), none⟩,
    ⟨some 19, .ixs (.t 17) (.t 18), none⟩,
    ⟨some 20, .cvi .u32 (.t 19), none⟩,
    ⟨some 21, .bin .add (.t 16) (.t 20), none⟩,
    ⟨some 4, .mv (.t 21), none⟩]))
  (.ops [⟨some 13, .mv (.t 5), none⟩,
    ⟨some 14, .bin .add (.t 13) (.c (.int .i64 1)), none⟩,
    ⟨some 5, .mv (.t 14), none⟩]))))))
  (.seq (.ops [⟨some 6, .mv (.c (.int .u32 1)), none⟩,
    ⟨some 7, .mv (.c (.int .u32 16777619)), none⟩])
  (.seq (.seq (.ops [⟨some 22, .mv (.t 0), none⟩,
    ⟨some 23, .len 0 (.t 22), none⟩,
    ⟨some 8, .mv (.t 23), none⟩])
  (.block 2 (.loop (.seq (.seq (.ops [⟨some 24, .mv (.t 8), none⟩,
    ⟨some 25, .bin .gtr (.t 24) (.c (.int .i64 0)), none⟩])
  (.cond (.t 25) (.skip) (.exit 2)))
  (.seq (.block 3 (.seq (.seq (.ops [⟨some 28, .mv (.t 8), none⟩,
    ⟨some 29, .bin .and (.t 28) (.c (.int .i64 1)), none⟩,
    ⟨some 30, .bin .neq (.t 29) (.c (.int .i64 0)), none⟩])
  (.cond (.t 30) (.ops [⟨some 31, .mv (.t 6), none⟩,
    ⟨some 32, .mv (.t 7), none⟩,
    ⟨some 33, .bin .mul (.t 31) (.t 32), none⟩,
    ⟨some 6, .mv (.t 33), none⟩]) (.skip)))
  (.ops [⟨some 34, .mv (.t 7), none⟩,
    ⟨some 35, .mv (.t 7), none⟩,
    ⟨some 36, .bin .mul (.t 34) (.t 35), none⟩,
    ⟨some 7, .mv (.t 36), none⟩])))
  (.ops [⟨some 26, .mv (.t 8), none⟩,
    ⟨some 27, .bin .shr (.t 26) (.c (.int .u64 1)), none⟩,
    ⟨some 8, .mv (.t 27), none⟩]))))))
  (.seq (.ops [⟨some 37, .mv (.t 4), none⟩,
    ⟨some 38, .mv (.t 6), none⟩,
    ⟨some 2, .mv (.t 37), none⟩,
    ⟨some 3, .mv (.t 38), none⟩])
  (.ret))))))
theorem k_internal_bytealg_hashStr_string : FnIs AP n_internal_bytealg_hashStr_string c_internal_bytealg_hashStr_string 39 (rsT [2, 3]) := fnIs_of (fn := Go.Proofs.Try.f84) Go.Proofs.Try.func84 (by kernel_rfl) (by kernel_rfl) (by kernel_rfl) (by kernel_rfl) (by kernel_rfl)
theorem a_internal_bytealg_hashStr_string {x0 : V} {H : List Entry} {K : KV} (h : Wf H → awp AP H.length c_internal_bytealg_hashStr_string (finW H.length (rsT [2, 3]) K) ([x0] ++ List.replicate 38 undefV) H) : BCall AP n_internal_bytealg_hashStr_string [x0] H K := k_internal_bytealg_hashStr_string.call (by kernel_rfl) h
def tab : List (FuncId × Fn) := [(n_trystlaw04_EventLays, ⟨c_trystlaw04_EventLays, 101, (rsT [6])⟩), (n_trystlaw04_EventPuts, ⟨c_trystlaw04_EventPuts, 59, (rsT [6])⟩), (n_trystlaw04_EventBack, ⟨c_trystlaw04_EventBack, 106, (rsT [2])⟩), (n_trystlaw04_EventApart, ⟨c_trystlaw04_EventApart, 60, (rsT [4])⟩), (n_trystlaw04_EventTurns, ⟨c_trystlaw04_EventTurns, 61, (rsT [2])⟩), (n_trystlaw04_EventShort, ⟨c_trystlaw04_EventShort, 55, (rsT [4])⟩), (n_trystlaw04_Few, ⟨c_trystlaw04_Few, 46, [.cell 2 4 true]⟩), (n_trystlaw02_Few, ⟨c_trystlaw02_Few, 9, (rsT [2])⟩), (n_event_May, ⟨c_event_May, 21, (rsT [2])⟩), (n_trystref04_May, ⟨c_trystref04_May, 68, (rsT [2])⟩), (n_event_Same, ⟨c_event_Same, 31, (rsT [4])⟩), (n_trystref04_Same, ⟨c_trystref04_Same, 52, (rsT [4])⟩), (n_event_Field, ⟨c_event_Field, 15, (rsT [2])⟩), (n_trystref04_Field, ⟨c_trystref04_Field, 21, (rsT [2])⟩), (n_event_Lay, ⟨c_event_Lay, 51, (rsT [2, 3])⟩), (n_trystlaw04_awake, ⟨c_trystlaw04_awake, 60, (rsT [0])⟩), (n_event_Take, ⟨c_event_Take, 38, [.cell 2 4 true, .tmp 3, .tmp 4]⟩), (n_trystref04_Lay, ⟨c_trystref04_Lay, 47, (rsT [2])⟩), (n_trystlaw03_Few, ⟨c_trystlaw03_Few, 12, [.cell 2 3 true]⟩), (n_event_Get, ⟨c_event_Get, 19, [.cell 4 3 true, .tmp 5]⟩), (n_trystref04_Get, ⟨c_trystref04_Get, 29, [.cell 4 3 true, .tmp 5]⟩), (n_event_Put, ⟨c_event_Put, 36, [.cell 6 4 true]⟩), (n_trystref04_Put, ⟨c_trystref04_Put, 82, [.cell 6 4 true]⟩), (n_name_Topic, ⟨c_name_Topic, 5, (rsT [2])⟩), (n_event_mayFields, ⟨c_event_mayFields, 17, (rsT [2])⟩), (n_trystref03_May, ⟨c_trystref03_May, 26, (rsT [2])⟩), (n_trystref02_Topic, ⟨c_trystref02_Topic, 5, (rsT [2])⟩), (n_slices_Equal_api_Field_api_Field, ⟨c_slices_Equal_api_Field_api_Field, 26, (rsT [4])⟩), (n_strings_Contains, ⟨c_strings_Contains, 9, (rsT [4])⟩), (n_event_layText, ⟨c_event_layText, 9, (rsT [2])⟩), (n_num_Pack, ⟨c_num_Pack, 33, (rsT [2])⟩), (n_val_Lay, ⟨c_val_Lay, 23, (rsT [2, 3])⟩), (n_event_reader_event, ⟨c_event_reader_event, 40, [.cell 2 4 true]⟩), (n_trystref04_text, ⟨c_trystref04_text, 9, (rsT [2])⟩), (n_trystref01_Pack, ⟨c_trystref01_Pack, 19, (rsT [2])⟩), (n_trystref03_Lay, ⟨c_trystref03_Lay, 19, (rsT [2])⟩), (n_event_place, ⟨c_event_place, 9, (rsT [4])⟩), (n_list_Set_api_Field, ⟨c_list_Set_api_Field, 15, (rsT [6])⟩), (n_list_Place_api_Field, ⟨c_list_Place_api_Field, 14, (rsT [4])⟩), (n_event_Put_1, ⟨c_event_Put_1, 8, (rsT [3])⟩), (n_list_With_api_Field, ⟨c_list_With_api_Field, 17, (rsT [6])⟩), (n_name_allParts, ⟨c_name_allParts, 32, (rsT [4])⟩), (n_name_isPart, ⟨c_name_isPart, 9, (rsT [2])⟩), (n_event_mayFields_1, ⟨c_event_mayFields_1, 13, (rsT [2])⟩), (n_val_May, ⟨c_val_May, 17, (rsT [2])⟩), (n_event_mayFields_2, ⟨c_event_mayFields_2, 10, (rsT [4])⟩), (n_cmp_Compare_string, ⟨c_cmp_Compare_string, 20, (rsT [4])⟩), (n_slices_ContainsFunc_api_Field_api_Field, ⟨c_slices_ContainsFunc_api_Field_api_Field, 9, (rsT [4])⟩), (n_list_Rises_api_Field, ⟨c_list_Rises_api_Field, 24, (rsT [4])⟩), (n_trystref02_is, ⟨c_trystref02_is, 47, (rsT [4])⟩), (n_strings_Index, ⟨c_strings_Index, 8, (rsT [4])⟩), (n_num_packedWide, ⟨c_num_packedWide, 8, (rsT [2])⟩), (n_num_Fold, ⟨c_num_Fold, 12, (rsT [2])⟩), (n_event_reader_text, ⟨c_event_reader_text, 49, (rsT [4])⟩), (n_event_reader_number, ⟨c_event_reader_number, 34, (rsT [2])⟩), (n_event_reader_size, ⟨c_event_reader_size, 15, (rsT [4])⟩), (n_event_reader_value, ⟨c_event_reader_value, 35, [.cell 2 3 true]⟩), (n_trystref01_Fold, ⟨c_trystref01_Fold, 14, (rsT [2])⟩), (n_slices_IndexFunc_api_Field_api_Field, ⟨c_slices_IndexFunc_api_Field_api_Field, 19, (rsT [4])⟩), (n_event_place_1, ⟨c_event_place_1, 8, (rsT [3])⟩), (n_slices_Clone_api_Field_api_Field, ⟨c_slices_Clone_api_Field_api_Field, 8, (rsT [2])⟩), (n_slices_Concat_api_Field_api_Field, ⟨c_slices_Concat_api_Field_api_Field, 36, (rsT [2])⟩), (n_name_allParts_1, ⟨c_name_allParts_1, 23, (rsT [6])⟩), (n_name_allRunes, ⟨c_name_allRunes, 16, (rsT [4])⟩), (n_name_isPart_1, ⟨c_name_isPart_1, 21, (rsT [2])⟩), (n_cmp_isNaN_string, ⟨c_cmp_isNaN_string, 6, (rsT [2])⟩), (n_trystref02_cut, ⟨c_trystref02_cut, 33, (rsT [2])⟩), (n_trystref02_part, ⟨c_trystref02_part, 35, (rsT [2])⟩), (n_internal_stringslite_Index, ⟨c_internal_stringslite_Index, 143, (rsT [4])⟩), (n_math_bits_Len64, ⟨c_math_bits_Len64, 25, (rsT [2])⟩), (n_num_Unpack, ⟨c_num_Unpack, 40, (rsT [2, 3, 4])⟩), (n_val_Take, ⟨c_val_Take, 47, [.cell 2 3 true, .tmp 3, .tmp 4]⟩), (n_slices_Grow_api_Field_api_Field, ⟨c_slices_Grow_api_Field_api_Field, 27, (rsT [4])⟩), (n_internal_stringslite_IndexByte, ⟨c_internal_stringslite_IndexByte, 8, (rsT [4])⟩), (n_internal_bytealg_Cutover, ⟨c_internal_bytealg_Cutover, 6, (rsT [2])⟩), (n_internal_bytealg_IndexRabinKarp_string, ⟨c_internal_bytealg_IndexRabinKarp_string, 81, (rsT [4])⟩), (n_num_mayEnd, ⟨c_num_mayEnd, 15, (rsT [4])⟩), (n_num_Unfold, ⟨c_num_Unfold, 13, (rsT [2])⟩), (n_val_takeText, ⟨c_val_takeText, 28, [.cell 6 3 true, .tmp 7, .tmp 8]⟩), (n_internal_bytealg_hashStr_string, ⟨c_internal_bytealg_hashStr_string, 39, (rsT [2, 3])⟩)]
theorem tabOk : TabOk AP tab := ⟨k_trystlaw04_EventLays, k_trystlaw04_EventPuts, k_trystlaw04_EventBack, k_trystlaw04_EventApart, k_trystlaw04_EventTurns, k_trystlaw04_EventShort, k_trystlaw04_Few, k_trystlaw02_Few, k_event_May, k_trystref04_May, k_event_Same, k_trystref04_Same, k_event_Field, k_trystref04_Field, k_event_Lay, k_trystlaw04_awake, k_event_Take, k_trystref04_Lay, k_trystlaw03_Few, k_event_Get, k_trystref04_Get, k_event_Put, k_trystref04_Put, k_name_Topic, k_event_mayFields, k_trystref03_May, k_trystref02_Topic, k_slices_Equal_api_Field_api_Field, k_strings_Contains, k_event_layText, k_num_Pack, k_val_Lay, k_event_reader_event, k_trystref04_text, k_trystref01_Pack, k_trystref03_Lay, k_event_place, k_list_Set_api_Field, k_list_Place_api_Field, k_event_Put_1, k_list_With_api_Field, k_name_allParts, k_name_isPart, k_event_mayFields_1, k_val_May, k_event_mayFields_2, k_cmp_Compare_string, k_slices_ContainsFunc_api_Field_api_Field, k_list_Rises_api_Field, k_trystref02_is, k_strings_Index, k_num_packedWide, k_num_Fold, k_event_reader_text, k_event_reader_number, k_event_reader_size, k_event_reader_value, k_trystref01_Fold, k_slices_IndexFunc_api_Field_api_Field, k_event_place_1, k_slices_Clone_api_Field_api_Field, k_slices_Concat_api_Field_api_Field, k_name_allParts_1, k_name_allRunes, k_name_isPart_1, k_cmp_isNaN_string, k_trystref02_cut, k_trystref02_part, k_internal_stringslite_Index, k_math_bits_Len64, k_num_Unpack, k_val_Take, k_slices_Grow_api_Field_api_Field, k_internal_stringslite_IndexByte, k_internal_bytealg_Cutover, k_internal_bytealg_IndexRabinKarp_string, k_num_mayEnd, k_num_Unfold, k_val_takeText, k_internal_bytealg_hashStr_string, trivial⟩
end
end Go.Av
