/- A part of a way to reckon what a Go program does without its memory (Ac). -/
import Derived.Test.YtgeiicchkfpanaaAvRun
import Derived.Test.YtgeiicchkfpanaaProg
namespace Go.Av
open Go
set_option autoImplicit false
set_option linter.all false
noncomputable section
noncomputable abbrev AP : Program := Go.Proofs.Try.prog
abbrev n_main_main : FuncId := 0
abbrev n_gosem_cut : FuncId := 1
abbrev n_gosem_cut_init : FuncId := 2
abbrev n_trystlaw12_TopicAppends : FuncId := 3
abbrev n_trystlaw12_TopicReads : FuncId := 4
abbrev n_trystlaw12_TopicKeeps : FuncId := 5
abbrev n_trystlaw12_TopicBounds : FuncId := 6
abbrev n_trystlaw12_Few : FuncId := 7
abbrev n_trystlaw04_Few : FuncId := 8
abbrev n_trystlaw02_Few : FuncId := 9
abbrev n_topic_Append : FuncId := 10
abbrev n_trystref12_Append : FuncId := 11
abbrev n_topic_Find : FuncId := 12
abbrev n_trystref12_Find : FuncId := 13
abbrev n_trystref12_Same : FuncId := 14
abbrev n_topic_Check : FuncId := 15
abbrev n_trystref12_May : FuncId := 16
abbrev n_topic_End : FuncId := 17
abbrev n_trystlaw12_awake : FuncId := 18
abbrev n_topic_Read : FuncId := 19
abbrev n_trystref12_Read : FuncId := 20
abbrev n_topic_Trim : FuncId := 21
abbrev n_trystref12_Trim : FuncId := 22
abbrev n_trystref04_Same : FuncId := 23
abbrev n_trystlaw03_Few : FuncId := 24
abbrev n_event_Lay : FuncId := 25
abbrev n_topic_begin : FuncId := 26
abbrev n_topic_endOf : FuncId := 27
abbrev n_list_Set_api_Topic : FuncId := 28
abbrev n_trystref04_May : FuncId := 29
abbrev n_trystref04_Lay : FuncId := 30
abbrev n_trystref12_With : FuncId := 31
abbrev n_slices_IndexFunc_api_Topic_api_Topic : FuncId := 32
abbrev n_topic_Find_1 : FuncId := 33
abbrev n_trystref02_Same : FuncId := 34
abbrev n_topic_Check_1 : FuncId := 35
abbrev n_cmp_Compare_string : FuncId := 36
abbrev n_list_Rises_api_Topic : FuncId := 37
abbrev n_slices_ContainsFunc_api_Topic_api_Topic : FuncId := 38
abbrev n_topic_isWrong : FuncId := 39
abbrev n_trystref02_Topic : FuncId := 40
abbrev n_trystref04_Take : FuncId := 41
abbrev n_topic_find : FuncId := 42
abbrev n_trystlaw12_ev : FuncId := 43
abbrev n_event_Take : FuncId := 44
abbrev n_slices_Clone_string_string : FuncId := 45
abbrev n_event_May : FuncId := 46
abbrev n_event_layText : FuncId := 47
abbrev n_num_Pack : FuncId := 48
abbrev n_val_Lay : FuncId := 49
abbrev n_list_Place_api_Topic : FuncId := 50
abbrev n_topic_begin_1 : FuncId := 51
abbrev n_list_With_api_Topic : FuncId := 52
abbrev n_slices_Clone_api_Topic_api_Topic : FuncId := 53
abbrev n_trystref04_Field : FuncId := 54
abbrev n_trystref03_May : FuncId := 55
abbrev n_trystref04_text : FuncId := 56
abbrev n_trystref01_Pack : FuncId := 57
abbrev n_trystref03_Lay : FuncId := 58
abbrev n_cmp_isNaN_string : FuncId := 59
abbrev n_name_Topic : FuncId := 60
abbrev n_slices_ContainsFunc_string_string : FuncId := 61
abbrev n_topic_isWrong_1 : FuncId := 62
abbrev n_topic_isOf : FuncId := 63
abbrev n_trystref02_is : FuncId := 64
abbrev n_trystref04_word : FuncId := 65
abbrev n_trystref01_Unpack : FuncId := 66
abbrev n_trystref03_Take : FuncId := 67
abbrev n_event_reader_event : FuncId := 68
abbrev n_event_Field : FuncId := 69
abbrev n_event_mayFields : FuncId := 70
abbrev n_num_packedWide : FuncId := 71
abbrev n_val_May : FuncId := 72
abbrev n_num_Fold : FuncId := 73
abbrev n_slices_Concat_api_Topic_api_Topic : FuncId := 74
abbrev n_trystref01_Fold : FuncId := 75
abbrev n_name_allParts : FuncId := 76
abbrev n_name_isPart : FuncId := 77
abbrev n_slices_IndexFunc_string_string : FuncId := 78
abbrev n_trystref02_cut : FuncId := 79
abbrev n_trystref02_part : FuncId := 80
abbrev n_trystref01_Unfold : FuncId := 81
abbrev n_event_reader_text : FuncId := 82
abbrev n_event_reader_number : FuncId := 83
abbrev n_event_reader_size : FuncId := 84
abbrev n_event_reader_value : FuncId := 85
abbrev n_strings_Contains : FuncId := 86
abbrev n_event_mayFields_1 : FuncId := 87
abbrev n_event_mayFields_2 : FuncId := 88
abbrev n_slices_ContainsFunc_api_Field_api_Field : FuncId := 89
abbrev n_list_Rises_api_Field : FuncId := 90
abbrev n_math_bits_Len64 : FuncId := 91
abbrev n_slices_Grow_api_Topic_api_Topic : FuncId := 92
abbrev n_name_allParts_1 : FuncId := 93
abbrev n_name_allRunes : FuncId := 94
abbrev n_name_isPart_1 : FuncId := 95
abbrev n_num_Unpack : FuncId := 96
abbrev n_val_Take : FuncId := 97
abbrev n_strings_Index : FuncId := 98
abbrev n_slices_IndexFunc_api_Field_api_Field : FuncId := 99
abbrev n_num_mayEnd : FuncId := 100
abbrev n_num_Unfold : FuncId := 101
abbrev n_val_takeText : FuncId := 102
abbrev n_internal_stringslite_Index : FuncId := 103
abbrev n_internal_stringslite_IndexByte : FuncId := 104
abbrev n_internal_bytealg_IndexString : FuncId := 105
abbrev n_internal_bytealg_Cutover : FuncId := 106
abbrev n_internal_bytealg_IndexRabinKarp_string : FuncId := 107
abbrev n_internal_bytealg_IndexByteString : FuncId := 108
abbrev n_internal_bytealg_hashStr_string : FuncId := 109
abbrev n_runtime_boundsError_Error : FuncId := 110
abbrev n_runtime_boundsError_RuntimeError : FuncId := 111
abbrev n_runtime_errorString_Error : FuncId := 112
abbrev n_runtime_errorString_RuntimeError : FuncId := 113
abbrev n_runtime_plainError_Error : FuncId := 114
abbrev n_runtime_plainError_RuntimeError : FuncId := 115
abbrev n_runtime_errorAddressString_Error : FuncId := 116
abbrev n_runtime_errorAddressString_RuntimeError : FuncId := 117
abbrev n_runtime_TypeAssertionError_Error : FuncId := 118
abbrev n_runtime_TypeAssertionError_RuntimeError : FuncId := 119
abbrev n_runtime_PanicNilError_Error : FuncId := 120
abbrev n_runtime_PanicNilError_RuntimeError : FuncId := 121
abbrev n_internal_abi_Type_Align : FuncId := 122
abbrev n_internal_runtime_maps_unhashableTypeError_Error : FuncId := 123
abbrev n_internal_runtime_maps_unhashableTypeError_RuntimeError : FuncId := 124
abbrev n_internal_abi_Kind_String : FuncId := 125
/-- tryst/trystlaw12.TopicAppends: 144 slots -/
def c_trystlaw12_TopicAppends : AC := .seq (.ops [⟨some 4, .box (.t 1), none⟩,
    ⟨some 6, .mv (.c (.bool false)), none⟩])
  (.seq (.draw [⟨some 20, .mv (.t 0), none⟩,
    ⟨some 21, .dcall (.c (.fn n_trystlaw12_Few [] [])) [(.t 20)], none⟩,
    ⟨some 22, .load 4 true (.t 4), none⟩,
    ⟨some 23, .dcall (.c (.fn n_trystlaw04_Few [] [])) [(.t 22)], none⟩,
    ⟨some 24, .mv (.t 2), none⟩,
    ⟨some 25, .dcall (.c (.fn n_trystlaw02_Few [] [])) [(.t 24)], none⟩,
    ⟨some 0, .mv (.t 21), none⟩,
    ⟨none, .store 4 (.t 4) (.t 23), none⟩,
    ⟨some 2, .mv (.t 25), none⟩])
  (.seq (.ops [⟨some 26, .mv (.t 0), none⟩,
    ⟨some 27, .call (.c (.fn n_trystlaw12_Few [] [])) [(.t 26)], none⟩,
    ⟨some 7, .mv (.t 27), none⟩])
  (.seq (.ops [⟨some 29, .mv (.t 0), none⟩,
    ⟨some 30, .load 4 true (.t 4), none⟩,
    ⟨some 31, .call (.c (.fn n_topic_Append [] [])) [(.t 29), (.t 30)], none⟩,
    ⟨some 28, .mv (.t 31), none⟩,
    ⟨some 32, .ext (.t 28) 0, none⟩,
    ⟨some 33, .ext (.t 28) 1, none⟩,
    ⟨some 34, .ext (.t 28) 2, none⟩,
    ⟨some 8, .mv (.t 32), none⟩,
    ⟨some 9, .mv (.t 33), none⟩,
    ⟨some 10, .mv (.t 34), none⟩])
  (.seq (.ops [⟨some 36, .mv (.t 0), none⟩,
    ⟨some 37, .load 4 true (.t 4), none⟩,
    ⟨some 38, .call (.c (.fn n_trystref12_Append [] [])) [(.t 36), (.t 37)], none⟩,
    ⟨some 35, .mv (.t 38), none⟩,
    ⟨some 39, .ext (.t 35) 0, none⟩,
    ⟨some 40, .ext (.t 35) 1, none⟩,
    ⟨some 41, .ext (.t 35) 2, none⟩,
    ⟨some 11, .mv (.t 39), none⟩,
    ⟨some 12, .mv (.t 40), none⟩,
    ⟨some 13, .mv (.t 41), none⟩])
  (.seq (.ops [⟨some 43, .mv (.t 0), none⟩,
    ⟨some 44, .mv (.t 2), none⟩,
    ⟨some 45, .call (.c (.fn n_topic_Find [] [])) [(.t 43), (.t 44)], none⟩,
    ⟨some 42, .mv (.t 45), none⟩,
    ⟨some 46, .ext (.t 42) 0, none⟩,
    ⟨some 47, .ext (.t 42) 1, none⟩,
    ⟨some 14, .mv (.t 46), none⟩,
    ⟨some 15, .mv (.t 47), none⟩])
  (.seq (.ops [⟨some 49, .mv (.t 0), none⟩,
    ⟨some 50, .mv (.t 2), none⟩,
    ⟨some 51, .call (.c (.fn n_trystref12_Find [] [])) [(.t 49), (.t 50)], none⟩,
    ⟨some 48, .mv (.t 51), none⟩,
    ⟨some 52, .ext (.t 48) 0, none⟩,
    ⟨some 53, .ext (.t 48) 1, none⟩,
    ⟨some 16, .mv (.t 52), none⟩,
    ⟨some 17, .mv (.t 53), none⟩])
  (.seq (.seq (.ops [⟨some 54, .mv (.t 8), none⟩,
    ⟨some 55, .mv (.t 11), none⟩,
    ⟨some 56, .call (.c (.fn n_trystref12_Same [] [])) [(.t 54), (.t 55)], none⟩,
    ⟨some 57, .un .not (.t 56), none⟩,
    ⟨some 58, .mv (.t 57), none⟩,
    ⟨some 59, .mv (.t 9), some (58, false)⟩,
    ⟨some 60, .mv (.t 12), some (58, false)⟩,
    ⟨some 61, .bin .neq (.t 59) (.t 60), some (58, false)⟩,
    ⟨some 62, .pick (.t 58) (.c (.bool true)) (.t 61), none⟩,
    ⟨some 63, .mv (.t 62), none⟩,
    ⟨some 64, .mv (.t 10), some (63, false)⟩,
    ⟨some 65, .mv (.t 13), some (63, false)⟩,
    ⟨some 66, .bin .neq (.t 64) (.t 65), some (63, false)⟩,
    ⟨some 67, .pick (.t 63) (.c (.bool true)) (.t 66), none⟩,
    ⟨some 68, .mv (.t 67), none⟩,
    ⟨some 69, .mv (.t 14), some (68, false)⟩,
    ⟨some 70, .mv (.t 16), some (68, false)⟩,
    ⟨some 71, .bin .neq (.t 69) (.t 70), some (68, false)⟩,
    ⟨some 72, .pick (.t 68) (.c (.bool true)) (.t 71), none⟩,
    ⟨some 73, .mv (.t 72), none⟩,
    ⟨some 74, .mv (.t 15), some (73, false)⟩,
    ⟨some 75, .mv (.t 17), some (73, false)⟩,
    ⟨some 76, .binb true (.t 74) (.t 75), some (73, false)⟩,
    ⟨some 77, .pick (.t 73) (.c (.bool true)) (.t 76), none⟩,
    ⟨some 78, .mv (.t 77), none⟩,
    ⟨some 79, .mv (.t 0), some (78, false)⟩,
    ⟨some 80, .call (.c (.fn n_topic_Check [] [])) [(.t 79)], some (78, false)⟩,
    ⟨some 81, .bin .eql (.t 80) (.c (.int .i64 0)), some (78, false)⟩,
    ⟨some 82, .mv (.t 0), some (78, false)⟩,
    ⟨some 83, .call (.c (.fn n_trystref12_May [] [])) [(.t 82)], some (78, false)⟩,
    ⟨some 84, .binb true (.t 81) (.t 83), some (78, false)⟩,
    ⟨some 85, .pick (.t 78) (.c (.bool true)) (.t 84), none⟩,
    ⟨some 86, .mv (.t 85), none⟩,
    ⟨some 87, .mv (.t 0), some (86, false)⟩,
    ⟨some 88, .mv (.t 7), some (86, false)⟩,
    ⟨some 89, .call (.c (.fn n_trystref12_Same [] [])) [(.t 87), (.t 88)], some (86, false)⟩,
    ⟨some 90, .un .not (.t 89), some (86, false)⟩,
    ⟨some 91, .pick (.t 86) (.c (.bool true)) (.t 90), none⟩])
  (.cond (.t 91) (.seq (.ops [⟨some 6, .mv (.c (.bool false)), none⟩])
  (.ret)) (.skip)))
  (.seq (.ops [⟨some 93, .mv (.t 0), none⟩,
    ⟨some 94, .mv (.t 2), none⟩,
    ⟨some 95, .call (.c (.fn n_topic_End [] [])) [(.t 93), (.t 94)], none⟩,
    ⟨some 92, .mv (.t 95), none⟩,
    ⟨some 96, .ext (.t 92) 0, none⟩,
    ⟨some 97, .ext (.t 92) 1, none⟩,
    ⟨some 18, .mv (.t 96), none⟩,
    ⟨some 19, .mv (.t 97), none⟩])
  (.seq (.block 0 (.seq (.ops [⟨some 99, .mv (.t 0), none⟩,
    ⟨some 100, .call (.c (.fn n_trystref12_May [] [])) [(.t 99)], none⟩,
    ⟨some 101, .un .not (.t 100), none⟩,
    ⟨some 98, .mv (.t 101), none⟩])
  (.cond (.t 98) (.seq (.ops [⟨some 102, .mv (.t 18), none⟩,
    ⟨some 103, .bin .eql (.t 102) (.c (.int .i64 0)), none⟩,
    ⟨some 104, .mv (.t 103), none⟩,
    ⟨some 105, .mv (.t 19), some (104, true)⟩,
    ⟨some 106, .bin .eql (.t 105) (.c (.int .i64 1)), some (104, true)⟩,
    ⟨some 107, .pick (.t 104) (.t 106) (.c (.bool false)), none⟩,
    ⟨some 108, .mv (.t 107), none⟩,
    ⟨some 109, .call (.c (.fn n_trystlaw12_awake [] [])) [], some (108, true)⟩,
    ⟨some 110, .pick (.t 108) (.t 109) (.c (.bool false)), none⟩,
    ⟨some 6, .mv (.t 110), none⟩])
  (.ret)) (.seq (.ops [⟨some 112, .mv (.t 17), none⟩,
    ⟨some 113, .un .not (.t 112), none⟩,
    ⟨some 111, .mv (.t 113), none⟩])
  (.cond (.t 111) (.seq (.ops [⟨some 114, .mv (.t 18), none⟩,
    ⟨some 115, .bin .eql (.t 114) (.c (.int .i64 0)), none⟩,
    ⟨some 116, .mv (.t 115), none⟩,
    ⟨some 117, .mv (.t 19), some (116, true)⟩,
    ⟨some 118, .bin .eql (.t 117) (.c (.int .i64 4)), some (116, true)⟩,
    ⟨some 119, .pick (.t 116) (.t 118) (.c (.bool false)), none⟩,
    ⟨some 120, .mv (.t 119), none⟩,
    ⟨some 121, .call (.c (.fn n_trystlaw12_awake [] [])) [], some (120, true)⟩,
    ⟨some 122, .pick (.t 120) (.t 121) (.c (.bool false)), none⟩,
    ⟨some 6, .mv (.t 122), none⟩])
  (.ret)) (.skip))))))
  (.seq (.draw [⟨some 123, .mv (.t 18), none⟩,
    ⟨some 124, .mv (.t 0), none⟩,
    ⟨some 125, .mv (.t 16), none⟩,
    ⟨some 126, .iad 3 true (.t 124) (.t 125), none⟩,
    ⟨some 127, .fad 1 (.t 126), none⟩,
    ⟨some 128, .load 1 false (.t 127), none⟩,
    ⟨some 129, .mv (.t 0), none⟩,
    ⟨some 130, .mv (.t 16), none⟩,
    ⟨some 131, .iad 3 true (.t 129) (.t 130), none⟩,
    ⟨some 132, .fad 2 (.t 131), none⟩,
    ⟨some 133, .load 1 false (.t 132), none⟩,
    ⟨some 134, .len 1 (.t 133), none⟩,
    ⟨some 135, .bin .add (.t 128) (.t 134), none⟩,
    ⟨some 136, .bin .eql (.t 123) (.t 135), none⟩,
    ⟨some 137, .mv (.t 136), none⟩,
    ⟨some 138, .mv (.t 19), some (137, true)⟩,
    ⟨some 139, .bin .eql (.t 138) (.c (.int .i64 0)), some (137, true)⟩,
    ⟨some 140, .pick (.t 137) (.t 139) (.c (.bool false)), none⟩,
    ⟨some 141, .mv (.t 140), none⟩,
    ⟨some 142, .dcall (.c (.fn n_trystlaw12_awake [] [])) [], some (141, true)⟩,
    ⟨some 143, .pick (.t 141) (.t 142) (.c (.bool false)), none⟩,
    ⟨some 6, .mv (.t 143), none⟩])
  (.ret)))))))))))
theorem k_trystlaw12_TopicAppends : FnIs AP n_trystlaw12_TopicAppends c_trystlaw12_TopicAppends 144 (rsT [6]) := fnIs_of (fn := Go.Proofs.Try.f3) Go.Proofs.Try.func3 (by kernel_rfl) (by kernel_rfl) (by kernel_rfl) (by kernel_rfl) (by kernel_rfl)
theorem a_trystlaw12_TopicAppends {x0 x1 x2 : V} {H : List Entry} {K : KV} (h : Wf H → awp AP H.length c_trystlaw12_TopicAppends (finW H.length (rsT [6]) K) ([x0, x1, x2] ++ List.replicate 141 undefV) H) : BCall AP n_trystlaw12_TopicAppends [x0, x1, x2] H K := k_trystlaw12_TopicAppends.call (by kernel_rfl) h
/-- tryst/trystlaw12.TopicReads: 68 slots -/
def c_trystlaw12_TopicReads : AC := .seq (.ops [⟨some 6, .mv (.c (.bool false)), none⟩])
  (.seq (.ops [⟨some 15, .mv (.t 0), none⟩,
    ⟨some 16, .call (.c (.fn n_trystlaw12_Few [] [])) [(.t 15)], none⟩,
    ⟨some 17, .mv (.t 1), none⟩,
    ⟨some 18, .call (.c (.fn n_trystlaw02_Few [] [])) [(.t 17)], none⟩,
    ⟨some 0, .mv (.t 16), none⟩,
    ⟨some 1, .mv (.t 18), none⟩])
  (.seq (.ops [⟨some 20, .mv (.t 0), none⟩,
    ⟨some 21, .mv (.t 1), none⟩,
    ⟨some 22, .mv (.t 2), none⟩,
    ⟨some 23, .call (.c (.fn n_topic_Read [] [])) [(.t 20), (.t 21), (.t 22)], none⟩,
    ⟨some 19, .mv (.t 23), none⟩,
    ⟨some 24, .ext (.t 19) 0, none⟩,
    ⟨some 25, .ext (.t 19) 1, none⟩,
    ⟨some 7, .alloc [.str [], .str [], .int .u64 0, .nilsl], none⟩,
    ⟨none, .store 4 (.t 7) (.t 24), none⟩,
    ⟨some 8, .mv (.t 25), none⟩])
  (.seq (.ops [⟨some 27, .mv (.t 0), none⟩,
    ⟨some 28, .mv (.t 1), none⟩,
    ⟨some 29, .mv (.t 2), none⟩,
    ⟨some 30, .call (.c (.fn n_trystref12_Read [] [])) [(.t 27), (.t 28), (.t 29)], none⟩,
    ⟨some 26, .mv (.t 30), none⟩,
    ⟨some 31, .ext (.t 26) 0, none⟩,
    ⟨some 32, .ext (.t 26) 1, none⟩,
    ⟨some 9, .alloc [.str [], .str [], .int .u64 0, .nilsl], none⟩,
    ⟨none, .store 4 (.t 9) (.t 31), none⟩,
    ⟨some 10, .mv (.t 32), none⟩])
  (.seq (.ops [⟨some 34, .mv (.t 0), none⟩,
    ⟨some 35, .mv (.t 1), none⟩,
    ⟨some 36, .mv (.t 2), none⟩,
    ⟨some 37, .call (.c (.fn n_topic_Trim [] [])) [(.t 34), (.t 35), (.t 36)], none⟩,
    ⟨some 33, .mv (.t 37), none⟩,
    ⟨some 38, .ext (.t 33) 0, none⟩,
    ⟨some 39, .ext (.t 33) 1, none⟩,
    ⟨some 11, .mv (.t 38), none⟩,
    ⟨some 12, .mv (.t 39), none⟩])
  (.seq (.ops [⟨some 41, .mv (.t 0), none⟩,
    ⟨some 42, .mv (.t 1), none⟩,
    ⟨some 43, .mv (.t 2), none⟩,
    ⟨some 44, .call (.c (.fn n_trystref12_Trim [] [])) [(.t 41), (.t 42), (.t 43)], none⟩,
    ⟨some 40, .mv (.t 44), none⟩,
    ⟨some 45, .ext (.t 40) 0, none⟩,
    ⟨some 46, .ext (.t 40) 1, none⟩,
    ⟨some 13, .mv (.t 45), none⟩,
    ⟨some 14, .mv (.t 46), none⟩])
  (.seq (.ops [⟨some 47, .load 4 true (.t 7), none⟩,
    ⟨some 48, .load 4 true (.t 9), none⟩,
    ⟨some 49, .call (.c (.fn n_trystref04_Same [] [])) [(.t 47), (.t 48)], none⟩,
    ⟨some 50, .mv (.t 49), none⟩,
    ⟨some 51, .mv (.t 8), some (50, true)⟩,
    ⟨some 52, .mv (.t 10), some (50, true)⟩,
    ⟨some 53, .bin .eql (.t 51) (.t 52), some (50, true)⟩,
    ⟨some 54, .pick (.t 50) (.t 53) (.c (.bool false)), none⟩,
    ⟨some 55, .mv (.t 54), none⟩,
    ⟨some 56, .mv (.t 11), some (55, true)⟩,
    ⟨some 57, .mv (.t 13), some (55, true)⟩,
    ⟨some 58, .call (.c (.fn n_trystref12_Same [] [])) [(.t 56), (.t 57)], some (55, true)⟩,
    ⟨some 59, .pick (.t 55) (.t 58) (.c (.bool false)), none⟩,
    ⟨some 60, .mv (.t 59), none⟩,
    ⟨some 61, .mv (.t 12), some (60, true)⟩,
    ⟨some 62, .mv (.t 14), some (60, true)⟩,
    ⟨some 63, .bin .eql (.t 61) (.t 62), some (60, true)⟩,
    ⟨some 64, .pick (.t 60) (.t 63) (.c (.bool false)), none⟩,
    ⟨some 65, .mv (.t 64), none⟩,
    ⟨some 66, .call (.c (.fn n_trystlaw12_awake [] [])) [], some (65, true)⟩,
    ⟨some 67, .pick (.t 65) (.t 66) (.c (.bool false)), none⟩,
    ⟨some 6, .mv (.t 67), none⟩])
  (.ret)))))))
theorem k_trystlaw12_TopicReads : FnIs AP n_trystlaw12_TopicReads c_trystlaw12_TopicReads 68 (rsT [6]) := fnIs_of (fn := Go.Proofs.Try.f4) Go.Proofs.Try.func4 (by kernel_rfl) (by kernel_rfl) (by kernel_rfl) (by kernel_rfl) (by kernel_rfl)
theorem a_trystlaw12_TopicReads {x0 x1 x2 : V} {H : List Entry} {K : KV} (h : Wf H → awp AP H.length c_trystlaw12_TopicReads (finW H.length (rsT [6]) K) ([x0, x1, x2] ++ List.replicate 65 undefV) H) : BCall AP n_trystlaw12_TopicReads [x0, x1, x2] H K := k_trystlaw12_TopicReads.call (by kernel_rfl) h
/-- tryst/trystlaw12.TopicKeeps: 174 slots -/
def c_trystlaw12_TopicKeeps : AC := .seq (.ops [⟨some 4, .mv (.c (.bool false)), none⟩])
  (.seq (.ops [⟨some 5, .mv (.c (.nilsl)), none⟩])
  (.seq (.ops [⟨some 24, .mkm, none⟩,
    ⟨some 6, .mv (.t 24), none⟩])
  (.seq (.ops [⟨some 25, .mkm, none⟩,
    ⟨some 7, .mv (.t 25), none⟩])
  (.seq (.ops [⟨some 26, .mkm, none⟩,
    ⟨some 8, .mv (.t 26), none⟩])
  (.seq (.seq (.ops [⟨some 9, .mv (.c (.int .i64 0)), none⟩])
  (.block 0 (.loop (.seq (.seq (.ops [⟨some 27, .mv (.t 9), none⟩,
    ⟨some 28, .mv (.t 0), none⟩,
    ⟨some 29, .len 1 (.t 28), none⟩,
    ⟨some 30, .bin .lss (.t 27) (.t 29), none⟩,
    ⟨some 31, .mv (.t 30), none⟩,
    ⟨some 32, .mv (.t 9), some (31, true)⟩,
    ⟨some 33, .bin .lss (.t 32) (.c (.int .i64 30)), some (31, true)⟩,
    ⟨some 34, .pick (.t 31) (.t 33) (.c (.bool false)), none⟩])
  (.cond (.t 34) (.skip) (.exit 0)))
  (.seq (.block 1 (.seq (.ops [⟨some 37, .mv (.t 0), none⟩,
    ⟨some 38, .mv (.t 9), none⟩,
    ⟨some 39, .iad 4 true (.t 37) (.t 38), none⟩,
    ⟨some 40, .load 4 true (.t 39), none⟩,
    ⟨some 41, .call (.c (.fn n_trystlaw04_Few [] [])) [(.t 40)], none⟩,
    ⟨some 10, .alloc [.str [], .str [], .int .u64 0, .nilsl], none⟩,
    ⟨none, .store 4 (.t 10) (.t 41), none⟩])
  (.seq (.ops [⟨some 43, .mv (.t 5), none⟩,
    ⟨some 44, .load 4 true (.t 10), none⟩,
    ⟨some 45, .call (.c (.fn n_topic_Append [] [])) [(.t 43), (.t 44)], none⟩,
    ⟨some 42, .mv (.t 45), none⟩,
    ⟨some 46, .ext (.t 42) 0, none⟩,
    ⟨some 47, .ext (.t 42) 1, none⟩,
    ⟨some 48, .ext (.t 42) 2, none⟩,
    ⟨some 11, .mv (.t 46), none⟩,
    ⟨some 12, .mv (.t 47), none⟩,
    ⟨some 13, .mv (.t 48), none⟩])
  (.seq (.seq (.ops [⟨some 49, .mv (.t 13), none⟩,
    ⟨some 50, .bin .neq (.t 49) (.c (.int .i64 0)), none⟩])
  (.cond (.t 50) (.exit 1) (.skip)))
  (.seq (.seq (.ops [⟨some 51, .mv (.t 12), none⟩,
    ⟨some 52, .mv (.t 6), none⟩,
    ⟨some 53, .fad 0 (.t 10), none⟩,
    ⟨some 54, .load 1 false (.t 53), none⟩,
    ⟨some 55, .mget false [2] (.int .i64 0) false (.t 52) (.t 54), none⟩,
    ⟨some 56, .bin .neq (.t 51) (.t 55), none⟩])
  (.cond (.t 56) (.seq (.ops [⟨some 4, .mv (.c (.bool false)), none⟩])
  (.ret)) (.skip)))
  (.seq (.ops [⟨some 57, .mv (.t 6), none⟩,
    ⟨some 58, .fad 0 (.t 10), none⟩,
    ⟨some 59, .load 1 false (.t 58), none⟩,
    ⟨some 60, .mget false [2] (.int .i64 0) false (.t 57) (.t 59), none⟩,
    ⟨some 61, .bin .add (.t 60) (.c (.int .i64 1)), none⟩,
    ⟨none, .mput false [2] (.t 57) (.t 59) (.t 61), none⟩])
  (.seq (.drawX [] [(10, 68), (63, 68)] [⟨some 62, .mv (.t 8), none⟩,
    ⟨some 63, .fad 0 (.t 10), none⟩,
    ⟨some 64, .load 1 false (.t 63), none⟩,
    ⟨some 65, .mv (.t 8), none⟩,
    ⟨some 66, .fad 0 (.t 10), none⟩,
    ⟨some 67, .load 1 false (.t 66), none⟩,
    ⟨some 68, .mget false [2] (.nilsl) false (.t 65) (.t 67), none⟩,
    ⟨some 69, .load 4 true (.t 10), none⟩,
    ⟨some 70, .bslm 4 true [(.t 69)], none⟩,
    ⟨some 71, .app 26 4 64 true (.t 68) (.t 70), none⟩,
    ⟨none, .mput false [2] (.t 62) (.t 64) (.t 71), none⟩])
  (.seq (.ops [⟨some 72, .mv (.t 11), none⟩,
    ⟨some 5, .mv (.t 72), none⟩])
  (.seq (.ops [⟨some 73, .mv (.t 9), none⟩,
    ⟨some 74, .mv (.t 1), none⟩,
    ⟨some 75, .len 1 (.t 74), none⟩,
    ⟨some 76, .bin .lss (.t 73) (.t 75), none⟩])
  (.cond (.t 76) (.seq (.ops [⟨some 77, .mv (.t 1), none⟩,
    ⟨some 78, .mv (.t 9), none⟩,
    ⟨some 79, .iad 1 false (.t 77) (.t 78), none⟩,
    ⟨some 80, .load 1 false (.t 79), none⟩,
    ⟨some 81, .bin .rem (.t 80) (.c (.int .u8 8)), none⟩,
    ⟨some 82, .cvi .i64 (.t 81), none⟩,
    ⟨some 14, .mv (.t 82), none⟩])
  (.seq (.ops [⟨some 84, .mv (.t 5), none⟩,
    ⟨some 85, .fad 0 (.t 10), none⟩,
    ⟨some 86, .load 1 false (.t 85), none⟩,
    ⟨some 87, .mv (.t 14), none⟩,
    ⟨some 88, .call (.c (.fn n_topic_Trim [] [])) [(.t 84), (.t 86), (.t 87)], none⟩,
    ⟨some 83, .mv (.t 88), none⟩,
    ⟨some 89, .ext (.t 83) 0, none⟩,
    ⟨some 90, .ext (.t 83) 1, none⟩,
    ⟨some 15, .mv (.t 89), none⟩,
    ⟨some 16, .mv (.t 90), none⟩])
  (.seq (.ops [⟨some 91, .mv (.t 16), none⟩,
    ⟨some 92, .bin .eql (.t 91) (.c (.int .i64 0)), none⟩])
  (.cond (.t 92) (.seq (.ops [⟨some 93, .mv (.t 15), none⟩,
    ⟨some 5, .mv (.t 93), none⟩])
  (.ops [⟨some 94, .mv (.t 7), none⟩,
    ⟨some 95, .fad 0 (.t 10), none⟩,
    ⟨some 96, .load 1 false (.t 95), none⟩,
    ⟨some 97, .mv (.t 7), none⟩,
    ⟨some 98, .fad 0 (.t 10), none⟩,
    ⟨some 99, .load 1 false (.t 98), none⟩,
    ⟨some 100, .mget false [2] (.int .i64 0) false (.t 97) (.t 99), none⟩,
    ⟨some 101, .mv (.t 14), none⟩,
    ⟨some 102, .mnx false [(.t 100), (.t 101)], none⟩,
    ⟨none, .mput false [2] (.t 94) (.t 96) (.t 102), none⟩])) (.seq (.ops [⟨some 103, .mv (.t 14), none⟩,
    ⟨some 104, .mv (.t 6), none⟩,
    ⟨some 105, .fad 0 (.t 10), none⟩,
    ⟨some 106, .load 1 false (.t 105), none⟩,
    ⟨some 107, .mget false [2] (.int .i64 0) false (.t 104) (.t 106), none⟩,
    ⟨some 108, .bin .leq (.t 103) (.t 107), none⟩])
  (.cond (.t 108) (.seq (.ops [⟨some 4, .mv (.c (.bool false)), none⟩])
  (.ret)) (.skip))))))) (.skip)))))))))))
  (.ops [⟨some 35, .mv (.t 9), none⟩,
    ⟨some 36, .bin .add (.t 35) (.c (.int .i64 1)), none⟩,
    ⟨some 9, .mv (.t 36), none⟩]))))))
  (.seq (.seq (.bad)
  (.block 2 (.loop (.seq (.ops [⟨some 111, .nxt false (.t 110), none⟩,
    ⟨some 112, .ext (.t 111) 0, none⟩])
  (.seq (.cond (.t 112) (.skip) (.exit 2))
  (.block 3 (.seq (.bad)
  (.seq (.ops [⟨some 117, .mv (.t 5), none⟩,
    ⟨some 118, .mv (.t 17), none⟩,
    ⟨some 119, .call (.c (.fn n_topic_End [] [])) [(.t 117), (.t 118)], none⟩,
    ⟨some 116, .mv (.t 119), none⟩,
    ⟨some 120, .ext (.t 116) 0, none⟩,
    ⟨some 121, .ext (.t 116) 1, none⟩,
    ⟨some 19, .mv (.t 120), none⟩,
    ⟨some 20, .mv (.t 121), none⟩])
  (.seq (.seq (.ops [⟨some 122, .mv (.t 19), none⟩,
    ⟨some 123, .mv (.t 6), none⟩,
    ⟨some 124, .mv (.t 17), none⟩,
    ⟨some 125, .mget false [2] (.int .i64 0) false (.t 123) (.t 124), none⟩,
    ⟨some 126, .bin .neq (.t 122) (.t 125), none⟩,
    ⟨some 127, .mv (.t 126), none⟩,
    ⟨some 128, .mv (.t 19), some (127, false)⟩,
    ⟨some 129, .mv (.t 18), some (127, false)⟩,
    ⟨some 130, .len 1 (.t 129), some (127, false)⟩,
    ⟨some 131, .bin .neq (.t 128) (.t 130), some (127, false)⟩,
    ⟨some 132, .pick (.t 127) (.c (.bool true)) (.t 131), none⟩,
    ⟨some 133, .mv (.t 132), none⟩,
    ⟨some 134, .mv (.t 20), some (133, false)⟩,
    ⟨some 135, .bin .neq (.t 134) (.c (.int .i64 0)), some (133, false)⟩,
    ⟨some 136, .pick (.t 133) (.c (.bool true)) (.t 135), none⟩])
  (.cond (.t 136) (.seq (.ops [⟨some 4, .mv (.c (.bool false)), none⟩])
  (.ret)) (.skip)))
  (.seq (.ops [⟨some 21, .mv (.c (.int .i64 0)), none⟩])
  (.block 4 (.loop (.seq (.seq (.ops [⟨some 137, .mv (.t 21), none⟩,
    ⟨some 138, .mv (.t 18), none⟩,
    ⟨some 139, .len 1 (.t 138), none⟩,
    ⟨some 140, .bin .lss (.t 137) (.t 139), none⟩])
  (.cond (.t 140) (.skip) (.exit 4)))
  (.seq (.block 5 (.seq (.ops [⟨some 144, .mv (.t 5), none⟩,
    ⟨some 145, .mv (.t 17), none⟩,
    ⟨some 146, .mv (.t 21), none⟩,
    ⟨some 147, .call (.c (.fn n_topic_Read [] [])) [(.t 144), (.t 145), (.t 146)], none⟩,
    ⟨some 143, .mv (.t 147), none⟩,
    ⟨some 148, .ext (.t 143) 0, none⟩,
    ⟨some 149, .ext (.t 143) 1, none⟩,
    ⟨some 22, .alloc [.str [], .str [], .int .u64 0, .nilsl], none⟩,
    ⟨none, .store 4 (.t 22) (.t 148), none⟩,
    ⟨some 23, .mv (.t 149), none⟩])
  (.seq (.ops [⟨some 150, .mv (.t 21), none⟩,
    ⟨some 151, .mv (.t 7), none⟩,
    ⟨some 152, .mv (.t 17), none⟩,
    ⟨some 153, .mget false [2] (.int .i64 0) false (.t 151) (.t 152), none⟩,
    ⟨some 154, .bin .lss (.t 150) (.t 153), none⟩])
  (.cond (.t 154) (.seq (.ops [⟨some 155, .mv (.t 23), none⟩,
    ⟨some 156, .bin .neq (.t 155) (.c (.int .i64 8)), none⟩])
  (.cond (.t 156) (.seq (.ops [⟨some 4, .mv (.c (.bool false)), none⟩])
  (.ret)) (.skip))) (.seq (.draw [⟨some 157, .mv (.t 23), none⟩,
    ⟨some 158, .bin .neq (.t 157) (.c (.int .i64 0)), none⟩,
    ⟨some 159, .mv (.t 158), none⟩,
    ⟨some 160, .load 4 true (.t 22), some (159, false)⟩,
    ⟨some 161, .mv (.t 18), some (159, false)⟩,
    ⟨some 162, .mv (.t 21), some (159, false)⟩,
    ⟨some 163, .iad 4 true (.t 161) (.t 162), some (159, false)⟩,
    ⟨some 164, .load 4 true (.t 163), some (159, false)⟩,
    ⟨some 165, .dcall (.c (.fn n_trystref04_Same [] [])) [(.t 160), (.t 164)], some (159, false)⟩,
    ⟨some 166, .un .not (.t 165), some (159, false)⟩,
    ⟨some 167, .pick (.t 159) (.c (.bool true)) (.t 166), none⟩])
  (.cond (.t 167) (.seq (.ops [⟨some 4, .mv (.c (.bool false)), none⟩])
  (.ret)) (.skip)))))))
  (.ops [⟨some 141, .mv (.t 21), none⟩,
    ⟨some 142, .bin .add (.t 141) (.c (.int .i64 1)), none⟩,
    ⟨some 21, .mv (.t 142), none⟩])))))))))))))))
  (.seq (.ops [⟨some 168, .mv (.t 5), none⟩,
    ⟨some 169, .call (.c (.fn n_topic_Check [] [])) [(.t 168)], none⟩,
    ⟨some 170, .bin .eql (.t 169) (.c (.int .i64 0)), none⟩,
    ⟨some 171, .mv (.t 170), none⟩,
    ⟨some 172, .call (.c (.fn n_trystlaw12_awake [] [])) [], some (171, true)⟩,
    ⟨some 173, .pick (.t 171) (.t 172) (.c (.bool false)), none⟩,
    ⟨some 4, .mv (.t 173), none⟩])
  (.ret))))))))
theorem k_trystlaw12_TopicKeeps : FnIs AP n_trystlaw12_TopicKeeps c_trystlaw12_TopicKeeps 174 (rsT [4]) := fnIs_of (fn := Go.Proofs.Try.f5) Go.Proofs.Try.func5 (by kernel_rfl) (by kernel_rfl) (by kernel_rfl) (by kernel_rfl) (by kernel_rfl)
theorem a_trystlaw12_TopicKeeps {x0 x1 : V} {H : List Entry} {K : KV} (h : Wf H → awp AP H.length c_trystlaw12_TopicKeeps (finW H.length (rsT [4]) K) ([x0, x1] ++ List.replicate 172 undefV) H) : BCall AP n_trystlaw12_TopicKeeps [x0, x1] H K := k_trystlaw12_TopicKeeps.call (by kernel_rfl) h
-- 5 tryst/trystlaw12.TopicKeeps: [law.go:103, law.go:103]
/-- tryst/trystlaw12.TopicBounds: 104 slots -/
def c_trystlaw12_TopicBounds : AC := .seq (.ops [⟨some 4, .mv (.c (.bool false)), none⟩])
  (.seq (.ops [⟨some 13, .mv (.t 0), none⟩,
    ⟨some 14, .call (.c (.fn n_trystlaw12_Few [] [])) [(.t 13)], none⟩,
    ⟨some 0, .mv (.t 14), none⟩])
  (.seq (.seq (.ops [⟨some 15, .mv (.t 0), none⟩,
    ⟨some 16, .call (.c (.fn n_topic_Check [] [])) [(.t 15)], none⟩,
    ⟨some 17, .bin .neq (.t 16) (.c (.int .i64 0)), none⟩])
  (.cond (.t 17) (.seq (.ops [⟨some 19, .mv (.t 0), none⟩,
    ⟨some 20, .mv (.t 1), none⟩,
    ⟨some 21, .call (.c (.fn n_topic_Read [] [])) [(.t 19), (.c (.str [97])), (.t 20)], none⟩,
    ⟨some 18, .mv (.t 21), none⟩,
    ⟨some 22, .ext (.t 18) 0, none⟩,
    ⟨some 23, .ext (.t 18) 1, none⟩,
    ⟨some 5, .alloc [.str [], .str [], .int .u64 0, .nilsl], none⟩,
    ⟨none, .store 4 (.t 5) (.t 22), none⟩,
    ⟨some 6, .mv (.t 23), none⟩])
  (.seq (.ops [⟨some 24, .mv (.t 6), none⟩,
    ⟨some 25, .bin .eql (.t 24) (.c (.int .i64 1)), none⟩,
    ⟨some 26, .mv (.t 25), none⟩,
    ⟨some 27, .call (.c (.fn n_trystlaw12_awake [] [])) [], some (26, true)⟩,
    ⟨some 28, .pick (.t 26) (.t 27) (.c (.bool false)), none⟩,
    ⟨some 4, .mv (.t 28), none⟩])
  (.ret))) (.skip)))
  (.seq (.seq (.ops [⟨some 7, .mv (.c (.int .i64 0)), none⟩])
  (.block 0 (.loop (.seq (.seq (.ops [⟨some 29, .mv (.t 7), none⟩,
    ⟨some 30, .mv (.t 0), none⟩,
    ⟨some 31, .len 1 (.t 30), none⟩,
    ⟨some 32, .bin .lss (.t 29) (.t 31), none⟩])
  (.cond (.t 32) (.skip) (.exit 0)))
  (.seq (.block 1 (.seq (.ops [⟨some 36, .mv (.t 0), none⟩,
    ⟨some 37, .mv (.t 0), none⟩,
    ⟨some 38, .mv (.t 7), none⟩,
    ⟨some 39, .iad 3 true (.t 37) (.t 38), none⟩,
    ⟨some 40, .fad 0 (.t 39), none⟩,
    ⟨some 41, .load 1 false (.t 40), none⟩,
    ⟨some 42, .call (.c (.fn n_topic_End [] [])) [(.t 36), (.t 41)], none⟩,
    ⟨some 35, .mv (.t 42), none⟩,
    ⟨some 43, .ext (.t 35) 0, none⟩,
    ⟨some 44, .ext (.t 35) 1, none⟩,
    ⟨some 8, .mv (.t 43), none⟩,
    ⟨some 9, .mv (.t 44), none⟩])
  (.seq (.ops [⟨some 46, .mv (.t 0), none⟩,
    ⟨some 47, .mv (.t 0), none⟩,
    ⟨some 48, .mv (.t 7), none⟩,
    ⟨some 49, .iad 3 true (.t 47) (.t 48), none⟩,
    ⟨some 50, .fad 0 (.t 49), none⟩,
    ⟨some 51, .load 1 false (.t 50), none⟩,
    ⟨some 52, .mv (.t 1), none⟩,
    ⟨some 53, .call (.c (.fn n_topic_Read [] [])) [(.t 46), (.t 51), (.t 52)], none⟩,
    ⟨some 45, .mv (.t 53), none⟩,
    ⟨some 54, .ext (.t 45) 0, none⟩,
    ⟨some 55, .ext (.t 45) 1, none⟩,
    ⟨some 10, .alloc [.str [], .str [], .int .u64 0, .nilsl], none⟩,
    ⟨none, .store 4 (.t 10) (.t 54), none⟩,
    ⟨some 11, .mv (.t 55), none⟩])
  (.seq (.ops [⟨some 12, .mv (.c (.int .i64 0)), none⟩])
  (.seq (.seq (.ops [⟨some 56, .mv (.t 1), none⟩,
    ⟨some 57, .mv (.t 0), none⟩,
    ⟨some 58, .mv (.t 7), none⟩,
    ⟨some 59, .iad 3 true (.t 57) (.t 58), none⟩,
    ⟨some 60, .fad 1 (.t 59), none⟩,
    ⟨some 61, .load 1 false (.t 60), none⟩,
    ⟨some 62, .bin .lss (.t 56) (.t 61), none⟩])
  (.cond (.t 62) (.ops [⟨some 12, .mv (.c (.int .i64 8)), none⟩]) (.seq (.ops [⟨some 63, .mv (.t 1), none⟩,
    ⟨some 64, .mv (.t 8), none⟩,
    ⟨some 65, .bin .geq (.t 63) (.t 64), none⟩])
  (.cond (.t 65) (.ops [⟨some 12, .mv (.c (.int .i64 9)), none⟩]) (.skip)))))
  (.seq (.draw [⟨some 66, .mv (.t 9), none⟩,
    ⟨some 67, .bin .neq (.t 66) (.c (.int .i64 0)), none⟩,
    ⟨some 68, .mv (.t 67), none⟩,
    ⟨some 69, .mv (.t 8), some (68, false)⟩,
    ⟨some 70, .mv (.t 0), some (68, false)⟩,
    ⟨some 71, .mv (.t 7), some (68, false)⟩,
    ⟨some 72, .iad 3 true (.t 70) (.t 71), some (68, false)⟩,
    ⟨some 73, .fad 1 (.t 72), some (68, false)⟩,
    ⟨some 74, .load 1 false (.t 73), some (68, false)⟩,
    ⟨some 75, .mv (.t 0), some (68, false)⟩,
    ⟨some 76, .mv (.t 7), some (68, false)⟩,
    ⟨some 77, .iad 3 true (.t 75) (.t 76), some (68, false)⟩,
    ⟨some 78, .fad 2 (.t 77), some (68, false)⟩,
    ⟨some 79, .load 1 false (.t 78), some (68, false)⟩,
    ⟨some 80, .len 1 (.t 79), some (68, false)⟩,
    ⟨some 81, .bin .add (.t 74) (.t 80), some (68, false)⟩,
    ⟨some 82, .bin .neq (.t 69) (.t 81), some (68, false)⟩,
    ⟨some 83, .pick (.t 68) (.c (.bool true)) (.t 82), none⟩,
    ⟨some 84, .mv (.t 83), none⟩,
    ⟨some 85, .mv (.t 11), some (84, false)⟩,
    ⟨some 86, .mv (.t 12), some (84, false)⟩,
    ⟨some 87, .bin .neq (.t 85) (.t 86), some (84, false)⟩,
    ⟨some 88, .pick (.t 84) (.c (.bool true)) (.t 87), none⟩,
    ⟨some 89, .mv (.t 88), none⟩,
    ⟨some 90, .mv (.t 11), some (89, false)⟩,
    ⟨some 91, .bin .eql (.t 90) (.c (.int .i64 0)), some (89, false)⟩,
    ⟨some 92, .mv (.t 91), some (89, false)⟩,
    ⟨some 93, .fad 0 (.t 10), some (92, true)⟩,
    ⟨some 94, .load 1 false (.t 93), some (92, true)⟩,
    ⟨some 95, .mv (.t 0), some (92, true)⟩,
    ⟨some 96, .mv (.t 7), some (92, true)⟩,
    ⟨some 97, .iad 3 true (.t 95) (.t 96), some (92, true)⟩,
    ⟨some 98, .fad 0 (.t 97), some (92, true)⟩,
    ⟨some 99, .load 1 false (.t 98), some (92, true)⟩,
    ⟨some 100, .bin .neq (.t 94) (.t 99), some (92, true)⟩,
    ⟨some 101, .pick (.t 92) (.t 100) (.c (.bool false)), some (89, false)⟩,
    ⟨some 102, .pick (.t 89) (.c (.bool true)) (.t 101), none⟩])
  (.cond (.t 102) (.seq (.ops [⟨some 4, .mv (.c (.bool false)), none⟩])
  (.ret)) (.skip))))))))
  (.ops [⟨some 33, .mv (.t 7), none⟩,
    ⟨some 34, .bin .add (.t 33) (.c (.int .i64 1)), none⟩,
    ⟨some 7, .mv (.t 34), none⟩]))))))
  (.seq (.ops [⟨some 103, .call (.c (.fn n_trystlaw12_awake [] [])) [], none⟩,
    ⟨some 4, .mv (.t 103), none⟩])
  (.ret)))))
theorem k_trystlaw12_TopicBounds : FnIs AP n_trystlaw12_TopicBounds c_trystlaw12_TopicBounds 104 (rsT [4]) := fnIs_of (fn := Go.Proofs.Try.f6) Go.Proofs.Try.func6 (by kernel_rfl) (by kernel_rfl) (by kernel_rfl) (by kernel_rfl) (by kernel_rfl)
theorem a_trystlaw12_TopicBounds {x0 x1 : V} {H : List Entry} {K : KV} (h : Wf H → awp AP H.length c_trystlaw12_TopicBounds (finW H.length (rsT [4]) K) ([x0, x1] ++ List.replicate 102 undefV) H) : BCall AP n_trystlaw12_TopicBounds [x0, x1] H K := k_trystlaw12_TopicBounds.call (by kernel_rfl) h
/-- tryst/trystlaw12.Few: 68 slots -/
def c_trystlaw12_Few : AC := .seq (.ops [⟨some 2, .mv (.c (.nilsl)), none⟩])
  (.seq (.ops [⟨some 3, .mv (.c (.nilsl)), none⟩])
  (.seq (.seq (.ops [⟨some 4, .mv (.c (.int .i64 0)), none⟩])
  (.block 0 (.loop (.seq (.seq (.ops [⟨some 8, .mv (.t 4), none⟩,
    ⟨some 9, .mv (.t 0), none⟩,
    ⟨some 10, .len 1 (.t 9), none⟩,
    ⟨some 11, .bin .lss (.t 8) (.t 10), none⟩,
    ⟨some 12, .mv (.t 11), none⟩,
    ⟨some 13, .mv (.t 4), some (12, true)⟩,
    ⟨some 14, .bin .lss (.t 13) (.c (.int .i64 21)), some (12, true)⟩,
    ⟨some 15, .pick (.t 12) (.t 14) (.c (.bool false)), none⟩])
  (.cond (.t 15) (.skip) (.exit 0)))
  (.seq (.block 1 (.seq (.draw [⟨some 18, .mv (.t 0), none⟩,
    ⟨some 19, .mv (.t 4), none⟩,
    ⟨some 20, .iad 3 true (.t 18) (.t 19), none⟩,
    ⟨some 21, .fad 0 (.t 20), none⟩,
    ⟨some 22, .load 1 false (.t 21), none⟩,
    ⟨some 23, .pcall (.c (.fn n_trystlaw02_Few [] [])) [(.t 22)], none⟩,
    ⟨some 24, .mv (.t 0), none⟩,
    ⟨some 25, .mv (.t 4), none⟩,
    ⟨some 26, .iad 3 true (.t 24) (.t 25), none⟩,
    ⟨some 27, .fad 1 (.t 26), none⟩,
    ⟨some 28, .load 1 false (.t 27), none⟩,
    ⟨some 29, .build [.str [], .int .i64 0, .nilsl] [(0, 1, (.t 23)), (1, 1, (.t 28))], none⟩,
    ⟨some 5, .alloc [.str [], .int .i64 0, .nilsl], none⟩,
    ⟨none, .store 3 (.t 5) (.t 29), none⟩])
  (.seq (.seq (.ops [⟨some 6, .mv (.c (.int .i64 0)), none⟩])
  (.block 2 (.loop (.seq (.seq (.ops [⟨some 30, .mv (.t 6), none⟩,
    ⟨some 31, .mv (.t 0), none⟩,
    ⟨some 32, .mv (.t 4), none⟩,
    ⟨some 33, .iad 3 true (.t 31) (.t 32), none⟩,
    ⟨some 34, .fad 2 (.t 33), none⟩,
    ⟨some 35, .load 1 false (.t 34), none⟩,
    ⟨some 36, .len 1 (.t 35), none⟩,
    ⟨some 37, .bin .lss (.t 30) (.t 36), none⟩,
    ⟨some 38, .mv (.t 37), none⟩,
    ⟨some 39, .mv (.t 6), some (38, true)⟩,
    ⟨some 40, .bin .lss (.t 39) (.c (.int .i64 101)), some (38, true)⟩,
    ⟨some 41, .pick (.t 38) (.t 40) (.c (.bool false)), none⟩])
  (.cond (.t 41) (.skip) (.exit 2)))
  (.seq (.block 3 (.seq (.ops [⟨some 44, .mv (.t 0), none⟩,
    ⟨some 45, .mv (.t 4), none⟩,
    ⟨some 46, .iad 3 true (.t 44) (.t 45), none⟩,
    ⟨some 47, .fad 2 (.t 46), none⟩,
    ⟨some 48, .load 1 false (.t 47), none⟩,
    ⟨some 49, .mv (.t 6), none⟩,
    ⟨some 50, .iad 1 false (.t 48) (.t 49), none⟩,
    ⟨some 51, .load 1 false (.t 50), none⟩,
    ⟨some 7, .mv (.t 51), none⟩])
  (.seq (.seq (.ops [⟨some 52, .mv (.t 7), none⟩,
    ⟨some 53, .len 0 (.t 52), none⟩,
    ⟨some 54, .bin .gtr (.t 53) (.c (.int .i64 900)), none⟩])
  (.cond (.t 54) (.ops [⟨some 55, .mv (.t 7), none⟩,
    ⟨some 56, .sls (.t 55) none (some (.c (.int .i64 900))), none⟩,
    ⟨some 7, .mv (.t 56), none⟩]) (.skip)))
  (.ops [⟨some 57, .fad 2 (.t 5), none⟩,
    ⟨some 58, .load 1 false (.t 57), none⟩,
    ⟨some 59, .mv (.t 7), none⟩,
    ⟨some 60, .bsl 1 false [(.t 59)], none⟩,
    ⟨some 61, .app 9 1 16 false (.t 58) (.t 60), none⟩,
    ⟨some 62, .fad 2 (.t 5), none⟩,
    ⟨none, .store 1 (.t 62) (.t 61), none⟩]))))
  (.ops [⟨some 42, .mv (.t 6), none⟩,
    ⟨some 43, .bin .add (.t 42) (.c (.int .i64 1)), none⟩,
    ⟨some 6, .mv (.t 43), none⟩]))))))
  (.ops [⟨some 63, .mv (.t 3), none⟩,
    ⟨some 64, .load 3 true (.t 5), none⟩,
    ⟨some 65, .bsl 3 true [(.t 64)], none⟩,
    ⟨some 66, .app 45 3 48 true (.t 63) (.t 65), none⟩,
    ⟨some 3, .mv (.t 66), none⟩]))))
  (.ops [⟨some 16, .mv (.t 4), none⟩,
    ⟨some 17, .bin .add (.t 16) (.c (.int .i64 1)), none⟩,
    ⟨some 4, .mv (.t 17), none⟩]))))))
  (.seq (.ops [⟨some 67, .mv (.t 3), none⟩,
    ⟨some 2, .mv (.t 67), none⟩])
  (.ret))))
theorem k_trystlaw12_Few : FnIs AP n_trystlaw12_Few c_trystlaw12_Few 68 (rsT [2]) := fnIs_of (fn := Go.Proofs.Try.f7) Go.Proofs.Try.func7 (by kernel_rfl) (by kernel_rfl) (by kernel_rfl) (by kernel_rfl) (by kernel_rfl)
theorem a_trystlaw12_Few {x0 : V} {H : List Entry} {K : KV} (h : Wf H → awp AP H.length c_trystlaw12_Few (finW H.length (rsT [2]) K) ([x0] ++ List.replicate 67 undefV) H) : BCall AP n_trystlaw12_Few [x0] H K := k_trystlaw12_Few.call (by kernel_rfl) h
/-- tryst/trystlaw04.Few: 46 slots -/
def c_trystlaw04_Few : AC := .seq (.ops [⟨some 1, .box (.t 0), none⟩,
    ⟨some 2, .alloc [.str [], .str [], .int .u64 0, .nilsl], none⟩])
  (.seq (.draw [⟨some 5, .fad 0 (.t 1), none⟩,
    ⟨some 6, .load 1 false (.t 5), none⟩,
    ⟨some 7, .pcall (.c (.fn n_trystlaw02_Few [] [])) [(.t 6)], none⟩,
    ⟨some 8, .fad 1 (.t 1), none⟩,
    ⟨some 9, .load 1 false (.t 8), none⟩,
    ⟨some 10, .pcall (.c (.fn n_trystlaw02_Few [] [])) [(.t 9)], none⟩,
    ⟨some 11, .fad 2 (.t 1), none⟩,
    ⟨some 12, .load 1 false (.t 11), none⟩,
    ⟨some 13, .build [.str [], .str [], .int .u64 0, .nilsl] [(0, 1, (.t 7)), (1, 1, (.t 10)), (2, 1, (.t 12))], none⟩,
    ⟨some 3, .alloc [.str [], .str [], .int .u64 0, .nilsl], none⟩,
    ⟨none, .store 4 (.t 3) (.t 13), none⟩])
  (.seq (.seq (.ops [⟨some 4, .mv (.c (.int .i64 0)), none⟩])
  (.block 0 (.loop (.seq (.seq (.ops [⟨some 14, .mv (.t 4), none⟩,
    ⟨some 15, .fad 3 (.t 1), none⟩,
    ⟨some 16, .load 1 false (.t 15), none⟩,
    ⟨some 17, .len 1 (.t 16), none⟩,
    ⟨some 18, .bin .lss (.t 14) (.t 17), none⟩,
    ⟨some 19, .mv (.t 18), none⟩,
    ⟨some 20, .mv (.t 4), some (19, true)⟩,
    ⟨some 21, .bin .lss (.t 20) (.c (.int .i64 10)), some (19, true)⟩,
    ⟨some 22, .pick (.t 19) (.t 21) (.c (.bool false)), none⟩])
  (.cond (.t 22) (.skip) (.exit 0)))
  (.seq (.block 1 (.draw [⟨some 25, .fad 3 (.t 3), none⟩,
    ⟨some 26, .load 1 false (.t 25), none⟩,
    ⟨some 27, .fad 3 (.t 1), none⟩,
    ⟨some 28, .load 1 false (.t 27), none⟩,
    ⟨some 29, .mv (.t 4), none⟩,
    ⟨some 30, .iad 4 true (.t 28) (.t 29), none⟩,
    ⟨some 31, .fad 0 (.t 30), none⟩,
    ⟨some 32, .load 1 false (.t 31), none⟩,
    ⟨some 33, .dcall (.c (.fn n_trystlaw02_Few [] [])) [(.t 32)], none⟩,
    ⟨some 34, .fad 3 (.t 1), none⟩,
    ⟨some 35, .load 1 false (.t 34), none⟩,
    ⟨some 36, .mv (.t 4), none⟩,
    ⟨some 37, .iad 4 true (.t 35) (.t 36), none⟩,
    ⟨some 38, .fad 1 (.t 37), none⟩,
    ⟨some 39, .load 3 true (.t 38), none⟩,
    ⟨some 40, .dcall (.c (.fn n_trystlaw03_Few [] [])) [(.t 39)], none⟩,
    ⟨some 41, .build [.str [], .bool false, .int .i64 0, .str []] [(0, 1, (.t 33)), (1, 3, (.t 40))], none⟩,
    ⟨some 42, .bslm 4 true [(.t 41)], none⟩,
    ⟨some 43, .app 66 4 48 true (.t 26) (.t 42), none⟩,
    ⟨some 44, .fad 3 (.t 3), none⟩,
    ⟨none, .store 1 (.t 44) (.t 43), none⟩]))
  (.ops [⟨some 23, .mv (.t 4), none⟩,
    ⟨some 24, .bin .add (.t 23) (.c (.int .i64 1)), none⟩,
    ⟨some 4, .mv (.t 24), none⟩]))))))
  (.seq (.ops [⟨some 45, .load 4 true (.t 3), none⟩,
    ⟨none, .store 4 (.t 2) (.t 45), none⟩])
  (.ret))))
theorem k_trystlaw04_Few : FnIs AP n_trystlaw04_Few c_trystlaw04_Few 46 [.cell 2 4 true] := fnIs_of (fn := Go.Proofs.Try.f8) Go.Proofs.Try.func8 (by kernel_rfl) (by kernel_rfl) (by kernel_rfl) (by kernel_rfl) (by kernel_rfl)
theorem a_trystlaw04_Few {x0 : V} {H : List Entry} {K : KV} (h : Wf H → awp AP H.length c_trystlaw04_Few (finW H.length [.cell 2 4 true] K) ([x0] ++ List.replicate 45 undefV) H) : BCall AP n_trystlaw04_Few [x0] H K := k_trystlaw04_Few.call (by kernel_rfl) h
/-- tryst/trystlaw02.Few: 9 slots -/
def c_trystlaw02_Few : AC := .seq (.ops [⟨some 2, .mv (.c (.str [])), none⟩])
  (.seq (.seq (.ops [⟨some 3, .mv (.t 0), none⟩,
    ⟨some 4, .len 0 (.t 3), none⟩,
    ⟨some 5, .bin .gtr (.t 4) (.c (.int .i64 60)), none⟩])
  (.cond (.t 5) (.seq (.ops [⟨some 6, .mv (.t 0), none⟩,
    ⟨some 7, .sls (.t 6) none (some (.c (.int .i64 60))), none⟩,
    ⟨some 2, .mv (.t 7), none⟩])
  (.ret)) (.skip)))
  (.seq (.ops [⟨some 8, .mv (.t 0), none⟩,
    ⟨some 2, .mv (.t 8), none⟩])
  (.ret)))
theorem k_trystlaw02_Few : FnIs AP n_trystlaw02_Few c_trystlaw02_Few 9 (rsT [2]) := fnIs_of (fn := Go.Proofs.Try.f9) Go.Proofs.Try.func9 (by kernel_rfl) (by kernel_rfl) (by kernel_rfl) (by kernel_rfl) (by kernel_rfl)
theorem a_trystlaw02_Few {x0 : V} {H : List Entry} {K : KV} (h : Wf H → awp AP H.length c_trystlaw02_Few (finW H.length (rsT [2]) K) ([x0] ++ List.replicate 8 undefV) H) : BCall AP n_trystlaw02_Few [x0] H K := k_trystlaw02_Few.call (by kernel_rfl) h
/-- tryst/topic.Append: 74 slots -/
def c_topic_Append : AC := .seq (.ops [⟨some 3, .box (.t 1), none⟩,
    ⟨some 4, .mv (.c (.nilsl)), none⟩,
    ⟨some 5, .mv (.c (.int .i64 0)), none⟩,
    ⟨some 6, .mv (.c (.int .i64 0)), none⟩])
  (.seq (.ops [⟨some 14, .load 4 true (.t 3), none⟩,
    ⟨some 15, .call (.c (.fn n_event_Lay [] [])) [(.t 14)], none⟩,
    ⟨some 13, .mv (.t 15), none⟩,
    ⟨some 16, .ext (.t 13) 0, none⟩,
    ⟨some 17, .ext (.t 13) 1, none⟩,
    ⟨some 7, .mv (.t 16), none⟩,
    ⟨some 8, .mv (.t 17), none⟩])
  (.seq (.seq (.ops [⟨some 18, .mv (.t 0), none⟩,
    ⟨some 19, .call (.c (.fn n_topic_Check [] [])) [(.t 18)], none⟩,
    ⟨some 20, .bin .neq (.t 19) (.c (.int .i64 0)), none⟩,
    ⟨some 21, .mv (.t 20), none⟩,
    ⟨some 22, .mv (.t 8), some (21, false)⟩,
    ⟨some 23, .bin .neq (.t 22) (.c (.int .i64 0)), some (21, false)⟩,
    ⟨some 24, .pick (.t 21) (.c (.bool true)) (.t 23), none⟩])
  (.cond (.t 24) (.seq (.ops [⟨some 4, .mv (.c (.nilsl)), none⟩,
    ⟨some 5, .mv (.c (.int .i64 0)), none⟩,
    ⟨some 6, .mv (.c (.int .i64 1)), none⟩])
  (.ret)) (.skip)))
  (.seq (.ops [⟨some 26, .mv (.t 0), none⟩,
    ⟨some 27, .fad 0 (.t 3), none⟩,
    ⟨some 28, .load 1 false (.t 27), none⟩,
    ⟨some 29, .call (.c (.fn n_topic_Find [] [])) [(.t 26), (.t 28)], none⟩,
    ⟨some 25, .mv (.t 29), none⟩,
    ⟨some 30, .ext (.t 25) 0, none⟩,
    ⟨some 31, .ext (.t 25) 1, none⟩,
    ⟨some 9, .mv (.t 30), none⟩,
    ⟨some 10, .mv (.t 31), none⟩])
  (.seq (.seq (.ops [⟨some 32, .mv (.t 10), none⟩,
    ⟨some 33, .un .not (.t 32), none⟩])
  (.cond (.t 33) (.seq (.ops [⟨some 34, .mv (.t 0), none⟩,
    ⟨some 35, .fad 0 (.t 3), none⟩,
    ⟨some 36, .load 1 false (.t 35), none⟩,
    ⟨some 37, .mv (.t 7), none⟩,
    ⟨some 38, .call (.c (.fn n_topic_begin [] [])) [(.t 34), (.t 36), (.t 37)], none⟩,
    ⟨some 39, .ext (.t 38) 0, none⟩,
    ⟨some 40, .ext (.t 38) 1, none⟩,
    ⟨some 41, .ext (.t 38) 2, none⟩,
    ⟨some 4, .mv (.t 39), none⟩,
    ⟨some 5, .mv (.t 40), none⟩,
    ⟨some 6, .mv (.t 41), none⟩])
  (.ret)) (.skip)))
  (.seq (.ops [⟨some 42, .mv (.t 0), none⟩,
    ⟨some 43, .mv (.t 9), none⟩,
    ⟨some 44, .iad 3 true (.t 42) (.t 43), none⟩,
    ⟨some 45, .load 3 true (.t 44), none⟩,
    ⟨some 11, .alloc [.str [], .int .i64 0, .nilsl], none⟩,
    ⟨none, .store 3 (.t 11) (.t 45), none⟩])
  (.seq (.ops [⟨some 46, .load 3 true (.t 11), none⟩,
    ⟨some 47, .call (.c (.fn n_topic_endOf [] [])) [(.t 46)], none⟩,
    ⟨some 12, .mv (.t 47), none⟩])
  (.seq (.seq (.ops [⟨some 48, .fad 2 (.t 11), none⟩,
    ⟨some 49, .load 1 false (.t 48), none⟩,
    ⟨some 50, .len 1 (.t 49), none⟩,
    ⟨some 51, .bin .eql (.t 50) (.c (.int .i64 100)), none⟩,
    ⟨some 52, .mv (.t 51), none⟩,
    ⟨some 53, .mv (.t 12), some (52, false)⟩,
    ⟨some 54, .bin .eql (.t 53) (.c (.int .i64 1099511627775)), some (52, false)⟩,
    ⟨some 55, .pick (.t 52) (.c (.bool true)) (.t 54), none⟩])
  (.cond (.t 55) (.seq (.ops [⟨some 4, .mv (.c (.nilsl)), none⟩,
    ⟨some 5, .mv (.c (.int .i64 0)), none⟩,
    ⟨some 6, .mv (.c (.int .i64 6)), none⟩])
  (.ret)) (.skip)))
  (.seq (.ops [⟨some 56, .fad 2 (.t 11), none⟩,
    ⟨some 57, .load 1 false (.t 56), none⟩,
    ⟨some 58, .fad 2 (.t 11), none⟩,
    ⟨some 59, .load 1 false (.t 58), none⟩,
    ⟨some 60, .len 1 (.t 59), none⟩,
    ⟨some 61, .fad 2 (.t 11), none⟩,
    ⟨some 62, .load 1 false (.t 61), none⟩,
    ⟨some 63, .len 1 (.t 62), none⟩,
    ⟨some 64, .slc 1 (.t 57) none (some (.t 60)) (some (.t 63)), none⟩,
    ⟨some 65, .mv (.t 7), none⟩,
    ⟨some 66, .bsl 1 false [(.t 65)], none⟩,
    ⟨some 67, .app 9 1 16 false (.t 64) (.t 66), none⟩,
    ⟨some 68, .fad 2 (.t 11), none⟩,
    ⟨none, .store 1 (.t 68) (.t 67), none⟩])
  (.seq (.ops [⟨some 69, .mv (.t 0), none⟩,
    ⟨some 70, .mv (.t 9), none⟩,
    ⟨some 71, .load 3 true (.t 11), none⟩,
    ⟨some 72, .call (.c (.fn n_list_Set_api_Topic [] [])) [(.t 69), (.t 70), (.t 71)], none⟩,
    ⟨some 73, .mv (.t 12), none⟩,
    ⟨some 4, .mv (.t 72), none⟩,
    ⟨some 5, .mv (.t 73), none⟩,
    ⟨some 6, .mv (.c (.int .i64 0)), none⟩])
  (.ret))))))))))
theorem k_topic_Append : FnIs AP n_topic_Append c_topic_Append 74 (rsT [4, 5, 6]) := fnIs_of (fn := Go.Proofs.Try.f10) Go.Proofs.Try.func10 (by kernel_rfl) (by kernel_rfl) (by kernel_rfl) (by kernel_rfl) (by kernel_rfl)
theorem a_topic_Append {x0 x1 : V} {H : List Entry} {K : KV} (h : Wf H → awp AP H.length c_topic_Append (finW H.length (rsT [4, 5, 6]) K) ([x0, x1] ++ List.replicate 72 undefV) H) : BCall AP n_topic_Append [x0, x1] H K := k_topic_Append.call (by kernel_rfl) h
/-- tryst/trystref12.Append: 70 slots -/
def c_trystref12_Append : AC := .seq (.ops [⟨some 3, .box (.t 1), none⟩,
    ⟨some 4, .mv (.c (.nilsl)), none⟩,
    ⟨some 5, .mv (.c (.int .i64 0)), none⟩,
    ⟨some 6, .mv (.c (.int .i64 0)), none⟩])
  (.seq (.seq (.ops [⟨some 11, .mv (.t 0), none⟩,
    ⟨some 12, .call (.c (.fn n_trystref12_May [] [])) [(.t 11)], none⟩,
    ⟨some 13, .un .not (.t 12), none⟩,
    ⟨some 14, .mv (.t 13), none⟩,
    ⟨some 15, .load 4 true (.t 3), some (14, false)⟩,
    ⟨some 16, .call (.c (.fn n_trystref04_May [] [])) [(.t 15)], some (14, false)⟩,
    ⟨some 17, .un .not (.t 16), some (14, false)⟩,
    ⟨some 18, .pick (.t 14) (.c (.bool true)) (.t 17), none⟩])
  (.cond (.t 18) (.seq (.ops [⟨some 4, .mv (.c (.nilsl)), none⟩,
    ⟨some 5, .mv (.c (.int .i64 0)), none⟩,
    ⟨some 6, .mv (.c (.int .i64 1)), none⟩])
  (.ret)) (.skip)))
  (.seq (.ops [⟨some 19, .fad 0 (.t 3), none⟩,
    ⟨some 20, .load 1 false (.t 19), none⟩,
    ⟨some 21, .build [.str [], .int .i64 0, .nilsl] [(0, 1, (.t 20))], none⟩,
    ⟨some 7, .alloc [.str [], .int .i64 0, .nilsl], none⟩,
    ⟨none, .store 3 (.t 7) (.t 21), none⟩])
  (.seq (.ops [⟨some 23, .mv (.t 0), none⟩,
    ⟨some 24, .fad 0 (.t 3), none⟩,
    ⟨some 25, .load 1 false (.t 24), none⟩,
    ⟨some 26, .call (.c (.fn n_trystref12_Find [] [])) [(.t 23), (.t 25)], none⟩,
    ⟨some 22, .mv (.t 26), none⟩,
    ⟨some 27, .ext (.t 22) 0, none⟩,
    ⟨some 28, .ext (.t 22) 1, none⟩,
    ⟨some 8, .mv (.t 27), none⟩,
    ⟨some 9, .mv (.t 28), none⟩])
  (.seq (.seq (.ops [⟨some 29, .mv (.t 9), none⟩])
  (.cond (.t 29) (.ops [⟨some 30, .mv (.t 0), none⟩,
    ⟨some 31, .mv (.t 8), none⟩,
    ⟨some 32, .iad 3 true (.t 30) (.t 31), none⟩,
    ⟨some 33, .load 3 true (.t 32), none⟩,
    ⟨none, .store 3 (.t 7) (.t 33), none⟩]) (.skip)))
  (.seq (.ops [⟨some 34, .fad 1 (.t 7), none⟩,
    ⟨some 35, .load 1 false (.t 34), none⟩,
    ⟨some 36, .fad 2 (.t 7), none⟩,
    ⟨some 37, .load 1 false (.t 36), none⟩,
    ⟨some 38, .len 1 (.t 37), none⟩,
    ⟨some 39, .bin .add (.t 35) (.t 38), none⟩,
    ⟨some 10, .mv (.t 39), none⟩])
  (.seq (.seq (.ops [⟨some 40, .fad 2 (.t 7), none⟩,
    ⟨some 41, .load 1 false (.t 40), none⟩,
    ⟨some 42, .len 1 (.t 41), none⟩,
    ⟨some 43, .bin .geq (.t 42) (.c (.int .i64 100)), none⟩,
    ⟨some 44, .mv (.t 43), none⟩,
    ⟨some 45, .mv (.t 10), some (44, false)⟩,
    ⟨some 46, .bin .geq (.t 45) (.c (.int .i64 1099511627775)), some (44, false)⟩,
    ⟨some 47, .pick (.t 44) (.c (.bool true)) (.t 46), none⟩,
    ⟨some 48, .mv (.t 47), none⟩,
    ⟨some 49, .mv (.t 9), some (48, false)⟩,
    ⟨some 50, .un .not (.t 49), some (48, false)⟩,
    ⟨some 51, .mv (.t 50), some (48, false)⟩,
    ⟨some 52, .mv (.t 0), some (51, true)⟩,
    ⟨some 53, .len 1 (.t 52), some (51, true)⟩,
    ⟨some 54, .bin .geq (.t 53) (.c (.int .i64 20)), some (51, true)⟩,
    ⟨some 55, .pick (.t 51) (.t 54) (.c (.bool false)), some (48, false)⟩,
    ⟨some 56, .pick (.t 48) (.c (.bool true)) (.t 55), none⟩])
  (.cond (.t 56) (.seq (.ops [⟨some 4, .mv (.c (.nilsl)), none⟩,
    ⟨some 5, .mv (.c (.int .i64 0)), none⟩,
    ⟨some 6, .mv (.c (.int .i64 6)), none⟩])
  (.ret)) (.skip)))
  (.seq (.drawX [] [(3, 57)] [⟨some 57, .bslm 1 false [], none⟩,
    ⟨some 58, .fad 2 (.t 7), none⟩,
    ⟨some 59, .load 1 false (.t 58), none⟩,
    ⟨some 60, .app 9 1 16 false (.t 57) (.t 59), none⟩,
    ⟨some 61, .load 4 true (.t 3), none⟩,
    ⟨some 62, .dcall (.c (.fn n_trystref04_Lay [] [])) [(.t 61)], none⟩,
    ⟨some 63, .bslm 1 false [(.t 62)], none⟩,
    ⟨some 64, .app 9 1 16 false (.t 60) (.t 63), none⟩,
    ⟨some 65, .fad 2 (.t 7), none⟩,
    ⟨none, .store 1 (.t 65) (.t 64), none⟩])
  (.seq (.ops [⟨some 66, .mv (.t 0), none⟩,
    ⟨some 67, .load 3 true (.t 7), none⟩,
    ⟨some 68, .call (.c (.fn n_trystref12_With [] [])) [(.t 66), (.t 67)], none⟩,
    ⟨some 69, .mv (.t 10), none⟩,
    ⟨some 4, .mv (.t 68), none⟩,
    ⟨some 5, .mv (.t 69), none⟩,
    ⟨some 6, .mv (.c (.int .i64 0)), none⟩])
  (.ret)))))))))
theorem k_trystref12_Append : FnIs AP n_trystref12_Append c_trystref12_Append 70 (rsT [4, 5, 6]) := fnIs_of (fn := Go.Proofs.Try.f11) Go.Proofs.Try.func11 (by kernel_rfl) (by kernel_rfl) (by kernel_rfl) (by kernel_rfl) (by kernel_rfl)
theorem a_trystref12_Append {x0 x1 : V} {H : List Entry} {K : KV} (h : Wf H → awp AP H.length c_trystref12_Append (finW H.length (rsT [4, 5, 6]) K) ([x0, x1] ++ List.replicate 68 undefV) H) : BCall AP n_trystref12_Append [x0, x1] H K := k_trystref12_Append.call (by kernel_rfl) h
/-- tryst/topic.Find: 14 slots -/
def c_topic_Find : AC := .seq (.ops [⟨some 3, .box (.t 1), none⟩,
    ⟨some 4, .mv (.c (.int .i64 0)), none⟩,
    ⟨some 5, .mv (.c (.bool false)), none⟩])
  (.seq (.ops [⟨some 7, .mv (.t 0), none⟩,
    ⟨some 8, .mkfn n_topic_Find_1 [] [(.t 3)], none⟩,
    ⟨some 9, .call (.c (.fn n_slices_IndexFunc_api_Topic_api_Topic [] [])) [(.t 7), (.t 8)], none⟩,
    ⟨some 6, .mv (.t 9), none⟩])
  (.seq (.ops [⟨some 10, .mv (.t 6), none⟩,
    ⟨some 11, .mnx false [(.t 10), (.c (.int .i64 0))], none⟩,
    ⟨some 12, .mv (.t 6), none⟩,
    ⟨some 13, .bin .geq (.t 12) (.c (.int .i64 0)), none⟩,
    ⟨some 4, .mv (.t 11), none⟩,
    ⟨some 5, .mv (.t 13), none⟩])
  (.ret)))
theorem k_topic_Find : FnIs AP n_topic_Find c_topic_Find 14 (rsT [4, 5]) := fnIs_of (fn := Go.Proofs.Try.f12) Go.Proofs.Try.func12 (by kernel_rfl) (by kernel_rfl) (by kernel_rfl) (by kernel_rfl) (by kernel_rfl)
theorem a_topic_Find {x0 x1 : V} {H : List Entry} {K : KV} (h : Wf H → awp AP H.length c_topic_Find (finW H.length (rsT [4, 5]) K) ([x0, x1] ++ List.replicate 12 undefV) H) : BCall AP n_topic_Find [x0, x1] H K := k_topic_Find.call (by kernel_rfl) h
/-- tryst/trystref12.Find: 21 slots -/
def c_trystref12_Find : AC := .seq (.ops [⟨some 4, .mv (.c (.int .i64 0)), none⟩,
    ⟨some 5, .mv (.c (.bool false)), none⟩])
  (.seq (.seq (.ops [⟨some 6, .mv (.c (.int .i64 0)), none⟩])
  (.block 0 (.loop (.seq (.seq (.ops [⟨some 7, .mv (.t 6), none⟩,
    ⟨some 8, .mv (.t 0), none⟩,
    ⟨some 9, .len 1 (.t 8), none⟩,
    ⟨some 10, .bin .lss (.t 7) (.t 9), none⟩])
  (.cond (.t 10) (.skip) (.exit 0)))
  (.seq (.block 1 (.seq (.ops [⟨some 13, .mv (.t 0), none⟩,
    ⟨some 14, .mv (.t 6), none⟩,
    ⟨some 15, .iad 3 true (.t 13) (.t 14), none⟩,
    ⟨some 16, .fad 0 (.t 15), none⟩,
    ⟨some 17, .load 1 false (.t 16), none⟩,
    ⟨some 18, .mv (.t 1), none⟩,
    ⟨some 19, .bin .eql (.t 17) (.t 18), none⟩])
  (.cond (.t 19) (.seq (.ops [⟨some 20, .mv (.t 6), none⟩,
    ⟨some 4, .mv (.t 20), none⟩,
    ⟨some 5, .mv (.c (.bool true)), none⟩])
  (.ret)) (.skip))))
  (.ops [⟨some 11, .mv (.t 6), none⟩,
    ⟨some 12, .bin .add (.t 11) (.c (.int .i64 1)), none⟩,
    ⟨some 6, .mv (.t 12), none⟩]))))))
  (.seq (.ops [⟨some 4, .mv (.c (.int .i64 0)), none⟩,
    ⟨some 5, .mv (.c (.bool false)), none⟩])
  (.ret)))
theorem k_trystref12_Find : FnIs AP n_trystref12_Find c_trystref12_Find 21 (rsT [4, 5]) := fnIs_of (fn := Go.Proofs.Try.f13) Go.Proofs.Try.func13 (by kernel_rfl) (by kernel_rfl) (by kernel_rfl) (by kernel_rfl) (by kernel_rfl)
theorem a_trystref12_Find {x0 x1 : V} {H : List Entry} {K : KV} (h : Wf H → awp AP H.length c_trystref12_Find (finW H.length (rsT [4, 5]) K) ([x0, x1] ++ List.replicate 19 undefV) H) : BCall AP n_trystref12_Find [x0, x1] H K := k_trystref12_Find.call (by kernel_rfl) h
/-- tryst/trystref12.Same: 55 slots -/
def c_trystref12_Same : AC := .seq (.ops [⟨some 4, .mv (.c (.bool false)), none⟩])
  (.seq (.seq (.ops [⟨some 6, .mv (.t 0), none⟩,
    ⟨some 7, .len 1 (.t 6), none⟩,
    ⟨some 8, .mv (.t 1), none⟩,
    ⟨some 9, .len 1 (.t 8), none⟩,
    ⟨some 10, .bin .neq (.t 7) (.t 9), none⟩])
  (.cond (.t 10) (.seq (.ops [⟨some 4, .mv (.c (.bool false)), none⟩])
  (.ret)) (.skip)))
  (.seq (.seq (.ops [⟨some 5, .mv (.c (.int .i64 0)), none⟩])
  (.block 0 (.loop (.seq (.seq (.ops [⟨some 11, .mv (.t 5), none⟩,
    ⟨some 12, .mv (.t 0), none⟩,
    ⟨some 13, .len 1 (.t 12), none⟩,
    ⟨some 14, .bin .lss (.t 11) (.t 13), none⟩])
  (.cond (.t 14) (.skip) (.exit 0)))
  (.seq (.block 1 (.seq (.draw [⟨some 17, .mv (.t 0), none⟩,
    ⟨some 18, .mv (.t 5), none⟩,
    ⟨some 19, .iad 3 true (.t 17) (.t 18), none⟩,
    ⟨some 20, .fad 0 (.t 19), none⟩,
    ⟨some 21, .load 1 false (.t 20), none⟩,
    ⟨some 22, .mv (.t 1), none⟩,
    ⟨some 23, .mv (.t 5), none⟩,
    ⟨some 24, .iad 3 true (.t 22) (.t 23), none⟩,
    ⟨some 25, .fad 0 (.t 24), none⟩,
    ⟨some 26, .load 1 false (.t 25), none⟩,
    ⟨some 27, .bin .neq (.t 21) (.t 26), none⟩,
    ⟨some 28, .mv (.t 27), none⟩,
    ⟨some 29, .mv (.t 0), some (28, false)⟩,
    ⟨some 30, .mv (.t 5), some (28, false)⟩,
    ⟨some 31, .iad 3 true (.t 29) (.t 30), some (28, false)⟩,
    ⟨some 32, .fad 1 (.t 31), some (28, false)⟩,
    ⟨some 33, .load 1 false (.t 32), some (28, false)⟩,
    ⟨some 34, .mv (.t 1), some (28, false)⟩,
    ⟨some 35, .mv (.t 5), some (28, false)⟩,
    ⟨some 36, .iad 3 true (.t 34) (.t 35), some (28, false)⟩,
    ⟨some 37, .fad 1 (.t 36), some (28, false)⟩,
    ⟨some 38, .load 1 false (.t 37), some (28, false)⟩,
    ⟨some 39, .bin .neq (.t 33) (.t 38), some (28, false)⟩,
    ⟨some 40, .pick (.t 28) (.c (.bool true)) (.t 39), none⟩,
    ⟨some 41, .mv (.t 40), none⟩,
    ⟨some 42, .mv (.t 0), some (41, false)⟩,
    ⟨some 43, .mv (.t 5), some (41, false)⟩,
    ⟨some 44, .iad 3 true (.t 42) (.t 43), some (41, false)⟩,
    ⟨some 45, .fad 2 (.t 44), some (41, false)⟩,
    ⟨some 46, .load 1 false (.t 45), some (41, false)⟩,
    ⟨some 47, .mv (.t 1), some (41, false)⟩,
    ⟨some 48, .mv (.t 5), some (41, false)⟩,
    ⟨some 49, .iad 3 true (.t 47) (.t 48), some (41, false)⟩,
    ⟨some 50, .fad 2 (.t 49), some (41, false)⟩,
    ⟨some 51, .load 1 false (.t 50), some (41, false)⟩,
    ⟨some 52, .dcall (.c (.fn n_trystref02_Same [] [])) [(.t 46), (.t 51)], some (41, false)⟩,
    ⟨some 53, .un .not (.t 52), some (41, false)⟩,
    ⟨some 54, .pick (.t 41) (.c (.bool true)) (.t 53), none⟩])
  (.cond (.t 54) (.seq (.ops [⟨some 4, .mv (.c (.bool false)), none⟩])
  (.ret)) (.skip))))
  (.ops [⟨some 15, .mv (.t 5), none⟩,
    ⟨some 16, .bin .add (.t 15) (.c (.int .i64 1)), none⟩,
    ⟨some 5, .mv (.t 16), none⟩]))))))
  (.seq (.ops [⟨some 4, .mv (.c (.bool true)), none⟩])
  (.ret))))
theorem k_trystref12_Same : FnIs AP n_trystref12_Same c_trystref12_Same 55 (rsT [4]) := fnIs_of (fn := Go.Proofs.Try.f14) Go.Proofs.Try.func14 (by kernel_rfl) (by kernel_rfl) (by kernel_rfl) (by kernel_rfl) (by kernel_rfl)
theorem a_trystref12_Same {x0 x1 : V} {H : List Entry} {K : KV} (h : Wf H → awp AP H.length c_trystref12_Same (finW H.length (rsT [4]) K) ([x0, x1] ++ List.replicate 53 undefV) H) : BCall AP n_trystref12_Same [x0, x1] H K := k_trystref12_Same.call (by kernel_rfl) h
/-- tryst/topic.Check: 17 slots -/
def c_topic_Check : AC := .seq (.ops [⟨some 2, .mv (.c (.int .i64 0)), none⟩])
  (.seq (.ops [⟨some 3, .mv (.c (.fn n_topic_Check_1 [] [])), none⟩])
  (.seq (.seq (.ops [⟨some 4, .mv (.t 0), none⟩,
    ⟨some 5, .len 1 (.t 4), none⟩,
    ⟨some 6, .bin .gtr (.t 5) (.c (.int .i64 20)), none⟩,
    ⟨some 7, .mv (.t 6), none⟩,
    ⟨some 8, .mv (.t 0), some (7, false)⟩,
    ⟨some 9, .mv (.t 3), some (7, false)⟩,
    ⟨some 10, .call (.c (.fn n_list_Rises_api_Topic [] [])) [(.t 8), (.t 9)], some (7, false)⟩,
    ⟨some 11, .un .not (.t 10), some (7, false)⟩,
    ⟨some 12, .pick (.t 7) (.c (.bool true)) (.t 11), none⟩,
    ⟨some 13, .mv (.t 12), none⟩,
    ⟨some 14, .mv (.t 0), some (13, false)⟩,
    ⟨some 15, .call (.c (.fn n_slices_ContainsFunc_api_Topic_api_Topic [] [])) [(.t 14), (.c (.fn n_topic_isWrong [] []))], some (13, false)⟩,
    ⟨some 16, .pick (.t 13) (.c (.bool true)) (.t 15), none⟩])
  (.cond (.t 16) (.seq (.ops [⟨some 2, .mv (.c (.int .i64 1)), none⟩])
  (.ret)) (.skip)))
  (.seq (.ops [⟨some 2, .mv (.c (.int .i64 0)), none⟩])
  (.ret))))
theorem k_topic_Check : FnIs AP n_topic_Check c_topic_Check 17 (rsT [2]) := fnIs_of (fn := Go.Proofs.Try.f15) Go.Proofs.Try.func15 (by kernel_rfl) (by kernel_rfl) (by kernel_rfl) (by kernel_rfl) (by kernel_rfl)
theorem a_topic_Check {x0 : V} {H : List Entry} {K : KV} (h : Wf H → awp AP H.length c_topic_Check (finW H.length (rsT [2]) K) ([x0] ++ List.replicate 16 undefV) H) : BCall AP n_topic_Check [x0] H K := k_topic_Check.call (by kernel_rfl) h
/-- tryst/trystref12.May: 97 slots -/
def c_trystref12_May : AC := .seq (.ops [⟨some 2, .mv (.c (.bool false)), none⟩])
  (.seq (.seq (.ops [⟨some 3, .mv (.c (.int .i64 0)), none⟩])
  (.block 0 (.loop (.seq (.seq (.ops [⟨some 9, .mv (.t 3), none⟩,
    ⟨some 10, .mv (.t 0), none⟩,
    ⟨some 11, .len 1 (.t 10), none⟩,
    ⟨some 12, .bin .lss (.t 9) (.t 11), none⟩])
  (.cond (.t 12) (.skip) (.exit 0)))
  (.seq (.block 1 (.seq (.ops [⟨some 15, .mv (.t 0), none⟩,
    ⟨some 16, .mv (.t 3), none⟩,
    ⟨some 17, .iad 3 true (.t 15) (.t 16), none⟩,
    ⟨some 18, .load 3 true (.t 17), none⟩,
    ⟨some 4, .alloc [.str [], .int .i64 0, .nilsl], none⟩,
    ⟨none, .store 3 (.t 4) (.t 18), none⟩])
  (.seq (.seq (.draw [⟨some 19, .fad 0 (.t 4), none⟩,
    ⟨some 20, .load 1 false (.t 19), none⟩,
    ⟨some 21, .dcall (.c (.fn n_trystref02_Topic [] [])) [(.t 20)], none⟩,
    ⟨some 22, .un .not (.t 21), none⟩,
    ⟨some 23, .mv (.t 22), none⟩,
    ⟨some 24, .mv (.t 3), some (23, false)⟩,
    ⟨some 25, .bin .gtr (.t 24) (.c (.int .i64 0)), some (23, false)⟩,
    ⟨some 26, .mv (.t 25), some (23, false)⟩,
    ⟨some 27, .mv (.t 0), some (26, true)⟩,
    ⟨some 28, .mv (.t 3), some (26, true)⟩,
    ⟨some 29, .bin .sub (.t 28) (.c (.int .i64 1)), some (26, true)⟩,
    ⟨some 30, .iad 3 true (.t 27) (.t 29), some (26, true)⟩,
    ⟨some 31, .fad 0 (.t 30), some (26, true)⟩,
    ⟨some 32, .load 1 false (.t 31), some (26, true)⟩,
    ⟨some 33, .fad 0 (.t 4), some (26, true)⟩,
    ⟨some 34, .load 1 false (.t 33), some (26, true)⟩,
    ⟨some 35, .bin .geq (.t 32) (.t 34), some (26, true)⟩,
    ⟨some 36, .pick (.t 26) (.t 35) (.c (.bool false)), some (23, false)⟩,
    ⟨some 37, .pick (.t 23) (.c (.bool true)) (.t 36), none⟩,
    ⟨some 38, .mv (.t 37), none⟩,
    ⟨some 39, .fad 1 (.t 4), some (38, false)⟩,
    ⟨some 40, .load 1 false (.t 39), some (38, false)⟩,
    ⟨some 41, .bin .lss (.t 40) (.c (.int .i64 0)), some (38, false)⟩,
    ⟨some 42, .pick (.t 38) (.c (.bool true)) (.t 41), none⟩,
    ⟨some 43, .mv (.t 42), none⟩,
    ⟨some 44, .fad 1 (.t 4), some (43, false)⟩,
    ⟨some 45, .load 1 false (.t 44), some (43, false)⟩,
    ⟨some 46, .fad 2 (.t 4), some (43, false)⟩,
    ⟨some 47, .load 1 false (.t 46), some (43, false)⟩,
    ⟨some 48, .len 1 (.t 47), some (43, false)⟩,
    ⟨some 49, .bin .sub (.c (.int .i64 1099511627775)) (.t 48), some (43, false)⟩,
    ⟨some 50, .bin .gtr (.t 45) (.t 49), some (43, false)⟩,
    ⟨some 51, .pick (.t 43) (.c (.bool true)) (.t 50), none⟩,
    ⟨some 52, .mv (.t 51), none⟩,
    ⟨some 53, .fad 2 (.t 4), some (52, false)⟩,
    ⟨some 54, .load 1 false (.t 53), some (52, false)⟩,
    ⟨some 55, .len 1 (.t 54), some (52, false)⟩,
    ⟨some 56, .bin .gtr (.t 55) (.c (.int .i64 100)), some (52, false)⟩,
    ⟨some 57, .pick (.t 52) (.c (.bool true)) (.t 56), none⟩])
  (.cond (.t 57) (.seq (.ops [⟨some 2, .mv (.c (.bool false)), none⟩])
  (.ret)) (.skip)))
  (.seq (.ops [⟨some 5, .mv (.c (.int .i64 0)), none⟩])
  (.block 2 (.loop (.seq (.seq (.ops [⟨some 58, .mv (.t 5), none⟩,
    ⟨some 59, .fad 2 (.t 4), none⟩,
    ⟨some 60, .load 1 false (.t 59), none⟩,
    ⟨some 61, .len 1 (.t 60), none⟩,
    ⟨some 62, .bin .lss (.t 58) (.t 61), none⟩])
  (.cond (.t 62) (.skip) (.exit 2)))
  (.seq (.block 3 (.seq (.ops [⟨some 66, .fad 2 (.t 4), none⟩,
    ⟨some 67, .load 1 false (.t 66), none⟩,
    ⟨some 68, .mv (.t 5), none⟩,
    ⟨some 69, .iad 1 false (.t 67) (.t 68), none⟩,
    ⟨some 70, .load 1 false (.t 69), none⟩,
    ⟨some 71, .call (.c (.fn n_trystref04_Take [] [])) [(.t 70)], none⟩,
    ⟨some 65, .mv (.t 71), none⟩,
    ⟨some 72, .ext (.t 65) 0, none⟩,
    ⟨some 73, .ext (.t 65) 1, none⟩,
    ⟨some 74, .ext (.t 65) 2, none⟩,
    ⟨some 6, .alloc [.str [], .str [], .int .u64 0, .nilsl], none⟩,
    ⟨none, .store 4 (.t 6) (.t 72), none⟩,
    ⟨some 7, .mv (.t 73), none⟩,
    ⟨some 8, .mv (.t 74), none⟩])
  (.seq (.ops [⟨some 75, .mv (.t 8), none⟩,
    ⟨some 76, .bin .neq (.t 75) (.c (.int .i64 0)), none⟩,
    ⟨some 77, .mv (.t 76), none⟩,
    ⟨some 78, .mv (.t 7), some (77, false)⟩,
    ⟨some 79, .fad 2 (.t 4), some (77, false)⟩,
    ⟨some 80, .load 1 false (.t 79), some (77, false)⟩,
    ⟨some 81, .mv (.t 5), some (77, false)⟩,
    ⟨some 82, .iad 1 false (.t 80) (.t 81), some (77, false)⟩,
    ⟨some 83, .load 1 false (.t 82), some (77, false)⟩,
    ⟨some 84, .len 0 (.t 83), some (77, false)⟩,
    ⟨some 85, .bin .neq (.t 78) (.t 84), some (77, false)⟩,
    ⟨some 86, .pick (.t 77) (.c (.bool true)) (.t 85), none⟩,
    ⟨some 87, .mv (.t 86), none⟩,
    ⟨some 88, .fad 0 (.t 6), some (87, false)⟩,
    ⟨some 89, .load 1 false (.t 88), some (87, false)⟩,
    ⟨some 90, .fad 0 (.t 4), some (87, false)⟩,
    ⟨some 91, .load 1 false (.t 90), some (87, false)⟩,
    ⟨some 92, .bin .neq (.t 89) (.t 91), some (87, false)⟩,
    ⟨some 93, .pick (.t 87) (.c (.bool true)) (.t 92), none⟩])
  (.cond (.t 93) (.seq (.ops [⟨some 2, .mv (.c (.bool false)), none⟩])
  (.ret)) (.skip)))))
  (.ops [⟨some 63, .mv (.t 5), none⟩,
    ⟨some 64, .bin .add (.t 63) (.c (.int .i64 1)), none⟩,
    ⟨some 5, .mv (.t 64), none⟩])))))))))
  (.ops [⟨some 13, .mv (.t 3), none⟩,
    ⟨some 14, .bin .add (.t 13) (.c (.int .i64 1)), none⟩,
    ⟨some 3, .mv (.t 14), none⟩]))))))
  (.seq (.ops [⟨some 94, .mv (.t 0), none⟩,
    ⟨some 95, .len 1 (.t 94), none⟩,
    ⟨some 96, .bin .leq (.t 95) (.c (.int .i64 20)), none⟩,
    ⟨some 2, .mv (.t 96), none⟩])
  (.ret)))
theorem k_trystref12_May : FnIs AP n_trystref12_May c_trystref12_May 97 (rsT [2]) := fnIs_of (fn := Go.Proofs.Try.f16) Go.Proofs.Try.func16 (by kernel_rfl) (by kernel_rfl) (by kernel_rfl) (by kernel_rfl) (by kernel_rfl)
theorem a_trystref12_May {x0 : V} {H : List Entry} {K : KV} (h : Wf H → awp AP H.length c_trystref12_May (finW H.length (rsT [2]) K) ([x0] ++ List.replicate 96 undefV) H) : BCall AP n_trystref12_May [x0] H K := k_trystref12_May.call (by kernel_rfl) h
/-- tryst/topic.End: 22 slots -/
def c_topic_End : AC := .seq (.ops [⟨some 4, .mv (.c (.int .i64 0)), none⟩,
    ⟨some 5, .mv (.c (.int .i64 0)), none⟩])
  (.seq (.ops [⟨some 9, .mv (.t 0), none⟩,
    ⟨some 10, .mv (.t 1), none⟩,
    ⟨some 11, .call (.c (.fn n_topic_find [] [])) [(.t 9), (.t 10)], none⟩,
    ⟨some 8, .mv (.t 11), none⟩,
    ⟨some 12, .ext (.t 8) 0, none⟩,
    ⟨some 13, .ext (.t 8) 1, none⟩,
    ⟨some 6, .mv (.t 12), none⟩,
    ⟨some 7, .mv (.t 13), none⟩])
  (.seq (.seq (.ops [⟨some 14, .mv (.t 7), none⟩,
    ⟨some 15, .bin .neq (.t 14) (.c (.int .i64 0)), none⟩])
  (.cond (.t 15) (.seq (.ops [⟨some 16, .mv (.t 7), none⟩,
    ⟨some 4, .mv (.c (.int .i64 0)), none⟩,
    ⟨some 5, .mv (.t 16), none⟩])
  (.ret)) (.skip)))
  (.seq (.ops [⟨some 17, .mv (.t 0), none⟩,
    ⟨some 18, .mv (.t 6), none⟩,
    ⟨some 19, .iad 3 true (.t 17) (.t 18), none⟩,
    ⟨some 20, .load 3 true (.t 19), none⟩,
    ⟨some 21, .call (.c (.fn n_topic_endOf [] [])) [(.t 20)], none⟩,
    ⟨some 4, .mv (.t 21), none⟩,
    ⟨some 5, .mv (.c (.int .i64 0)), none⟩])
  (.ret))))
theorem k_topic_End : FnIs AP n_topic_End c_topic_End 22 (rsT [4, 5]) := fnIs_of (fn := Go.Proofs.Try.f17) Go.Proofs.Try.func17 (by kernel_rfl) (by kernel_rfl) (by kernel_rfl) (by kernel_rfl) (by kernel_rfl)
theorem a_topic_End {x0 x1 : V} {H : List Entry} {K : KV} (h : Wf H → awp AP H.length c_topic_End (finW H.length (rsT [4, 5]) K) ([x0, x1] ++ List.replicate 20 undefV) H) : BCall AP n_topic_End [x0, x1] H K := k_topic_End.call (by kernel_rfl) h
/-- tryst/trystlaw12.awake: 87 slots -/
def c_trystlaw12_awake : AC := .seq (.ops [⟨some 0, .mv (.c (.bool false)), none⟩])
  (.seq (.ops [⟨some 15, .call (.c (.fn n_trystlaw12_ev [] [])) [(.c (.str [97])), (.c (.int .u64 1))], none⟩,
    ⟨some 16, .call (.c (.fn n_topic_Append [] [])) [(.c (.nilsl)), (.t 15)], none⟩,
    ⟨some 14, .mv (.t 16), none⟩,
    ⟨some 17, .ext (.t 14) 0, none⟩,
    ⟨some 18, .ext (.t 14) 1, none⟩,
    ⟨some 19, .ext (.t 14) 2, none⟩,
    ⟨some 1, .mv (.t 17), none⟩,
    ⟨some 2, .mv (.t 18), none⟩,
    ⟨some 3, .mv (.t 19), none⟩])
  (.seq (.ops [⟨some 21, .mv (.t 1), none⟩,
    ⟨some 22, .call (.c (.fn n_trystlaw12_ev [] [])) [(.c (.str [97])), (.c (.int .u64 2))], none⟩,
    ⟨some 23, .call (.c (.fn n_topic_Append [] [])) [(.t 21), (.t 22)], none⟩,
    ⟨some 20, .mv (.t 23), none⟩,
    ⟨some 24, .ext (.t 20) 0, none⟩,
    ⟨some 25, .ext (.t 20) 1, none⟩,
    ⟨some 26, .ext (.t 20) 2, none⟩,
    ⟨some 1, .mv (.t 24), none⟩,
    ⟨some 4, .mv (.t 25), none⟩,
    ⟨some 5, .mv (.t 26), none⟩])
  (.seq (.ops [⟨some 28, .mv (.t 1), none⟩,
    ⟨some 29, .call (.c (.fn n_trystlaw12_ev [] [])) [(.c (.str [98])), (.c (.int .u64 3))], none⟩,
    ⟨some 30, .call (.c (.fn n_topic_Append [] [])) [(.t 28), (.t 29)], none⟩,
    ⟨some 27, .mv (.t 30), none⟩,
    ⟨some 31, .ext (.t 27) 0, none⟩,
    ⟨some 32, .ext (.t 27) 1, none⟩,
    ⟨some 33, .ext (.t 27) 2, none⟩,
    ⟨some 1, .mv (.t 31), none⟩,
    ⟨some 6, .mv (.t 32), none⟩,
    ⟨some 7, .mv (.t 33), none⟩])
  (.seq (.ops [⟨some 35, .mv (.t 1), none⟩,
    ⟨some 36, .call (.c (.fn n_topic_Read [] [])) [(.t 35), (.c (.str [97])), (.c (.int .i64 2))], none⟩,
    ⟨some 34, .mv (.t 36), none⟩,
    ⟨some 37, .ext (.t 34) 0, none⟩,
    ⟨some 38, .ext (.t 34) 1, none⟩,
    ⟨some 8, .alloc [.str [], .str [], .int .u64 0, .nilsl], none⟩,
    ⟨none, .store 4 (.t 8) (.t 37), none⟩,
    ⟨some 9, .mv (.t 38), none⟩])
  (.seq (.ops [⟨some 40, .mv (.t 1), none⟩,
    ⟨some 41, .call (.c (.fn n_topic_Trim [] [])) [(.t 40), (.c (.str [97])), (.c (.int .i64 1))], none⟩,
    ⟨some 39, .mv (.t 41), none⟩,
    ⟨some 42, .ext (.t 39) 0, none⟩,
    ⟨some 43, .ext (.t 39) 1, none⟩,
    ⟨some 10, .mv (.t 42), none⟩,
    ⟨some 11, .mv (.t 43), none⟩])
  (.seq (.ops [⟨some 45, .mv (.t 10), none⟩,
    ⟨some 46, .call (.c (.fn n_topic_Read [] [])) [(.t 45), (.c (.str [97])), (.c (.int .i64 0))], none⟩,
    ⟨some 44, .mv (.t 46), none⟩,
    ⟨some 47, .ext (.t 44) 0, none⟩,
    ⟨some 48, .ext (.t 44) 1, none⟩,
    ⟨some 12, .alloc [.str [], .str [], .int .u64 0, .nilsl], none⟩,
    ⟨none, .store 4 (.t 12) (.t 47), none⟩,
    ⟨some 13, .mv (.t 48), none⟩])
  (.seq (.ops [⟨some 49, .mv (.t 2), none⟩,
    ⟨some 50, .bin .eql (.t 49) (.c (.int .i64 0)), none⟩,
    ⟨some 51, .mv (.t 50), none⟩,
    ⟨some 52, .mv (.t 4), some (51, true)⟩,
    ⟨some 53, .bin .eql (.t 52) (.c (.int .i64 1)), some (51, true)⟩,
    ⟨some 54, .pick (.t 51) (.t 53) (.c (.bool false)), none⟩,
    ⟨some 55, .mv (.t 54), none⟩,
    ⟨some 56, .mv (.t 6), some (55, true)⟩,
    ⟨some 57, .bin .eql (.t 56) (.c (.int .i64 0)), some (55, true)⟩,
    ⟨some 58, .pick (.t 55) (.t 57) (.c (.bool false)), none⟩,
    ⟨some 59, .mv (.t 58), none⟩,
    ⟨some 60, .mv (.t 3), some (59, true)⟩,
    ⟨some 61, .bin .eql (.t 60) (.c (.int .i64 0)), some (59, true)⟩,
    ⟨some 62, .pick (.t 59) (.t 61) (.c (.bool false)), none⟩,
    ⟨some 63, .mv (.t 62), none⟩,
    ⟨some 64, .mv (.t 5), some (63, true)⟩,
    ⟨some 65, .bin .eql (.t 64) (.c (.int .i64 0)), some (63, true)⟩,
    ⟨some 66, .pick (.t 63) (.t 65) (.c (.bool false)), none⟩,
    ⟨some 67, .mv (.t 66), none⟩,
    ⟨some 68, .mv (.t 7), some (67, true)⟩,
    ⟨some 69, .bin .eql (.t 68) (.c (.int .i64 0)), some (67, true)⟩,
    ⟨some 70, .pick (.t 67) (.t 69) (.c (.bool false)), none⟩,
    ⟨some 71, .mv (.t 70), none⟩,
    ⟨some 72, .mv (.t 9), some (71, true)⟩,
    ⟨some 73, .bin .eql (.t 72) (.c (.int .i64 9)), some (71, true)⟩,
    ⟨some 74, .pick (.t 71) (.t 73) (.c (.bool false)), none⟩,
    ⟨some 75, .mv (.t 74), none⟩,
    ⟨some 76, .mv (.t 11), some (75, true)⟩,
    ⟨some 77, .bin .eql (.t 76) (.c (.int .i64 0)), some (75, true)⟩,
    ⟨some 78, .pick (.t 75) (.t 77) (.c (.bool false)), none⟩,
    ⟨some 79, .mv (.t 78), none⟩,
    ⟨some 80, .mv (.t 13), some (79, true)⟩,
    ⟨some 81, .bin .eql (.t 80) (.c (.int .i64 8)), some (79, true)⟩,
    ⟨some 82, .pick (.t 79) (.t 81) (.c (.bool false)), none⟩,
    ⟨some 83, .mv (.t 82), none⟩,
    ⟨some 84, .pick (.t 83) (.c (.bool true)) (.c (.bool false)), none⟩,
    ⟨some 85, .mv (.t 84), none⟩,
    ⟨some 86, .pick (.t 85) (.c (.bool true)) (.c (.bool false)), none⟩,
    ⟨some 0, .mv (.t 86), none⟩])
  (.ret))))))))
theorem k_trystlaw12_awake : FnIs AP n_trystlaw12_awake c_trystlaw12_awake 87 (rsT [0]) := fnIs_of (fn := Go.Proofs.Try.f18) Go.Proofs.Try.func18 (by kernel_rfl) (by kernel_rfl) (by kernel_rfl) (by kernel_rfl) (by kernel_rfl)
theorem a_trystlaw12_awake {H : List Entry} {K : KV} (h : Wf H → awp AP H.length c_trystlaw12_awake (finW H.length (rsT [0]) K) ([] ++ List.replicate 87 undefV) H) : BCall AP n_trystlaw12_awake [] H K := k_trystlaw12_awake.call (by kernel_rfl) h
/-- tryst/topic.Read: 54 slots -/
def c_topic_Read : AC := .seq (.ops [⟨some 6, .alloc [.str [], .str [], .int .u64 0, .nilsl], none⟩,
    ⟨some 7, .mv (.c (.int .i64 0)), none⟩])
  (.seq (.ops [⟨some 14, .mv (.t 0), none⟩,
    ⟨some 15, .mv (.t 1), none⟩,
    ⟨some 16, .call (.c (.fn n_topic_find [] [])) [(.t 14), (.t 15)], none⟩,
    ⟨some 13, .mv (.t 16), none⟩,
    ⟨some 17, .ext (.t 13) 0, none⟩,
    ⟨some 18, .ext (.t 13) 1, none⟩,
    ⟨some 8, .mv (.t 17), none⟩,
    ⟨some 9, .mv (.t 18), none⟩])
  (.seq (.seq (.ops [⟨some 19, .mv (.t 9), none⟩,
    ⟨some 20, .bin .neq (.t 19) (.c (.int .i64 0)), none⟩])
  (.cond (.t 20) (.seq (.ops [⟨some 21, .build [.str [], .str [], .int .u64 0, .nilsl] [], none⟩,
    ⟨some 22, .mv (.t 9), none⟩,
    ⟨none, .store 4 (.t 6) (.t 21), none⟩,
    ⟨some 7, .mv (.t 22), none⟩])
  (.ret)) (.skip)))
  (.seq (.ops [⟨some 23, .mv (.t 0), none⟩,
    ⟨some 24, .mv (.t 8), none⟩,
    ⟨some 25, .iad 3 true (.t 23) (.t 24), none⟩,
    ⟨some 26, .load 3 true (.t 25), none⟩,
    ⟨some 10, .alloc [.str [], .int .i64 0, .nilsl], none⟩,
    ⟨none, .store 3 (.t 10) (.t 26), none⟩])
  (.seq (.block 0 (.seq (.ops [⟨some 28, .mv (.t 2), none⟩,
    ⟨some 29, .fad 1 (.t 10), none⟩,
    ⟨some 30, .load 1 false (.t 29), none⟩,
    ⟨some 31, .bin .lss (.t 28) (.t 30), none⟩,
    ⟨some 27, .mv (.t 31), none⟩])
  (.cond (.t 27) (.seq (.ops [⟨some 32, .build [.str [], .str [], .int .u64 0, .nilsl] [], none⟩,
    ⟨none, .store 4 (.t 6) (.t 32), none⟩,
    ⟨some 7, .mv (.c (.int .i64 8)), none⟩])
  (.ret)) (.seq (.ops [⟨some 34, .mv (.t 2), none⟩,
    ⟨some 35, .load 3 true (.t 10), none⟩,
    ⟨some 36, .call (.c (.fn n_topic_endOf [] [])) [(.t 35)], none⟩,
    ⟨some 37, .bin .geq (.t 34) (.t 36), none⟩,
    ⟨some 33, .mv (.t 37), none⟩])
  (.cond (.t 33) (.seq (.ops [⟨some 38, .build [.str [], .str [], .int .u64 0, .nilsl] [], none⟩,
    ⟨none, .store 4 (.t 6) (.t 38), none⟩,
    ⟨some 7, .mv (.c (.int .i64 9)), none⟩])
  (.ret)) (.skip))))))
  (.seq (.ops [⟨some 40, .fad 2 (.t 10), none⟩,
    ⟨some 41, .load 1 false (.t 40), none⟩,
    ⟨some 42, .mv (.t 2), none⟩,
    ⟨some 43, .fad 1 (.t 10), none⟩,
    ⟨some 44, .load 1 false (.t 43), none⟩,
    ⟨some 45, .bin .sub (.t 42) (.t 44), none⟩,
    ⟨some 46, .iad 1 false (.t 41) (.t 45), none⟩,
    ⟨some 47, .load 1 false (.t 46), none⟩,
    ⟨some 48, .call (.c (.fn n_event_Take [] [])) [(.t 47)], none⟩,
    ⟨some 39, .mv (.t 48), none⟩,
    ⟨some 49, .ext (.t 39) 0, none⟩,
    ⟨some 50, .ext (.t 39) 1, none⟩,
    ⟨some 51, .ext (.t 39) 2, none⟩,
    ⟨some 11, .alloc [.str [], .str [], .int .u64 0, .nilsl], none⟩,
    ⟨none, .store 4 (.t 11) (.t 49), none⟩,
    ⟨some 12, .mv (.t 50), none⟩,
    ⟨some 9, .mv (.t 51), none⟩])
  (.seq (.ops [⟨some 52, .load 4 true (.t 11), none⟩,
    ⟨some 53, .mv (.t 9), none⟩,
    ⟨none, .store 4 (.t 6) (.t 52), none⟩,
    ⟨some 7, .mv (.t 53), none⟩])
  (.ret)))))))
theorem k_topic_Read : FnIs AP n_topic_Read c_topic_Read 54 [.cell 6 4 true, .tmp 7] := fnIs_of (fn := Go.Proofs.Try.f19) Go.Proofs.Try.func19 (by kernel_rfl) (by kernel_rfl) (by kernel_rfl) (by kernel_rfl) (by kernel_rfl)
theorem a_topic_Read {x0 x1 x2 : V} {H : List Entry} {K : KV} (h : Wf H → awp AP H.length c_topic_Read (finW H.length [.cell 6 4 true, .tmp 7] K) ([x0, x1, x2] ++ List.replicate 51 undefV) H) : BCall AP n_topic_Read [x0, x1, x2] H K := k_topic_Read.call (by kernel_rfl) h
/-- tryst/trystref12.Read: 69 slots -/
def c_trystref12_Read : AC := .seq (.ops [⟨some 6, .alloc [.str [], .str [], .int .u64 0, .nilsl], none⟩,
    ⟨some 7, .mv (.c (.int .i64 0)), none⟩])
  (.seq (.seq (.ops [⟨some 13, .mv (.t 0), none⟩,
    ⟨some 14, .call (.c (.fn n_trystref12_May [] [])) [(.t 13)], none⟩,
    ⟨some 15, .un .not (.t 14), none⟩])
  (.cond (.t 15) (.seq (.ops [⟨some 16, .build [.str [], .str [], .int .u64 0, .nilsl] [], none⟩,
    ⟨none, .store 4 (.t 6) (.t 16), none⟩,
    ⟨some 7, .mv (.c (.int .i64 1)), none⟩])
  (.ret)) (.skip)))
  (.seq (.ops [⟨some 18, .mv (.t 0), none⟩,
    ⟨some 19, .mv (.t 1), none⟩,
    ⟨some 20, .call (.c (.fn n_trystref12_Find [] [])) [(.t 18), (.t 19)], none⟩,
    ⟨some 17, .mv (.t 20), none⟩,
    ⟨some 21, .ext (.t 17) 0, none⟩,
    ⟨some 22, .ext (.t 17) 1, none⟩,
    ⟨some 8, .mv (.t 21), none⟩,
    ⟨some 9, .mv (.t 22), none⟩])
  (.seq (.seq (.ops [⟨some 23, .mv (.t 9), none⟩,
    ⟨some 24, .un .not (.t 23), none⟩])
  (.cond (.t 24) (.seq (.ops [⟨some 25, .build [.str [], .str [], .int .u64 0, .nilsl] [], none⟩,
    ⟨none, .store 4 (.t 6) (.t 25), none⟩,
    ⟨some 7, .mv (.c (.int .i64 4)), none⟩])
  (.ret)) (.skip)))
  (.seq (.seq (.ops [⟨some 26, .mv (.t 2), none⟩,
    ⟨some 27, .mv (.t 0), none⟩,
    ⟨some 28, .mv (.t 8), none⟩,
    ⟨some 29, .iad 3 true (.t 27) (.t 28), none⟩,
    ⟨some 30, .fad 1 (.t 29), none⟩,
    ⟨some 31, .load 1 false (.t 30), none⟩,
    ⟨some 32, .bin .lss (.t 26) (.t 31), none⟩])
  (.cond (.t 32) (.seq (.ops [⟨some 33, .build [.str [], .str [], .int .u64 0, .nilsl] [], none⟩,
    ⟨none, .store 4 (.t 6) (.t 33), none⟩,
    ⟨some 7, .mv (.c (.int .i64 8)), none⟩])
  (.ret)) (.skip)))
  (.seq (.seq (.draw [⟨some 34, .mv (.t 2), none⟩,
    ⟨some 35, .mv (.t 0), none⟩,
    ⟨some 36, .mv (.t 8), none⟩,
    ⟨some 37, .iad 3 true (.t 35) (.t 36), none⟩,
    ⟨some 38, .fad 1 (.t 37), none⟩,
    ⟨some 39, .load 1 false (.t 38), none⟩,
    ⟨some 40, .mv (.t 0), none⟩,
    ⟨some 41, .mv (.t 8), none⟩,
    ⟨some 42, .iad 3 true (.t 40) (.t 41), none⟩,
    ⟨some 43, .fad 2 (.t 42), none⟩,
    ⟨some 44, .load 1 false (.t 43), none⟩,
    ⟨some 45, .len 1 (.t 44), none⟩,
    ⟨some 46, .bin .add (.t 39) (.t 45), none⟩,
    ⟨some 47, .bin .geq (.t 34) (.t 46), none⟩])
  (.cond (.t 47) (.seq (.ops [⟨some 48, .build [.str [], .str [], .int .u64 0, .nilsl] [], none⟩,
    ⟨none, .store 4 (.t 6) (.t 48), none⟩,
    ⟨some 7, .mv (.c (.int .i64 9)), none⟩])
  (.ret)) (.skip)))
  (.seq (.draw [⟨some 50, .mv (.t 0), none⟩,
    ⟨some 51, .mv (.t 8), none⟩,
    ⟨some 52, .iad 3 true (.t 50) (.t 51), none⟩,
    ⟨some 53, .fad 2 (.t 52), none⟩,
    ⟨some 54, .load 1 false (.t 53), none⟩,
    ⟨some 55, .mv (.t 2), none⟩,
    ⟨some 56, .mv (.t 0), none⟩,
    ⟨some 57, .mv (.t 8), none⟩,
    ⟨some 58, .iad 3 true (.t 56) (.t 57), none⟩,
    ⟨some 59, .fad 1 (.t 58), none⟩,
    ⟨some 60, .load 1 false (.t 59), none⟩,
    ⟨some 61, .bin .sub (.t 55) (.t 60), none⟩,
    ⟨some 62, .iad 1 false (.t 54) (.t 61), none⟩,
    ⟨some 63, .load 1 false (.t 62), none⟩,
    ⟨some 64, .pcall (.c (.fn n_trystref04_Take [] [])) [(.t 63)], none⟩,
    ⟨some 49, .mv (.t 64), none⟩,
    ⟨some 65, .ext (.t 49) 0, none⟩,
    ⟨some 66, .ext (.t 49) 1, none⟩,
    ⟨some 67, .ext (.t 49) 2, none⟩,
    ⟨some 10, .alloc [.str [], .str [], .int .u64 0, .nilsl], none⟩,
    ⟨none, .store 4 (.t 10) (.t 65), none⟩,
    ⟨some 11, .mv (.t 66), none⟩,
    ⟨some 12, .mv (.t 67), none⟩])
  (.seq (.ops [⟨some 68, .load 4 true (.t 10), none⟩,
    ⟨none, .store 4 (.t 6) (.t 68), none⟩,
    ⟨some 7, .mv (.c (.int .i64 0)), none⟩])
  (.ret))))))))
theorem k_trystref12_Read : FnIs AP n_trystref12_Read c_trystref12_Read 69 [.cell 6 4 true, .tmp 7] := fnIs_of (fn := Go.Proofs.Try.f20) Go.Proofs.Try.func20 (by kernel_rfl) (by kernel_rfl) (by kernel_rfl) (by kernel_rfl) (by kernel_rfl)
theorem a_trystref12_Read {x0 x1 x2 : V} {H : List Entry} {K : KV} (h : Wf H → awp AP H.length c_trystref12_Read (finW H.length [.cell 6 4 true, .tmp 7] K) ([x0, x1, x2] ++ List.replicate 66 undefV) H) : BCall AP n_trystref12_Read [x0, x1, x2] H K := k_trystref12_Read.call (by kernel_rfl) h
/-- tryst/topic.Trim: 51 slots -/
def c_topic_Trim : AC := .seq (.ops [⟨some 6, .mv (.c (.nilsl)), none⟩,
    ⟨some 7, .mv (.c (.int .i64 0)), none⟩])
  (.seq (.ops [⟨some 12, .mv (.t 0), none⟩,
    ⟨some 13, .mv (.t 1), none⟩,
    ⟨some 14, .call (.c (.fn n_topic_find [] [])) [(.t 12), (.t 13)], none⟩,
    ⟨some 11, .mv (.t 14), none⟩,
    ⟨some 15, .ext (.t 11) 0, none⟩,
    ⟨some 16, .ext (.t 11) 1, none⟩,
    ⟨some 8, .mv (.t 15), none⟩,
    ⟨some 9, .mv (.t 16), none⟩])
  (.seq (.seq (.ops [⟨some 17, .mv (.t 9), none⟩,
    ⟨some 18, .bin .neq (.t 17) (.c (.int .i64 0)), none⟩])
  (.cond (.t 18) (.seq (.ops [⟨some 19, .mv (.t 9), none⟩,
    ⟨some 6, .mv (.c (.nilsl)), none⟩,
    ⟨some 7, .mv (.t 19), none⟩])
  (.ret)) (.skip)))
  (.seq (.ops [⟨some 20, .mv (.t 0), none⟩,
    ⟨some 21, .mv (.t 8), none⟩,
    ⟨some 22, .iad 3 true (.t 20) (.t 21), none⟩,
    ⟨some 23, .load 3 true (.t 22), none⟩,
    ⟨some 10, .alloc [.str [], .int .i64 0, .nilsl], none⟩,
    ⟨none, .store 3 (.t 10) (.t 23), none⟩])
  (.seq (.seq (.ops [⟨some 24, .mv (.t 2), none⟩,
    ⟨some 25, .bin .lss (.t 24) (.c (.int .i64 0)), none⟩,
    ⟨some 26, .mv (.t 25), none⟩,
    ⟨some 27, .mv (.t 2), some (26, false)⟩,
    ⟨some 28, .load 3 true (.t 10), some (26, false)⟩,
    ⟨some 29, .call (.c (.fn n_topic_endOf [] [])) [(.t 28)], some (26, false)⟩,
    ⟨some 30, .bin .gtr (.t 27) (.t 29), some (26, false)⟩,
    ⟨some 31, .pick (.t 26) (.c (.bool true)) (.t 30), none⟩])
  (.cond (.t 31) (.seq (.ops [⟨some 6, .mv (.c (.nilsl)), none⟩,
    ⟨some 7, .mv (.c (.int .i64 1)), none⟩])
  (.ret)) (.skip)))
  (.seq (.seq (.ops [⟨some 32, .mv (.t 2), none⟩,
    ⟨some 33, .fad 1 (.t 10), none⟩,
    ⟨some 34, .load 1 false (.t 33), none⟩,
    ⟨some 35, .bin .gtr (.t 32) (.t 34), none⟩])
  (.cond (.t 35) (.seq (.ops [⟨some 36, .fad 2 (.t 10), none⟩,
    ⟨some 37, .load 1 false (.t 36), none⟩,
    ⟨some 38, .mv (.t 2), none⟩,
    ⟨some 39, .fad 1 (.t 10), none⟩,
    ⟨some 40, .load 1 false (.t 39), none⟩,
    ⟨some 41, .bin .sub (.t 38) (.t 40), none⟩,
    ⟨some 42, .slc 1 (.t 37) (some (.t 41)) none none, none⟩,
    ⟨some 43, .call (.c (.fn n_slices_Clone_string_string [] [])) [(.t 42)], none⟩,
    ⟨some 44, .fad 2 (.t 10), none⟩,
    ⟨none, .store 1 (.t 44) (.t 43), none⟩])
  (.ops [⟨some 45, .mv (.t 2), none⟩,
    ⟨some 46, .fad 1 (.t 10), none⟩,
    ⟨none, .store 1 (.t 46) (.t 45), none⟩])) (.skip)))
  (.seq (.ops [⟨some 47, .mv (.t 0), none⟩,
    ⟨some 48, .mv (.t 8), none⟩,
    ⟨some 49, .load 3 true (.t 10), none⟩,
    ⟨some 50, .call (.c (.fn n_list_Set_api_Topic [] [])) [(.t 47), (.t 48), (.t 49)], none⟩,
    ⟨some 6, .mv (.t 50), none⟩,
    ⟨some 7, .mv (.c (.int .i64 0)), none⟩])
  (.ret)))))))
theorem k_topic_Trim : FnIs AP n_topic_Trim c_topic_Trim 51 (rsT [6, 7]) := fnIs_of (fn := Go.Proofs.Try.f21) Go.Proofs.Try.func21 (by kernel_rfl) (by kernel_rfl) (by kernel_rfl) (by kernel_rfl) (by kernel_rfl)
theorem a_topic_Trim {x0 x1 x2 : V} {H : List Entry} {K : KV} (h : Wf H → awp AP H.length c_topic_Trim (finW H.length (rsT [6, 7]) K) ([x0, x1, x2] ++ List.replicate 48 undefV) H) : BCall AP n_topic_Trim [x0, x1, x2] H K := k_topic_Trim.call (by kernel_rfl) h
/-- tryst/trystref12.Trim: 76 slots -/
def c_trystref12_Trim : AC := .seq (.ops [⟨some 6, .mv (.c (.nilsl)), none⟩,
    ⟨some 7, .mv (.c (.int .i64 0)), none⟩])
  (.seq (.seq (.ops [⟨some 13, .mv (.t 0), none⟩,
    ⟨some 14, .call (.c (.fn n_trystref12_May [] [])) [(.t 13)], none⟩,
    ⟨some 15, .un .not (.t 14), none⟩])
  (.cond (.t 15) (.seq (.ops [⟨some 6, .mv (.c (.nilsl)), none⟩,
    ⟨some 7, .mv (.c (.int .i64 1)), none⟩])
  (.ret)) (.skip)))
  (.seq (.ops [⟨some 17, .mv (.t 0), none⟩,
    ⟨some 18, .mv (.t 1), none⟩,
    ⟨some 19, .call (.c (.fn n_trystref12_Find [] [])) [(.t 17), (.t 18)], none⟩,
    ⟨some 16, .mv (.t 19), none⟩,
    ⟨some 20, .ext (.t 16) 0, none⟩,
    ⟨some 21, .ext (.t 16) 1, none⟩,
    ⟨some 8, .mv (.t 20), none⟩,
    ⟨some 9, .mv (.t 21), none⟩])
  (.seq (.seq (.ops [⟨some 22, .mv (.t 9), none⟩,
    ⟨some 23, .un .not (.t 22), none⟩])
  (.cond (.t 23) (.seq (.ops [⟨some 6, .mv (.c (.nilsl)), none⟩,
    ⟨some 7, .mv (.c (.int .i64 4)), none⟩])
  (.ret)) (.skip)))
  (.seq (.ops [⟨some 24, .mv (.t 0), none⟩,
    ⟨some 25, .mv (.t 8), none⟩,
    ⟨some 26, .iad 3 true (.t 24) (.t 25), none⟩,
    ⟨some 27, .load 3 true (.t 26), none⟩,
    ⟨some 10, .alloc [.str [], .int .i64 0, .nilsl], none⟩,
    ⟨none, .store 3 (.t 10) (.t 27), none⟩])
  (.seq (.seq (.ops [⟨some 28, .mv (.t 2), none⟩,
    ⟨some 29, .bin .lss (.t 28) (.c (.int .i64 0)), none⟩,
    ⟨some 30, .mv (.t 29), none⟩,
    ⟨some 31, .mv (.t 2), some (30, false)⟩,
    ⟨some 32, .fad 1 (.t 10), some (30, false)⟩,
    ⟨some 33, .load 1 false (.t 32), some (30, false)⟩,
    ⟨some 34, .fad 2 (.t 10), some (30, false)⟩,
    ⟨some 35, .load 1 false (.t 34), some (30, false)⟩,
    ⟨some 36, .len 1 (.t 35), some (30, false)⟩,
    ⟨some 37, .bin .add (.t 33) (.t 36), some (30, false)⟩,
    ⟨some 38, .bin .gtr (.t 31) (.t 37), some (30, false)⟩,
    ⟨some 39, .pick (.t 30) (.c (.bool true)) (.t 38), none⟩])
  (.cond (.t 39) (.seq (.ops [⟨some 6, .mv (.c (.nilsl)), none⟩,
    ⟨some 7, .mv (.c (.int .i64 1)), none⟩])
  (.ret)) (.skip)))
  (.seq (.ops [⟨some 40, .mv (.t 1), none⟩,
    ⟨some 41, .fad 1 (.t 10), none⟩,
    ⟨some 42, .load 1 false (.t 41), none⟩,
    ⟨some 43, .build [.str [], .int .i64 0, .nilsl] [(0, 1, (.t 40)), (1, 1, (.t 42))], none⟩,
    ⟨some 11, .alloc [.str [], .int .i64 0, .nilsl], none⟩,
    ⟨none, .store 3 (.t 11) (.t 43), none⟩])
  (.seq (.seq (.ops [⟨some 44, .mv (.t 2), none⟩,
    ⟨some 45, .fad 1 (.t 10), none⟩,
    ⟨some 46, .load 1 false (.t 45), none⟩,
    ⟨some 47, .bin .gtr (.t 44) (.t 46), none⟩])
  (.cond (.t 47) (.ops [⟨some 48, .mv (.t 2), none⟩,
    ⟨some 49, .fad 1 (.t 11), none⟩,
    ⟨none, .store 1 (.t 49) (.t 48), none⟩]) (.skip)))
  (.seq (.seq (.ops [⟨some 12, .mv (.c (.int .i64 0)), none⟩])
  (.block 0 (.loop (.seq (.seq (.ops [⟨some 50, .mv (.t 12), none⟩,
    ⟨some 51, .fad 2 (.t 10), none⟩,
    ⟨some 52, .load 1 false (.t 51), none⟩,
    ⟨some 53, .len 1 (.t 52), none⟩,
    ⟨some 54, .bin .lss (.t 50) (.t 53), none⟩])
  (.cond (.t 54) (.skip) (.exit 0)))
  (.seq (.block 1 (.seq (.ops [⟨some 57, .fad 1 (.t 10), none⟩,
    ⟨some 58, .load 1 false (.t 57), none⟩,
    ⟨some 59, .mv (.t 12), none⟩,
    ⟨some 60, .bin .add (.t 58) (.t 59), none⟩,
    ⟨some 61, .mv (.t 2), none⟩,
    ⟨some 62, .bin .geq (.t 60) (.t 61), none⟩])
  (.cond (.t 62) (.draw [⟨some 63, .fad 2 (.t 11), none⟩,
    ⟨some 64, .load 1 false (.t 63), none⟩,
    ⟨some 65, .fad 2 (.t 10), none⟩,
    ⟨some 66, .load 1 false (.t 65), none⟩,
    ⟨some 67, .mv (.t 12), none⟩,
    ⟨some 68, .iad 1 false (.t 66) (.t 67), none⟩,
    ⟨some 69, .load 1 false (.t 68), none⟩,
    ⟨some 70, .bslm 1 false [(.t 69)], none⟩,
    ⟨some 71, .app 9 1 16 false (.t 64) (.t 70), none⟩,
    ⟨some 72, .fad 2 (.t 11), none⟩,
    ⟨none, .store 1 (.t 72) (.t 71), none⟩]) (.skip))))
  (.ops [⟨some 55, .mv (.t 12), none⟩,
    ⟨some 56, .bin .add (.t 55) (.c (.int .i64 1)), none⟩,
    ⟨some 12, .mv (.t 56), none⟩]))))))
  (.seq (.ops [⟨some 73, .mv (.t 0), none⟩,
    ⟨some 74, .load 3 true (.t 11), none⟩,
    ⟨some 75, .call (.c (.fn n_trystref12_With [] [])) [(.t 73), (.t 74)], none⟩,
    ⟨some 6, .mv (.t 75), none⟩,
    ⟨some 7, .mv (.c (.int .i64 0)), none⟩])
  (.ret))))))))))
theorem k_trystref12_Trim : FnIs AP n_trystref12_Trim c_trystref12_Trim 76 (rsT [6, 7]) := fnIs_of (fn := Go.Proofs.Try.f22) Go.Proofs.Try.func22 (by kernel_rfl) (by kernel_rfl) (by kernel_rfl) (by kernel_rfl) (by kernel_rfl)
theorem a_trystref12_Trim {x0 x1 x2 : V} {H : List Entry} {K : KV} (h : Wf H → awp AP H.length c_trystref12_Trim (finW H.length (rsT [6, 7]) K) ([x0, x1, x2] ++ List.replicate 73 undefV) H) : BCall AP n_trystref12_Trim [x0, x1, x2] H K := k_trystref12_Trim.call (by kernel_rfl) h
/-- tryst/trystref04.Same: 52 slots -/
def c_trystref04_Same : AC := .seq (.ops [⟨some 2, .box (.t 0), none⟩,
    ⟨some 3, .box (.t 1), none⟩,
    ⟨some 4, .mv (.c (.bool false)), none⟩])
  (.seq (.seq (.ops [⟨some 6, .fad 0 (.t 2), none⟩,
    ⟨some 7, .load 1 false (.t 6), none⟩,
    ⟨some 8, .fad 0 (.t 3), none⟩,
    ⟨some 9, .load 1 false (.t 8), none⟩,
    ⟨some 10, .bin .neq (.t 7) (.t 9), none⟩,
    ⟨some 11, .mv (.t 10), none⟩,
    ⟨some 12, .fad 1 (.t 2), some (11, false)⟩,
    ⟨some 13, .load 1 false (.t 12), some (11, false)⟩,
    ⟨some 14, .fad 1 (.t 3), some (11, false)⟩,
    ⟨some 15, .load 1 false (.t 14), some (11, false)⟩,
    ⟨some 16, .bin .neq (.t 13) (.t 15), some (11, false)⟩,
    ⟨some 17, .pick (.t 11) (.c (.bool true)) (.t 16), none⟩,
    ⟨some 18, .mv (.t 17), none⟩,
    ⟨some 19, .fad 2 (.t 2), some (18, false)⟩,
    ⟨some 20, .load 1 false (.t 19), some (18, false)⟩,
    ⟨some 21, .fad 2 (.t 3), some (18, false)⟩,
    ⟨some 22, .load 1 false (.t 21), some (18, false)⟩,
    ⟨some 23, .bin .neq (.t 20) (.t 22), some (18, false)⟩,
    ⟨some 24, .pick (.t 18) (.c (.bool true)) (.t 23), none⟩,
    ⟨some 25, .mv (.t 24), none⟩,
    ⟨some 26, .fad 3 (.t 2), some (25, false)⟩,
    ⟨some 27, .load 1 false (.t 26), some (25, false)⟩,
    ⟨some 28, .len 1 (.t 27), some (25, false)⟩,
    ⟨some 29, .fad 3 (.t 3), some (25, false)⟩,
    ⟨some 30, .load 1 false (.t 29), some (25, false)⟩,
    ⟨some 31, .len 1 (.t 30), some (25, false)⟩,
    ⟨some 32, .bin .neq (.t 28) (.t 31), some (25, false)⟩,
    ⟨some 33, .pick (.t 25) (.c (.bool true)) (.t 32), none⟩])
  (.cond (.t 33) (.seq (.ops [⟨some 4, .mv (.c (.bool false)), none⟩])
  (.ret)) (.skip)))
  (.seq (.seq (.ops [⟨some 5, .mv (.c (.int .i64 0)), none⟩])
  (.block 0 (.loop (.seq (.seq (.ops [⟨some 34, .mv (.t 5), none⟩,
    ⟨some 35, .fad 3 (.t 2), none⟩,
    ⟨some 36, .load 1 false (.t 35), none⟩,
    ⟨some 37, .len 1 (.t 36), none⟩,
    ⟨some 38, .bin .lss (.t 34) (.t 37), none⟩])
  (.cond (.t 38) (.skip) (.exit 0)))
  (.seq (.block 1 (.seq (.draw [⟨some 41, .fad 3 (.t 2), none⟩,
    ⟨some 42, .load 1 false (.t 41), none⟩,
    ⟨some 43, .mv (.t 5), none⟩,
    ⟨some 44, .iad 4 true (.t 42) (.t 43), none⟩,
    ⟨some 45, .load 4 true (.t 44), none⟩,
    ⟨some 46, .fad 3 (.t 3), none⟩,
    ⟨some 47, .load 1 false (.t 46), none⟩,
    ⟨some 48, .mv (.t 5), none⟩,
    ⟨some 49, .iad 4 true (.t 47) (.t 48), none⟩,
    ⟨some 50, .load 4 true (.t 49), none⟩,
    ⟨some 51, .eqa true [2, 0, 1, 2] (.t 45) (.t 50), none⟩])
  (.cond (.t 51) (.seq (.ops [⟨some 4, .mv (.c (.bool false)), none⟩])
  (.ret)) (.skip))))
  (.ops [⟨some 39, .mv (.t 5), none⟩,
    ⟨some 40, .bin .add (.t 39) (.c (.int .i64 1)), none⟩,
    ⟨some 5, .mv (.t 40), none⟩]))))))
  (.seq (.ops [⟨some 4, .mv (.c (.bool true)), none⟩])
  (.ret))))
theorem k_trystref04_Same : FnIs AP n_trystref04_Same c_trystref04_Same 52 (rsT [4]) := fnIs_of (fn := Go.Proofs.Try.f23) Go.Proofs.Try.func23 (by kernel_rfl) (by kernel_rfl) (by kernel_rfl) (by kernel_rfl) (by kernel_rfl)
theorem a_trystref04_Same {x0 x1 : V} {H : List Entry} {K : KV} (h : Wf H → awp AP H.length c_trystref04_Same (finW H.length (rsT [4]) K) ([x0, x1] ++ List.replicate 50 undefV) H) : BCall AP n_trystref04_Same [x0, x1] H K := k_trystref04_Same.call (by kernel_rfl) h
/-- tryst/trystlaw03.Few: 12 slots -/
def c_trystlaw03_Few : AC := .seq (.ops [⟨some 1, .box (.t 0), none⟩,
    ⟨some 2, .alloc [.bool false, .int .i64 0, .str []], none⟩])
  (.seq (.seq (.ops [⟨some 3, .fad 2 (.t 1), none⟩,
    ⟨some 4, .load 1 false (.t 3), none⟩,
    ⟨some 5, .len 0 (.t 4), none⟩,
    ⟨some 6, .bin .gtr (.t 5) (.c (.int .i64 70)), none⟩])
  (.cond (.t 6) (.ops [⟨some 7, .fad 2 (.t 1), none⟩,
    ⟨some 8, .load 1 false (.t 7), none⟩,
    ⟨some 9, .sls (.t 8) none (some (.c (.int .i64 70))), none⟩,
    ⟨some 10, .fad 2 (.t 1), none⟩,
    ⟨none, .store 1 (.t 10) (.t 9), none⟩]) (.skip)))
  (.seq (.ops [⟨some 11, .load 3 true (.t 1), none⟩,
    ⟨none, .store 3 (.t 2) (.t 11), none⟩])
  (.ret)))
theorem k_trystlaw03_Few : FnIs AP n_trystlaw03_Few c_trystlaw03_Few 12 [.cell 2 3 true] := fnIs_of (fn := Go.Proofs.Try.f24) Go.Proofs.Try.func24 (by kernel_rfl) (by kernel_rfl) (by kernel_rfl) (by kernel_rfl) (by kernel_rfl)
theorem a_trystlaw03_Few {x0 : V} {H : List Entry} {K : KV} (h : Wf H → awp AP H.length c_trystlaw03_Few (finW H.length [.cell 2 3 true] K) ([x0] ++ List.replicate 11 undefV) H) : BCall AP n_trystlaw03_Few [x0] H K := k_trystlaw03_Few.call (by kernel_rfl) h
/-- tryst/event.Lay: 51 slots -/
def c_event_Lay : AC := .seq (.ops [⟨some 1, .box (.t 0), none⟩,
    ⟨some 2, .mv (.c (.str [])), none⟩,
    ⟨some 3, .mv (.c (.int .i64 0)), none⟩])
  (.seq (.seq (.ops [⟨some 9, .load 4 true (.t 1), none⟩,
    ⟨some 10, .call (.c (.fn n_event_May [] [])) [(.t 9)], none⟩,
    ⟨some 11, .un .not (.t 10), none⟩])
  (.cond (.t 11) (.seq (.ops [⟨some 2, .mv (.c (.str [])), none⟩,
    ⟨some 3, .mv (.c (.int .i64 1)), none⟩])
  (.ret)) (.skip)))
  (.seq (.draw [⟨some 12, .fad 0 (.t 1), none⟩,
    ⟨some 13, .load 1 false (.t 12), none⟩,
    ⟨some 14, .dcall (.c (.fn n_event_layText [] [])) [(.t 13)], none⟩,
    ⟨some 15, .fad 1 (.t 1), none⟩,
    ⟨some 16, .load 1 false (.t 15), none⟩,
    ⟨some 17, .dcall (.c (.fn n_event_layText [] [])) [(.t 16)], none⟩,
    ⟨some 18, .bin .add (.t 14) (.t 17), none⟩,
    ⟨some 19, .fad 2 (.t 1), none⟩,
    ⟨some 20, .load 1 false (.t 19), none⟩,
    ⟨some 21, .dcall (.c (.fn n_num_Pack [] [])) [(.t 20)], none⟩,
    ⟨some 22, .bin .add (.t 18) (.t 21), none⟩,
    ⟨some 23, .fad 3 (.t 1), none⟩,
    ⟨some 24, .load 1 false (.t 23), none⟩,
    ⟨some 25, .len 1 (.t 24), none⟩,
    ⟨some 26, .cvi .u64 (.t 25), none⟩,
    ⟨some 27, .dcall (.c (.fn n_num_Pack [] [])) [(.t 26)], none⟩,
    ⟨some 28, .bin .add (.t 22) (.t 27), none⟩,
    ⟨some 4, .mv (.t 28), none⟩])
  (.seq (.seq (.ops [⟨some 29, .fad 3 (.t 1), none⟩,
    ⟨some 30, .load 1 false (.t 29), none⟩,
    ⟨some 31, .len 1 (.t 30), none⟩,
    ⟨some 32, .mv (.c (.int .i64 0)), none⟩])
  (.block 0 (.loop (.seq (.ops [⟨some 33, .bin .lss (.t 32) (.t 31), none⟩])
  (.seq (.cond (.t 33) (.skip) (.exit 0))
  (.seq (.block 1 (.seq (.ops [⟨some 34, .iad 4 true (.t 30) (.t 32), none⟩,
    ⟨some 35, .load 4 true (.t 34), none⟩,
    ⟨some 6, .alloc [.str [], .bool false, .int .i64 0, .str []], none⟩,
    ⟨none, .store 4 (.t 6) (.t 35), none⟩])
  (.seq (.ops [⟨some 37, .fad 1 (.t 6), none⟩,
    ⟨some 38, .load 3 true (.t 37), none⟩,
    ⟨some 39, .call (.c (.fn n_val_Lay [] [])) [(.t 38)], none⟩,
    ⟨some 36, .mv (.t 39), none⟩,
    ⟨some 40, .ext (.t 36) 0, none⟩,
    ⟨some 41, .ext (.t 36) 1, none⟩,
    ⟨some 7, .mv (.t 40), none⟩,
    ⟨some 8, .mv (.t 41), none⟩])
  (.ops [⟨some 42, .mv (.t 4), none⟩,
    ⟨some 43, .fad 0 (.t 6), none⟩,
    ⟨some 44, .load 1 false (.t 43), none⟩,
    ⟨some 45, .call (.c (.fn n_event_layText [] [])) [(.t 44)], none⟩,
    ⟨some 46, .mv (.t 7), none⟩,
    ⟨some 47, .bin .add (.t 45) (.t 46), none⟩,
    ⟨some 48, .bin .add (.t 42) (.t 47), none⟩,
    ⟨some 4, .mv (.t 48), none⟩]))))
  (.ops [⟨some 49, .bin .add (.t 32) (.c (.int .i64 1)), none⟩,
    ⟨some 32, .mv (.t 49), none⟩])))))))
  (.seq (.ops [⟨some 50, .mv (.t 4), none⟩,
    ⟨some 2, .mv (.t 50), none⟩,
    ⟨some 3, .mv (.c (.int .i64 0)), none⟩])
  (.ret)))))
theorem k_event_Lay : FnIs AP n_event_Lay c_event_Lay 51 (rsT [2, 3]) := fnIs_of (fn := Go.Proofs.Try.f25) Go.Proofs.Try.func25 (by kernel_rfl) (by kernel_rfl) (by kernel_rfl) (by kernel_rfl) (by kernel_rfl)
theorem a_event_Lay {x0 : V} {H : List Entry} {K : KV} (h : Wf H → awp AP H.length c_event_Lay (finW H.length (rsT [2, 3]) K) ([x0] ++ List.replicate 50 undefV) H) : BCall AP n_event_Lay [x0] H K := k_event_Lay.call (by kernel_rfl) h
/-- tryst/topic.begin: 23 slots -/
def c_topic_begin : AC := .seq (.ops [⟨some 4, .box (.t 1), none⟩,
    ⟨some 6, .mv (.c (.nilsl)), none⟩,
    ⟨some 7, .mv (.c (.int .i64 0)), none⟩,
    ⟨some 8, .mv (.c (.int .i64 0)), none⟩])
  (.seq (.seq (.ops [⟨some 10, .mv (.t 0), none⟩,
    ⟨some 11, .len 1 (.t 10), none⟩,
    ⟨some 12, .bin .eql (.t 11) (.c (.int .i64 20)), none⟩])
  (.cond (.t 12) (.seq (.ops [⟨some 6, .mv (.c (.nilsl)), none⟩,
    ⟨some 7, .mv (.c (.int .i64 0)), none⟩,
    ⟨some 8, .mv (.c (.int .i64 6)), none⟩])
  (.ret)) (.skip)))
  (.seq (.ops [⟨some 13, .mv (.t 0), none⟩,
    ⟨some 14, .mkfn n_topic_begin_1 [] [(.t 4)], none⟩,
    ⟨some 15, .call (.c (.fn n_list_Place_api_Topic [] [])) [(.t 13), (.t 14)], none⟩,
    ⟨some 9, .mv (.t 15), none⟩])
  (.seq (.ops [⟨some 16, .mv (.t 0), none⟩,
    ⟨some 17, .mv (.t 9), none⟩,
    ⟨some 18, .load 1 false (.t 4), none⟩,
    ⟨some 19, .mv (.t 2), none⟩,
    ⟨some 20, .bsl 1 false [(.t 19)], none⟩,
    ⟨some 21, .build [.str [], .int .i64 0, .nilsl] [(0, 1, (.t 18)), (2, 1, (.t 20))], none⟩,
    ⟨some 22, .call (.c (.fn n_list_With_api_Topic [] [])) [(.t 16), (.t 17), (.t 21)], none⟩,
    ⟨some 6, .mv (.t 22), none⟩,
    ⟨some 7, .mv (.c (.int .i64 0)), none⟩,
    ⟨some 8, .mv (.c (.int .i64 0)), none⟩])
  (.ret))))
theorem k_topic_begin : FnIs AP n_topic_begin c_topic_begin 23 (rsT [6, 7, 8]) := fnIs_of (fn := Go.Proofs.Try.f26) Go.Proofs.Try.func26 (by kernel_rfl) (by kernel_rfl) (by kernel_rfl) (by kernel_rfl) (by kernel_rfl)
theorem a_topic_begin {x0 x1 x2 : V} {H : List Entry} {K : KV} (h : Wf H → awp AP H.length c_topic_begin (finW H.length (rsT [6, 7, 8]) K) ([x0, x1, x2] ++ List.replicate 20 undefV) H) : BCall AP n_topic_begin [x0, x1, x2] H K := k_topic_begin.call (by kernel_rfl) h
/-- tryst/topic.endOf: 9 slots -/
def c_topic_endOf : AC := .seq (.ops [⟨some 1, .box (.t 0), none⟩,
    ⟨some 2, .mv (.c (.int .i64 0)), none⟩])
  (.seq (.ops [⟨some 3, .fad 1 (.t 1), none⟩,
    ⟨some 4, .load 1 false (.t 3), none⟩,
    ⟨some 5, .fad 2 (.t 1), none⟩,
    ⟨some 6, .load 1 false (.t 5), none⟩,
    ⟨some 7, .len 1 (.t 6), none⟩,
    ⟨some 8, .bin .add (.t 4) (.t 7), none⟩,
    ⟨some 2, .mv (.t 8), none⟩])
  (.ret))
theorem k_topic_endOf : FnIs AP n_topic_endOf c_topic_endOf 9 (rsT [2]) := fnIs_of (fn := Go.Proofs.Try.f27) Go.Proofs.Try.func27 (by kernel_rfl) (by kernel_rfl) (by kernel_rfl) (by kernel_rfl) (by kernel_rfl)
theorem a_topic_endOf {x0 : V} {H : List Entry} {K : KV} (h : Wf H → awp AP H.length c_topic_endOf (finW H.length (rsT [2]) K) ([x0] ++ List.replicate 8 undefV) H) : BCall AP n_topic_endOf [x0] H K := k_topic_endOf.call (by kernel_rfl) h
/-- tryst/list.Set[tryst/api.Topic]: 15 slots -/
def c_list_Set_api_Topic : AC := .seq (.ops [⟨some 5, .box (.t 2), none⟩,
    ⟨some 6, .mv (.c (.nilsl)), none⟩])
  (.seq (.ops [⟨some 8, .mv (.t 0), none⟩,
    ⟨some 9, .call (.c (.fn n_slices_Clone_api_Topic_api_Topic [] [])) [(.t 8)], none⟩,
    ⟨some 7, .mv (.t 9), none⟩])
  (.seq (.ops [⟨some 10, .mv (.t 7), none⟩,
    ⟨some 11, .mv (.t 1), none⟩,
    ⟨some 12, .load 3 true (.t 5), none⟩,
    ⟨some 13, .iad 3 true (.t 10) (.t 11), none⟩,
    ⟨none, .store 3 (.t 13) (.t 12), none⟩])
  (.seq (.ops [⟨some 14, .mv (.t 7), none⟩,
    ⟨some 6, .mv (.t 14), none⟩])
  (.ret))))
theorem k_list_Set_api_Topic : FnIs AP n_list_Set_api_Topic c_list_Set_api_Topic 15 (rsT [6]) := fnIs_of (fn := Go.Proofs.Try.f28) Go.Proofs.Try.func28 (by kernel_rfl) (by kernel_rfl) (by kernel_rfl) (by kernel_rfl) (by kernel_rfl)
theorem a_list_Set_api_Topic {x0 x1 x2 : V} {H : List Entry} {K : KV} (h : Wf H → awp AP H.length c_list_Set_api_Topic (finW H.length (rsT [6]) K) ([x0, x1, x2] ++ List.replicate 12 undefV) H) : BCall AP n_list_Set_api_Topic [x0, x1, x2] H K := k_list_Set_api_Topic.call (by kernel_rfl) h
/-- tryst/trystref04.May: 68 slots -/
def c_trystref04_May : AC := .seq (.ops [⟨some 1, .box (.t 0), none⟩,
    ⟨some 2, .mv (.c (.bool false)), none⟩])
  (.seq (.seq (.ops [⟨some 3, .mv (.c (.int .i64 0)), none⟩])
  (.block 0 (.loop (.seq (.seq (.ops [⟨some 4, .mv (.t 3), none⟩,
    ⟨some 5, .fad 3 (.t 1), none⟩,
    ⟨some 6, .load 1 false (.t 5), none⟩,
    ⟨some 7, .len 1 (.t 6), none⟩,
    ⟨some 8, .bin .lss (.t 4) (.t 7), none⟩])
  (.cond (.t 8) (.skip) (.exit 0)))
  (.seq (.block 1 (.seq (.draw [⟨some 11, .fad 3 (.t 1), none⟩,
    ⟨some 12, .load 1 false (.t 11), none⟩,
    ⟨some 13, .mv (.t 3), none⟩,
    ⟨some 14, .iad 4 true (.t 12) (.t 13), none⟩,
    ⟨some 15, .fad 0 (.t 14), none⟩,
    ⟨some 16, .load 1 false (.t 15), none⟩,
    ⟨some 17, .dcall (.c (.fn n_trystref04_Field [] [])) [(.t 16)], none⟩,
    ⟨some 18, .un .not (.t 17), none⟩,
    ⟨some 19, .mv (.t 18), none⟩,
    ⟨some 20, .fad 3 (.t 1), some (19, false)⟩,
    ⟨some 21, .load 1 false (.t 20), some (19, false)⟩,
    ⟨some 22, .mv (.t 3), some (19, false)⟩,
    ⟨some 23, .iad 4 true (.t 21) (.t 22), some (19, false)⟩,
    ⟨some 24, .fad 1 (.t 23), some (19, false)⟩,
    ⟨some 25, .load 3 true (.t 24), some (19, false)⟩,
    ⟨some 26, .dcall (.c (.fn n_trystref03_May [] [])) [(.t 25)], some (19, false)⟩,
    ⟨some 27, .un .not (.t 26), some (19, false)⟩,
    ⟨some 28, .pick (.t 19) (.c (.bool true)) (.t 27), none⟩,
    ⟨some 29, .mv (.t 28), none⟩,
    ⟨some 30, .mv (.t 3), some (29, false)⟩,
    ⟨some 31, .bin .gtr (.t 30) (.c (.int .i64 0)), some (29, false)⟩,
    ⟨some 32, .mv (.t 31), some (29, false)⟩,
    ⟨some 33, .fad 3 (.t 1), some (32, true)⟩,
    ⟨some 34, .load 1 false (.t 33), some (32, true)⟩,
    ⟨some 35, .mv (.t 3), some (32, true)⟩,
    ⟨some 36, .bin .sub (.t 35) (.c (.int .i64 1)), some (32, true)⟩,
    ⟨some 37, .iad 4 true (.t 34) (.t 36), some (32, true)⟩,
    ⟨some 38, .fad 0 (.t 37), some (32, true)⟩,
    ⟨some 39, .load 1 false (.t 38), some (32, true)⟩,
    ⟨some 40, .fad 3 (.t 1), some (32, true)⟩,
    ⟨some 41, .load 1 false (.t 40), some (32, true)⟩,
    ⟨some 42, .mv (.t 3), some (32, true)⟩,
    ⟨some 43, .iad 4 true (.t 41) (.t 42), some (32, true)⟩,
    ⟨some 44, .fad 0 (.t 43), some (32, true)⟩,
    ⟨some 45, .load 1 false (.t 44), some (32, true)⟩,
    ⟨some 46, .bin .geq (.t 39) (.t 45), some (32, true)⟩,
    ⟨some 47, .pick (.t 32) (.t 46) (.c (.bool false)), some (29, false)⟩,
    ⟨some 48, .pick (.t 29) (.c (.bool true)) (.t 47), none⟩])
  (.cond (.t 48) (.seq (.ops [⟨some 2, .mv (.c (.bool false)), none⟩])
  (.ret)) (.skip))))
  (.ops [⟨some 9, .mv (.t 3), none⟩,
    ⟨some 10, .bin .add (.t 9) (.c (.int .i64 1)), none⟩,
    ⟨some 3, .mv (.t 10), none⟩]))))))
  (.seq (.ops [⟨some 49, .fad 0 (.t 1), none⟩,
    ⟨some 50, .load 1 false (.t 49), none⟩,
    ⟨some 51, .call (.c (.fn n_trystref02_Topic [] [])) [(.t 50)], none⟩,
    ⟨some 52, .mv (.t 51), none⟩,
    ⟨some 53, .fad 1 (.t 1), some (52, true)⟩,
    ⟨some 54, .load 1 false (.t 53), some (52, true)⟩,
    ⟨some 55, .call (.c (.fn n_trystref04_Field [] [])) [(.t 54)], some (52, true)⟩,
    ⟨some 56, .pick (.t 52) (.t 55) (.c (.bool false)), none⟩,
    ⟨some 57, .mv (.t 56), none⟩,
    ⟨some 58, .fad 2 (.t 1), some (57, true)⟩,
    ⟨some 59, .load 1 false (.t 58), some (57, true)⟩,
    ⟨some 60, .bin .gtr (.t 59) (.c (.int .u64 0)), some (57, true)⟩,
    ⟨some 61, .pick (.t 57) (.t 60) (.c (.bool false)), none⟩,
    ⟨some 62, .mv (.t 61), none⟩,
    ⟨some 63, .fad 3 (.t 1), some (62, true)⟩,
    ⟨some 64, .load 1 false (.t 63), some (62, true)⟩,
    ⟨some 65, .len 1 (.t 64), some (62, true)⟩,
    ⟨some 66, .bin .leq (.t 65) (.c (.int .i64 8)), some (62, true)⟩,
    ⟨some 67, .pick (.t 62) (.t 66) (.c (.bool false)), none⟩,
    ⟨some 2, .mv (.t 67), none⟩])
  (.ret)))
theorem k_trystref04_May : FnIs AP n_trystref04_May c_trystref04_May 68 (rsT [2]) := fnIs_of (fn := Go.Proofs.Try.f29) Go.Proofs.Try.func29 (by kernel_rfl) (by kernel_rfl) (by kernel_rfl) (by kernel_rfl) (by kernel_rfl)
theorem a_trystref04_May {x0 : V} {H : List Entry} {K : KV} (h : Wf H → awp AP H.length c_trystref04_May (finW H.length (rsT [2]) K) ([x0] ++ List.replicate 67 undefV) H) : BCall AP n_trystref04_May [x0] H K := k_trystref04_May.call (by kernel_rfl) h
/-- tryst/trystref04.Lay: 47 slots -/
def c_trystref04_Lay : AC := .seq (.ops [⟨some 1, .box (.t 0), none⟩,
    ⟨some 2, .mv (.c (.str [])), none⟩])
  (.seq (.draw [⟨some 5, .fad 0 (.t 1), none⟩,
    ⟨some 6, .load 1 false (.t 5), none⟩,
    ⟨some 7, .dcall (.c (.fn n_trystref04_text [] [])) [(.t 6)], none⟩,
    ⟨some 8, .fad 1 (.t 1), none⟩,
    ⟨some 9, .load 1 false (.t 8), none⟩,
    ⟨some 10, .dcall (.c (.fn n_trystref04_text [] [])) [(.t 9)], none⟩,
    ⟨some 11, .bin .add (.t 7) (.t 10), none⟩,
    ⟨some 12, .fad 2 (.t 1), none⟩,
    ⟨some 13, .load 1 false (.t 12), none⟩,
    ⟨some 14, .dcall (.c (.fn n_trystref01_Pack [] [])) [(.t 13)], none⟩,
    ⟨some 15, .bin .add (.t 11) (.t 14), none⟩,
    ⟨some 16, .fad 3 (.t 1), none⟩,
    ⟨some 17, .load 1 false (.t 16), none⟩,
    ⟨some 18, .len 1 (.t 17), none⟩,
    ⟨some 19, .cvi .u64 (.t 18), none⟩,
    ⟨some 20, .dcall (.c (.fn n_trystref01_Pack [] [])) [(.t 19)], none⟩,
    ⟨some 21, .bin .add (.t 15) (.t 20), none⟩,
    ⟨some 3, .mv (.t 21), none⟩])
  (.seq (.seq (.ops [⟨some 4, .mv (.c (.int .i64 0)), none⟩])
  (.block 0 (.loop (.seq (.seq (.ops [⟨some 22, .mv (.t 4), none⟩,
    ⟨some 23, .fad 3 (.t 1), none⟩,
    ⟨some 24, .load 1 false (.t 23), none⟩,
    ⟨some 25, .len 1 (.t 24), none⟩,
    ⟨some 26, .bin .lss (.t 22) (.t 25), none⟩])
  (.cond (.t 26) (.skip) (.exit 0)))
  (.seq (.block 1 (.draw [⟨some 29, .mv (.t 3), none⟩,
    ⟨some 30, .fad 3 (.t 1), none⟩,
    ⟨some 31, .load 1 false (.t 30), none⟩,
    ⟨some 32, .mv (.t 4), none⟩,
    ⟨some 33, .iad 4 true (.t 31) (.t 32), none⟩,
    ⟨some 34, .fad 0 (.t 33), none⟩,
    ⟨some 35, .load 1 false (.t 34), none⟩,
    ⟨some 36, .dcall (.c (.fn n_trystref04_text [] [])) [(.t 35)], none⟩,
    ⟨some 37, .fad 3 (.t 1), none⟩,
    ⟨some 38, .load 1 false (.t 37), none⟩,
    ⟨some 39, .mv (.t 4), none⟩,
    ⟨some 40, .iad 4 true (.t 38) (.t 39), none⟩,
    ⟨some 41, .fad 1 (.t 40), none⟩,
    ⟨some 42, .load 3 true (.t 41), none⟩,
    ⟨some 43, .dcall (.c (.fn n_trystref03_Lay [] [])) [(.t 42)], none⟩,
    ⟨some 44, .bin .add (.t 36) (.t 43), none⟩,
    ⟨some 45, .bin .add (.t 29) (.t 44), none⟩,
    ⟨some 3, .mv (.t 45), none⟩]))
  (.ops [⟨some 27, .mv (.t 4), none⟩,
    ⟨some 28, .bin .add (.t 27) (.c (.int .i64 1)), none⟩,
    ⟨some 4, .mv (.t 28), none⟩]))))))
  (.seq (.ops [⟨some 46, .mv (.t 3), none⟩,
    ⟨some 2, .mv (.t 46), none⟩])
  (.ret))))
theorem k_trystref04_Lay : FnIs AP n_trystref04_Lay c_trystref04_Lay 47 (rsT [2]) := fnIs_of (fn := Go.Proofs.Try.f30) Go.Proofs.Try.func30 (by kernel_rfl) (by kernel_rfl) (by kernel_rfl) (by kernel_rfl) (by kernel_rfl)
theorem a_trystref04_Lay {x0 : V} {H : List Entry} {K : KV} (h : Wf H → awp AP H.length c_trystref04_Lay (finW H.length (rsT [2]) K) ([x0] ++ List.replicate 46 undefV) H) : BCall AP n_trystref04_Lay [x0] H K := k_trystref04_Lay.call (by kernel_rfl) h
/-- tryst/trystref12.With: 55 slots -/
def c_trystref12_With : AC := .seq (.ops [⟨some 3, .box (.t 1), none⟩,
    ⟨some 4, .mv (.c (.nilsl)), none⟩])
  (.seq (.ops [⟨some 5, .mv (.c (.nilsl)), none⟩])
  (.seq (.seq (.ops [⟨some 6, .mv (.c (.int .i64 0)), none⟩])
  (.block 0 (.loop (.seq (.seq (.ops [⟨some 8, .mv (.t 6), none⟩,
    ⟨some 9, .mv (.t 0), none⟩,
    ⟨some 10, .len 1 (.t 9), none⟩,
    ⟨some 11, .bin .lss (.t 8) (.t 10), none⟩])
  (.cond (.t 11) (.skip) (.exit 0)))
  (.seq (.block 1 (.seq (.draw [⟨some 14, .mv (.t 0), none⟩,
    ⟨some 15, .mv (.t 6), none⟩,
    ⟨some 16, .iad 3 true (.t 14) (.t 15), none⟩,
    ⟨some 17, .fad 0 (.t 16), none⟩,
    ⟨some 18, .load 1 false (.t 17), none⟩,
    ⟨some 19, .fad 0 (.t 3), none⟩,
    ⟨some 20, .load 1 false (.t 19), none⟩,
    ⟨some 21, .bin .lss (.t 18) (.t 20), none⟩])
  (.cond (.t 21) (.ops [⟨some 22, .mv (.t 5), none⟩,
    ⟨some 23, .mv (.t 0), none⟩,
    ⟨some 24, .mv (.t 6), none⟩,
    ⟨some 25, .iad 3 true (.t 23) (.t 24), none⟩,
    ⟨some 26, .load 3 true (.t 25), none⟩,
    ⟨some 27, .bsl 3 true [(.t 26)], none⟩,
    ⟨some 28, .app 45 3 48 true (.t 22) (.t 27), none⟩,
    ⟨some 5, .mv (.t 28), none⟩]) (.skip))))
  (.ops [⟨some 12, .mv (.t 6), none⟩,
    ⟨some 13, .bin .add (.t 12) (.c (.int .i64 1)), none⟩,
    ⟨some 6, .mv (.t 13), none⟩]))))))
  (.seq (.ops [⟨some 29, .mv (.t 5), none⟩,
    ⟨some 30, .load 3 true (.t 3), none⟩,
    ⟨some 31, .bsl 3 true [(.t 30)], none⟩,
    ⟨some 32, .app 45 3 48 true (.t 29) (.t 31), none⟩,
    ⟨some 5, .mv (.t 32), none⟩])
  (.seq (.seq (.ops [⟨some 7, .mv (.c (.int .i64 0)), none⟩])
  (.block 2 (.loop (.seq (.seq (.ops [⟨some 33, .mv (.t 7), none⟩,
    ⟨some 34, .mv (.t 0), none⟩,
    ⟨some 35, .len 1 (.t 34), none⟩,
    ⟨some 36, .bin .lss (.t 33) (.t 35), none⟩])
  (.cond (.t 36) (.skip) (.exit 2)))
  (.seq (.block 3 (.seq (.draw [⟨some 39, .mv (.t 0), none⟩,
    ⟨some 40, .mv (.t 7), none⟩,
    ⟨some 41, .iad 3 true (.t 39) (.t 40), none⟩,
    ⟨some 42, .fad 0 (.t 41), none⟩,
    ⟨some 43, .load 1 false (.t 42), none⟩,
    ⟨some 44, .fad 0 (.t 3), none⟩,
    ⟨some 45, .load 1 false (.t 44), none⟩,
    ⟨some 46, .bin .gtr (.t 43) (.t 45), none⟩])
  (.cond (.t 46) (.ops [⟨some 47, .mv (.t 5), none⟩,
    ⟨some 48, .mv (.t 0), none⟩,
    ⟨some 49, .mv (.t 7), none⟩,
    ⟨some 50, .iad 3 true (.t 48) (.t 49), none⟩,
    ⟨some 51, .load 3 true (.t 50), none⟩,
    ⟨some 52, .bsl 3 true [(.t 51)], none⟩,
    ⟨some 53, .app 45 3 48 true (.t 47) (.t 52), none⟩,
    ⟨some 5, .mv (.t 53), none⟩]) (.skip))))
  (.ops [⟨some 37, .mv (.t 7), none⟩,
    ⟨some 38, .bin .add (.t 37) (.c (.int .i64 1)), none⟩,
    ⟨some 7, .mv (.t 38), none⟩]))))))
  (.seq (.ops [⟨some 54, .mv (.t 5), none⟩,
    ⟨some 4, .mv (.t 54), none⟩])
  (.ret))))))
theorem k_trystref12_With : FnIs AP n_trystref12_With c_trystref12_With 55 (rsT [4]) := fnIs_of (fn := Go.Proofs.Try.f31) Go.Proofs.Try.func31 (by kernel_rfl) (by kernel_rfl) (by kernel_rfl) (by kernel_rfl) (by kernel_rfl)
theorem a_trystref12_With {x0 x1 : V} {H : List Entry} {K : KV} (h : Wf H → awp AP H.length c_trystref12_With (finW H.length (rsT [4]) K) ([x0, x1] ++ List.replicate 53 undefV) H) : BCall AP n_trystref12_With [x0, x1] H K := k_trystref12_With.call (by kernel_rfl) h
/-- slices.IndexFunc[[]tryst/api.Topic,tryst/api.Topic]: 19 slots -/
def c_slices_IndexFunc_api_Topic_api_Topic : AC := .seq (.ops [⟨some 4, .mv (.c (.int .i64 0)), none⟩])
  (.seq (.seq (.ops [⟨some 6, .mv (.t 0), none⟩,
    ⟨some 7, .len 1 (.t 6), none⟩,
    ⟨some 8, .mv (.c (.int .i64 0)), none⟩])
  (.block 0 (.loop (.seq (.ops [⟨some 9, .bin .lss (.t 8) (.t 7), none⟩])
  (.seq (.cond (.t 9) (.skip) (.exit 0))
  (.seq (.block 1 (.seq (.ops [⟨some 10, .mv (.t 8), none⟩,
    ⟨some 5, .mv (.t 10), none⟩])
  (.seq (.ops [⟨some 11, .mv (.t 1), none⟩,
    ⟨some 12, .mv (.t 0), none⟩,
    ⟨some 13, .mv (.t 5), none⟩,
    ⟨some 14, .iad 3 true (.t 12) (.t 13), none⟩,
    ⟨some 15, .load 3 true (.t 14), none⟩,
    ⟨some 16, .call (.t 11) [(.t 15)], none⟩])
  (.cond (.t 16) (.seq (.ops [⟨some 17, .mv (.t 5), none⟩,
    ⟨some 4, .mv (.t 17), none⟩])
  (.ret)) (.skip)))))
  (.ops [⟨some 18, .bin .add (.t 8) (.c (.int .i64 1)), none⟩,
    ⟨some 8, .mv (.t 18), none⟩])))))))
  (.seq (.ops [⟨some 4, .mv (.c (.int .i64 (-1))), none⟩])
  (.ret)))
theorem k_slices_IndexFunc_api_Topic_api_Topic : FnIs AP n_slices_IndexFunc_api_Topic_api_Topic c_slices_IndexFunc_api_Topic_api_Topic 19 (rsT [4]) := fnIs_of (fn := Go.Proofs.Try.f32) Go.Proofs.Try.func32 (by kernel_rfl) (by kernel_rfl) (by kernel_rfl) (by kernel_rfl) (by kernel_rfl)
theorem a_slices_IndexFunc_api_Topic_api_Topic {x0 x1 : V} {H : List Entry} {K : KV} (h : Wf H → awp AP H.length c_slices_IndexFunc_api_Topic_api_Topic (finW H.length (rsT [4]) K) ([x0, x1] ++ List.replicate 17 undefV) H) : BCall AP n_slices_IndexFunc_api_Topic_api_Topic [x0, x1] H K := k_slices_IndexFunc_api_Topic_api_Topic.call (by kernel_rfl) h
/-- tryst/topic.Find$1: 8 slots -/
def c_topic_Find_1 : AC := .seq (.ops [⟨some 2, .box (.t 0), none⟩,
    ⟨some 3, .mv (.c (.bool false)), none⟩])
  (.seq (.ops [⟨some 4, .fad 0 (.t 2), none⟩,
    ⟨some 5, .load 1 false (.t 4), none⟩,
    ⟨some 6, .load 1 false (.t 1), none⟩,
    ⟨some 7, .bin .eql (.t 5) (.t 6), none⟩,
    ⟨some 3, .mv (.t 7), none⟩])
  (.ret))
theorem k_topic_Find_1 : FnIs AP n_topic_Find_1 c_topic_Find_1 8 (rsT [3]) := fnIs_of (fn := Go.Proofs.Try.f33) Go.Proofs.Try.func33 (by kernel_rfl) (by kernel_rfl) (by kernel_rfl) (by kernel_rfl) (by kernel_rfl)
theorem a_topic_Find_1 {x0 x1 : V} {H : List Entry} {K : KV} (h : Wf H → awp AP H.length c_topic_Find_1 (finW H.length (rsT [3]) K) ([x0, x1] ++ List.replicate 6 undefV) H) : BCall AP n_topic_Find_1 [x0, x1] H K := k_topic_Find_1.call (by kernel_rfl) h
/-- tryst/trystref02.Same: 26 slots -/
def c_trystref02_Same : AC := .seq (.ops [⟨some 4, .mv (.c (.bool false)), none⟩])
  (.seq (.seq (.ops [⟨some 6, .mv (.t 0), none⟩,
    ⟨some 7, .len 1 (.t 6), none⟩,
    ⟨some 8, .mv (.t 1), none⟩,
    ⟨some 9, .len 1 (.t 8), none⟩,
    ⟨some 10, .bin .neq (.t 7) (.t 9), none⟩])
  (.cond (.t 10) (.seq (.ops [⟨some 4, .mv (.c (.bool false)), none⟩])
  (.ret)) (.skip)))
  (.seq (.seq (.ops [⟨some 5, .mv (.c (.int .i64 0)), none⟩])
  (.block 0 (.loop (.seq (.seq (.ops [⟨some 11, .mv (.t 5), none⟩,
    ⟨some 12, .mv (.t 0), none⟩,
    ⟨some 13, .len 1 (.t 12), none⟩,
    ⟨some 14, .bin .lss (.t 11) (.t 13), none⟩])
  (.cond (.t 14) (.skip) (.exit 0)))
  (.seq (.block 1 (.seq (.draw [⟨some 17, .mv (.t 0), none⟩,
    ⟨some 18, .mv (.t 5), none⟩,
    ⟨some 19, .iad 1 false (.t 17) (.t 18), none⟩,
    ⟨some 20, .load 1 false (.t 19), none⟩,
    ⟨some 21, .mv (.t 1), none⟩,
    ⟨some 22, .mv (.t 5), none⟩,
    ⟨some 23, .iad 1 false (.t 21) (.t 22), none⟩,
    ⟨some 24, .load 1 false (.t 23), none⟩,
    ⟨some 25, .bin .neq (.t 20) (.t 24), none⟩])
  (.cond (.t 25) (.seq (.ops [⟨some 4, .mv (.c (.bool false)), none⟩])
  (.ret)) (.skip))))
  (.ops [⟨some 15, .mv (.t 5), none⟩,
    ⟨some 16, .bin .add (.t 15) (.c (.int .i64 1)), none⟩,
    ⟨some 5, .mv (.t 16), none⟩]))))))
  (.seq (.ops [⟨some 4, .mv (.c (.bool true)), none⟩])
  (.ret))))
theorem k_trystref02_Same : FnIs AP n_trystref02_Same c_trystref02_Same 26 (rsT [4]) := fnIs_of (fn := Go.Proofs.Try.f34) Go.Proofs.Try.func34 (by kernel_rfl) (by kernel_rfl) (by kernel_rfl) (by kernel_rfl) (by kernel_rfl)
theorem a_trystref02_Same {x0 x1 : V} {H : List Entry} {K : KV} (h : Wf H → awp AP H.length c_trystref02_Same (finW H.length (rsT [4]) K) ([x0, x1] ++ List.replicate 24 undefV) H) : BCall AP n_trystref02_Same [x0, x1] H K := k_trystref02_Same.call (by kernel_rfl) h
/-- tryst/topic.Check$1: 10 slots -/
def c_topic_Check_1 : AC := .seq (.ops [⟨some 2, .box (.t 0), none⟩,
    ⟨some 3, .box (.t 1), none⟩,
    ⟨some 4, .mv (.c (.int .i64 0)), none⟩])
  (.seq (.ops [⟨some 5, .fad 0 (.t 2), none⟩,
    ⟨some 6, .load 1 false (.t 5), none⟩,
    ⟨some 7, .fad 0 (.t 3), none⟩,
    ⟨some 8, .load 1 false (.t 7), none⟩,
    ⟨some 9, .call (.c (.fn n_cmp_Compare_string [] [])) [(.t 6), (.t 8)], none⟩,
    ⟨some 4, .mv (.t 9), none⟩])
  (.ret))
theorem k_topic_Check_1 : FnIs AP n_topic_Check_1 c_topic_Check_1 10 (rsT [4]) := fnIs_of (fn := Go.Proofs.Try.f35) Go.Proofs.Try.func35 (by kernel_rfl) (by kernel_rfl) (by kernel_rfl) (by kernel_rfl) (by kernel_rfl)
theorem a_topic_Check_1 {x0 x1 : V} {H : List Entry} {K : KV} (h : Wf H → awp AP H.length c_topic_Check_1 (finW H.length (rsT [4]) K) ([x0, x1] ++ List.replicate 8 undefV) H) : BCall AP n_topic_Check_1 [x0, x1] H K := k_topic_Check_1.call (by kernel_rfl) h
/-- cmp.Compare[string]: 20 slots -/
def c_cmp_Compare_string : AC := .seq (.ops [⟨some 4, .mv (.c (.int .i64 0)), none⟩])
  (.seq (.ops [⟨some 7, .mv (.t 0), none⟩,
    ⟨some 8, .call (.c (.fn n_cmp_isNaN_string [] [])) [(.t 7)], none⟩,
    ⟨some 5, .mv (.t 8), none⟩])
  (.seq (.ops [⟨some 9, .mv (.t 1), none⟩,
    ⟨some 10, .call (.c (.fn n_cmp_isNaN_string [] [])) [(.t 9)], none⟩,
    ⟨some 6, .mv (.t 10), none⟩])
  (.seq (.seq (.ops [⟨some 11, .mv (.t 5), none⟩])
  (.cond (.t 11) (.seq (.seq (.ops [⟨some 12, .mv (.t 6), none⟩])
  (.cond (.t 12) (.seq (.ops [⟨some 4, .mv (.c (.int .i64 0)), none⟩])
  (.ret)) (.skip)))
  (.seq (.ops [⟨some 4, .mv (.c (.int .i64 (-1))), none⟩])
  (.ret))) (.skip)))
  (.seq (.seq (.ops [⟨some 13, .mv (.t 6), none⟩])
  (.cond (.t 13) (.seq (.ops [⟨some 4, .mv (.c (.int .i64 1)), none⟩])
  (.ret)) (.skip)))
  (.seq (.seq (.ops [⟨some 14, .mv (.t 0), none⟩,
    ⟨some 15, .mv (.t 1), none⟩,
    ⟨some 16, .bin .lss (.t 14) (.t 15), none⟩])
  (.cond (.t 16) (.seq (.ops [⟨some 4, .mv (.c (.int .i64 (-1))), none⟩])
  (.ret)) (.skip)))
  (.seq (.seq (.ops [⟨some 17, .mv (.t 0), none⟩,
    ⟨some 18, .mv (.t 1), none⟩,
    ⟨some 19, .bin .gtr (.t 17) (.t 18), none⟩])
  (.cond (.t 19) (.seq (.ops [⟨some 4, .mv (.c (.int .i64 1)), none⟩])
  (.ret)) (.skip)))
  (.seq (.ops [⟨some 4, .mv (.c (.int .i64 0)), none⟩])
  (.ret))))))))
theorem k_cmp_Compare_string : FnIs AP n_cmp_Compare_string c_cmp_Compare_string 20 (rsT [4]) := fnIs_of (fn := Go.Proofs.Try.f36) Go.Proofs.Try.func36 (by kernel_rfl) (by kernel_rfl) (by kernel_rfl) (by kernel_rfl) (by kernel_rfl)
theorem a_cmp_Compare_string {x0 x1 : V} {H : List Entry} {K : KV} (h : Wf H → awp AP H.length c_cmp_Compare_string (finW H.length (rsT [4]) K) ([x0, x1] ++ List.replicate 18 undefV) H) : BCall AP n_cmp_Compare_string [x0, x1] H K := k_cmp_Compare_string.call (by kernel_rfl) h
/-- tryst/list.Rises[tryst/api.Topic]: 24 slots -/
def c_list_Rises_api_Topic : AC := .seq (.ops [⟨some 4, .mv (.c (.bool false)), none⟩])
  (.seq (.seq (.ops [⟨some 5, .mv (.c (.int .i64 1)), none⟩])
  (.block 0 (.loop (.seq (.seq (.ops [⟨some 6, .mv (.t 5), none⟩,
    ⟨some 7, .mv (.t 0), none⟩,
    ⟨some 8, .len 1 (.t 7), none⟩,
    ⟨some 9, .bin .lss (.t 6) (.t 8), none⟩])
  (.cond (.t 9) (.skip) (.exit 0)))
  (.seq (.block 1 (.seq (.draw [⟨some 12, .mv (.t 1), none⟩,
    ⟨some 13, .mv (.t 0), none⟩,
    ⟨some 14, .mv (.t 5), none⟩,
    ⟨some 15, .bin .sub (.t 14) (.c (.int .i64 1)), none⟩,
    ⟨some 16, .iad 3 true (.t 13) (.t 15), none⟩,
    ⟨some 17, .load 3 true (.t 16), none⟩,
    ⟨some 18, .mv (.t 0), none⟩,
    ⟨some 19, .mv (.t 5), none⟩,
    ⟨some 20, .iad 3 true (.t 18) (.t 19), none⟩,
    ⟨some 21, .load 3 true (.t 20), none⟩,
    ⟨some 22, .dcall (.t 12) [(.t 17), (.t 21)], none⟩,
    ⟨some 23, .bin .geq (.t 22) (.c (.int .i64 0)), none⟩])
  (.cond (.t 23) (.seq (.ops [⟨some 4, .mv (.c (.bool false)), none⟩])
  (.ret)) (.skip))))
  (.ops [⟨some 10, .mv (.t 5), none⟩,
    ⟨some 11, .bin .add (.t 10) (.c (.int .i64 1)), none⟩,
    ⟨some 5, .mv (.t 11), none⟩]))))))
  (.seq (.ops [⟨some 4, .mv (.c (.bool true)), none⟩])
  (.ret)))
theorem k_list_Rises_api_Topic : FnIs AP n_list_Rises_api_Topic c_list_Rises_api_Topic 24 (rsT [4]) := fnIs_of (fn := Go.Proofs.Try.f37) Go.Proofs.Try.func37 (by kernel_rfl) (by kernel_rfl) (by kernel_rfl) (by kernel_rfl) (by kernel_rfl)
theorem a_list_Rises_api_Topic {x0 x1 : V} {H : List Entry} {K : KV} (h : Wf H → awp AP H.length c_list_Rises_api_Topic (finW H.length (rsT [4]) K) ([x0, x1] ++ List.replicate 22 undefV) H) : BCall AP n_list_Rises_api_Topic [x0, x1] H K := k_list_Rises_api_Topic.call (by kernel_rfl) h
/-- slices.ContainsFunc[[]tryst/api.Topic,tryst/api.Topic]: 9 slots -/
def c_slices_ContainsFunc_api_Topic_api_Topic : AC := .seq (.ops [⟨some 4, .mv (.c (.bool false)), none⟩])
  (.seq (.ops [⟨some 5, .mv (.t 0), none⟩,
    ⟨some 6, .mv (.t 1), none⟩,
    ⟨some 7, .call (.c (.fn n_slices_IndexFunc_api_Topic_api_Topic [] [])) [(.t 5), (.t 6)], none⟩,
    ⟨some 8, .bin .geq (.t 7) (.c (.int .i64 0)), none⟩,
    ⟨some 4, .mv (.t 8), none⟩])
  (.ret))
theorem k_slices_ContainsFunc_api_Topic_api_Topic : FnIs AP n_slices_ContainsFunc_api_Topic_api_Topic c_slices_ContainsFunc_api_Topic_api_Topic 9 (rsT [4]) := fnIs_of (fn := Go.Proofs.Try.f38) Go.Proofs.Try.func38 (by kernel_rfl) (by kernel_rfl) (by kernel_rfl) (by kernel_rfl) (by kernel_rfl)
theorem a_slices_ContainsFunc_api_Topic_api_Topic {x0 x1 : V} {H : List Entry} {K : KV} (h : Wf H → awp AP H.length c_slices_ContainsFunc_api_Topic_api_Topic (finW H.length (rsT [4]) K) ([x0, x1] ++ List.replicate 7 undefV) H) : BCall AP n_slices_ContainsFunc_api_Topic_api_Topic [x0, x1] H K := k_slices_ContainsFunc_api_Topic_api_Topic.call (by kernel_rfl) h
/-- tryst/topic.isWrong: 31 slots -/
def c_topic_isWrong : AC := .seq (.ops [⟨some 1, .box (.t 0), none⟩,
    ⟨some 2, .mv (.c (.bool false)), none⟩])
  (.seq (.seq (.ops [⟨some 3, .fad 0 (.t 1), none⟩,
    ⟨some 4, .load 1 false (.t 3), none⟩,
    ⟨some 5, .call (.c (.fn n_name_Topic [] [])) [(.t 4)], none⟩,
    ⟨some 6, .un .not (.t 5), none⟩,
    ⟨some 7, .mv (.t 6), none⟩,
    ⟨some 8, .fad 2 (.t 1), some (7, false)⟩,
    ⟨some 9, .load 1 false (.t 8), some (7, false)⟩,
    ⟨some 10, .len 1 (.t 9), some (7, false)⟩,
    ⟨some 11, .bin .gtr (.t 10) (.c (.int .i64 100)), some (7, false)⟩,
    ⟨some 12, .pick (.t 7) (.c (.bool true)) (.t 11), none⟩,
    ⟨some 13, .mv (.t 12), none⟩,
    ⟨some 14, .fad 1 (.t 1), some (13, false)⟩,
    ⟨some 15, .load 1 false (.t 14), some (13, false)⟩,
    ⟨some 16, .bin .lss (.t 15) (.c (.int .i64 0)), some (13, false)⟩,
    ⟨some 17, .pick (.t 13) (.c (.bool true)) (.t 16), none⟩,
    ⟨some 18, .mv (.t 17), none⟩,
    ⟨some 19, .fad 1 (.t 1), some (18, false)⟩,
    ⟨some 20, .load 1 false (.t 19), some (18, false)⟩,
    ⟨some 21, .fad 2 (.t 1), some (18, false)⟩,
    ⟨some 22, .load 1 false (.t 21), some (18, false)⟩,
    ⟨some 23, .len 1 (.t 22), some (18, false)⟩,
    ⟨some 24, .bin .sub (.c (.int .i64 1099511627775)) (.t 23), some (18, false)⟩,
    ⟨some 25, .bin .gtr (.t 20) (.t 24), some (18, false)⟩,
    ⟨some 26, .pick (.t 18) (.c (.bool true)) (.t 25), none⟩])
  (.cond (.t 26) (.seq (.ops [⟨some 2, .mv (.c (.bool true)), none⟩])
  (.ret)) (.skip)))
  (.seq (.ops [⟨some 27, .fad 2 (.t 1), none⟩,
    ⟨some 28, .load 1 false (.t 27), none⟩,
    ⟨some 29, .mkfn n_topic_isWrong_1 [] [(.t 1)], none⟩,
    ⟨some 30, .call (.c (.fn n_slices_ContainsFunc_string_string [] [])) [(.t 28), (.t 29)], none⟩,
    ⟨some 2, .mv (.t 30), none⟩])
  (.ret)))
theorem k_topic_isWrong : FnIs AP n_topic_isWrong c_topic_isWrong 31 (rsT [2]) := fnIs_of (fn := Go.Proofs.Try.f39) Go.Proofs.Try.func39 (by kernel_rfl) (by kernel_rfl) (by kernel_rfl) (by kernel_rfl) (by kernel_rfl)
theorem a_topic_isWrong {x0 : V} {H : List Entry} {K : KV} (h : Wf H → awp AP H.length c_topic_isWrong (finW H.length (rsT [2]) K) ([x0] ++ List.replicate 30 undefV) H) : BCall AP n_topic_isWrong [x0] H K := k_topic_isWrong.call (by kernel_rfl) h
/-- tryst/trystref02.Topic: 5 slots -/
def c_trystref02_Topic : AC := .seq (.ops [⟨some 2, .mv (.c (.bool false)), none⟩])
  (.seq (.ops [⟨some 3, .mv (.t 0), none⟩,
    ⟨some 4, .call (.c (.fn n_trystref02_is [] [])) [(.t 3), (.c (.bool false))], none⟩,
    ⟨some 2, .mv (.t 4), none⟩])
  (.ret))
theorem k_trystref02_Topic : FnIs AP n_trystref02_Topic c_trystref02_Topic 5 (rsT [2]) := fnIs_of (fn := Go.Proofs.Try.f40) Go.Proofs.Try.func40 (by kernel_rfl) (by kernel_rfl) (by kernel_rfl) (by kernel_rfl) (by kernel_rfl)
theorem a_trystref02_Topic {x0 : V} {H : List Entry} {K : KV} (h : Wf H → awp AP H.length c_trystref02_Topic (finW H.length (rsT [2]) K) ([x0] ++ List.replicate 4 undefV) H) : BCall AP n_trystref02_Topic [x0] H K := k_trystref02_Topic.call (by kernel_rfl) h
/-- tryst/trystref04.Take: 134 slots -/
def c_trystref04_Take : AC := .seq (.ops [⟨some 2, .alloc [.str [], .str [], .int .u64 0, .nilsl], none⟩,
    ⟨some 3, .mv (.c (.int .i64 0)), none⟩,
    ⟨some 4, .mv (.c (.int .i64 0)), none⟩])
  (.seq (.ops [⟨some 22, .build [.str [], .str [], .int .u64 0, .nilsl] [], none⟩,
    ⟨some 5, .alloc [.str [], .str [], .int .u64 0, .nilsl], none⟩,
    ⟨none, .store 4 (.t 5) (.t 22), none⟩])
  (.seq (.ops [⟨some 24, .mv (.t 0), none⟩,
    ⟨some 25, .call (.c (.fn n_trystref04_word [] [])) [(.t 24), (.c (.int .i64 0)), (.c (.int .i64 40))], none⟩,
    ⟨some 23, .mv (.t 25), none⟩,
    ⟨some 26, .ext (.t 23) 0, none⟩,
    ⟨some 27, .ext (.t 23) 1, none⟩,
    ⟨some 28, .ext (.t 23) 2, none⟩,
    ⟨some 6, .mv (.t 26), none⟩,
    ⟨some 7, .mv (.t 27), none⟩,
    ⟨some 8, .mv (.t 28), none⟩])
  (.seq (.seq (.ops [⟨some 29, .mv (.t 8), none⟩,
    ⟨some 30, .bin .neq (.t 29) (.c (.int .i64 0)), none⟩])
  (.cond (.t 30) (.seq (.ops [⟨some 31, .build [.str [], .str [], .int .u64 0, .nilsl] [], none⟩,
    ⟨some 32, .mv (.t 8), none⟩,
    ⟨none, .store 4 (.t 2) (.t 31), none⟩,
    ⟨some 3, .mv (.c (.int .i64 0)), none⟩,
    ⟨some 4, .mv (.t 32), none⟩])
  (.ret)) (.skip)))
  (.seq (.ops [⟨some 34, .mv (.t 0), none⟩,
    ⟨some 35, .mv (.t 7), none⟩,
    ⟨some 36, .call (.c (.fn n_trystref04_word [] [])) [(.t 34), (.t 35), (.c (.int .i64 16))], none⟩,
    ⟨some 33, .mv (.t 36), none⟩,
    ⟨some 37, .ext (.t 33) 0, none⟩,
    ⟨some 38, .ext (.t 33) 1, none⟩,
    ⟨some 39, .ext (.t 33) 2, none⟩,
    ⟨some 9, .mv (.t 37), none⟩,
    ⟨some 10, .mv (.t 38), none⟩,
    ⟨some 8, .mv (.t 39), none⟩])
  (.seq (.seq (.ops [⟨some 40, .mv (.t 8), none⟩,
    ⟨some 41, .bin .neq (.t 40) (.c (.int .i64 0)), none⟩])
  (.cond (.t 41) (.seq (.ops [⟨some 42, .build [.str [], .str [], .int .u64 0, .nilsl] [], none⟩,
    ⟨some 43, .mv (.t 8), none⟩,
    ⟨none, .store 4 (.t 2) (.t 42), none⟩,
    ⟨some 3, .mv (.c (.int .i64 0)), none⟩,
    ⟨some 4, .mv (.t 43), none⟩])
  (.ret)) (.skip)))
  (.seq (.ops [⟨some 45, .mv (.t 0), none⟩,
    ⟨some 46, .mv (.t 10), none⟩,
    ⟨some 47, .sls (.t 45) (some (.t 46)) none, none⟩,
    ⟨some 48, .call (.c (.fn n_trystref01_Unpack [] [])) [(.t 47)], none⟩,
    ⟨some 44, .mv (.t 48), none⟩,
    ⟨some 49, .ext (.t 44) 0, none⟩,
    ⟨some 50, .ext (.t 44) 1, none⟩,
    ⟨some 51, .ext (.t 44) 2, none⟩,
    ⟨some 11, .mv (.t 49), none⟩,
    ⟨some 12, .mv (.t 50), none⟩,
    ⟨some 8, .mv (.t 51), none⟩])
  (.seq (.seq (.ops [⟨some 52, .mv (.t 8), none⟩,
    ⟨some 53, .bin .neq (.t 52) (.c (.int .i64 0)), none⟩])
  (.cond (.t 53) (.seq (.ops [⟨some 54, .build [.str [], .str [], .int .u64 0, .nilsl] [], none⟩,
    ⟨some 55, .mv (.t 8), none⟩,
    ⟨none, .store 4 (.t 2) (.t 54), none⟩,
    ⟨some 3, .mv (.c (.int .i64 0)), none⟩,
    ⟨some 4, .mv (.t 55), none⟩])
  (.ret)) (.skip)))
  (.seq (.ops [⟨some 57, .mv (.t 0), none⟩,
    ⟨some 58, .mv (.t 10), none⟩,
    ⟨some 59, .mv (.t 12), none⟩,
    ⟨some 60, .bin .add (.t 58) (.t 59), none⟩,
    ⟨some 61, .sls (.t 57) (some (.t 60)) none, none⟩,
    ⟨some 62, .call (.c (.fn n_trystref01_Unpack [] [])) [(.t 61)], none⟩,
    ⟨some 56, .mv (.t 62), none⟩,
    ⟨some 63, .ext (.t 56) 0, none⟩,
    ⟨some 64, .ext (.t 56) 1, none⟩,
    ⟨some 65, .ext (.t 56) 2, none⟩,
    ⟨some 13, .mv (.t 63), none⟩,
    ⟨some 14, .mv (.t 64), none⟩,
    ⟨some 8, .mv (.t 65), none⟩])
  (.seq (.seq (.ops [⟨some 66, .mv (.t 8), none⟩,
    ⟨some 67, .bin .neq (.t 66) (.c (.int .i64 0)), none⟩])
  (.cond (.t 67) (.seq (.ops [⟨some 68, .build [.str [], .str [], .int .u64 0, .nilsl] [], none⟩,
    ⟨some 69, .mv (.t 8), none⟩,
    ⟨none, .store 4 (.t 2) (.t 68), none⟩,
    ⟨some 3, .mv (.c (.int .i64 0)), none⟩,
    ⟨some 4, .mv (.t 69), none⟩])
  (.ret)) (.skip)))
  (.seq (.seq (.ops [⟨some 70, .mv (.t 13), none⟩,
    ⟨some 71, .bin .gtr (.t 70) (.c (.int .u64 8)), none⟩])
  (.cond (.t 71) (.seq (.ops [⟨some 72, .build [.str [], .str [], .int .u64 0, .nilsl] [], none⟩,
    ⟨none, .store 4 (.t 2) (.t 72), none⟩,
    ⟨some 3, .mv (.c (.int .i64 0)), none⟩,
    ⟨some 4, .mv (.c (.int .i64 2)), none⟩])
  (.ret)) (.skip)))
  (.seq (.ops [⟨some 73, .mv (.t 10), none⟩,
    ⟨some 74, .mv (.t 12), none⟩,
    ⟨some 75, .bin .add (.t 73) (.t 74), none⟩,
    ⟨some 76, .mv (.t 14), none⟩,
    ⟨some 77, .bin .add (.t 75) (.t 76), none⟩,
    ⟨some 7, .mv (.t 77), none⟩])
  (.seq (.ops [⟨some 78, .mv (.t 6), none⟩,
    ⟨some 79, .mv (.t 9), none⟩,
    ⟨some 80, .mv (.t 11), none⟩,
    ⟨some 81, .fad 0 (.t 5), none⟩,
    ⟨none, .store 1 (.t 81) (.t 78), none⟩,
    ⟨some 82, .fad 1 (.t 5), none⟩,
    ⟨none, .store 1 (.t 82) (.t 79), none⟩,
    ⟨some 83, .fad 2 (.t 5), none⟩,
    ⟨none, .store 1 (.t 83) (.t 80), none⟩])
  (.seq (.seq (.ops [⟨some 15, .mv (.c (.int .i64 0)), none⟩])
  (.block 0 (.loop (.seq (.seq (.ops [⟨some 84, .mv (.t 15), none⟩,
    ⟨some 85, .mv (.t 13), none⟩,
    ⟨some 86, .cvi .i64 (.t 85), none⟩,
    ⟨some 87, .bin .lss (.t 84) (.t 86), none⟩])
  (.cond (.t 87) (.skip) (.exit 0)))
  (.seq (.block 1 (.seq (.ops [⟨some 91, .mv (.t 0), none⟩,
    ⟨some 92, .mv (.t 7), none⟩,
    ⟨some 93, .call (.c (.fn n_trystref04_word [] [])) [(.t 91), (.t 92), (.c (.int .i64 16))], none⟩,
    ⟨some 90, .mv (.t 93), none⟩,
    ⟨some 94, .ext (.t 90) 0, none⟩,
    ⟨some 95, .ext (.t 90) 1, none⟩,
    ⟨some 96, .ext (.t 90) 2, none⟩,
    ⟨some 16, .mv (.t 94), none⟩,
    ⟨some 17, .mv (.t 95), none⟩,
    ⟨some 18, .mv (.t 96), none⟩])
  (.seq (.seq (.ops [⟨some 97, .mv (.t 18), none⟩,
    ⟨some 98, .bin .neq (.t 97) (.c (.int .i64 0)), none⟩])
  (.cond (.t 98) (.seq (.ops [⟨some 99, .build [.str [], .str [], .int .u64 0, .nilsl] [], none⟩,
    ⟨some 100, .mv (.t 18), none⟩,
    ⟨none, .store 4 (.t 2) (.t 99), none⟩,
    ⟨some 3, .mv (.c (.int .i64 0)), none⟩,
    ⟨some 4, .mv (.t 100), none⟩])
  (.ret)) (.skip)))
  (.seq (.ops [⟨some 102, .mv (.t 0), none⟩,
    ⟨some 103, .mv (.t 17), none⟩,
    ⟨some 104, .sls (.t 102) (some (.t 103)) none, none⟩,
    ⟨some 105, .call (.c (.fn n_trystref03_Take [] [])) [(.t 104)], none⟩,
    ⟨some 101, .mv (.t 105), none⟩,
    ⟨some 106, .ext (.t 101) 0, none⟩,
    ⟨some 107, .ext (.t 101) 1, none⟩,
    ⟨some 108, .ext (.t 101) 2, none⟩,
    ⟨some 19, .alloc [.bool false, .int .i64 0, .str []], none⟩,
    ⟨none, .store 3 (.t 19) (.t 106), none⟩,
    ⟨some 20, .mv (.t 107), none⟩,
    ⟨some 21, .mv (.t 108), none⟩])
  (.seq (.seq (.ops [⟨some 109, .mv (.t 21), none⟩,
    ⟨some 110, .bin .neq (.t 109) (.c (.int .i64 0)), none⟩])
  (.cond (.t 110) (.seq (.ops [⟨some 111, .build [.str [], .str [], .int .u64 0, .nilsl] [], none⟩,
    ⟨some 112, .mv (.t 21), none⟩,
    ⟨none, .store 4 (.t 2) (.t 111), none⟩,
    ⟨some 3, .mv (.c (.int .i64 0)), none⟩,
    ⟨some 4, .mv (.t 112), none⟩])
  (.ret)) (.skip)))
  (.seq (.ops [⟨some 113, .fad 3 (.t 5), none⟩,
    ⟨some 114, .load 1 false (.t 113), none⟩,
    ⟨some 115, .mv (.t 16), none⟩,
    ⟨some 116, .load 3 true (.t 19), none⟩,
    ⟨some 117, .build [.str [], .bool false, .int .i64 0, .str []] [(0, 1, (.t 115)), (1, 3, (.t 116))], none⟩,
    ⟨some 118, .bsl 4 true [(.t 117)], none⟩,
    ⟨some 119, .app 66 4 48 true (.t 114) (.t 118), none⟩,
    ⟨some 120, .fad 3 (.t 5), none⟩,
    ⟨none, .store 1 (.t 120) (.t 119), none⟩])
  (.ops [⟨some 121, .mv (.t 17), none⟩,
    ⟨some 122, .mv (.t 20), none⟩,
    ⟨some 123, .bin .add (.t 121) (.t 122), none⟩,
    ⟨some 7, .mv (.t 123), none⟩])))))))
  (.ops [⟨some 88, .mv (.t 15), none⟩,
    ⟨some 89, .bin .add (.t 88) (.c (.int .i64 1)), none⟩,
    ⟨some 15, .mv (.t 89), none⟩]))))))
  (.seq (.seq (.ops [⟨some 124, .load 4 true (.t 5), none⟩,
    ⟨some 125, .call (.c (.fn n_trystref04_May [] [])) [(.t 124)], none⟩,
    ⟨some 126, .un .not (.t 125), none⟩,
    ⟨some 127, .mv (.t 126), none⟩,
    ⟨some 128, .mv (.t 7), some (127, false)⟩,
    ⟨some 129, .bin .gtr (.t 128) (.c (.int .i64 800)), some (127, false)⟩,
    ⟨some 130, .pick (.t 127) (.c (.bool true)) (.t 129), none⟩])
  (.cond (.t 130) (.seq (.ops [⟨some 131, .build [.str [], .str [], .int .u64 0, .nilsl] [], none⟩,
    ⟨none, .store 4 (.t 2) (.t 131), none⟩,
    ⟨some 3, .mv (.c (.int .i64 0)), none⟩,
    ⟨some 4, .mv (.c (.int .i64 2)), none⟩])
  (.ret)) (.skip)))
  (.seq (.ops [⟨some 132, .load 4 true (.t 5), none⟩,
    ⟨some 133, .mv (.t 7), none⟩,
    ⟨none, .store 4 (.t 2) (.t 132), none⟩,
    ⟨some 3, .mv (.t 133), none⟩,
    ⟨some 4, .mv (.c (.int .i64 0)), none⟩])
  (.ret))))))))))))))))
theorem k_trystref04_Take : FnIs AP n_trystref04_Take c_trystref04_Take 134 [.cell 2 4 true, .tmp 3, .tmp 4] := fnIs_of (fn := Go.Proofs.Try.f41) Go.Proofs.Try.func41 (by kernel_rfl) (by kernel_rfl) (by kernel_rfl) (by kernel_rfl) (by kernel_rfl)
theorem a_trystref04_Take {x0 : V} {H : List Entry} {K : KV} (h : Wf H → awp AP H.length c_trystref04_Take (finW H.length [.cell 2 4 true, .tmp 3, .tmp 4] K) ([x0] ++ List.replicate 133 undefV) H) : BCall AP n_trystref04_Take [x0] H K := k_trystref04_Take.call (by kernel_rfl) h
/-- tryst/topic.find: 20 slots -/
def c_topic_find : AC := .seq (.ops [⟨some 4, .mv (.c (.int .i64 0)), none⟩,
    ⟨some 5, .mv (.c (.int .i64 0)), none⟩])
  (.seq (.seq (.ops [⟨some 8, .mv (.t 0), none⟩,
    ⟨some 9, .call (.c (.fn n_topic_Check [] [])) [(.t 8)], none⟩,
    ⟨some 10, .bin .neq (.t 9) (.c (.int .i64 0)), none⟩])
  (.cond (.t 10) (.seq (.ops [⟨some 4, .mv (.c (.int .i64 0)), none⟩,
    ⟨some 5, .mv (.c (.int .i64 1)), none⟩])
  (.ret)) (.skip)))
  (.seq (.ops [⟨some 12, .mv (.t 0), none⟩,
    ⟨some 13, .mv (.t 1), none⟩,
    ⟨some 14, .call (.c (.fn n_topic_Find [] [])) [(.t 12), (.t 13)], none⟩,
    ⟨some 11, .mv (.t 14), none⟩,
    ⟨some 15, .ext (.t 11) 0, none⟩,
    ⟨some 16, .ext (.t 11) 1, none⟩,
    ⟨some 6, .mv (.t 15), none⟩,
    ⟨some 7, .mv (.t 16), none⟩])
  (.seq (.seq (.ops [⟨some 17, .mv (.t 7), none⟩,
    ⟨some 18, .un .not (.t 17), none⟩])
  (.cond (.t 18) (.seq (.ops [⟨some 4, .mv (.c (.int .i64 0)), none⟩,
    ⟨some 5, .mv (.c (.int .i64 4)), none⟩])
  (.ret)) (.skip)))
  (.seq (.ops [⟨some 19, .mv (.t 6), none⟩,
    ⟨some 4, .mv (.t 19), none⟩,
    ⟨some 5, .mv (.c (.int .i64 0)), none⟩])
  (.ret)))))
theorem k_topic_find : FnIs AP n_topic_find c_topic_find 20 (rsT [4, 5]) := fnIs_of (fn := Go.Proofs.Try.f42) Go.Proofs.Try.func42 (by kernel_rfl) (by kernel_rfl) (by kernel_rfl) (by kernel_rfl) (by kernel_rfl)
theorem a_topic_find {x0 x1 : V} {H : List Entry} {K : KV} (h : Wf H → awp AP H.length c_topic_find (finW H.length (rsT [4, 5]) K) ([x0, x1] ++ List.replicate 18 undefV) H) : BCall AP n_topic_find [x0, x1] H K := k_topic_find.call (by kernel_rfl) h
/-- tryst/trystlaw12.ev: 8 slots -/
def c_trystlaw12_ev : AC := .seq (.ops [⟨some 4, .alloc [.str [], .str [], .int .u64 0, .nilsl], none⟩])
  (.seq (.ops [⟨some 5, .mv (.t 0), none⟩,
    ⟨some 6, .mv (.t 1), none⟩,
    ⟨some 7, .build [.str [], .str [], .int .u64 0, .nilsl] [(0, 1, (.t 5)), (1, 1, (.c (.str [112]))), (2, 1, (.t 6))], none⟩,
    ⟨none, .store 4 (.t 4) (.t 7), none⟩])
  (.ret))
theorem k_trystlaw12_ev : FnIs AP n_trystlaw12_ev c_trystlaw12_ev 8 [.cell 4 4 true] := fnIs_of (fn := Go.Proofs.Try.f43) Go.Proofs.Try.func43 (by kernel_rfl) (by kernel_rfl) (by kernel_rfl) (by kernel_rfl) (by kernel_rfl)
theorem a_trystlaw12_ev {x0 x1 : V} {H : List Entry} {K : KV} (h : Wf H → awp AP H.length c_trystlaw12_ev (finW H.length [.cell 4 4 true] K) ([x0, x1] ++ List.replicate 6 undefV) H) : BCall AP n_trystlaw12_ev [x0, x1] H K := k_trystlaw12_ev.call (by kernel_rfl) h
/-- tryst/event.Take: 38 slots -/
def c_event_Take : AC := .seq (.ops [⟨some 2, .alloc [.str [], .str [], .int .u64 0, .nilsl], none⟩,
    ⟨some 3, .mv (.c (.int .i64 0)), none⟩,
    ⟨some 4, .mv (.c (.int .i64 0)), none⟩])
  (.seq (.ops [⟨some 8, .mv (.t 0), none⟩,
    ⟨some 9, .build [.str [], .int .i64 0] [(0, 1, (.t 8))], none⟩,
    ⟨some 5, .alloc [.str [], .int .i64 0], none⟩,
    ⟨none, .store 2 (.t 5) (.t 9), none⟩])
  (.seq (.ops [⟨some 10, .call (.c (.fn n_event_reader_event [] [])) [(.t 5)], none⟩,
    ⟨some 6, .alloc [.str [], .str [], .int .u64 0, .nilsl], none⟩,
    ⟨none, .store 4 (.t 6) (.t 10), none⟩])
  (.seq (.ops [⟨some 11, .mv (.t 0), none⟩,
    ⟨some 12, .len 0 (.t 11), none⟩,
    ⟨some 13, .fad 0 (.t 5), none⟩,
    ⟨some 14, .load 1 false (.t 13), none⟩,
    ⟨some 15, .len 0 (.t 14), none⟩,
    ⟨some 16, .bin .sub (.t 12) (.t 15), none⟩,
    ⟨some 7, .mv (.t 16), none⟩])
  (.seq (.seq (.ops [⟨some 17, .fad 1 (.t 5), none⟩,
    ⟨some 18, .load 1 false (.t 17), none⟩,
    ⟨some 19, .bin .eql (.t 18) (.c (.int .i64 0)), none⟩,
    ⟨some 20, .mv (.t 19), none⟩,
    ⟨some 21, .load 4 true (.t 6), some (20, true)⟩,
    ⟨some 22, .call (.c (.fn n_event_May [] [])) [(.t 21)], some (20, true)⟩,
    ⟨some 23, .un .not (.t 22), some (20, true)⟩,
    ⟨some 24, .mv (.t 23), some (20, true)⟩,
    ⟨some 25, .mv (.t 7), some (24, false)⟩,
    ⟨some 26, .bin .gtr (.t 25) (.c (.int .i64 800)), some (24, false)⟩,
    ⟨some 27, .pick (.t 24) (.c (.bool true)) (.t 26), some (20, true)⟩,
    ⟨some 28, .pick (.t 20) (.t 27) (.c (.bool false)), none⟩])
  (.cond (.t 28) (.ops [⟨some 29, .fad 1 (.t 5), none⟩,
    ⟨none, .store 1 (.t 29) (.c (.int .i64 2)), none⟩]) (.skip)))
  (.seq (.seq (.ops [⟨some 30, .fad 1 (.t 5), none⟩,
    ⟨some 31, .load 1 false (.t 30), none⟩,
    ⟨some 32, .bin .neq (.t 31) (.c (.int .i64 0)), none⟩])
  (.cond (.t 32) (.seq (.drawX [] [(5, 2), (34, 2)] [⟨some 33, .build [.str [], .str [], .int .u64 0, .nilsl] [], none⟩,
    ⟨some 34, .fad 1 (.t 5), none⟩,
    ⟨some 35, .load 1 false (.t 34), none⟩,
    ⟨none, .store 4 (.t 2) (.t 33), none⟩,
    ⟨some 3, .mv (.c (.int .i64 0)), none⟩,
    ⟨some 4, .mv (.t 35), none⟩])
  (.ret)) (.skip)))
  (.seq (.ops [⟨some 36, .load 4 true (.t 6), none⟩,
    ⟨some 37, .mv (.t 7), none⟩,
    ⟨none, .store 4 (.t 2) (.t 36), none⟩,
    ⟨some 3, .mv (.t 37), none⟩,
    ⟨some 4, .mv (.c (.int .i64 0)), none⟩])
  (.ret)))))))
theorem k_event_Take : FnIs AP n_event_Take c_event_Take 38 [.cell 2 4 true, .tmp 3, .tmp 4] := fnIs_of (fn := Go.Proofs.Try.f44) Go.Proofs.Try.func44 (by kernel_rfl) (by kernel_rfl) (by kernel_rfl) (by kernel_rfl) (by kernel_rfl)
theorem a_event_Take {x0 : V} {H : List Entry} {K : KV} (h : Wf H → awp AP H.length c_event_Take (finW H.length [.cell 2 4 true, .tmp 3, .tmp 4] K) ([x0] ++ List.replicate 37 undefV) H) : BCall AP n_event_Take [x0] H K := k_event_Take.call (by kernel_rfl) h
/-- slices.Clone[[]string,string]: 8 slots -/
def c_slices_Clone_string_string : AC := .seq (.ops [⟨some 2, .mv (.c (.nilsl)), none⟩])
  (.seq (.seq (.ops [⟨some 3, .mv (.t 0), none⟩,
    ⟨some 4, .cnil 0 false (.t 3) (.c (.nilsl)), none⟩])
  (.cond (.t 4) (.seq (.ops [⟨some 2, .mv (.c (.nilsl)), none⟩])
  (.ret)) (.skip)))
  (.seq (.ops [⟨some 5, .bsl 1 false [], none⟩,
    ⟨some 6, .mv (.t 0), none⟩,
    ⟨some 7, .app 9 1 16 false (.t 5) (.t 6), none⟩,
    ⟨some 2, .mv (.t 7), none⟩])
  (.ret)))
theorem k_slices_Clone_string_string : FnIs AP n_slices_Clone_string_string c_slices_Clone_string_string 8 (rsT [2]) := fnIs_of (fn := Go.Proofs.Try.f45) Go.Proofs.Try.func45 (by kernel_rfl) (by kernel_rfl) (by kernel_rfl) (by kernel_rfl) (by kernel_rfl)
theorem a_slices_Clone_string_string {x0 : V} {H : List Entry} {K : KV} (h : Wf H → awp AP H.length c_slices_Clone_string_string (finW H.length (rsT [2]) K) ([x0] ++ List.replicate 7 undefV) H) : BCall AP n_slices_Clone_string_string [x0] H K := k_slices_Clone_string_string.call (by kernel_rfl) h
/-- tryst/event.May: 21 slots -/
def c_event_May : AC := .seq (.ops [⟨some 1, .box (.t 0), none⟩,
    ⟨some 2, .mv (.c (.bool false)), none⟩])
  (.seq (.ops [⟨some 3, .fad 0 (.t 1), none⟩,
    ⟨some 4, .load 1 false (.t 3), none⟩,
    ⟨some 5, .call (.c (.fn n_name_Topic [] [])) [(.t 4)], none⟩,
    ⟨some 6, .mv (.t 5), none⟩,
    ⟨some 7, .fad 1 (.t 1), some (6, true)⟩,
    ⟨some 8, .load 1 false (.t 7), some (6, true)⟩,
    ⟨some 9, .call (.c (.fn n_event_Field [] [])) [(.t 8)], some (6, true)⟩,
    ⟨some 10, .pick (.t 6) (.t 9) (.c (.bool false)), none⟩,
    ⟨some 11, .mv (.t 10), none⟩,
    ⟨some 12, .fad 2 (.t 1), some (11, true)⟩,
    ⟨some 13, .load 1 false (.t 12), some (11, true)⟩,
    ⟨some 14, .bin .geq (.t 13) (.c (.int .u64 1)), some (11, true)⟩,
    ⟨some 15, .pick (.t 11) (.t 14) (.c (.bool false)), none⟩,
    ⟨some 16, .mv (.t 15), none⟩,
    ⟨some 17, .fad 3 (.t 1), some (16, true)⟩,
    ⟨some 18, .load 1 false (.t 17), some (16, true)⟩,
    ⟨some 19, .call (.c (.fn n_event_mayFields [] [])) [(.t 18)], some (16, true)⟩,
    ⟨some 20, .pick (.t 16) (.t 19) (.c (.bool false)), none⟩,
    ⟨some 2, .mv (.t 20), none⟩])
  (.ret))
theorem k_event_May : FnIs AP n_event_May c_event_May 21 (rsT [2]) := fnIs_of (fn := Go.Proofs.Try.f46) Go.Proofs.Try.func46 (by kernel_rfl) (by kernel_rfl) (by kernel_rfl) (by kernel_rfl) (by kernel_rfl)
theorem a_event_May {x0 : V} {H : List Entry} {K : KV} (h : Wf H → awp AP H.length c_event_May (finW H.length (rsT [2]) K) ([x0] ++ List.replicate 20 undefV) H) : BCall AP n_event_May [x0] H K := k_event_May.call (by kernel_rfl) h
/-- tryst/event.layText: 9 slots -/
def c_event_layText : AC := .seq (.ops [⟨some 2, .mv (.c (.str [])), none⟩])
  (.seq (.ops [⟨some 3, .mv (.t 0), none⟩,
    ⟨some 4, .len 0 (.t 3), none⟩,
    ⟨some 5, .cvi .u64 (.t 4), none⟩,
    ⟨some 6, .call (.c (.fn n_num_Pack [] [])) [(.t 5)], none⟩,
    ⟨some 7, .mv (.t 0), none⟩,
    ⟨some 8, .bin .add (.t 6) (.t 7), none⟩,
    ⟨some 2, .mv (.t 8), none⟩])
  (.ret))
theorem k_event_layText : FnIs AP n_event_layText c_event_layText 9 (rsT [2]) := fnIs_of (fn := Go.Proofs.Try.f47) Go.Proofs.Try.func47 (by kernel_rfl) (by kernel_rfl) (by kernel_rfl) (by kernel_rfl) (by kernel_rfl)
theorem a_event_layText {x0 : V} {H : List Entry} {K : KV} (h : Wf H → awp AP H.length c_event_layText (finW H.length (rsT [2]) K) ([x0] ++ List.replicate 8 undefV) H) : BCall AP n_event_layText [x0] H K := k_event_layText.call (by kernel_rfl) h
/-- tryst/num.Pack: 33 slots -/
def c_num_Pack : AC := .seq (.ops [⟨some 2, .mv (.c (.str [])), none⟩])
  (.seq (.ops [⟨some 6, .mv (.t 0), none⟩,
    ⟨some 7, .call (.c (.fn n_num_packedWide [] [])) [(.t 6)], none⟩,
    ⟨some 8, .bin .sub (.t 7) (.c (.int .i64 1)), none⟩,
    ⟨some 3, .mv (.t 8), none⟩])
  (.seq (.ops [⟨some 9, .mv (.t 3), none⟩,
    ⟨some 10, .bin .add (.t 9) (.c (.int .i64 1)), none⟩,
    ⟨some 11, .mks 5 1 false [.int .u8 0] 1 (.t 10) (.t 10), none⟩,
    ⟨some 4, .mv (.t 11), none⟩])
  (.seq (.seq (.ops [⟨some 12, .mv (.t 3), none⟩,
    ⟨some 13, .mv (.c (.int .i64 0)), none⟩])
  (.block 0 (.loop (.seq (.ops [⟨some 14, .bin .lss (.t 13) (.t 12), none⟩])
  (.seq (.cond (.t 14) (.skip) (.exit 0))
  (.seq (.block 1 (.seq (.ops [⟨some 15, .mv (.t 13), none⟩,
    ⟨some 5, .mv (.t 15), none⟩])
  (.seq (.ops [⟨some 16, .mv (.t 4), none⟩,
    ⟨some 17, .mv (.t 5), none⟩,
    ⟨some 18, .mv (.t 0), none⟩,
    ⟨some 19, .bin .and (.t 18) (.c (.int .u64 127)), none⟩,
    ⟨some 20, .cvi .u8 (.t 19), none⟩,
    ⟨some 21, .bin .or (.t 20) (.c (.int .u8 128)), none⟩,
    ⟨some 22, .iad 1 false (.t 16) (.t 17), none⟩,
    ⟨none, .store 1 (.t 22) (.t 21), none⟩])
  (.ops [⟨some 23, .mv (.t 0), none⟩,
    ⟨some 24, .bin .shr (.t 23) (.c (.int .u64 7)), none⟩,
    ⟨some 0, .mv (.t 24), none⟩]))))
  (.ops [⟨some 25, .bin .add (.t 13) (.c (.int .i64 1)), none⟩,
    ⟨some 13, .mv (.t 25), none⟩])))))))
  (.seq (.ops [⟨some 26, .mv (.t 4), none⟩,
    ⟨some 27, .mv (.t 3), none⟩,
    ⟨some 28, .mv (.t 0), none⟩,
    ⟨some 29, .cvi .u8 (.t 28), none⟩,
    ⟨some 30, .iad 1 false (.t 26) (.t 27), none⟩,
    ⟨none, .store 1 (.t 30) (.t 29), none⟩])
  (.seq (.ops [⟨some 31, .mv (.t 4), none⟩,
    ⟨some 32, .b2s (.t 31), none⟩,
    ⟨some 2, .mv (.t 32), none⟩])
  (.ret))))))
theorem k_num_Pack : FnIs AP n_num_Pack c_num_Pack 33 (rsT [2]) := fnIs_of (fn := Go.Proofs.Try.f48) Go.Proofs.Try.func48 (by kernel_rfl) (by kernel_rfl) (by kernel_rfl) (by kernel_rfl) (by kernel_rfl)
theorem a_num_Pack {x0 : V} {H : List Entry} {K : KV} (h : Wf H → awp AP H.length c_num_Pack (finW H.length (rsT [2]) K) ([x0] ++ List.replicate 32 undefV) H) : BCall AP n_num_Pack [x0] H K := k_num_Pack.call (by kernel_rfl) h
/-- tryst/val.Lay: 23 slots -/
def c_val_Lay : AC := .seq (.ops [⟨some 1, .box (.t 0), none⟩,
    ⟨some 2, .mv (.c (.str [])), none⟩,
    ⟨some 3, .mv (.c (.int .i64 0)), none⟩])
  (.seq (.seq (.ops [⟨some 4, .load 3 true (.t 1), none⟩,
    ⟨some 5, .call (.c (.fn n_val_May [] [])) [(.t 4)], none⟩,
    ⟨some 6, .un .not (.t 5), none⟩])
  (.cond (.t 6) (.seq (.ops [⟨some 2, .mv (.c (.str [])), none⟩,
    ⟨some 3, .mv (.c (.int .i64 1)), none⟩])
  (.ret)) (.skip)))
  (.seq (.seq (.ops [⟨some 7, .fad 0 (.t 1), none⟩,
    ⟨some 8, .load 1 false (.t 7), none⟩])
  (.cond (.t 8) (.seq (.ops [⟨some 9, .fad 1 (.t 1), none⟩,
    ⟨some 10, .load 1 false (.t 9), none⟩,
    ⟨some 11, .call (.c (.fn n_num_Fold [] [])) [(.t 10)], none⟩,
    ⟨some 12, .call (.c (.fn n_num_Pack [] [])) [(.t 11)], none⟩,
    ⟨some 13, .bin .add (.c (.str [1])) (.t 12), none⟩,
    ⟨some 2, .mv (.t 13), none⟩,
    ⟨some 3, .mv (.c (.int .i64 0)), none⟩])
  (.ret)) (.skip)))
  (.seq (.draw [⟨some 14, .fad 2 (.t 1), none⟩,
    ⟨some 15, .load 1 false (.t 14), none⟩,
    ⟨some 16, .len 0 (.t 15), none⟩,
    ⟨some 17, .cvi .u64 (.t 16), none⟩,
    ⟨some 18, .dcall (.c (.fn n_num_Pack [] [])) [(.t 17)], none⟩,
    ⟨some 19, .bin .add (.c (.str [2])) (.t 18), none⟩,
    ⟨some 20, .fad 2 (.t 1), none⟩,
    ⟨some 21, .load 1 false (.t 20), none⟩,
    ⟨some 22, .bin .add (.t 19) (.t 21), none⟩,
    ⟨some 2, .mv (.t 22), none⟩,
    ⟨some 3, .mv (.c (.int .i64 0)), none⟩])
  (.ret))))
theorem k_val_Lay : FnIs AP n_val_Lay c_val_Lay 23 (rsT [2, 3]) := fnIs_of (fn := Go.Proofs.Try.f49) Go.Proofs.Try.func49 (by kernel_rfl) (by kernel_rfl) (by kernel_rfl) (by kernel_rfl) (by kernel_rfl)
theorem a_val_Lay {x0 : V} {H : List Entry} {K : KV} (h : Wf H → awp AP H.length c_val_Lay (finW H.length (rsT [2, 3]) K) ([x0] ++ List.replicate 22 undefV) H) : BCall AP n_val_Lay [x0] H K := k_val_Lay.call (by kernel_rfl) h
/-- tryst/list.Place[tryst/api.Topic]: 14 slots -/
def c_list_Place_api_Topic : AC := .seq (.ops [⟨some 4, .mv (.c (.int .i64 0)), none⟩])
  (.seq (.seq (.ops [⟨some 6, .mv (.t 0), none⟩,
    ⟨some 7, .mv (.t 1), none⟩,
    ⟨some 8, .call (.c (.fn n_slices_IndexFunc_api_Topic_api_Topic [] [])) [(.t 6), (.t 7)], none⟩,
    ⟨some 5, .mv (.t 8), none⟩])
  (.seq (.ops [⟨some 9, .mv (.t 5), none⟩,
    ⟨some 10, .bin .geq (.t 9) (.c (.int .i64 0)), none⟩])
  (.cond (.t 10) (.seq (.ops [⟨some 11, .mv (.t 5), none⟩,
    ⟨some 4, .mv (.t 11), none⟩])
  (.ret)) (.skip))))
  (.seq (.ops [⟨some 12, .mv (.t 0), none⟩,
    ⟨some 13, .len 1 (.t 12), none⟩,
    ⟨some 4, .mv (.t 13), none⟩])
  (.ret)))
theorem k_list_Place_api_Topic : FnIs AP n_list_Place_api_Topic c_list_Place_api_Topic 14 (rsT [4]) := fnIs_of (fn := Go.Proofs.Try.f50) Go.Proofs.Try.func50 (by kernel_rfl) (by kernel_rfl) (by kernel_rfl) (by kernel_rfl) (by kernel_rfl)
theorem a_list_Place_api_Topic {x0 x1 : V} {H : List Entry} {K : KV} (h : Wf H → awp AP H.length c_list_Place_api_Topic (finW H.length (rsT [4]) K) ([x0, x1] ++ List.replicate 12 undefV) H) : BCall AP n_list_Place_api_Topic [x0, x1] H K := k_list_Place_api_Topic.call (by kernel_rfl) h
/-- tryst/topic.begin$1: 8 slots -/
def c_topic_begin_1 : AC := .seq (.ops [⟨some 2, .box (.t 0), none⟩,
    ⟨some 3, .mv (.c (.bool false)), none⟩])
  (.seq (.ops [⟨some 4, .fad 0 (.t 2), none⟩,
    ⟨some 5, .load 1 false (.t 4), none⟩,
    ⟨some 6, .load 1 false (.t 1), none⟩,
    ⟨some 7, .bin .gtr (.t 5) (.t 6), none⟩,
    ⟨some 3, .mv (.t 7), none⟩])
  (.ret))
theorem k_topic_begin_1 : FnIs AP n_topic_begin_1 c_topic_begin_1 8 (rsT [3]) := fnIs_of (fn := Go.Proofs.Try.f51) Go.Proofs.Try.func51 (by kernel_rfl) (by kernel_rfl) (by kernel_rfl) (by kernel_rfl) (by kernel_rfl)
theorem a_topic_begin_1 {x0 x1 : V} {H : List Entry} {K : KV} (h : Wf H → awp AP H.length c_topic_begin_1 (finW H.length (rsT [3]) K) ([x0, x1] ++ List.replicate 6 undefV) H) : BCall AP n_topic_begin_1 [x0, x1] H K := k_topic_begin_1.call (by kernel_rfl) h
/-- tryst/list.With[tryst/api.Topic]: 17 slots -/
def c_list_With_api_Topic : AC := .seq (.ops [⟨some 5, .box (.t 2), none⟩,
    ⟨some 6, .mv (.c (.nilsl)), none⟩])
  (.seq (.draw [⟨some 7, .mv (.t 0), none⟩,
    ⟨some 8, .mv (.t 1), none⟩,
    ⟨some 9, .slcm 3 (.t 7) none (some (.t 8)) none, none⟩,
    ⟨some 10, .load 3 true (.t 5), none⟩,
    ⟨some 11, .bslm 3 true [(.t 10)], none⟩,
    ⟨some 12, .mv (.t 0), none⟩,
    ⟨some 13, .mv (.t 1), none⟩,
    ⟨some 14, .slcm 3 (.t 12) (some (.t 13)) none none, none⟩,
    ⟨some 15, .bslm 1 false [(.t 9), (.t 11), (.t 14)], none⟩,
    ⟨some 16, .dcall (.c (.fn n_slices_Concat_api_Topic_api_Topic [] [])) [(.t 15)], none⟩,
    ⟨some 6, .mv (.t 16), none⟩])
  (.ret))
theorem k_list_With_api_Topic : FnIs AP n_list_With_api_Topic c_list_With_api_Topic 17 (rsT [6]) := fnIs_of (fn := Go.Proofs.Try.f52) Go.Proofs.Try.func52 (by kernel_rfl) (by kernel_rfl) (by kernel_rfl) (by kernel_rfl) (by kernel_rfl)
theorem a_list_With_api_Topic {x0 x1 x2 : V} {H : List Entry} {K : KV} (h : Wf H → awp AP H.length c_list_With_api_Topic (finW H.length (rsT [6]) K) ([x0, x1, x2] ++ List.replicate 14 undefV) H) : BCall AP n_list_With_api_Topic [x0, x1, x2] H K := k_list_With_api_Topic.call (by kernel_rfl) h
/-- slices.Clone[[]tryst/api.Topic,tryst/api.Topic]: 8 slots -/
def c_slices_Clone_api_Topic_api_Topic : AC := .seq (.ops [⟨some 2, .mv (.c (.nilsl)), none⟩])
  (.seq (.seq (.ops [⟨some 3, .mv (.t 0), none⟩,
    ⟨some 4, .cnil 0 false (.t 3) (.c (.nilsl)), none⟩])
  (.cond (.t 4) (.seq (.ops [⟨some 2, .mv (.c (.nilsl)), none⟩])
  (.ret)) (.skip)))
  (.seq (.ops [⟨some 5, .bsl 3 true [], none⟩,
    ⟨some 6, .mv (.t 0), none⟩,
    ⟨some 7, .app 45 3 48 true (.t 5) (.t 6), none⟩,
    ⟨some 2, .mv (.t 7), none⟩])
  (.ret)))
theorem k_slices_Clone_api_Topic_api_Topic : FnIs AP n_slices_Clone_api_Topic_api_Topic c_slices_Clone_api_Topic_api_Topic 8 (rsT [2]) := fnIs_of (fn := Go.Proofs.Try.f53) Go.Proofs.Try.func53 (by kernel_rfl) (by kernel_rfl) (by kernel_rfl) (by kernel_rfl) (by kernel_rfl)
theorem a_slices_Clone_api_Topic_api_Topic {x0 : V} {H : List Entry} {K : KV} (h : Wf H → awp AP H.length c_slices_Clone_api_Topic_api_Topic (finW H.length (rsT [2]) K) ([x0] ++ List.replicate 7 undefV) H) : BCall AP n_slices_Clone_api_Topic_api_Topic [x0] H K := k_slices_Clone_api_Topic_api_Topic.call (by kernel_rfl) h
/-- tryst/trystref04.Field: 21 slots -/
def c_trystref04_Field : AC := .seq (.ops [⟨some 2, .mv (.c (.bool false)), none⟩])
  (.seq (.seq (.ops [⟨some 3, .mv (.c (.int .i64 0)), none⟩])
  (.block 0 (.loop (.seq (.seq (.ops [⟨some 4, .mv (.t 3), none⟩,
    ⟨some 5, .mv (.t 0), none⟩,
    ⟨some 6, .len 0 (.t 5), none⟩,
    ⟨some 7, .bin .lss (.t 4) (.t 6), none⟩])
  (.cond (.t 7) (.skip) (.exit 0)))
  (.seq (.block 1 (.seq (.ops [⟨some 10, .mv (.t 0), none⟩,
    ⟨some 11, .mv (.t 3), none⟩,
    ⟨some 12, .ixs (.t 10) (.t 11), none⟩,
    ⟨some 13, .bin .eql (.t 12) (.c (.int .u8 46)), none⟩])
  (.cond (.t 13) (.seq (.ops [⟨some 2, .mv (.c (.bool false)), none⟩])
  (.ret)) (.skip))))
  (.ops [⟨some 8, .mv (.t 3), none⟩,
    ⟨some 9, .bin .add (.t 8) (.c (.int .i64 1)), none⟩,
    ⟨some 3, .mv (.t 9), none⟩]))))))
  (.seq (.ops [⟨some 14, .mv (.t 0), none⟩,
    ⟨some 15, .call (.c (.fn n_trystref02_Topic [] [])) [(.t 14)], none⟩,
    ⟨some 16, .mv (.t 15), none⟩,
    ⟨some 17, .mv (.t 0), some (16, true)⟩,
    ⟨some 18, .len 0 (.t 17), some (16, true)⟩,
    ⟨some 19, .bin .leq (.t 18) (.c (.int .i64 16)), some (16, true)⟩,
    ⟨some 20, .pick (.t 16) (.t 19) (.c (.bool false)), none⟩,
    ⟨some 2, .mv (.t 20), none⟩])
  (.ret)))
theorem k_trystref04_Field : FnIs AP n_trystref04_Field c_trystref04_Field 21 (rsT [2]) := fnIs_of (fn := Go.Proofs.Try.f54) Go.Proofs.Try.func54 (by kernel_rfl) (by kernel_rfl) (by kernel_rfl) (by kernel_rfl) (by kernel_rfl)
theorem a_trystref04_Field {x0 : V} {H : List Entry} {K : KV} (h : Wf H → awp AP H.length c_trystref04_Field (finW H.length (rsT [2]) K) ([x0] ++ List.replicate 20 undefV) H) : BCall AP n_trystref04_Field [x0] H K := k_trystref04_Field.call (by kernel_rfl) h
/-- tryst/trystref03.May: 26 slots -/
def c_trystref03_May : AC := .seq (.ops [⟨some 1, .box (.t 0), none⟩,
    ⟨some 2, .mv (.c (.bool false)), none⟩])
  (.seq (.ops [⟨some 3, .fad 0 (.t 1), none⟩,
    ⟨some 4, .load 1 false (.t 3), none⟩,
    ⟨some 5, .mv (.t 4), none⟩,
    ⟨some 6, .fad 2 (.t 1), some (5, true)⟩,
    ⟨some 7, .load 1 false (.t 6), some (5, true)⟩,
    ⟨some 8, .bin .eql (.t 7) (.c (.str [])), some (5, true)⟩,
    ⟨some 9, .pick (.t 5) (.t 8) (.c (.bool false)), none⟩,
    ⟨some 10, .mv (.t 9), none⟩,
    ⟨some 11, .fad 0 (.t 1), some (10, false)⟩,
    ⟨some 12, .load 1 false (.t 11), some (10, false)⟩,
    ⟨some 13, .un .not (.t 12), some (10, false)⟩,
    ⟨some 14, .mv (.t 13), some (10, false)⟩,
    ⟨some 15, .fad 1 (.t 1), some (14, true)⟩,
    ⟨some 16, .load 1 false (.t 15), some (14, true)⟩,
    ⟨some 17, .bin .eql (.t 16) (.c (.int .i64 0)), some (14, true)⟩,
    ⟨some 18, .pick (.t 14) (.t 17) (.c (.bool false)), some (10, false)⟩,
    ⟨some 19, .mv (.t 18), some (10, false)⟩,
    ⟨some 20, .fad 2 (.t 1), some (19, true)⟩,
    ⟨some 21, .load 1 false (.t 20), some (19, true)⟩,
    ⟨some 22, .len 0 (.t 21), some (19, true)⟩,
    ⟨some 23, .bin .leq (.t 22) (.c (.int .i64 60)), some (19, true)⟩,
    ⟨some 24, .pick (.t 19) (.t 23) (.c (.bool false)), some (10, false)⟩,
    ⟨some 25, .pick (.t 10) (.c (.bool true)) (.t 24), none⟩,
    ⟨some 2, .mv (.t 25), none⟩])
  (.ret))
theorem k_trystref03_May : FnIs AP n_trystref03_May c_trystref03_May 26 (rsT [2]) := fnIs_of (fn := Go.Proofs.Try.f55) Go.Proofs.Try.func55 (by kernel_rfl) (by kernel_rfl) (by kernel_rfl) (by kernel_rfl) (by kernel_rfl)
theorem a_trystref03_May {x0 : V} {H : List Entry} {K : KV} (h : Wf H → awp AP H.length c_trystref03_May (finW H.length (rsT [2]) K) ([x0] ++ List.replicate 25 undefV) H) : BCall AP n_trystref03_May [x0] H K := k_trystref03_May.call (by kernel_rfl) h
/-- tryst/trystref04.text: 9 slots -/
def c_trystref04_text : AC := .seq (.ops [⟨some 2, .mv (.c (.str [])), none⟩])
  (.seq (.ops [⟨some 3, .mv (.t 0), none⟩,
    ⟨some 4, .len 0 (.t 3), none⟩,
    ⟨some 5, .cvi .u64 (.t 4), none⟩,
    ⟨some 6, .call (.c (.fn n_trystref01_Pack [] [])) [(.t 5)], none⟩,
    ⟨some 7, .mv (.t 0), none⟩,
    ⟨some 8, .bin .add (.t 6) (.t 7), none⟩,
    ⟨some 2, .mv (.t 8), none⟩])
  (.ret))
theorem k_trystref04_text : FnIs AP n_trystref04_text c_trystref04_text 9 (rsT [2]) := fnIs_of (fn := Go.Proofs.Try.f56) Go.Proofs.Try.func56 (by kernel_rfl) (by kernel_rfl) (by kernel_rfl) (by kernel_rfl) (by kernel_rfl)
theorem a_trystref04_text {x0 : V} {H : List Entry} {K : KV} (h : Wf H → awp AP H.length c_trystref04_text (finW H.length (rsT [2]) K) ([x0] ++ List.replicate 8 undefV) H) : BCall AP n_trystref04_text [x0] H K := k_trystref04_text.call (by kernel_rfl) h
/-- tryst/trystref01.Pack: 19 slots -/
def c_trystref01_Pack : AC := .seq (.ops [⟨some 2, .mv (.c (.str [])), none⟩])
  (.seq (.seq (.ops [⟨some 3, .mv (.t 0), none⟩,
    ⟨some 4, .bin .lss (.t 3) (.c (.int .u64 128)), none⟩])
  (.cond (.t 4) (.seq (.ops [⟨some 5, .mv (.t 0), none⟩,
    ⟨some 6, .cvi .u8 (.t 5), none⟩,
    ⟨some 7, .bsl 1 false [(.t 6)], none⟩,
    ⟨some 8, .b2s (.t 7), none⟩,
    ⟨some 2, .mv (.t 8), none⟩])
  (.ret)) (.skip)))
  (.seq (.draw [⟨some 9, .mv (.t 0), none⟩,
    ⟨some 10, .bin .rem (.t 9) (.c (.int .u64 128)), none⟩,
    ⟨some 11, .bin .add (.c (.int .u64 128)) (.t 10), none⟩,
    ⟨some 12, .cvi .u8 (.t 11), none⟩,
    ⟨some 13, .bslm 1 false [(.t 12)], none⟩,
    ⟨some 14, .b2s (.t 13), none⟩,
    ⟨some 15, .mv (.t 0), none⟩,
    ⟨some 16, .bin .quo (.t 15) (.c (.int .u64 128)), none⟩,
    ⟨some 17, .dcall (.c (.fn n_trystref01_Pack [] [])) [(.t 16)], none⟩,
    ⟨some 18, .bin .add (.t 14) (.t 17), none⟩,
    ⟨some 2, .mv (.t 18), none⟩])
  (.ret)))
theorem k_trystref01_Pack : FnIs AP n_trystref01_Pack c_trystref01_Pack 19 (rsT [2]) := fnIs_of (fn := Go.Proofs.Try.f57) Go.Proofs.Try.func57 (by kernel_rfl) (by kernel_rfl) (by kernel_rfl) (by kernel_rfl) (by kernel_rfl)
theorem a_trystref01_Pack {x0 : V} {H : List Entry} {K : KV} (h : Wf H → awp AP H.length c_trystref01_Pack (finW H.length (rsT [2]) K) ([x0] ++ List.replicate 18 undefV) H) : BCall AP n_trystref01_Pack [x0] H K := k_trystref01_Pack.call (by kernel_rfl) h
/-- tryst/trystref03.Lay: 19 slots -/
def c_trystref03_Lay : AC := .seq (.ops [⟨some 1, .box (.t 0), none⟩,
    ⟨some 2, .mv (.c (.str [])), none⟩])
  (.seq (.seq (.ops [⟨some 3, .fad 0 (.t 1), none⟩,
    ⟨some 4, .load 1 false (.t 3), none⟩])
  (.cond (.t 4) (.seq (.ops [⟨some 5, .fad 1 (.t 1), none⟩,
    ⟨some 6, .load 1 false (.t 5), none⟩,
    ⟨some 7, .call (.c (.fn n_trystref01_Fold [] [])) [(.t 6)], none⟩,
    ⟨some 8, .call (.c (.fn n_trystref01_Pack [] [])) [(.t 7)], none⟩,
    ⟨some 9, .bin .add (.c (.str [1])) (.t 8), none⟩,
    ⟨some 2, .mv (.t 9), none⟩])
  (.ret)) (.skip)))
  (.seq (.draw [⟨some 10, .fad 2 (.t 1), none⟩,
    ⟨some 11, .load 1 false (.t 10), none⟩,
    ⟨some 12, .len 0 (.t 11), none⟩,
    ⟨some 13, .cvi .u64 (.t 12), none⟩,
    ⟨some 14, .dcall (.c (.fn n_trystref01_Pack [] [])) [(.t 13)], none⟩,
    ⟨some 15, .bin .add (.c (.str [2])) (.t 14), none⟩,
    ⟨some 16, .fad 2 (.t 1), none⟩,
    ⟨some 17, .load 1 false (.t 16), none⟩,
    ⟨some 18, .bin .add (.t 15) (.t 17), none⟩,
    ⟨some 2, .mv (.t 18), none⟩])
  (.ret)))
theorem k_trystref03_Lay : FnIs AP n_trystref03_Lay c_trystref03_Lay 19 (rsT [2]) := fnIs_of (fn := Go.Proofs.Try.f58) Go.Proofs.Try.func58 (by kernel_rfl) (by kernel_rfl) (by kernel_rfl) (by kernel_rfl) (by kernel_rfl)
theorem a_trystref03_Lay {x0 : V} {H : List Entry} {K : KV} (h : Wf H → awp AP H.length c_trystref03_Lay (finW H.length (rsT [2]) K) ([x0] ++ List.replicate 18 undefV) H) : BCall AP n_trystref03_Lay [x0] H K := k_trystref03_Lay.call (by kernel_rfl) h
/-- cmp.isNaN[string]: 6 slots -/
def c_cmp_isNaN_string : AC := .seq (.ops [⟨some 2, .mv (.c (.bool false)), none⟩])
  (.seq (.ops [⟨some 3, .mv (.t 0), none⟩,
    ⟨some 4, .mv (.t 0), none⟩,
    ⟨some 5, .bin .neq (.t 3) (.t 4), none⟩,
    ⟨some 2, .mv (.t 5), none⟩])
  (.ret))
theorem k_cmp_isNaN_string : FnIs AP n_cmp_isNaN_string c_cmp_isNaN_string 6 (rsT [2]) := fnIs_of (fn := Go.Proofs.Try.f59) Go.Proofs.Try.func59 (by kernel_rfl) (by kernel_rfl) (by kernel_rfl) (by kernel_rfl) (by kernel_rfl)
theorem a_cmp_isNaN_string {x0 : V} {H : List Entry} {K : KV} (h : Wf H → awp AP H.length c_cmp_isNaN_string (finW H.length (rsT [2]) K) ([x0] ++ List.replicate 5 undefV) H) : BCall AP n_cmp_isNaN_string [x0] H K := k_cmp_isNaN_string.call (by kernel_rfl) h
/-- tryst/name.Topic: 5 slots -/
def c_name_Topic : AC := .seq (.ops [⟨some 2, .mv (.c (.bool false)), none⟩])
  (.seq (.ops [⟨some 3, .mv (.t 0), none⟩,
    ⟨some 4, .call (.c (.fn n_name_allParts [] [])) [(.t 3), (.c (.fn n_name_isPart [] []))], none⟩,
    ⟨some 2, .mv (.t 4), none⟩])
  (.ret))
theorem k_name_Topic : FnIs AP n_name_Topic c_name_Topic 5 (rsT [2]) := fnIs_of (fn := Go.Proofs.Try.f60) Go.Proofs.Try.func60 (by kernel_rfl) (by kernel_rfl) (by kernel_rfl) (by kernel_rfl) (by kernel_rfl)
theorem a_name_Topic {x0 : V} {H : List Entry} {K : KV} (h : Wf H → awp AP H.length c_name_Topic (finW H.length (rsT [2]) K) ([x0] ++ List.replicate 4 undefV) H) : BCall AP n_name_Topic [x0] H K := k_name_Topic.call (by kernel_rfl) h
/-- slices.ContainsFunc[[]string,string]: 9 slots -/
def c_slices_ContainsFunc_string_string : AC := .seq (.ops [⟨some 4, .mv (.c (.bool false)), none⟩])
  (.seq (.ops [⟨some 5, .mv (.t 0), none⟩,
    ⟨some 6, .mv (.t 1), none⟩,
    ⟨some 7, .call (.c (.fn n_slices_IndexFunc_string_string [] [])) [(.t 5), (.t 6)], none⟩,
    ⟨some 8, .bin .geq (.t 7) (.c (.int .i64 0)), none⟩,
    ⟨some 4, .mv (.t 8), none⟩])
  (.ret))
theorem k_slices_ContainsFunc_string_string : FnIs AP n_slices_ContainsFunc_string_string c_slices_ContainsFunc_string_string 9 (rsT [4]) := fnIs_of (fn := Go.Proofs.Try.f61) Go.Proofs.Try.func61 (by kernel_rfl) (by kernel_rfl) (by kernel_rfl) (by kernel_rfl) (by kernel_rfl)
theorem a_slices_ContainsFunc_string_string {x0 x1 : V} {H : List Entry} {K : KV} (h : Wf H → awp AP H.length c_slices_ContainsFunc_string_string (finW H.length (rsT [4]) K) ([x0, x1] ++ List.replicate 7 undefV) H) : BCall AP n_slices_ContainsFunc_string_string [x0, x1] H K := k_slices_ContainsFunc_string_string.call (by kernel_rfl) h
/-- tryst/topic.isWrong$1: 8 slots -/
def c_topic_isWrong_1 : AC := .seq (.ops [⟨some 3, .mv (.c (.bool false)), none⟩])
  (.seq (.ops [⟨some 4, .load 3 true (.t 1), none⟩,
    ⟨some 5, .mv (.t 0), none⟩,
    ⟨some 6, .call (.c (.fn n_topic_isOf [] [])) [(.t 4), (.t 5)], none⟩,
    ⟨some 7, .un .not (.t 6), none⟩,
    ⟨some 3, .mv (.t 7), none⟩])
  (.ret))
theorem k_topic_isWrong_1 : FnIs AP n_topic_isWrong_1 c_topic_isWrong_1 8 (rsT [3]) := fnIs_of (fn := Go.Proofs.Try.f62) Go.Proofs.Try.func62 (by kernel_rfl) (by kernel_rfl) (by kernel_rfl) (by kernel_rfl) (by kernel_rfl)
theorem a_topic_isWrong_1 {x0 x1 : V} {H : List Entry} {K : KV} (h : Wf H → awp AP H.length c_topic_isWrong_1 (finW H.length (rsT [3]) K) ([x0, x1] ++ List.replicate 6 undefV) H) : BCall AP n_topic_isWrong_1 [x0, x1] H K := k_topic_isWrong_1.call (by kernel_rfl) h
/-- tryst/topic.isOf: 29 slots -/
def c_topic_isOf : AC := .seq (.ops [⟨some 2, .box (.t 0), none⟩,
    ⟨some 4, .mv (.c (.bool false)), none⟩])
  (.seq (.ops [⟨some 9, .mv (.t 1), none⟩,
    ⟨some 10, .call (.c (.fn n_event_Take [] [])) [(.t 9)], none⟩,
    ⟨some 8, .mv (.t 10), none⟩,
    ⟨some 11, .ext (.t 8) 0, none⟩,
    ⟨some 12, .ext (.t 8) 1, none⟩,
    ⟨some 13, .ext (.t 8) 2, none⟩,
    ⟨some 5, .alloc [.str [], .str [], .int .u64 0, .nilsl], none⟩,
    ⟨none, .store 4 (.t 5) (.t 11), none⟩,
    ⟨some 6, .mv (.t 12), none⟩,
    ⟨some 7, .mv (.t 13), none⟩])
  (.seq (.ops [⟨some 14, .mv (.t 7), none⟩,
    ⟨some 15, .bin .eql (.t 14) (.c (.int .i64 0)), none⟩,
    ⟨some 16, .mv (.t 15), none⟩,
    ⟨some 17, .mv (.t 6), some (16, true)⟩,
    ⟨some 18, .mv (.t 1), some (16, true)⟩,
    ⟨some 19, .len 0 (.t 18), some (16, true)⟩,
    ⟨some 20, .bin .eql (.t 17) (.t 19), some (16, true)⟩,
    ⟨some 21, .pick (.t 16) (.t 20) (.c (.bool false)), none⟩,
    ⟨some 22, .mv (.t 21), none⟩,
    ⟨some 23, .fad 0 (.t 5), some (22, true)⟩,
    ⟨some 24, .load 1 false (.t 23), some (22, true)⟩,
    ⟨some 25, .fad 0 (.t 2), some (22, true)⟩,
    ⟨some 26, .load 1 false (.t 25), some (22, true)⟩,
    ⟨some 27, .bin .eql (.t 24) (.t 26), some (22, true)⟩,
    ⟨some 28, .pick (.t 22) (.t 27) (.c (.bool false)), none⟩,
    ⟨some 4, .mv (.t 28), none⟩])
  (.ret)))
theorem k_topic_isOf : FnIs AP n_topic_isOf c_topic_isOf 29 (rsT [4]) := fnIs_of (fn := Go.Proofs.Try.f63) Go.Proofs.Try.func63 (by kernel_rfl) (by kernel_rfl) (by kernel_rfl) (by kernel_rfl) (by kernel_rfl)
theorem a_topic_isOf {x0 x1 : V} {H : List Entry} {K : KV} (h : Wf H → awp AP H.length c_topic_isOf (finW H.length (rsT [4]) K) ([x0, x1] ++ List.replicate 27 undefV) H) : BCall AP n_topic_isOf [x0, x1] H K := k_topic_isOf.call (by kernel_rfl) h
/-- tryst/trystref02.is: 47 slots -/
def c_trystref02_is : AC := .seq (.ops [⟨some 4, .mv (.c (.bool false)), none⟩])
  (.seq (.ops [⟨some 7, .mv (.t 0), none⟩,
    ⟨some 8, .call (.c (.fn n_trystref02_cut [] [])) [(.t 7)], none⟩,
    ⟨some 5, .mv (.t 8), none⟩])
  (.seq (.seq (.ops [⟨some 6, .mv (.c (.int .i64 0)), none⟩])
  (.block 0 (.loop (.seq (.seq (.ops [⟨some 9, .mv (.t 6), none⟩,
    ⟨some 10, .mv (.t 5), none⟩,
    ⟨some 11, .len 1 (.t 10), none⟩,
    ⟨some 12, .bin .lss (.t 9) (.t 11), none⟩])
  (.cond (.t 12) (.skip) (.exit 0)))
  (.seq (.block 1 (.seq (.ops [⟨some 15, .mv (.t 5), none⟩,
    ⟨some 16, .mv (.t 6), none⟩,
    ⟨some 17, .iad 1 false (.t 15) (.t 16), none⟩,
    ⟨some 18, .load 1 false (.t 17), none⟩,
    ⟨some 19, .call (.c (.fn n_trystref02_part [] [])) [(.t 18)], none⟩,
    ⟨some 20, .un .not (.t 19), none⟩,
    ⟨some 21, .mv (.t 20), none⟩,
    ⟨some 22, .mv (.t 1), some (21, true)⟩,
    ⟨some 23, .mv (.t 22), some (21, true)⟩,
    ⟨some 24, .mv (.t 5), some (23, true)⟩,
    ⟨some 25, .mv (.t 6), some (23, true)⟩,
    ⟨some 26, .iad 1 false (.t 24) (.t 25), some (23, true)⟩,
    ⟨some 27, .load 1 false (.t 26), some (23, true)⟩,
    ⟨some 28, .bin .eql (.t 27) (.c (.str [42])), some (23, true)⟩,
    ⟨some 29, .mv (.t 28), some (23, true)⟩,
    ⟨some 30, .mv (.t 5), some (29, false)⟩,
    ⟨some 31, .mv (.t 6), some (29, false)⟩,
    ⟨some 32, .iad 1 false (.t 30) (.t 31), some (29, false)⟩,
    ⟨some 33, .load 1 false (.t 32), some (29, false)⟩,
    ⟨some 34, .bin .eql (.t 33) (.c (.str [42, 42])), some (29, false)⟩,
    ⟨some 35, .pick (.t 29) (.c (.bool true)) (.t 34), some (23, true)⟩,
    ⟨some 36, .pick (.t 23) (.t 35) (.c (.bool false)), some (21, true)⟩,
    ⟨some 37, .un .not (.t 36), some (21, true)⟩,
    ⟨some 38, .pick (.t 21) (.t 37) (.c (.bool false)), none⟩])
  (.cond (.t 38) (.seq (.ops [⟨some 4, .mv (.c (.bool false)), none⟩])
  (.ret)) (.skip))))
  (.ops [⟨some 13, .mv (.t 6), none⟩,
    ⟨some 14, .bin .add (.t 13) (.c (.int .i64 1)), none⟩,
    ⟨some 6, .mv (.t 14), none⟩]))))))
  (.seq (.ops [⟨some 39, .mv (.t 5), none⟩,
    ⟨some 40, .len 1 (.t 39), none⟩,
    ⟨some 41, .bin .leq (.t 40) (.c (.int .i64 8)), none⟩,
    ⟨some 42, .mv (.t 41), none⟩,
    ⟨some 43, .mv (.t 0), some (42, true)⟩,
    ⟨some 44, .len 0 (.t 43), some (42, true)⟩,
    ⟨some 45, .bin .leq (.t 44) (.c (.int .i64 40)), some (42, true)⟩,
    ⟨some 46, .pick (.t 42) (.t 45) (.c (.bool false)), none⟩,
    ⟨some 4, .mv (.t 46), none⟩])
  (.ret))))
theorem k_trystref02_is : FnIs AP n_trystref02_is c_trystref02_is 47 (rsT [4]) := fnIs_of (fn := Go.Proofs.Try.f64) Go.Proofs.Try.func64 (by kernel_rfl) (by kernel_rfl) (by kernel_rfl) (by kernel_rfl) (by kernel_rfl)
theorem a_trystref02_is {x0 x1 : V} {H : List Entry} {K : KV} (h : Wf H → awp AP H.length c_trystref02_is (finW H.length (rsT [4]) K) ([x0, x1] ++ List.replicate 45 undefV) H) : BCall AP n_trystref02_is [x0, x1] H K := k_trystref02_is.call (by kernel_rfl) h
/-- tryst/trystref04.word: 53 slots -/
def c_trystref04_word : AC := .seq (.ops [⟨some 6, .mv (.c (.str [])), none⟩,
    ⟨some 7, .mv (.c (.int .i64 0)), none⟩,
    ⟨some 8, .mv (.c (.int .i64 0)), none⟩])
  (.seq (.ops [⟨some 13, .mv (.t 0), none⟩,
    ⟨some 14, .mv (.t 1), none⟩,
    ⟨some 15, .sls (.t 13) (some (.t 14)) none, none⟩,
    ⟨some 16, .call (.c (.fn n_trystref01_Unpack [] [])) [(.t 15)], none⟩,
    ⟨some 12, .mv (.t 16), none⟩,
    ⟨some 17, .ext (.t 12) 0, none⟩,
    ⟨some 18, .ext (.t 12) 1, none⟩,
    ⟨some 19, .ext (.t 12) 2, none⟩,
    ⟨some 9, .mv (.t 17), none⟩,
    ⟨some 10, .mv (.t 18), none⟩,
    ⟨some 11, .mv (.t 19), none⟩])
  (.seq (.seq (.ops [⟨some 20, .mv (.t 11), none⟩,
    ⟨some 21, .bin .neq (.t 20) (.c (.int .i64 0)), none⟩])
  (.cond (.t 21) (.seq (.ops [⟨some 22, .mv (.t 11), none⟩,
    ⟨some 6, .mv (.c (.str [])), none⟩,
    ⟨some 7, .mv (.c (.int .i64 0)), none⟩,
    ⟨some 8, .mv (.t 22), none⟩])
  (.ret)) (.skip)))
  (.seq (.seq (.ops [⟨some 23, .mv (.t 9), none⟩,
    ⟨some 24, .mv (.t 2), none⟩,
    ⟨some 25, .cvi .u64 (.t 24), none⟩,
    ⟨some 26, .bin .gtr (.t 23) (.t 25), none⟩])
  (.cond (.t 26) (.seq (.ops [⟨some 6, .mv (.c (.str [])), none⟩,
    ⟨some 7, .mv (.c (.int .i64 0)), none⟩,
    ⟨some 8, .mv (.c (.int .i64 2)), none⟩])
  (.ret)) (.skip)))
  (.seq (.seq (.ops [⟨some 27, .mv (.t 1), none⟩,
    ⟨some 28, .mv (.t 10), none⟩,
    ⟨some 29, .bin .add (.t 27) (.t 28), none⟩,
    ⟨some 30, .mv (.t 9), none⟩,
    ⟨some 31, .cvi .i64 (.t 30), none⟩,
    ⟨some 32, .bin .add (.t 29) (.t 31), none⟩,
    ⟨some 33, .mv (.t 0), none⟩,
    ⟨some 34, .len 0 (.t 33), none⟩,
    ⟨some 35, .bin .gtr (.t 32) (.t 34), none⟩])
  (.cond (.t 35) (.seq (.ops [⟨some 6, .mv (.c (.str [])), none⟩,
    ⟨some 7, .mv (.c (.int .i64 0)), none⟩,
    ⟨some 8, .mv (.c (.int .i64 3)), none⟩])
  (.ret)) (.skip)))
  (.seq (.ops [⟨some 36, .mv (.t 0), none⟩,
    ⟨some 37, .mv (.t 1), none⟩,
    ⟨some 38, .mv (.t 10), none⟩,
    ⟨some 39, .bin .add (.t 37) (.t 38), none⟩,
    ⟨some 40, .mv (.t 1), none⟩,
    ⟨some 41, .mv (.t 10), none⟩,
    ⟨some 42, .bin .add (.t 40) (.t 41), none⟩,
    ⟨some 43, .mv (.t 9), none⟩,
    ⟨some 44, .cvi .i64 (.t 43), none⟩,
    ⟨some 45, .bin .add (.t 42) (.t 44), none⟩,
    ⟨some 46, .sls (.t 36) (some (.t 39)) (some (.t 45)), none⟩,
    ⟨some 47, .mv (.t 1), none⟩,
    ⟨some 48, .mv (.t 10), none⟩,
    ⟨some 49, .bin .add (.t 47) (.t 48), none⟩,
    ⟨some 50, .mv (.t 9), none⟩,
    ⟨some 51, .cvi .i64 (.t 50), none⟩,
    ⟨some 52, .bin .add (.t 49) (.t 51), none⟩,
    ⟨some 6, .mv (.t 46), none⟩,
    ⟨some 7, .mv (.t 52), none⟩,
    ⟨some 8, .mv (.c (.int .i64 0)), none⟩])
  (.ret))))))
theorem k_trystref04_word : FnIs AP n_trystref04_word c_trystref04_word 53 (rsT [6, 7, 8]) := fnIs_of (fn := Go.Proofs.Try.f65) Go.Proofs.Try.func65 (by kernel_rfl) (by kernel_rfl) (by kernel_rfl) (by kernel_rfl) (by kernel_rfl)
theorem a_trystref04_word {x0 x1 x2 : V} {H : List Entry} {K : KV} (h : Wf H → awp AP H.length c_trystref04_word (finW H.length (rsT [6, 7, 8]) K) ([x0, x1, x2] ++ List.replicate 50 undefV) H) : BCall AP n_trystref04_word [x0, x1, x2] H K := k_trystref04_word.call (by kernel_rfl) h
/-- tryst/trystref01.Unpack: 68 slots -/
def c_trystref01_Unpack : AC := .seq (.ops [⟨some 2, .mv (.c (.int .u64 0)), none⟩,
    ⟨some 3, .mv (.c (.int .i64 0)), none⟩,
    ⟨some 4, .mv (.c (.int .i64 0)), none⟩])
  (.seq (.ops [⟨some 5, .mv (.c (.int .i64 0)), none⟩])
  (.seq (.block 0 (.loop (.seq (.seq (.ops [⟨some 8, .mv (.t 5), none⟩,
    ⟨some 9, .mv (.t 0), none⟩,
    ⟨some 10, .len 0 (.t 9), none⟩,
    ⟨some 11, .bin .lss (.t 8) (.t 10), none⟩,
    ⟨some 12, .mv (.t 11), none⟩,
    ⟨some 13, .mv (.t 0), some (12, true)⟩,
    ⟨some 14, .mv (.t 5), some (12, true)⟩,
    ⟨some 15, .ixs (.t 13) (.t 14), some (12, true)⟩,
    ⟨some 16, .bin .geq (.t 15) (.c (.int .u8 128)), some (12, true)⟩,
    ⟨some 17, .pick (.t 12) (.t 16) (.c (.bool false)), none⟩,
    ⟨some 18, .mv (.t 17), none⟩,
    ⟨some 19, .mv (.t 5), some (18, true)⟩,
    ⟨some 20, .bin .lss (.t 19) (.c (.int .i64 10)), some (18, true)⟩,
    ⟨some 21, .pick (.t 18) (.t 20) (.c (.bool false)), none⟩])
  (.cond (.t 21) (.skip) (.exit 0)))
  (.block 1 (.ops [⟨some 22, .mv (.t 5), none⟩,
    ⟨some 23, .bin .add (.t 22) (.c (.int .i64 1)), none⟩,
    ⟨some 5, .mv (.t 23), none⟩])))))
  (.seq (.seq (.ops [⟨some 24, .mv (.t 5), none⟩,
    ⟨some 25, .bin .geq (.t 24) (.c (.int .i64 10)), none⟩,
    ⟨some 26, .mv (.t 25), none⟩,
    ⟨some 27, .mv (.t 5), some (26, false)⟩,
    ⟨some 28, .bin .eql (.t 27) (.c (.int .i64 9)), some (26, false)⟩,
    ⟨some 29, .mv (.t 28), some (26, false)⟩,
    ⟨some 30, .mv (.t 5), some (29, true)⟩,
    ⟨some 31, .mv (.t 0), some (29, true)⟩,
    ⟨some 32, .len 0 (.t 31), some (29, true)⟩,
    ⟨some 33, .bin .lss (.t 30) (.t 32), some (29, true)⟩,
    ⟨some 34, .pick (.t 29) (.t 33) (.c (.bool false)), some (26, false)⟩,
    ⟨some 35, .mv (.t 34), some (26, false)⟩,
    ⟨some 36, .mv (.t 0), some (35, true)⟩,
    ⟨some 37, .ixs (.t 36) (.c (.int .i64 9)), some (35, true)⟩,
    ⟨some 38, .bin .gtr (.t 37) (.c (.int .u8 1)), some (35, true)⟩,
    ⟨some 39, .pick (.t 35) (.t 38) (.c (.bool false)), some (26, false)⟩,
    ⟨some 40, .pick (.t 26) (.c (.bool true)) (.t 39), none⟩])
  (.cond (.t 40) (.seq (.ops [⟨some 2, .mv (.c (.int .u64 0)), none⟩,
    ⟨some 3, .mv (.c (.int .i64 0)), none⟩,
    ⟨some 4, .mv (.c (.int .i64 2)), none⟩])
  (.ret)) (.skip)))
  (.seq (.seq (.ops [⟨some 41, .mv (.t 5), none⟩,
    ⟨some 42, .mv (.t 0), none⟩,
    ⟨some 43, .len 0 (.t 42), none⟩,
    ⟨some 44, .bin .eql (.t 41) (.t 43), none⟩])
  (.cond (.t 44) (.seq (.ops [⟨some 2, .mv (.c (.int .u64 0)), none⟩,
    ⟨some 3, .mv (.c (.int .i64 0)), none⟩,
    ⟨some 4, .mv (.c (.int .i64 3)), none⟩])
  (.ret)) (.skip)))
  (.seq (.ops [⟨some 6, .mv (.c (.int .u64 0)), none⟩])
  (.seq (.seq (.ops [⟨some 45, .mv (.t 5), none⟩,
    ⟨some 7, .mv (.t 45), none⟩])
  (.block 2 (.loop (.seq (.seq (.ops [⟨some 46, .mv (.t 7), none⟩,
    ⟨some 47, .bin .geq (.t 46) (.c (.int .i64 0)), none⟩])
  (.cond (.t 47) (.skip) (.exit 2)))
  (.seq (.block 3 (.ops [⟨some 50, .mv (.t 6), none⟩,
    ⟨some 51, .bin .mul (.c (.int .u64 128)) (.t 50), none⟩,
    ⟨some 52, .mv (.t 0), none⟩,
    ⟨some 53, .mv (.t 7), none⟩,
    ⟨some 54, .ixs (.t 52) (.t 53), none⟩,
    ⟨some 55, .bin .rem (.t 54) (.c (.int .u8 128)), none⟩,
    ⟨some 56, .cvi .u64 (.t 55), none⟩,
    ⟨some 57, .bin .add (.t 51) (.t 56), none⟩,
    ⟨some 6, .mv (.t 57), none⟩]))
  (.ops [⟨some 48, .mv (.t 7), none⟩,
    ⟨some 49, .bin .sub (.t 48) (.c (.int .i64 1)), none⟩,
    ⟨some 7, .mv (.t 49), none⟩]))))))
  (.seq (.seq (.draw [⟨some 58, .mv (.t 6), none⟩,
    ⟨some 59, .dcall (.c (.fn n_trystref01_Pack [] [])) [(.t 58)], none⟩,
    ⟨some 60, .mv (.t 0), none⟩,
    ⟨some 61, .mv (.t 5), none⟩,
    ⟨some 62, .bin .add (.t 61) (.c (.int .i64 1)), none⟩,
    ⟨some 63, .sls (.t 60) none (some (.t 62)), none⟩,
    ⟨some 64, .bin .neq (.t 59) (.t 63), none⟩])
  (.cond (.t 64) (.seq (.ops [⟨some 2, .mv (.c (.int .u64 0)), none⟩,
    ⟨some 3, .mv (.c (.int .i64 0)), none⟩,
    ⟨some 4, .mv (.c (.int .i64 2)), none⟩])
  (.ret)) (.skip)))
  (.seq (.ops [⟨some 65, .mv (.t 6), none⟩,
    ⟨some 66, .mv (.t 5), none⟩,
    ⟨some 67, .bin .add (.t 66) (.c (.int .i64 1)), none⟩,
    ⟨some 2, .mv (.t 65), none⟩,
    ⟨some 3, .mv (.t 67), none⟩,
    ⟨some 4, .mv (.c (.int .i64 0)), none⟩])
  (.ret)))))))))
theorem k_trystref01_Unpack : FnIs AP n_trystref01_Unpack c_trystref01_Unpack 68 (rsT [2, 3, 4]) := fnIs_of (fn := Go.Proofs.Try.f66) Go.Proofs.Try.func66 (by kernel_rfl) (by kernel_rfl) (by kernel_rfl) (by kernel_rfl) (by kernel_rfl)
theorem a_trystref01_Unpack {x0 : V} {H : List Entry} {K : KV} (h : Wf H → awp AP H.length c_trystref01_Unpack (finW H.length (rsT [2, 3, 4]) K) ([x0] ++ List.replicate 67 undefV) H) : BCall AP n_trystref01_Unpack [x0] H K := k_trystref01_Unpack.call (by kernel_rfl) h
/-- tryst/trystref03.Take: 66 slots -/
def c_trystref03_Take : AC := .seq (.ops [⟨some 2, .alloc [.bool false, .int .i64 0, .str []], none⟩,
    ⟨some 3, .mv (.c (.int .i64 0)), none⟩,
    ⟨some 4, .mv (.c (.int .i64 0)), none⟩])
  (.seq (.seq (.ops [⟨some 8, .mv (.t 0), none⟩,
    ⟨some 9, .bin .eql (.t 8) (.c (.str [])), none⟩])
  (.cond (.t 9) (.seq (.ops [⟨some 10, .build [.bool false, .int .i64 0, .str []] [], none⟩,
    ⟨none, .store 3 (.t 2) (.t 10), none⟩,
    ⟨some 3, .mv (.c (.int .i64 0)), none⟩,
    ⟨some 4, .mv (.c (.int .i64 3)), none⟩])
  (.ret)) (.skip)))
  (.seq (.seq (.ops [⟨some 11, .mv (.t 0), none⟩,
    ⟨some 12, .ixs (.t 11) (.c (.int .i64 0)), none⟩,
    ⟨some 13, .bin .neq (.t 12) (.c (.int .u8 1)), none⟩,
    ⟨some 14, .mv (.t 13), none⟩,
    ⟨some 15, .mv (.t 0), some (14, true)⟩,
    ⟨some 16, .ixs (.t 15) (.c (.int .i64 0)), some (14, true)⟩,
    ⟨some 17, .bin .neq (.t 16) (.c (.int .u8 2)), some (14, true)⟩,
    ⟨some 18, .pick (.t 14) (.t 17) (.c (.bool false)), none⟩])
  (.cond (.t 18) (.seq (.ops [⟨some 19, .build [.bool false, .int .i64 0, .str []] [], none⟩,
    ⟨none, .store 3 (.t 2) (.t 19), none⟩,
    ⟨some 3, .mv (.c (.int .i64 0)), none⟩,
    ⟨some 4, .mv (.c (.int .i64 2)), none⟩])
  (.ret)) (.skip)))
  (.seq (.ops [⟨some 21, .mv (.t 0), none⟩,
    ⟨some 22, .sls (.t 21) (some (.c (.int .i64 1))) none, none⟩,
    ⟨some 23, .call (.c (.fn n_trystref01_Unpack [] [])) [(.t 22)], none⟩,
    ⟨some 20, .mv (.t 23), none⟩,
    ⟨some 24, .ext (.t 20) 0, none⟩,
    ⟨some 25, .ext (.t 20) 1, none⟩,
    ⟨some 26, .ext (.t 20) 2, none⟩,
    ⟨some 5, .mv (.t 24), none⟩,
    ⟨some 6, .mv (.t 25), none⟩,
    ⟨some 7, .mv (.t 26), none⟩])
  (.seq (.seq (.ops [⟨some 27, .mv (.t 7), none⟩,
    ⟨some 28, .bin .neq (.t 27) (.c (.int .i64 0)), none⟩])
  (.cond (.t 28) (.seq (.ops [⟨some 29, .build [.bool false, .int .i64 0, .str []] [], none⟩,
    ⟨some 30, .mv (.t 7), none⟩,
    ⟨none, .store 3 (.t 2) (.t 29), none⟩,
    ⟨some 3, .mv (.c (.int .i64 0)), none⟩,
    ⟨some 4, .mv (.t 30), none⟩])
  (.ret)) (.skip)))
  (.seq (.seq (.ops [⟨some 31, .mv (.t 0), none⟩,
    ⟨some 32, .ixs (.t 31) (.c (.int .i64 0)), none⟩,
    ⟨some 33, .bin .eql (.t 32) (.c (.int .u8 1)), none⟩])
  (.cond (.t 33) (.seq (.ops [⟨some 34, .mv (.t 5), none⟩,
    ⟨some 35, .call (.c (.fn n_trystref01_Unfold [] [])) [(.t 34)], none⟩,
    ⟨some 36, .build [.bool false, .int .i64 0, .str []] [(0, 1, (.c (.bool true))), (1, 1, (.t 35))], none⟩,
    ⟨some 37, .mv (.t 6), none⟩,
    ⟨some 38, .bin .add (.c (.int .i64 1)) (.t 37), none⟩,
    ⟨none, .store 3 (.t 2) (.t 36), none⟩,
    ⟨some 3, .mv (.t 38), none⟩,
    ⟨some 4, .mv (.c (.int .i64 0)), none⟩])
  (.ret)) (.skip)))
  (.seq (.seq (.ops [⟨some 39, .mv (.t 5), none⟩,
    ⟨some 40, .bin .gtr (.t 39) (.c (.int .u64 60)), none⟩])
  (.cond (.t 40) (.seq (.ops [⟨some 41, .build [.bool false, .int .i64 0, .str []] [], none⟩,
    ⟨none, .store 3 (.t 2) (.t 41), none⟩,
    ⟨some 3, .mv (.c (.int .i64 0)), none⟩,
    ⟨some 4, .mv (.c (.int .i64 2)), none⟩])
  (.ret)) (.skip)))
  (.seq (.seq (.ops [⟨some 42, .mv (.t 0), none⟩,
    ⟨some 43, .len 0 (.t 42), none⟩,
    ⟨some 44, .mv (.t 6), none⟩,
    ⟨some 45, .bin .add (.c (.int .i64 1)) (.t 44), none⟩,
    ⟨some 46, .mv (.t 5), none⟩,
    ⟨some 47, .cvi .i64 (.t 46), none⟩,
    ⟨some 48, .bin .add (.t 45) (.t 47), none⟩,
    ⟨some 49, .bin .lss (.t 43) (.t 48), none⟩])
  (.cond (.t 49) (.seq (.ops [⟨some 50, .build [.bool false, .int .i64 0, .str []] [], none⟩,
    ⟨none, .store 3 (.t 2) (.t 50), none⟩,
    ⟨some 3, .mv (.c (.int .i64 0)), none⟩,
    ⟨some 4, .mv (.c (.int .i64 3)), none⟩])
  (.ret)) (.skip)))
  (.seq (.ops [⟨some 51, .mv (.t 0), none⟩,
    ⟨some 52, .mv (.t 6), none⟩,
    ⟨some 53, .bin .add (.c (.int .i64 1)) (.t 52), none⟩,
    ⟨some 54, .mv (.t 6), none⟩,
    ⟨some 55, .bin .add (.c (.int .i64 1)) (.t 54), none⟩,
    ⟨some 56, .mv (.t 5), none⟩,
    ⟨some 57, .cvi .i64 (.t 56), none⟩,
    ⟨some 58, .bin .add (.t 55) (.t 57), none⟩,
    ⟨some 59, .sls (.t 51) (some (.t 53)) (some (.t 58)), none⟩,
    ⟨some 60, .build [.bool false, .int .i64 0, .str []] [(2, 1, (.t 59))], none⟩,
    ⟨some 61, .mv (.t 6), none⟩,
    ⟨some 62, .bin .add (.c (.int .i64 1)) (.t 61), none⟩,
    ⟨some 63, .mv (.t 5), none⟩,
    ⟨some 64, .cvi .i64 (.t 63), none⟩,
    ⟨some 65, .bin .add (.t 62) (.t 64), none⟩,
    ⟨none, .store 3 (.t 2) (.t 60), none⟩,
    ⟨some 3, .mv (.t 65), none⟩,
    ⟨some 4, .mv (.c (.int .i64 0)), none⟩])
  (.ret)))))))))
theorem k_trystref03_Take : FnIs AP n_trystref03_Take c_trystref03_Take 66 [.cell 2 3 true, .tmp 3, .tmp 4] := fnIs_of (fn := Go.Proofs.Try.f67) Go.Proofs.Try.func67 (by kernel_rfl) (by kernel_rfl) (by kernel_rfl) (by kernel_rfl) (by kernel_rfl)
theorem a_trystref03_Take {x0 : V} {H : List Entry} {K : KV} (h : Wf H → awp AP H.length c_trystref03_Take (finW H.length [.cell 2 3 true, .tmp 3, .tmp 4] K) ([x0] ++ List.replicate 65 undefV) H) : BCall AP n_trystref03_Take [x0] H K := k_trystref03_Take.call (by kernel_rfl) h
/-- (*tryst/event.reader).event: 40 slots -/
def c_event_reader_event : AC := .seq (.ops [⟨some 2, .alloc [.str [], .str [], .int .u64 0, .nilsl], none⟩])
  (.seq (.ops [⟨some 3, .alloc [.str [], .str [], .int .u64 0, .nilsl], none⟩])
  (.seq (.ops [⟨some 6, .mv (.t 0), none⟩,
    ⟨some 7, .call (.c (.fn n_event_reader_text [] [])) [(.t 6), (.c (.int .u64 40))], none⟩,
    ⟨some 8, .fad 0 (.t 3), none⟩,
    ⟨none, .store 1 (.t 8) (.t 7), none⟩])
  (.seq (.ops [⟨some 9, .mv (.t 0), none⟩,
    ⟨some 10, .call (.c (.fn n_event_reader_text [] [])) [(.t 9), (.c (.int .u64 16))], none⟩,
    ⟨some 11, .fad 1 (.t 3), none⟩,
    ⟨none, .store 1 (.t 11) (.t 10), none⟩])
  (.seq (.ops [⟨some 12, .mv (.t 0), none⟩,
    ⟨some 13, .call (.c (.fn n_event_reader_number [] [])) [(.t 12)], none⟩,
    ⟨some 14, .fad 2 (.t 3), none⟩,
    ⟨none, .store 1 (.t 14) (.t 13), none⟩])
  (.seq (.seq (.ops [⟨some 15, .mv (.t 0), none⟩,
    ⟨some 16, .call (.c (.fn n_event_reader_size [] [])) [(.t 15), (.c (.int .u64 8))], none⟩,
    ⟨some 4, .mv (.t 16), none⟩])
  (.block 0 (.loop (.seq (.seq (.ops [⟨some 17, .mv (.t 4), none⟩,
    ⟨some 18, .bin .gtr (.t 17) (.c (.int .u64 0)), none⟩,
    ⟨some 19, .mv (.t 18), none⟩,
    ⟨some 20, .mv (.t 0), some (19, true)⟩,
    ⟨some 21, .nck (.t 20), some (19, true)⟩,
    ⟨some 22, .fad 1 (.t 21), some (19, true)⟩,
    ⟨some 23, .load 1 false (.t 22), some (19, true)⟩,
    ⟨some 24, .bin .eql (.t 23) (.c (.int .i64 0)), some (19, true)⟩,
    ⟨some 25, .pick (.t 19) (.t 24) (.c (.bool false)), none⟩])
  (.cond (.t 25) (.skip) (.exit 0)))
  (.seq (.block 1 (.seq (.ops [⟨some 28, .mv (.t 0), none⟩,
    ⟨some 29, .call (.c (.fn n_event_reader_text [] [])) [(.t 28), (.c (.int .u64 16))], none⟩,
    ⟨some 5, .mv (.t 29), none⟩])
  (.drawX [] [(3, 33), (30, 33)] [⟨some 30, .fad 3 (.t 3), none⟩,
    ⟨some 31, .load 1 false (.t 30), none⟩,
    ⟨some 32, .mv (.t 5), none⟩,
    ⟨some 33, .mv (.t 0), none⟩,
    ⟨some 34, .mcall (.c (.fn n_event_reader_value [] [])) (.t 33) [], none⟩,
    ⟨some 35, .build [.str [], .bool false, .int .i64 0, .str []] [(0, 1, (.t 32)), (1, 3, (.t 34))], none⟩,
    ⟨some 36, .bslm 4 true [(.t 35)], none⟩,
    ⟨some 37, .app 66 4 48 true (.t 31) (.t 36), none⟩,
    ⟨some 38, .fad 3 (.t 3), none⟩,
    ⟨none, .store 1 (.t 38) (.t 37), none⟩])))
  (.ops [⟨some 26, .mv (.t 4), none⟩,
    ⟨some 27, .bin .sub (.t 26) (.c (.int .u64 1)), none⟩,
    ⟨some 4, .mv (.t 27), none⟩]))))))
  (.seq (.ops [⟨some 39, .load 4 true (.t 3), none⟩,
    ⟨none, .store 4 (.t 2) (.t 39), none⟩])
  (.ret)))))))
theorem k_event_reader_event : FnIs AP n_event_reader_event c_event_reader_event 40 [.cell 2 4 true] := fnIs_of (fn := Go.Proofs.Try.f68) Go.Proofs.Try.func68 (by kernel_rfl) (by kernel_rfl) (by kernel_rfl) (by kernel_rfl) (by kernel_rfl)
theorem a_event_reader_event {x0 : V} {H : List Entry} {K : KV} (h : Wf H → awp AP H.length c_event_reader_event (finW H.length [.cell 2 4 true] K) ([x0] ++ List.replicate 39 undefV) H) : BCall AP n_event_reader_event [x0] H K := k_event_reader_event.call (by kernel_rfl) h
/-- tryst/event.Field: 15 slots -/
def c_event_Field : AC := .seq (.ops [⟨some 2, .mv (.c (.bool false)), none⟩])
  (.seq (.ops [⟨some 3, .mv (.t 0), none⟩,
    ⟨some 4, .len 0 (.t 3), none⟩,
    ⟨some 5, .bin .leq (.t 4) (.c (.int .i64 16)), none⟩,
    ⟨some 6, .mv (.t 5), none⟩,
    ⟨some 7, .mv (.t 0), some (6, true)⟩,
    ⟨some 8, .call (.c (.fn n_strings_Contains [] [])) [(.t 7), (.c (.str [46]))], some (6, true)⟩,
    ⟨some 9, .un .not (.t 8), some (6, true)⟩,
    ⟨some 10, .pick (.t 6) (.t 9) (.c (.bool false)), none⟩,
    ⟨some 11, .mv (.t 10), none⟩,
    ⟨some 12, .mv (.t 0), some (11, true)⟩,
    ⟨some 13, .call (.c (.fn n_name_Topic [] [])) [(.t 12)], some (11, true)⟩,
    ⟨some 14, .pick (.t 11) (.t 13) (.c (.bool false)), none⟩,
    ⟨some 2, .mv (.t 14), none⟩])
  (.ret))
theorem k_event_Field : FnIs AP n_event_Field c_event_Field 15 (rsT [2]) := fnIs_of (fn := Go.Proofs.Try.f69) Go.Proofs.Try.func69 (by kernel_rfl) (by kernel_rfl) (by kernel_rfl) (by kernel_rfl) (by kernel_rfl)
theorem a_event_Field {x0 : V} {H : List Entry} {K : KV} (h : Wf H → awp AP H.length c_event_Field (finW H.length (rsT [2]) K) ([x0] ++ List.replicate 14 undefV) H) : BCall AP n_event_Field [x0] H K := k_event_Field.call (by kernel_rfl) h
/-- tryst/event.mayFields: 17 slots -/
def c_event_mayFields : AC := .seq (.ops [⟨some 2, .mv (.c (.bool false)), none⟩])
  (.seq (.seq (.ops [⟨some 5, .mv (.t 0), none⟩,
    ⟨some 6, .len 1 (.t 5), none⟩,
    ⟨some 7, .bin .gtr (.t 6) (.c (.int .i64 8)), none⟩])
  (.cond (.t 7) (.seq (.ops [⟨some 2, .mv (.c (.bool false)), none⟩])
  (.ret)) (.skip)))
  (.seq (.ops [⟨some 3, .mv (.c (.fn n_event_mayFields_1 [] [])), none⟩])
  (.seq (.ops [⟨some 4, .mv (.c (.fn n_event_mayFields_2 [] [])), none⟩])
  (.seq (.ops [⟨some 8, .mv (.t 0), none⟩,
    ⟨some 9, .mv (.t 3), none⟩,
    ⟨some 10, .call (.c (.fn n_slices_ContainsFunc_api_Field_api_Field [] [])) [(.t 8), (.t 9)], none⟩,
    ⟨some 11, .un .not (.t 10), none⟩,
    ⟨some 12, .mv (.t 11), none⟩,
    ⟨some 13, .mv (.t 0), some (12, true)⟩,
    ⟨some 14, .mv (.t 4), some (12, true)⟩,
    ⟨some 15, .call (.c (.fn n_list_Rises_api_Field [] [])) [(.t 13), (.t 14)], some (12, true)⟩,
    ⟨some 16, .pick (.t 12) (.t 15) (.c (.bool false)), none⟩,
    ⟨some 2, .mv (.t 16), none⟩])
  (.ret)))))
theorem k_event_mayFields : FnIs AP n_event_mayFields c_event_mayFields 17 (rsT [2]) := fnIs_of (fn := Go.Proofs.Try.f70) Go.Proofs.Try.func70 (by kernel_rfl) (by kernel_rfl) (by kernel_rfl) (by kernel_rfl) (by kernel_rfl)
theorem a_event_mayFields {x0 : V} {H : List Entry} {K : KV} (h : Wf H → awp AP H.length c_event_mayFields (finW H.length (rsT [2]) K) ([x0] ++ List.replicate 16 undefV) H) : BCall AP n_event_mayFields [x0] H K := k_event_mayFields.call (by kernel_rfl) h
/-- tryst/num.packedWide: 8 slots -/
def c_num_packedWide : AC := .seq (.ops [⟨some 2, .mv (.c (.int .i64 0)), none⟩])
  (.seq (.ops [⟨some 3, .mv (.t 0), none⟩,
    ⟨some 4, .bin .or (.t 3) (.c (.int .u64 1)), none⟩,
    ⟨some 5, .call (.c (.fn n_math_bits_Len64 [] [])) [(.t 4)], none⟩,
    ⟨some 6, .bin .add (.t 5) (.c (.int .i64 6)), none⟩,
    ⟨some 7, .bin .quo (.t 6) (.c (.int .i64 7)), none⟩,
    ⟨some 2, .mv (.t 7), none⟩])
  (.ret))
theorem k_num_packedWide : FnIs AP n_num_packedWide c_num_packedWide 8 (rsT [2]) := fnIs_of (fn := Go.Proofs.Try.f71) Go.Proofs.Try.func71 (by kernel_rfl) (by kernel_rfl) (by kernel_rfl) (by kernel_rfl) (by kernel_rfl)
theorem a_num_packedWide {x0 : V} {H : List Entry} {K : KV} (h : Wf H → awp AP H.length c_num_packedWide (finW H.length (rsT [2]) K) ([x0] ++ List.replicate 7 undefV) H) : BCall AP n_num_packedWide [x0] H K := k_num_packedWide.call (by kernel_rfl) h
/-- tryst/val.May: 17 slots -/
def c_val_May : AC := .seq (.ops [⟨some 1, .box (.t 0), none⟩,
    ⟨some 2, .mv (.c (.bool false)), none⟩])
  (.seq (.seq (.ops [⟨some 3, .fad 0 (.t 1), none⟩,
    ⟨some 4, .load 1 false (.t 3), none⟩])
  (.cond (.t 4) (.seq (.ops [⟨some 5, .fad 2 (.t 1), none⟩,
    ⟨some 6, .load 1 false (.t 5), none⟩,
    ⟨some 7, .bin .eql (.t 6) (.c (.str [])), none⟩,
    ⟨some 2, .mv (.t 7), none⟩])
  (.ret)) (.skip)))
  (.seq (.ops [⟨some 8, .fad 1 (.t 1), none⟩,
    ⟨some 9, .load 1 false (.t 8), none⟩,
    ⟨some 10, .bin .eql (.t 9) (.c (.int .i64 0)), none⟩,
    ⟨some 11, .mv (.t 10), none⟩,
    ⟨some 12, .fad 2 (.t 1), some (11, true)⟩,
    ⟨some 13, .load 1 false (.t 12), some (11, true)⟩,
    ⟨some 14, .len 0 (.t 13), some (11, true)⟩,
    ⟨some 15, .bin .leq (.t 14) (.c (.int .i64 60)), some (11, true)⟩,
    ⟨some 16, .pick (.t 11) (.t 15) (.c (.bool false)), none⟩,
    ⟨some 2, .mv (.t 16), none⟩])
  (.ret)))
theorem k_val_May : FnIs AP n_val_May c_val_May 17 (rsT [2]) := fnIs_of (fn := Go.Proofs.Try.f72) Go.Proofs.Try.func72 (by kernel_rfl) (by kernel_rfl) (by kernel_rfl) (by kernel_rfl) (by kernel_rfl)
theorem a_val_May {x0 : V} {H : List Entry} {K : KV} (h : Wf H → awp AP H.length c_val_May (finW H.length (rsT [2]) K) ([x0] ++ List.replicate 16 undefV) H) : BCall AP n_val_May [x0] H K := k_val_May.call (by kernel_rfl) h
/-- tryst/num.Fold: 12 slots -/
def c_num_Fold : AC := .seq (.ops [⟨some 2, .mv (.c (.int .u64 0)), none⟩])
  (.seq (.seq (.ops [⟨some 3, .mv (.t 0), none⟩,
    ⟨some 4, .bin .lss (.t 3) (.c (.int .i64 0)), none⟩])
  (.cond (.t 4) (.seq (.ops [⟨some 5, .mv (.t 0), none⟩,
    ⟨some 6, .cvi .u64 (.t 5), none⟩,
    ⟨some 7, .bin .shl (.t 6) (.c (.int .u64 1)), none⟩,
    ⟨some 8, .un .xor (.t 7), none⟩,
    ⟨some 2, .mv (.t 8), none⟩])
  (.ret)) (.skip)))
  (.seq (.ops [⟨some 9, .mv (.t 0), none⟩,
    ⟨some 10, .cvi .u64 (.t 9), none⟩,
    ⟨some 11, .bin .shl (.t 10) (.c (.int .u64 1)), none⟩,
    ⟨some 2, .mv (.t 11), none⟩])
  (.ret)))
theorem k_num_Fold : FnIs AP n_num_Fold c_num_Fold 12 (rsT [2]) := fnIs_of (fn := Go.Proofs.Try.f73) Go.Proofs.Try.func73 (by kernel_rfl) (by kernel_rfl) (by kernel_rfl) (by kernel_rfl) (by kernel_rfl)
theorem a_num_Fold {x0 : V} {H : List Entry} {K : KV} (h : Wf H → awp AP H.length c_num_Fold (finW H.length (rsT [2]) K) ([x0] ++ List.replicate 11 undefV) H) : BCall AP n_num_Fold [x0] H K := k_num_Fold.call (by kernel_rfl) h
/-- slices.Concat[[]tryst/api.Topic,tryst/api.Topic]: 36 slots -/
def c_slices_Concat_api_Topic_api_Topic : AC := .seq (.ops [⟨some 2, .mv (.c (.nilsl)), none⟩])
  (.seq (.ops [⟨some 3, .mv (.c (.int .i64 0)), none⟩])
  (.seq (.seq (.ops [⟨some 9, .mv (.t 0), none⟩,
    ⟨some 10, .len 1 (.t 9), none⟩,
    ⟨some 11, .mv (.c (.int .i64 0)), none⟩])
  (.block 0 (.loop (.seq (.ops [⟨some 12, .bin .lss (.t 11) (.t 10), none⟩])
  (.seq (.cond (.t 12) (.skip) (.exit 0))
  (.seq (.block 1 (.seq (.ops [⟨some 13, .iad 1 false (.t 9) (.t 11), none⟩,
    ⟨some 14, .load 1 false (.t 13), none⟩,
    ⟨some 5, .mv (.t 14), none⟩])
  (.seq (.ops [⟨some 15, .mv (.t 3), none⟩,
    ⟨some 16, .mv (.t 5), none⟩,
    ⟨some 17, .len 1 (.t 16), none⟩,
    ⟨some 18, .bin .add (.t 15) (.t 17), none⟩,
    ⟨some 3, .mv (.t 18), none⟩])
  (.seq (.ops [⟨some 19, .mv (.t 3), none⟩,
    ⟨some 20, .bin .lss (.t 19) (.c (.int .i64 0)), none⟩])
  (.cond (.t 20) (.bad) (.skip))))))
  (.ops [⟨some 22, .bin .add (.t 11) (.c (.int .i64 1)), none⟩,
    ⟨some 11, .mv (.t 22), none⟩])))))))
  (.seq (.ops [⟨some 23, .mv (.t 3), none⟩,
    ⟨some 24, .call (.c (.fn n_slices_Grow_api_Topic_api_Topic [] [])) [(.c (.nilsl)), (.t 23)], none⟩,
    ⟨some 6, .mv (.t 24), none⟩])
  (.seq (.seq (.ops [⟨some 25, .mv (.t 0), none⟩,
    ⟨some 26, .len 1 (.t 25), none⟩,
    ⟨some 27, .mv (.c (.int .i64 0)), none⟩])
  (.block 2 (.loop (.seq (.ops [⟨some 28, .bin .lss (.t 27) (.t 26), none⟩])
  (.seq (.cond (.t 28) (.skip) (.exit 2))
  (.seq (.block 3 (.seq (.ops [⟨some 29, .iad 1 false (.t 25) (.t 27), none⟩,
    ⟨some 30, .load 1 false (.t 29), none⟩,
    ⟨some 8, .mv (.t 30), none⟩])
  (.ops [⟨some 31, .mv (.t 6), none⟩,
    ⟨some 32, .mv (.t 8), none⟩,
    ⟨some 33, .app 45 3 48 true (.t 31) (.t 32), none⟩,
    ⟨some 6, .mv (.t 33), none⟩])))
  (.ops [⟨some 34, .bin .add (.t 27) (.c (.int .i64 1)), none⟩,
    ⟨some 27, .mv (.t 34), none⟩])))))))
  (.seq (.ops [⟨some 35, .mv (.t 6), none⟩,
    ⟨some 2, .mv (.t 35), none⟩])
  (.ret))))))
theorem k_slices_Concat_api_Topic_api_Topic : FnIs AP n_slices_Concat_api_Topic_api_Topic c_slices_Concat_api_Topic_api_Topic 36 (rsT [2]) := fnIs_of (fn := Go.Proofs.Try.f74) Go.Proofs.Try.func74 (by kernel_rfl) (by kernel_rfl) (by kernel_rfl) (by kernel_rfl) (by kernel_rfl)
theorem a_slices_Concat_api_Topic_api_Topic {x0 : V} {H : List Entry} {K : KV} (h : Wf H → awp AP H.length c_slices_Concat_api_Topic_api_Topic (finW H.length (rsT [2]) K) ([x0] ++ List.replicate 35 undefV) H) : BCall AP n_slices_Concat_api_Topic_api_Topic [x0] H K := k_slices_Concat_api_Topic_api_Topic.call (by kernel_rfl) h
-- 74 slices.Concat[[]tryst/api.Topic,tryst/api.Topic]: [slices.go:496, slices.go:496]
/-- tryst/trystref01.Fold: 14 slots -/
def c_trystref01_Fold : AC := .seq (.ops [⟨some 2, .mv (.c (.int .u64 0)), none⟩])
  (.seq (.seq (.ops [⟨some 3, .mv (.t 0), none⟩,
    ⟨some 4, .bin .geq (.t 3) (.c (.int .i64 0)), none⟩])
  (.cond (.t 4) (.seq (.ops [⟨some 5, .mv (.t 0), none⟩,
    ⟨some 6, .cvi .u64 (.t 5), none⟩,
    ⟨some 7, .bin .mul (.c (.int .u64 2)) (.t 6), none⟩,
    ⟨some 2, .mv (.t 7), none⟩])
  (.ret)) (.skip)))
  (.seq (.ops [⟨some 8, .mv (.t 0), none⟩,
    ⟨some 9, .bin .add (.t 8) (.c (.int .i64 1)), none⟩,
    ⟨some 10, .un .neg (.t 9), none⟩,
    ⟨some 11, .cvi .u64 (.t 10), none⟩,
    ⟨some 12, .bin .mul (.c (.int .u64 2)) (.t 11), none⟩,
    ⟨some 13, .bin .add (.t 12) (.c (.int .u64 1)), none⟩,
    ⟨some 2, .mv (.t 13), none⟩])
  (.ret)))
theorem k_trystref01_Fold : FnIs AP n_trystref01_Fold c_trystref01_Fold 14 (rsT [2]) := fnIs_of (fn := Go.Proofs.Try.f75) Go.Proofs.Try.func75 (by kernel_rfl) (by kernel_rfl) (by kernel_rfl) (by kernel_rfl) (by kernel_rfl)
theorem a_trystref01_Fold {x0 : V} {H : List Entry} {K : KV} (h : Wf H → awp AP H.length c_trystref01_Fold (finW H.length (rsT [2]) K) ([x0] ++ List.replicate 13 undefV) H) : BCall AP n_trystref01_Fold [x0] H K := k_trystref01_Fold.call (by kernel_rfl) h
/-- tryst/name.allParts: 32 slots -/
def c_name_allParts : AC := .seq (.ops [⟨some 2, .box (.t 0), none⟩,
    ⟨some 3, .box (.t 1), none⟩,
    ⟨some 4, .mv (.c (.bool false)), none⟩])
  (.seq (.seq (.ops [⟨some 10, .load 1 false (.t 2), none⟩,
    ⟨some 11, .len 0 (.t 10), none⟩,
    ⟨some 12, .bin .gtr (.t 11) (.c (.int .i64 40)), none⟩])
  (.cond (.t 12) (.seq (.ops [⟨some 4, .mv (.c (.bool false)), none⟩])
  (.ret)) (.skip)))
  (.seq (.ops [⟨some 5, .alloc [.int .i64 0], none⟩,
    ⟨some 6, .alloc [.int .i64 0], none⟩,
    ⟨none, .store 1 (.t 5) (.c (.int .i64 0)), none⟩,
    ⟨none, .store 1 (.t 6) (.c (.int .i64 0)), none⟩])
  (.seq (.ops [⟨some 13, .mkfn n_name_allParts_1 [] [(.t 2), (.t 5), (.t 6), (.t 3)], none⟩,
    ⟨some 7, .mv (.t 13), none⟩])
  (.seq (.seq (.ops [⟨some 14, .load 1 false (.t 2), none⟩,
    ⟨some 15, .rng (.t 14), none⟩])
  (.block 0 (.loop (.seq (.ops [⟨some 16, .nxt true (.t 15), none⟩,
    ⟨some 17, .ext (.t 16) 0, none⟩])
  (.seq (.cond (.t 17) (.skip) (.exit 0))
  (.block 1 (.seq (.ops [⟨some 18, .ext (.t 16) 1, none⟩,
    ⟨some 19, .ext (.t 16) 2, none⟩,
    ⟨some 8, .mv (.t 18), none⟩,
    ⟨some 9, .mv (.t 19), none⟩])
  (.seq (.ops [⟨some 20, .mv (.t 9), none⟩,
    ⟨some 21, .bin .eql (.t 20) (.c (.int .i32 46)), none⟩,
    ⟨some 22, .mv (.t 21), none⟩,
    ⟨some 23, .mv (.t 7), some (22, true)⟩,
    ⟨some 24, .mv (.t 8), some (22, true)⟩,
    ⟨some 25, .call (.t 23) [(.t 24)], some (22, true)⟩,
    ⟨some 26, .un .not (.t 25), some (22, true)⟩,
    ⟨some 27, .pick (.t 22) (.t 26) (.c (.bool false)), none⟩])
  (.cond (.t 27) (.seq (.ops [⟨some 4, .mv (.c (.bool false)), none⟩])
  (.ret)) (.skip))))))))))
  (.seq (.ops [⟨some 28, .mv (.t 7), none⟩,
    ⟨some 29, .load 1 false (.t 2), none⟩,
    ⟨some 30, .len 0 (.t 29), none⟩,
    ⟨some 31, .call (.t 28) [(.t 30)], none⟩,
    ⟨some 4, .mv (.t 31), none⟩])
  (.ret))))))
theorem k_name_allParts : FnIs AP n_name_allParts c_name_allParts 32 (rsT [4]) := fnIs_of (fn := Go.Proofs.Try.f76) Go.Proofs.Try.func76 (by kernel_rfl) (by kernel_rfl) (by kernel_rfl) (by kernel_rfl) (by kernel_rfl)
theorem a_name_allParts {x0 x1 : V} {H : List Entry} {K : KV} (h : Wf H → awp AP H.length c_name_allParts (finW H.length (rsT [4]) K) ([x0, x1] ++ List.replicate 30 undefV) H) : BCall AP n_name_allParts [x0, x1] H K := k_name_allParts.call (by kernel_rfl) h
/-- tryst/name.isPart: 9 slots -/
def c_name_isPart : AC := .seq (.ops [⟨some 2, .mv (.c (.bool false)), none⟩])
  (.seq (.ops [⟨some 3, .mv (.t 0), none⟩,
    ⟨some 4, .bin .neq (.t 3) (.c (.str [])), none⟩,
    ⟨some 5, .mv (.t 4), none⟩,
    ⟨some 6, .mv (.t 0), some (5, true)⟩,
    ⟨some 7, .call (.c (.fn n_name_allRunes [] [])) [(.t 6), (.c (.fn n_name_isPart_1 [] []))], some (5, true)⟩,
    ⟨some 8, .pick (.t 5) (.t 7) (.c (.bool false)), none⟩,
    ⟨some 2, .mv (.t 8), none⟩])
  (.ret))
theorem k_name_isPart : FnIs AP n_name_isPart c_name_isPart 9 (rsT [2]) := fnIs_of (fn := Go.Proofs.Try.f77) Go.Proofs.Try.func77 (by kernel_rfl) (by kernel_rfl) (by kernel_rfl) (by kernel_rfl) (by kernel_rfl)
theorem a_name_isPart {x0 : V} {H : List Entry} {K : KV} (h : Wf H → awp AP H.length c_name_isPart (finW H.length (rsT [2]) K) ([x0] ++ List.replicate 8 undefV) H) : BCall AP n_name_isPart [x0] H K := k_name_isPart.call (by kernel_rfl) h
/-- slices.IndexFunc[[]string,string]: 19 slots -/
def c_slices_IndexFunc_string_string : AC := .seq (.ops [⟨some 4, .mv (.c (.int .i64 0)), none⟩])
  (.seq (.seq (.ops [⟨some 6, .mv (.t 0), none⟩,
    ⟨some 7, .len 1 (.t 6), none⟩,
    ⟨some 8, .mv (.c (.int .i64 0)), none⟩])
  (.block 0 (.loop (.seq (.ops [⟨some 9, .bin .lss (.t 8) (.t 7), none⟩])
  (.seq (.cond (.t 9) (.skip) (.exit 0))
  (.seq (.block 1 (.seq (.ops [⟨some 10, .mv (.t 8), none⟩,
    ⟨some 5, .mv (.t 10), none⟩])
  (.seq (.ops [⟨some 11, .mv (.t 1), none⟩,
    ⟨some 12, .mv (.t 0), none⟩,
    ⟨some 13, .mv (.t 5), none⟩,
    ⟨some 14, .iad 1 false (.t 12) (.t 13), none⟩,
    ⟨some 15, .load 1 false (.t 14), none⟩,
    ⟨some 16, .call (.t 11) [(.t 15)], none⟩])
  (.cond (.t 16) (.seq (.ops [⟨some 17, .mv (.t 5), none⟩,
    ⟨some 4, .mv (.t 17), none⟩])
  (.ret)) (.skip)))))
  (.ops [⟨some 18, .bin .add (.t 8) (.c (.int .i64 1)), none⟩,
    ⟨some 8, .mv (.t 18), none⟩])))))))
  (.seq (.ops [⟨some 4, .mv (.c (.int .i64 (-1))), none⟩])
  (.ret)))
theorem k_slices_IndexFunc_string_string : FnIs AP n_slices_IndexFunc_string_string c_slices_IndexFunc_string_string 19 (rsT [4]) := fnIs_of (fn := Go.Proofs.Try.f78) Go.Proofs.Try.func78 (by kernel_rfl) (by kernel_rfl) (by kernel_rfl) (by kernel_rfl) (by kernel_rfl)
theorem a_slices_IndexFunc_string_string {x0 x1 : V} {H : List Entry} {K : KV} (h : Wf H → awp AP H.length c_slices_IndexFunc_string_string (finW H.length (rsT [4]) K) ([x0, x1] ++ List.replicate 17 undefV) H) : BCall AP n_slices_IndexFunc_string_string [x0, x1] H K := k_slices_IndexFunc_string_string.call (by kernel_rfl) h
/-- tryst/trystref02.cut: 33 slots -/
def c_trystref02_cut : AC := .seq (.ops [⟨some 2, .mv (.c (.nilsl)), none⟩])
  (.seq (.ops [⟨some 5, .bsl 1 false [(.c (.str []))], none⟩,
    ⟨some 3, .mv (.t 5), none⟩])
  (.seq (.seq (.ops [⟨some 4, .mv (.c (.int .i64 0)), none⟩])
  (.block 0 (.loop (.seq (.seq (.ops [⟨some 6, .mv (.t 4), none⟩,
    ⟨some 7, .mv (.t 0), none⟩,
    ⟨some 8, .len 0 (.t 7), none⟩,
    ⟨some 9, .bin .lss (.t 6) (.t 8), none⟩])
  (.cond (.t 9) (.skip) (.exit 0)))
  (.seq (.block 1 (.seq (.ops [⟨some 12, .mv (.t 0), none⟩,
    ⟨some 13, .mv (.t 4), none⟩,
    ⟨some 14, .ixs (.t 12) (.t 13), none⟩,
    ⟨some 15, .bin .eql (.t 14) (.c (.int .u8 46)), none⟩])
  (.cond (.t 15) (.ops [⟨some 16, .mv (.t 3), none⟩,
    ⟨some 17, .bsl 1 false [(.c (.str []))], none⟩,
    ⟨some 18, .app 9 1 16 false (.t 16) (.t 17), none⟩,
    ⟨some 3, .mv (.t 18), none⟩]) (.draw [⟨some 19, .mv (.t 3), none⟩,
    ⟨some 20, .mv (.t 3), none⟩,
    ⟨some 21, .len 1 (.t 20), none⟩,
    ⟨some 22, .bin .sub (.t 21) (.c (.int .i64 1)), none⟩,
    ⟨some 23, .iad 1 false (.t 19) (.t 22), none⟩,
    ⟨some 24, .load 1 false (.t 23), none⟩,
    ⟨some 25, .mv (.t 0), none⟩,
    ⟨some 26, .mv (.t 4), none⟩,
    ⟨some 27, .mv (.t 4), none⟩,
    ⟨some 28, .bin .add (.t 27) (.c (.int .i64 1)), none⟩,
    ⟨some 29, .sls (.t 25) (some (.t 26)) (some (.t 28)), none⟩,
    ⟨some 30, .bin .add (.t 24) (.t 29), none⟩,
    ⟨some 31, .iad 1 false (.t 19) (.t 22), none⟩,
    ⟨none, .store 1 (.t 31) (.t 30), none⟩]))))
  (.ops [⟨some 10, .mv (.t 4), none⟩,
    ⟨some 11, .bin .add (.t 10) (.c (.int .i64 1)), none⟩,
    ⟨some 4, .mv (.t 11), none⟩]))))))
  (.seq (.ops [⟨some 32, .mv (.t 3), none⟩,
    ⟨some 2, .mv (.t 32), none⟩])
  (.ret))))
theorem k_trystref02_cut : FnIs AP n_trystref02_cut c_trystref02_cut 33 (rsT [2]) := fnIs_of (fn := Go.Proofs.Try.f79) Go.Proofs.Try.func79 (by kernel_rfl) (by kernel_rfl) (by kernel_rfl) (by kernel_rfl) (by kernel_rfl)
theorem a_trystref02_cut {x0 : V} {H : List Entry} {K : KV} (h : Wf H → awp AP H.length c_trystref02_cut (finW H.length (rsT [2]) K) ([x0] ++ List.replicate 32 undefV) H) : BCall AP n_trystref02_cut [x0] H K := k_trystref02_cut.call (by kernel_rfl) h
/-- tryst/trystref02.part: 35 slots -/
def c_trystref02_part : AC := .seq (.ops [⟨some 2, .mv (.c (.bool false)), none⟩])
  (.seq (.seq (.ops [⟨some 3, .mv (.c (.int .i64 0)), none⟩])
  (.block 0 (.loop (.seq (.seq (.ops [⟨some 5, .mv (.t 3), none⟩,
    ⟨some 6, .mv (.t 0), none⟩,
    ⟨some 7, .len 0 (.t 6), none⟩,
    ⟨some 8, .bin .lss (.t 5) (.t 7), none⟩])
  (.cond (.t 8) (.skip) (.exit 0)))
  (.seq (.block 1 (.seq (.ops [⟨some 11, .mv (.t 0), none⟩,
    ⟨some 12, .mv (.t 3), none⟩,
    ⟨some 13, .ixs (.t 11) (.t 12), none⟩,
    ⟨some 4, .mv (.t 13), none⟩])
  (.seq (.ops [⟨some 14, .mv (.t 4), none⟩,
    ⟨some 15, .bin .leq (.c (.int .u8 97)) (.t 14), none⟩,
    ⟨some 16, .mv (.t 15), none⟩,
    ⟨some 17, .mv (.t 4), some (16, true)⟩,
    ⟨some 18, .bin .leq (.t 17) (.c (.int .u8 122)), some (16, true)⟩,
    ⟨some 19, .pick (.t 16) (.t 18) (.c (.bool false)), none⟩,
    ⟨some 20, .mv (.t 19), none⟩,
    ⟨some 21, .mv (.t 4), some (20, false)⟩,
    ⟨some 22, .bin .leq (.c (.int .u8 48)) (.t 21), some (20, false)⟩,
    ⟨some 23, .mv (.t 22), some (20, false)⟩,
    ⟨some 24, .mv (.t 4), some (23, true)⟩,
    ⟨some 25, .bin .leq (.t 24) (.c (.int .u8 57)), some (23, true)⟩,
    ⟨some 26, .pick (.t 23) (.t 25) (.c (.bool false)), some (20, false)⟩,
    ⟨some 27, .pick (.t 20) (.c (.bool true)) (.t 26), none⟩,
    ⟨some 28, .mv (.t 27), none⟩,
    ⟨some 29, .mv (.t 4), some (28, false)⟩,
    ⟨some 30, .bin .eql (.t 29) (.c (.int .u8 95)), some (28, false)⟩,
    ⟨some 31, .pick (.t 28) (.c (.bool true)) (.t 30), none⟩,
    ⟨some 32, .un .not (.t 31), none⟩])
  (.cond (.t 32) (.seq (.ops [⟨some 2, .mv (.c (.bool false)), none⟩])
  (.ret)) (.skip)))))
  (.ops [⟨some 9, .mv (.t 3), none⟩,
    ⟨some 10, .bin .add (.t 9) (.c (.int .i64 1)), none⟩,
    ⟨some 3, .mv (.t 10), none⟩]))))))
  (.seq (.ops [⟨some 33, .mv (.t 0), none⟩,
    ⟨some 34, .bin .neq (.t 33) (.c (.str [])), none⟩,
    ⟨some 2, .mv (.t 34), none⟩])
  (.ret)))
theorem k_trystref02_part : FnIs AP n_trystref02_part c_trystref02_part 35 (rsT [2]) := fnIs_of (fn := Go.Proofs.Try.f80) Go.Proofs.Try.func80 (by kernel_rfl) (by kernel_rfl) (by kernel_rfl) (by kernel_rfl) (by kernel_rfl)
theorem a_trystref02_part {x0 : V} {H : List Entry} {K : KV} (h : Wf H → awp AP H.length c_trystref02_part (finW H.length (rsT [2]) K) ([x0] ++ List.replicate 34 undefV) H) : BCall AP n_trystref02_part [x0] H K := k_trystref02_part.call (by kernel_rfl) h
/-- tryst/trystref01.Unfold: 14 slots -/
def c_trystref01_Unfold : AC := .seq (.ops [⟨some 2, .mv (.c (.int .i64 0)), none⟩])
  (.seq (.seq (.ops [⟨some 3, .mv (.t 0), none⟩,
    ⟨some 4, .bin .rem (.t 3) (.c (.int .u64 2)), none⟩,
    ⟨some 5, .bin .eql (.t 4) (.c (.int .u64 0)), none⟩])
  (.cond (.t 5) (.seq (.ops [⟨some 6, .mv (.t 0), none⟩,
    ⟨some 7, .bin .quo (.t 6) (.c (.int .u64 2)), none⟩,
    ⟨some 8, .cvi .i64 (.t 7), none⟩,
    ⟨some 2, .mv (.t 8), none⟩])
  (.ret)) (.skip)))
  (.seq (.ops [⟨some 9, .mv (.t 0), none⟩,
    ⟨some 10, .bin .quo (.t 9) (.c (.int .u64 2)), none⟩,
    ⟨some 11, .cvi .i64 (.t 10), none⟩,
    ⟨some 12, .un .neg (.t 11), none⟩,
    ⟨some 13, .bin .sub (.t 12) (.c (.int .i64 1)), none⟩,
    ⟨some 2, .mv (.t 13), none⟩])
  (.ret)))
theorem k_trystref01_Unfold : FnIs AP n_trystref01_Unfold c_trystref01_Unfold 14 (rsT [2]) := fnIs_of (fn := Go.Proofs.Try.f81) Go.Proofs.Try.func81 (by kernel_rfl) (by kernel_rfl) (by kernel_rfl) (by kernel_rfl) (by kernel_rfl)
theorem a_trystref01_Unfold {x0 : V} {H : List Entry} {K : KV} (h : Wf H → awp AP H.length c_trystref01_Unfold (finW H.length (rsT [2]) K) ([x0] ++ List.replicate 13 undefV) H) : BCall AP n_trystref01_Unfold [x0] H K := k_trystref01_Unfold.call (by kernel_rfl) h
/-- (*tryst/event.reader).text: 49 slots -/
def c_event_reader_text : AC := .seq (.ops [⟨some 4, .mv (.c (.str [])), none⟩])
  (.seq (.ops [⟨some 7, .mv (.t 0), none⟩,
    ⟨some 8, .mv (.t 1), none⟩,
    ⟨some 9, .call (.c (.fn n_event_reader_size [] [])) [(.t 7), (.t 8)], none⟩,
    ⟨some 5, .mv (.t 9), none⟩])
  (.seq (.seq (.ops [⟨some 10, .mv (.t 0), none⟩,
    ⟨some 11, .nck (.t 10), none⟩,
    ⟨some 12, .fad 1 (.t 11), none⟩,
    ⟨some 13, .load 1 false (.t 12), none⟩,
    ⟨some 14, .bin .eql (.t 13) (.c (.int .i64 0)), none⟩,
    ⟨some 15, .mv (.t 14), none⟩,
    ⟨some 16, .mv (.t 5), some (15, true)⟩,
    ⟨some 17, .mv (.t 0), some (15, true)⟩,
    ⟨some 18, .nck (.t 17), some (15, true)⟩,
    ⟨some 19, .fad 0 (.t 18), some (15, true)⟩,
    ⟨some 20, .load 1 false (.t 19), some (15, true)⟩,
    ⟨some 21, .len 0 (.t 20), some (15, true)⟩,
    ⟨some 22, .cvi .u64 (.t 21), some (15, true)⟩,
    ⟨some 23, .bin .gtr (.t 16) (.t 22), some (15, true)⟩,
    ⟨some 24, .pick (.t 15) (.t 23) (.c (.bool false)), none⟩])
  (.cond (.t 24) (.ops [⟨some 25, .mv (.t 0), none⟩,
    ⟨some 26, .nck (.t 25), none⟩,
    ⟨some 27, .fad 1 (.t 26), none⟩,
    ⟨none, .store 1 (.t 27) (.c (.int .i64 3)), none⟩]) (.skip)))
  (.seq (.seq (.ops [⟨some 28, .mv (.t 0), none⟩,
    ⟨some 29, .nck (.t 28), none⟩,
    ⟨some 30, .fad 1 (.t 29), none⟩,
    ⟨some 31, .load 1 false (.t 30), none⟩,
    ⟨some 32, .bin .neq (.t 31) (.c (.int .i64 0)), none⟩])
  (.cond (.t 32) (.seq (.ops [⟨some 4, .mv (.c (.str [])), none⟩])
  (.ret)) (.skip)))
  (.seq (.ops [⟨some 33, .mv (.t 0), none⟩,
    ⟨some 34, .nck (.t 33), none⟩,
    ⟨some 35, .fad 0 (.t 34), none⟩,
    ⟨some 36, .load 1 false (.t 35), none⟩,
    ⟨some 37, .mv (.t 5), none⟩,
    ⟨some 38, .sls (.t 36) none (some (.t 37)), none⟩,
    ⟨some 6, .mv (.t 38), none⟩])
  (.seq (.ops [⟨some 39, .mv (.t 0), none⟩,
    ⟨some 40, .mv (.t 0), none⟩,
    ⟨some 41, .nck (.t 40), none⟩,
    ⟨some 42, .fad 0 (.t 41), none⟩,
    ⟨some 43, .load 1 false (.t 42), none⟩,
    ⟨some 44, .mv (.t 5), none⟩,
    ⟨some 45, .sls (.t 43) (some (.t 44)) none, none⟩,
    ⟨some 46, .nck (.t 39), none⟩,
    ⟨some 47, .fad 0 (.t 46), none⟩,
    ⟨none, .store 1 (.t 47) (.t 45), none⟩])
  (.seq (.ops [⟨some 48, .mv (.t 6), none⟩,
    ⟨some 4, .mv (.t 48), none⟩])
  (.ret)))))))
theorem k_event_reader_text : FnIs AP n_event_reader_text c_event_reader_text 49 (rsT [4]) := fnIs_of (fn := Go.Proofs.Try.f82) Go.Proofs.Try.func82 (by kernel_rfl) (by kernel_rfl) (by kernel_rfl) (by kernel_rfl) (by kernel_rfl)
theorem a_event_reader_text {x0 x1 : V} {H : List Entry} {K : KV} (h : Wf H → awp AP H.length c_event_reader_text (finW H.length (rsT [4]) K) ([x0, x1] ++ List.replicate 47 undefV) H) : BCall AP n_event_reader_text [x0, x1] H K := k_event_reader_text.call (by kernel_rfl) h
/-- (*tryst/event.reader).number: 34 slots -/
def c_event_reader_number : AC := .seq (.ops [⟨some 2, .mv (.c (.int .u64 0)), none⟩])
  (.seq (.seq (.ops [⟨some 6, .mv (.t 0), none⟩,
    ⟨some 7, .nck (.t 6), none⟩,
    ⟨some 8, .fad 1 (.t 7), none⟩,
    ⟨some 9, .load 1 false (.t 8), none⟩,
    ⟨some 10, .bin .neq (.t 9) (.c (.int .i64 0)), none⟩])
  (.cond (.t 10) (.seq (.ops [⟨some 2, .mv (.c (.int .u64 0)), none⟩])
  (.ret)) (.skip)))
  (.seq (.ops [⟨some 12, .mv (.t 0), none⟩,
    ⟨some 13, .nck (.t 12), none⟩,
    ⟨some 14, .fad 0 (.t 13), none⟩,
    ⟨some 15, .load 1 false (.t 14), none⟩,
    ⟨some 16, .call (.c (.fn n_num_Unpack [] [])) [(.t 15)], none⟩,
    ⟨some 11, .mv (.t 16), none⟩,
    ⟨some 17, .ext (.t 11) 0, none⟩,
    ⟨some 18, .ext (.t 11) 1, none⟩,
    ⟨some 19, .ext (.t 11) 2, none⟩,
    ⟨some 3, .mv (.t 17), none⟩,
    ⟨some 4, .mv (.t 18), none⟩,
    ⟨some 5, .mv (.t 19), none⟩])
  (.seq (.ops [⟨some 20, .mv (.t 0), none⟩,
    ⟨some 21, .mv (.t 0), none⟩,
    ⟨some 22, .mv (.t 0), none⟩,
    ⟨some 23, .nck (.t 22), none⟩,
    ⟨some 24, .fad 0 (.t 23), none⟩,
    ⟨some 25, .load 1 false (.t 24), none⟩,
    ⟨some 26, .mv (.t 4), none⟩,
    ⟨some 27, .sls (.t 25) (some (.t 26)) none, none⟩,
    ⟨some 28, .mv (.t 5), none⟩,
    ⟨some 29, .nck (.t 20), none⟩,
    ⟨some 30, .fad 0 (.t 29), none⟩,
    ⟨none, .store 1 (.t 30) (.t 27), none⟩,
    ⟨some 31, .nck (.t 21), none⟩,
    ⟨some 32, .fad 1 (.t 31), none⟩,
    ⟨none, .store 1 (.t 32) (.t 28), none⟩])
  (.seq (.ops [⟨some 33, .mv (.t 3), none⟩,
    ⟨some 2, .mv (.t 33), none⟩])
  (.ret)))))
theorem k_event_reader_number : FnIs AP n_event_reader_number c_event_reader_number 34 (rsT [2]) := fnIs_of (fn := Go.Proofs.Try.f83) Go.Proofs.Try.func83 (by kernel_rfl) (by kernel_rfl) (by kernel_rfl) (by kernel_rfl) (by kernel_rfl)
theorem a_event_reader_number {x0 : V} {H : List Entry} {K : KV} (h : Wf H → awp AP H.length c_event_reader_number (finW H.length (rsT [2]) K) ([x0] ++ List.replicate 33 undefV) H) : BCall AP n_event_reader_number [x0] H K := k_event_reader_number.call (by kernel_rfl) h
/-- (*tryst/event.reader).size: 15 slots -/
def c_event_reader_size : AC := .seq (.ops [⟨some 4, .mv (.c (.int .u64 0)), none⟩])
  (.seq (.ops [⟨some 6, .mv (.t 0), none⟩,
    ⟨some 7, .call (.c (.fn n_event_reader_number [] [])) [(.t 6)], none⟩,
    ⟨some 5, .mv (.t 7), none⟩])
  (.seq (.seq (.ops [⟨some 8, .mv (.t 5), none⟩,
    ⟨some 9, .mv (.t 1), none⟩,
    ⟨some 10, .bin .gtr (.t 8) (.t 9), none⟩])
  (.cond (.t 10) (.ops [⟨some 11, .mv (.t 0), none⟩,
    ⟨some 12, .nck (.t 11), none⟩,
    ⟨some 13, .fad 1 (.t 12), none⟩,
    ⟨none, .store 1 (.t 13) (.c (.int .i64 2)), none⟩]) (.skip)))
  (.seq (.ops [⟨some 14, .mv (.t 5), none⟩,
    ⟨some 4, .mv (.t 14), none⟩])
  (.ret))))
theorem k_event_reader_size : FnIs AP n_event_reader_size c_event_reader_size 15 (rsT [4]) := fnIs_of (fn := Go.Proofs.Try.f84) Go.Proofs.Try.func84 (by kernel_rfl) (by kernel_rfl) (by kernel_rfl) (by kernel_rfl) (by kernel_rfl)
theorem a_event_reader_size {x0 x1 : V} {H : List Entry} {K : KV} (h : Wf H → awp AP H.length c_event_reader_size (finW H.length (rsT [4]) K) ([x0, x1] ++ List.replicate 13 undefV) H) : BCall AP n_event_reader_size [x0, x1] H K := k_event_reader_size.call (by kernel_rfl) h
/-- (*tryst/event.reader).value: 35 slots -/
def c_event_reader_value : AC := .seq (.ops [⟨some 2, .alloc [.bool false, .int .i64 0, .str []], none⟩])
  (.seq (.seq (.ops [⟨some 6, .mv (.t 0), none⟩,
    ⟨some 7, .nck (.t 6), none⟩,
    ⟨some 8, .fad 1 (.t 7), none⟩,
    ⟨some 9, .load 1 false (.t 8), none⟩,
    ⟨some 10, .bin .neq (.t 9) (.c (.int .i64 0)), none⟩])
  (.cond (.t 10) (.seq (.ops [⟨some 11, .build [.bool false, .int .i64 0, .str []] [], none⟩,
    ⟨none, .store 3 (.t 2) (.t 11), none⟩])
  (.ret)) (.skip)))
  (.seq (.ops [⟨some 13, .mv (.t 0), none⟩,
    ⟨some 14, .nck (.t 13), none⟩,
    ⟨some 15, .fad 0 (.t 14), none⟩,
    ⟨some 16, .load 1 false (.t 15), none⟩,
    ⟨some 17, .call (.c (.fn n_val_Take [] [])) [(.t 16)], none⟩,
    ⟨some 12, .mv (.t 17), none⟩,
    ⟨some 18, .ext (.t 12) 0, none⟩,
    ⟨some 19, .ext (.t 12) 1, none⟩,
    ⟨some 20, .ext (.t 12) 2, none⟩,
    ⟨some 3, .alloc [.bool false, .int .i64 0, .str []], none⟩,
    ⟨none, .store 3 (.t 3) (.t 18), none⟩,
    ⟨some 4, .mv (.t 19), none⟩,
    ⟨some 5, .mv (.t 20), none⟩])
  (.seq (.ops [⟨some 21, .mv (.t 0), none⟩,
    ⟨some 22, .mv (.t 0), none⟩,
    ⟨some 23, .mv (.t 0), none⟩,
    ⟨some 24, .nck (.t 23), none⟩,
    ⟨some 25, .fad 0 (.t 24), none⟩,
    ⟨some 26, .load 1 false (.t 25), none⟩,
    ⟨some 27, .mv (.t 4), none⟩,
    ⟨some 28, .sls (.t 26) (some (.t 27)) none, none⟩,
    ⟨some 29, .mv (.t 5), none⟩,
    ⟨some 30, .nck (.t 21), none⟩,
    ⟨some 31, .fad 0 (.t 30), none⟩,
    ⟨none, .store 1 (.t 31) (.t 28), none⟩,
    ⟨some 32, .nck (.t 22), none⟩,
    ⟨some 33, .fad 1 (.t 32), none⟩,
    ⟨none, .store 1 (.t 33) (.t 29), none⟩])
  (.seq (.ops [⟨some 34, .load 3 true (.t 3), none⟩,
    ⟨none, .store 3 (.t 2) (.t 34), none⟩])
  (.ret)))))
theorem k_event_reader_value : FnIs AP n_event_reader_value c_event_reader_value 35 [.cell 2 3 true] := fnIs_of (fn := Go.Proofs.Try.f85) Go.Proofs.Try.func85 (by kernel_rfl) (by kernel_rfl) (by kernel_rfl) (by kernel_rfl) (by kernel_rfl)
theorem a_event_reader_value {x0 : V} {H : List Entry} {K : KV} (h : Wf H → awp AP H.length c_event_reader_value (finW H.length [.cell 2 3 true] K) ([x0] ++ List.replicate 34 undefV) H) : BCall AP n_event_reader_value [x0] H K := k_event_reader_value.call (by kernel_rfl) h
/-- strings.Contains: 9 slots -/
def c_strings_Contains : AC := .seq (.ops [⟨some 4, .mv (.c (.bool false)), none⟩])
  (.seq (.ops [⟨some 5, .mv (.t 0), none⟩,
    ⟨some 6, .mv (.t 1), none⟩,
    ⟨some 7, .call (.c (.fn n_strings_Index [] [])) [(.t 5), (.t 6)], none⟩,
    ⟨some 8, .bin .geq (.t 7) (.c (.int .i64 0)), none⟩,
    ⟨some 4, .mv (.t 8), none⟩])
  (.ret))
theorem k_strings_Contains : FnIs AP n_strings_Contains c_strings_Contains 9 (rsT [4]) := fnIs_of (fn := Go.Proofs.Try.f86) Go.Proofs.Try.func86 (by kernel_rfl) (by kernel_rfl) (by kernel_rfl) (by kernel_rfl) (by kernel_rfl)
theorem a_strings_Contains {x0 x1 : V} {H : List Entry} {K : KV} (h : Wf H → awp AP H.length c_strings_Contains (finW H.length (rsT [4]) K) ([x0, x1] ++ List.replicate 7 undefV) H) : BCall AP n_strings_Contains [x0, x1] H K := k_strings_Contains.call (by kernel_rfl) h
/-- tryst/event.mayFields$1: 13 slots -/
def c_event_mayFields_1 : AC := .seq (.ops [⟨some 1, .box (.t 0), none⟩,
    ⟨some 2, .mv (.c (.bool false)), none⟩])
  (.seq (.ops [⟨some 3, .fad 0 (.t 1), none⟩,
    ⟨some 4, .load 1 false (.t 3), none⟩,
    ⟨some 5, .call (.c (.fn n_event_Field [] [])) [(.t 4)], none⟩,
    ⟨some 6, .un .not (.t 5), none⟩,
    ⟨some 7, .mv (.t 6), none⟩,
    ⟨some 8, .fad 1 (.t 1), some (7, false)⟩,
    ⟨some 9, .load 3 true (.t 8), some (7, false)⟩,
    ⟨some 10, .call (.c (.fn n_val_May [] [])) [(.t 9)], some (7, false)⟩,
    ⟨some 11, .un .not (.t 10), some (7, false)⟩,
    ⟨some 12, .pick (.t 7) (.c (.bool true)) (.t 11), none⟩,
    ⟨some 2, .mv (.t 12), none⟩])
  (.ret))
theorem k_event_mayFields_1 : FnIs AP n_event_mayFields_1 c_event_mayFields_1 13 (rsT [2]) := fnIs_of (fn := Go.Proofs.Try.f87) Go.Proofs.Try.func87 (by kernel_rfl) (by kernel_rfl) (by kernel_rfl) (by kernel_rfl) (by kernel_rfl)
theorem a_event_mayFields_1 {x0 : V} {H : List Entry} {K : KV} (h : Wf H → awp AP H.length c_event_mayFields_1 (finW H.length (rsT [2]) K) ([x0] ++ List.replicate 12 undefV) H) : BCall AP n_event_mayFields_1 [x0] H K := k_event_mayFields_1.call (by kernel_rfl) h
/-- tryst/event.mayFields$2: 10 slots -/
def c_event_mayFields_2 : AC := .seq (.ops [⟨some 2, .box (.t 0), none⟩,
    ⟨some 3, .box (.t 1), none⟩,
    ⟨some 4, .mv (.c (.int .i64 0)), none⟩])
  (.seq (.ops [⟨some 5, .fad 0 (.t 2), none⟩,
    ⟨some 6, .load 1 false (.t 5), none⟩,
    ⟨some 7, .fad 0 (.t 3), none⟩,
    ⟨some 8, .load 1 false (.t 7), none⟩,
    ⟨some 9, .call (.c (.fn n_cmp_Compare_string [] [])) [(.t 6), (.t 8)], none⟩,
    ⟨some 4, .mv (.t 9), none⟩])
  (.ret))
theorem k_event_mayFields_2 : FnIs AP n_event_mayFields_2 c_event_mayFields_2 10 (rsT [4]) := fnIs_of (fn := Go.Proofs.Try.f88) Go.Proofs.Try.func88 (by kernel_rfl) (by kernel_rfl) (by kernel_rfl) (by kernel_rfl) (by kernel_rfl)
theorem a_event_mayFields_2 {x0 x1 : V} {H : List Entry} {K : KV} (h : Wf H → awp AP H.length c_event_mayFields_2 (finW H.length (rsT [4]) K) ([x0, x1] ++ List.replicate 8 undefV) H) : BCall AP n_event_mayFields_2 [x0, x1] H K := k_event_mayFields_2.call (by kernel_rfl) h
/-- slices.ContainsFunc[[]tryst/api.Field,tryst/api.Field]: 9 slots -/
def c_slices_ContainsFunc_api_Field_api_Field : AC := .seq (.ops [⟨some 4, .mv (.c (.bool false)), none⟩])
  (.seq (.ops [⟨some 5, .mv (.t 0), none⟩,
    ⟨some 6, .mv (.t 1), none⟩,
    ⟨some 7, .call (.c (.fn n_slices_IndexFunc_api_Field_api_Field [] [])) [(.t 5), (.t 6)], none⟩,
    ⟨some 8, .bin .geq (.t 7) (.c (.int .i64 0)), none⟩,
    ⟨some 4, .mv (.t 8), none⟩])
  (.ret))
theorem k_slices_ContainsFunc_api_Field_api_Field : FnIs AP n_slices_ContainsFunc_api_Field_api_Field c_slices_ContainsFunc_api_Field_api_Field 9 (rsT [4]) := fnIs_of (fn := Go.Proofs.Try.f89) Go.Proofs.Try.func89 (by kernel_rfl) (by kernel_rfl) (by kernel_rfl) (by kernel_rfl) (by kernel_rfl)
theorem a_slices_ContainsFunc_api_Field_api_Field {x0 x1 : V} {H : List Entry} {K : KV} (h : Wf H → awp AP H.length c_slices_ContainsFunc_api_Field_api_Field (finW H.length (rsT [4]) K) ([x0, x1] ++ List.replicate 7 undefV) H) : BCall AP n_slices_ContainsFunc_api_Field_api_Field [x0, x1] H K := k_slices_ContainsFunc_api_Field_api_Field.call (by kernel_rfl) h
/-- tryst/list.Rises[tryst/api.Field]: 24 slots -/
def c_list_Rises_api_Field : AC := .seq (.ops [⟨some 4, .mv (.c (.bool false)), none⟩])
  (.seq (.seq (.ops [⟨some 5, .mv (.c (.int .i64 1)), none⟩])
  (.block 0 (.loop (.seq (.seq (.ops [⟨some 6, .mv (.t 5), none⟩,
    ⟨some 7, .mv (.t 0), none⟩,
    ⟨some 8, .len 1 (.t 7), none⟩,
    ⟨some 9, .bin .lss (.t 6) (.t 8), none⟩])
  (.cond (.t 9) (.skip) (.exit 0)))
  (.seq (.block 1 (.seq (.draw [⟨some 12, .mv (.t 1), none⟩,
    ⟨some 13, .mv (.t 0), none⟩,
    ⟨some 14, .mv (.t 5), none⟩,
    ⟨some 15, .bin .sub (.t 14) (.c (.int .i64 1)), none⟩,
    ⟨some 16, .iad 4 true (.t 13) (.t 15), none⟩,
    ⟨some 17, .load 4 true (.t 16), none⟩,
    ⟨some 18, .mv (.t 0), none⟩,
    ⟨some 19, .mv (.t 5), none⟩,
    ⟨some 20, .iad 4 true (.t 18) (.t 19), none⟩,
    ⟨some 21, .load 4 true (.t 20), none⟩,
    ⟨some 22, .dcall (.t 12) [(.t 17), (.t 21)], none⟩,
    ⟨some 23, .bin .geq (.t 22) (.c (.int .i64 0)), none⟩])
  (.cond (.t 23) (.seq (.ops [⟨some 4, .mv (.c (.bool false)), none⟩])
  (.ret)) (.skip))))
  (.ops [⟨some 10, .mv (.t 5), none⟩,
    ⟨some 11, .bin .add (.t 10) (.c (.int .i64 1)), none⟩,
    ⟨some 5, .mv (.t 11), none⟩]))))))
  (.seq (.ops [⟨some 4, .mv (.c (.bool true)), none⟩])
  (.ret)))
theorem k_list_Rises_api_Field : FnIs AP n_list_Rises_api_Field c_list_Rises_api_Field 24 (rsT [4]) := fnIs_of (fn := Go.Proofs.Try.f90) Go.Proofs.Try.func90 (by kernel_rfl) (by kernel_rfl) (by kernel_rfl) (by kernel_rfl) (by kernel_rfl)
theorem a_list_Rises_api_Field {x0 x1 : V} {H : List Entry} {K : KV} (h : Wf H → awp AP H.length c_list_Rises_api_Field (finW H.length (rsT [4]) K) ([x0, x1] ++ List.replicate 22 undefV) H) : BCall AP n_list_Rises_api_Field [x0, x1] H K := k_list_Rises_api_Field.call (by kernel_rfl) h
/-- math/bits.Len64: 25 slots -/
def c_math_bits_Len64 : AC := .seq (.ops [⟨some 2, .mv (.c (.int .i64 0)), none⟩])
  (.seq (.seq (.ops [⟨some 3, .mv (.t 0), none⟩,
    ⟨some 4, .bin .geq (.t 3) (.c (.int .u64 4294967296)), none⟩])
  (.cond (.t 4) (.seq (.ops [⟨some 5, .mv (.t 0), none⟩,
    ⟨some 6, .bin .shr (.t 5) (.c (.int .u64 32)), none⟩,
    ⟨some 0, .mv (.t 6), none⟩])
  (.ops [⟨some 2, .mv (.c (.int .i64 32)), none⟩])) (.skip)))
  (.seq (.seq (.ops [⟨some 7, .mv (.t 0), none⟩,
    ⟨some 8, .bin .geq (.t 7) (.c (.int .u64 65536)), none⟩])
  (.cond (.t 8) (.seq (.ops [⟨some 9, .mv (.t 0), none⟩,
    ⟨some 10, .bin .shr (.t 9) (.c (.int .u64 16)), none⟩,
    ⟨some 0, .mv (.t 10), none⟩])
  (.ops [⟨some 11, .mv (.t 2), none⟩,
    ⟨some 12, .bin .add (.t 11) (.c (.int .i64 16)), none⟩,
    ⟨some 2, .mv (.t 12), none⟩])) (.skip)))
  (.seq (.seq (.ops [⟨some 13, .mv (.t 0), none⟩,
    ⟨some 14, .bin .geq (.t 13) (.c (.int .u64 256)), none⟩])
  (.cond (.t 14) (.seq (.ops [⟨some 15, .mv (.t 0), none⟩,
    ⟨some 16, .bin .shr (.t 15) (.c (.int .u64 8)), none⟩,
    ⟨some 0, .mv (.t 16), none⟩])
  (.ops [⟨some 17, .mv (.t 2), none⟩,
    ⟨some 18, .bin .add (.t 17) (.c (.int .i64 8)), none⟩,
    ⟨some 2, .mv (.t 18), none⟩])) (.skip)))
  (.seq (.ops [⟨some 19, .mv (.t 2), none⟩,
    ⟨some 20, .mv (.t 0), none⟩,
    ⟨some 21, .cvi .u8 (.t 20), none⟩,
    ⟨some 22, .ixs (.c (.str [0, 1, 2, 2, 3, 3, 3, 3, 4, 4, 4, 4, 4, 4, 4, 4, 5, 5, 5, 5, 5, 5, 5, 5, 5, 5, 5, 5, 5, 5, 5, 5, 6, 6, 6, 6, 6, 6, 6, 6, 6, 6, 6, 6, 6, 6, 6, 6, 6, 6, 6, 6, 6, 6, 6, 6, 6, 6, 6, 6, 6, 6, 6, 6, 7, 7, 7, 7, 7, 7, 7, 7, 7, 7, 7, 7, 7, 7, 7, 7, 7, 7, 7, 7, 7, 7, 7, 7, 7, 7, 7, 7, 7, 7, 7, 7, 7, 7, 7, 7, 7, 7, 7, 7, 7, 7, 7, 7, 7, 7, 7, 7, 7, 7, 7, 7, 7, 7, 7, 7, 7, 7, 7, 7, 7, 7, 7, 7, 8, 8, 8, 8, 8, 8, 8, 8, 8, 8, 8, 8, 8, 8, 8, 8, 8, 8, 8, 8, 8, 8, 8, 8, 8, 8, 8, 8, 8, 8, 8, 8, 8, 8, 8, 8, 8, 8, 8, 8, 8, 8, 8, 8, 8, 8, 8, 8, 8, 8, 8, 8, 8, 8, 8, 8, 8, 8, 8, 8, 8, 8, 8, 8, 8, 8, 8, 8, 8, 8, 8, 8, 8, 8, 8, 8, 8, 8, 8, 8, 8, 8, 8, 8, 8, 8, 8, 8, 8, 8, 8, 8, 8, 8, 8, 8, 8, 8, 8, 8, 8, 8, 8, 8, 8, 8, 8, 8, 8, 8, 8, 8, 8, 8, 8, 8, 8, 8, 8, 8, 8, 8, 8, 8, 8, 8, 8, 8])) (.t 21), none⟩,
    ⟨some 23, .cvi .i64 (.t 22), none⟩,
    ⟨some 24, .bin .add (.t 19) (.t 23), none⟩,
    ⟨some 2, .mv (.t 24), none⟩])
  (.ret)))))
theorem k_math_bits_Len64 : FnIs AP n_math_bits_Len64 c_math_bits_Len64 25 (rsT [2]) := fnIs_of (fn := Go.Proofs.Try.f91) Go.Proofs.Try.func91 (by kernel_rfl) (by kernel_rfl) (by kernel_rfl) (by kernel_rfl) (by kernel_rfl)
theorem a_math_bits_Len64 {x0 : V} {H : List Entry} {K : KV} (h : Wf H → awp AP H.length c_math_bits_Len64 (finW H.length (rsT [2]) K) ([x0] ++ List.replicate 24 undefV) H) : BCall AP n_math_bits_Len64 [x0] H K := k_math_bits_Len64.call (by kernel_rfl) h
/-- slices.Grow[[]tryst/api.Topic,tryst/api.Topic]: 27 slots -/
def c_slices_Grow_api_Topic_api_Topic : AC := .seq (.ops [⟨some 4, .mv (.c (.nilsl)), none⟩])
  (.seq (.seq (.ops [⟨some 5, .mv (.t 1), none⟩,
    ⟨some 6, .bin .lss (.t 5) (.c (.int .i64 0)), none⟩])
  (.cond (.t 6) (.bad) (.skip)))
  (.seq (.seq (.bad)
  (.seq (.ops [⟨some 15, .mv (.t 1), none⟩,
    ⟨some 16, .bin .gtr (.t 15) (.c (.int .i64 0)), none⟩])
  (.cond (.t 16) (.bad) (.skip))))
  (.seq (.ops [⟨some 26, .mv (.t 0), none⟩,
    ⟨some 4, .mv (.t 26), none⟩])
  (.ret))))
theorem k_slices_Grow_api_Topic_api_Topic : FnIs AP n_slices_Grow_api_Topic_api_Topic c_slices_Grow_api_Topic_api_Topic 27 (rsT [4]) := fnIs_of (fn := Go.Proofs.Try.f92) Go.Proofs.Try.func92 (by kernel_rfl) (by kernel_rfl) (by kernel_rfl) (by kernel_rfl) (by kernel_rfl)
theorem a_slices_Grow_api_Topic_api_Topic {x0 x1 : V} {H : List Entry} {K : KV} (h : Wf H → awp AP H.length c_slices_Grow_api_Topic_api_Topic (finW H.length (rsT [4]) K) ([x0, x1] ++ List.replicate 25 undefV) H) : BCall AP n_slices_Grow_api_Topic_api_Topic [x0, x1] H K := k_slices_Grow_api_Topic_api_Topic.call (by kernel_rfl) h
-- 92 slices.Grow[[]tryst/api.Topic,tryst/api.Topic]: [slices.go:424, slices.go:424, slices.go:426, slices.go:428, slices.go:428]
/-- tryst/name.allParts$1: 23 slots -/
def c_name_allParts_1 : AC := .seq (.ops [⟨some 6, .mv (.c (.bool false)), none⟩])
  (.seq (.ops [⟨some 8, .load 1 false (.t 1), none⟩,
    ⟨some 9, .load 1 false (.t 2), none⟩,
    ⟨some 10, .mv (.t 0), none⟩,
    ⟨some 11, .sls (.t 8) (some (.t 9)) (some (.t 10)), none⟩,
    ⟨some 7, .mv (.t 11), none⟩])
  (.seq (.ops [⟨some 12, .mv (.t 0), none⟩,
    ⟨some 13, .bin .add (.t 12) (.c (.int .i64 1)), none⟩,
    ⟨none, .store 1 (.t 2) (.t 13), none⟩])
  (.seq (.ops [⟨some 14, .load 1 false (.t 3), none⟩,
    ⟨some 15, .bin .add (.t 14) (.c (.int .i64 1)), none⟩,
    ⟨none, .store 1 (.t 3) (.t 15), none⟩])
  (.seq (.ops [⟨some 16, .load 1 false (.t 4), none⟩,
    ⟨some 17, .mv (.t 7), none⟩,
    ⟨some 18, .call (.t 16) [(.t 17)], none⟩,
    ⟨some 19, .mv (.t 18), none⟩,
    ⟨some 20, .load 1 false (.t 3), some (19, true)⟩,
    ⟨some 21, .bin .leq (.t 20) (.c (.int .i64 8)), some (19, true)⟩,
    ⟨some 22, .pick (.t 19) (.t 21) (.c (.bool false)), none⟩,
    ⟨some 6, .mv (.t 22), none⟩])
  (.ret)))))
theorem k_name_allParts_1 : FnIs AP n_name_allParts_1 c_name_allParts_1 23 (rsT [6]) := fnIs_of (fn := Go.Proofs.Try.f93) Go.Proofs.Try.func93 (by kernel_rfl) (by kernel_rfl) (by kernel_rfl) (by kernel_rfl) (by kernel_rfl)
theorem a_name_allParts_1 {x0 x1 x2 x3 x4 : V} {H : List Entry} {K : KV} (h : Wf H → awp AP H.length c_name_allParts_1 (finW H.length (rsT [6]) K) ([x0, x1, x2, x3, x4] ++ List.replicate 18 undefV) H) : BCall AP n_name_allParts_1 [x0, x1, x2, x3, x4] H K := k_name_allParts_1.call (by kernel_rfl) h
/-- tryst/name.allRunes: 16 slots -/
def c_name_allRunes : AC := .seq (.ops [⟨some 4, .mv (.c (.bool false)), none⟩])
  (.seq (.seq (.ops [⟨some 7, .mv (.t 0), none⟩,
    ⟨some 8, .rng (.t 7), none⟩])
  (.block 0 (.loop (.seq (.ops [⟨some 9, .nxt true (.t 8), none⟩,
    ⟨some 10, .ext (.t 9) 0, none⟩])
  (.seq (.cond (.t 10) (.skip) (.exit 0))
  (.block 1 (.seq (.ops [⟨some 11, .ext (.t 9) 2, none⟩,
    ⟨some 6, .mv (.t 11), none⟩])
  (.seq (.ops [⟨some 12, .mv (.t 1), none⟩,
    ⟨some 13, .mv (.t 6), none⟩,
    ⟨some 14, .call (.t 12) [(.t 13)], none⟩,
    ⟨some 15, .un .not (.t 14), none⟩])
  (.cond (.t 15) (.seq (.ops [⟨some 4, .mv (.c (.bool false)), none⟩])
  (.ret)) (.skip))))))))))
  (.seq (.ops [⟨some 4, .mv (.c (.bool true)), none⟩])
  (.ret)))
theorem k_name_allRunes : FnIs AP n_name_allRunes c_name_allRunes 16 (rsT [4]) := fnIs_of (fn := Go.Proofs.Try.f94) Go.Proofs.Try.func94 (by kernel_rfl) (by kernel_rfl) (by kernel_rfl) (by kernel_rfl) (by kernel_rfl)
theorem a_name_allRunes {x0 x1 : V} {H : List Entry} {K : KV} (h : Wf H → awp AP H.length c_name_allRunes (finW H.length (rsT [4]) K) ([x0, x1] ++ List.replicate 14 undefV) H) : BCall AP n_name_allRunes [x0, x1] H K := k_name_allRunes.call (by kernel_rfl) h
/-- tryst/name.isPart$1: 21 slots -/
def c_name_isPart_1 : AC := .seq (.ops [⟨some 2, .mv (.c (.bool false)), none⟩])
  (.seq (.ops [⟨some 3, .mv (.t 0), none⟩,
    ⟨some 4, .bin .leq (.c (.int .i32 97)) (.t 3), none⟩,
    ⟨some 5, .mv (.t 4), none⟩,
    ⟨some 6, .mv (.t 0), some (5, true)⟩,
    ⟨some 7, .bin .leq (.t 6) (.c (.int .i32 122)), some (5, true)⟩,
    ⟨some 8, .pick (.t 5) (.t 7) (.c (.bool false)), none⟩,
    ⟨some 9, .mv (.t 8), none⟩,
    ⟨some 10, .mv (.t 0), some (9, false)⟩,
    ⟨some 11, .bin .leq (.c (.int .i32 48)) (.t 10), some (9, false)⟩,
    ⟨some 12, .mv (.t 11), some (9, false)⟩,
    ⟨some 13, .mv (.t 0), some (12, true)⟩,
    ⟨some 14, .bin .leq (.t 13) (.c (.int .i32 57)), some (12, true)⟩,
    ⟨some 15, .pick (.t 12) (.t 14) (.c (.bool false)), some (9, false)⟩,
    ⟨some 16, .pick (.t 9) (.c (.bool true)) (.t 15), none⟩,
    ⟨some 17, .mv (.t 16), none⟩,
    ⟨some 18, .mv (.t 0), some (17, false)⟩,
    ⟨some 19, .bin .eql (.t 18) (.c (.int .i32 95)), some (17, false)⟩,
    ⟨some 20, .pick (.t 17) (.c (.bool true)) (.t 19), none⟩,
    ⟨some 2, .mv (.t 20), none⟩])
  (.ret))
theorem k_name_isPart_1 : FnIs AP n_name_isPart_1 c_name_isPart_1 21 (rsT [2]) := fnIs_of (fn := Go.Proofs.Try.f95) Go.Proofs.Try.func95 (by kernel_rfl) (by kernel_rfl) (by kernel_rfl) (by kernel_rfl) (by kernel_rfl)
theorem a_name_isPart_1 {x0 : V} {H : List Entry} {K : KV} (h : Wf H → awp AP H.length c_name_isPart_1 (finW H.length (rsT [2]) K) ([x0] ++ List.replicate 20 undefV) H) : BCall AP n_name_isPart_1 [x0] H K := k_name_isPart_1.call (by kernel_rfl) h
/-- tryst/num.Unpack: 40 slots -/
def c_num_Unpack : AC := .seq (.ops [⟨some 2, .mv (.c (.int .u64 0)), none⟩,
    ⟨some 3, .mv (.c (.int .i64 0)), none⟩,
    ⟨some 4, .mv (.c (.int .i64 0)), none⟩])
  (.seq (.ops [⟨some 5, .mv (.c (.int .u64 0)), none⟩])
  (.seq (.seq (.ops [⟨some 7, .mv (.t 0), none⟩,
    ⟨some 8, .len 0 (.t 7), none⟩,
    ⟨some 9, .mnx true [(.t 8), (.c (.int .i64 10))], none⟩,
    ⟨some 10, .mv (.c (.int .i64 0)), none⟩])
  (.block 0 (.loop (.seq (.ops [⟨some 11, .bin .lss (.t 10) (.t 9), none⟩])
  (.seq (.cond (.t 11) (.skip) (.exit 0))
  (.seq (.block 1 (.seq (.ops [⟨some 12, .mv (.t 10), none⟩,
    ⟨some 6, .mv (.t 12), none⟩])
  (.seq (.ops [⟨some 13, .mv (.t 5), none⟩,
    ⟨some 14, .mv (.t 0), none⟩,
    ⟨some 15, .mv (.t 6), none⟩,
    ⟨some 16, .ixs (.t 14) (.t 15), none⟩,
    ⟨some 17, .bin .and (.t 16) (.c (.int .u8 127)), none⟩,
    ⟨some 18, .cvi .u64 (.t 17), none⟩,
    ⟨some 19, .mv (.t 6), none⟩,
    ⟨some 20, .bin .mul (.c (.int .i64 7)) (.t 19), none⟩,
    ⟨some 21, .bin .shl (.t 18) (.t 20), none⟩,
    ⟨some 22, .bin .or (.t 13) (.t 21), none⟩,
    ⟨some 5, .mv (.t 22), none⟩])
  (.seq (.seq (.ops [⟨some 23, .mv (.t 0), none⟩,
    ⟨some 24, .mv (.t 6), none⟩,
    ⟨some 25, .ixs (.t 23) (.t 24), none⟩,
    ⟨some 26, .bin .geq (.t 25) (.c (.int .u8 128)), none⟩])
  (.cond (.t 26) (.exit 1) (.skip)))
  (.seq (.seq (.ops [⟨some 27, .mv (.t 6), none⟩,
    ⟨some 28, .mv (.t 0), none⟩,
    ⟨some 29, .mv (.t 6), none⟩,
    ⟨some 30, .ixs (.t 28) (.t 29), none⟩,
    ⟨some 31, .call (.c (.fn n_num_mayEnd [] [])) [(.t 27), (.t 30)], none⟩,
    ⟨some 32, .un .not (.t 31), none⟩])
  (.cond (.t 32) (.seq (.ops [⟨some 2, .mv (.c (.int .u64 0)), none⟩,
    ⟨some 3, .mv (.c (.int .i64 0)), none⟩,
    ⟨some 4, .mv (.c (.int .i64 2)), none⟩])
  (.ret)) (.skip)))
  (.seq (.ops [⟨some 33, .mv (.t 5), none⟩,
    ⟨some 34, .mv (.t 6), none⟩,
    ⟨some 35, .bin .add (.t 34) (.c (.int .i64 1)), none⟩,
    ⟨some 2, .mv (.t 33), none⟩,
    ⟨some 3, .mv (.t 35), none⟩,
    ⟨some 4, .mv (.c (.int .i64 0)), none⟩])
  (.ret)))))))
  (.ops [⟨some 36, .bin .add (.t 10) (.c (.int .i64 1)), none⟩,
    ⟨some 10, .mv (.t 36), none⟩])))))))
  (.seq (.seq (.ops [⟨some 37, .mv (.t 0), none⟩,
    ⟨some 38, .len 0 (.t 37), none⟩,
    ⟨some 39, .bin .lss (.t 38) (.c (.int .i64 10)), none⟩])
  (.cond (.t 39) (.seq (.ops [⟨some 2, .mv (.c (.int .u64 0)), none⟩,
    ⟨some 3, .mv (.c (.int .i64 0)), none⟩,
    ⟨some 4, .mv (.c (.int .i64 3)), none⟩])
  (.ret)) (.skip)))
  (.seq (.ops [⟨some 2, .mv (.c (.int .u64 0)), none⟩,
    ⟨some 3, .mv (.c (.int .i64 0)), none⟩,
    ⟨some 4, .mv (.c (.int .i64 2)), none⟩])
  (.ret)))))
theorem k_num_Unpack : FnIs AP n_num_Unpack c_num_Unpack 40 (rsT [2, 3, 4]) := fnIs_of (fn := Go.Proofs.Try.f96) Go.Proofs.Try.func96 (by kernel_rfl) (by kernel_rfl) (by kernel_rfl) (by kernel_rfl) (by kernel_rfl)
theorem a_num_Unpack {x0 : V} {H : List Entry} {K : KV} (h : Wf H → awp AP H.length c_num_Unpack (finW H.length (rsT [2, 3, 4]) K) ([x0] ++ List.replicate 39 undefV) H) : BCall AP n_num_Unpack [x0] H K := k_num_Unpack.call (by kernel_rfl) h
/-- tryst/val.Take: 47 slots -/
def c_val_Take : AC := .seq (.ops [⟨some 2, .alloc [.bool false, .int .i64 0, .str []], none⟩,
    ⟨some 3, .mv (.c (.int .i64 0)), none⟩,
    ⟨some 4, .mv (.c (.int .i64 0)), none⟩])
  (.seq (.seq (.ops [⟨some 9, .mv (.t 0), none⟩,
    ⟨some 10, .bin .eql (.t 9) (.c (.str [])), none⟩])
  (.cond (.t 10) (.seq (.ops [⟨some 11, .build [.bool false, .int .i64 0, .str []] [], none⟩,
    ⟨none, .store 3 (.t 2) (.t 11), none⟩,
    ⟨some 3, .mv (.c (.int .i64 0)), none⟩,
    ⟨some 4, .mv (.c (.int .i64 3)), none⟩])
  (.ret)) (.skip)))
  (.seq (.ops [⟨some 12, .mv (.t 0), none⟩,
    ⟨some 13, .sls (.t 12) none (some (.c (.int .i64 1))), none⟩,
    ⟨some 5, .mv (.t 13), none⟩])
  (.seq (.seq (.ops [⟨some 14, .mv (.t 5), none⟩,
    ⟨some 15, .bin .neq (.t 14) (.c (.str [1])), none⟩,
    ⟨some 16, .mv (.t 15), none⟩,
    ⟨some 17, .mv (.t 5), some (16, true)⟩,
    ⟨some 18, .bin .neq (.t 17) (.c (.str [2])), some (16, true)⟩,
    ⟨some 19, .pick (.t 16) (.t 18) (.c (.bool false)), none⟩])
  (.cond (.t 19) (.seq (.ops [⟨some 20, .build [.bool false, .int .i64 0, .str []] [], none⟩,
    ⟨none, .store 3 (.t 2) (.t 20), none⟩,
    ⟨some 3, .mv (.c (.int .i64 0)), none⟩,
    ⟨some 4, .mv (.c (.int .i64 2)), none⟩])
  (.ret)) (.skip)))
  (.seq (.ops [⟨some 22, .mv (.t 0), none⟩,
    ⟨some 23, .sls (.t 22) (some (.c (.int .i64 1))) none, none⟩,
    ⟨some 24, .call (.c (.fn n_num_Unpack [] [])) [(.t 23)], none⟩,
    ⟨some 21, .mv (.t 24), none⟩,
    ⟨some 25, .ext (.t 21) 0, none⟩,
    ⟨some 26, .ext (.t 21) 1, none⟩,
    ⟨some 27, .ext (.t 21) 2, none⟩,
    ⟨some 6, .mv (.t 25), none⟩,
    ⟨some 7, .mv (.t 26), none⟩,
    ⟨some 8, .mv (.t 27), none⟩])
  (.seq (.seq (.ops [⟨some 28, .mv (.t 8), none⟩,
    ⟨some 29, .bin .neq (.t 28) (.c (.int .i64 0)), none⟩])
  (.cond (.t 29) (.seq (.ops [⟨some 30, .build [.bool false, .int .i64 0, .str []] [], none⟩,
    ⟨some 31, .mv (.t 8), none⟩,
    ⟨none, .store 3 (.t 2) (.t 30), none⟩,
    ⟨some 3, .mv (.c (.int .i64 0)), none⟩,
    ⟨some 4, .mv (.t 31), none⟩])
  (.ret)) (.skip)))
  (.seq (.seq (.ops [⟨some 32, .mv (.t 5), none⟩,
    ⟨some 33, .bin .eql (.t 32) (.c (.str [1])), none⟩])
  (.cond (.t 33) (.seq (.ops [⟨some 34, .mv (.t 6), none⟩,
    ⟨some 35, .call (.c (.fn n_num_Unfold [] [])) [(.t 34)], none⟩,
    ⟨some 36, .build [.bool false, .int .i64 0, .str []] [(0, 1, (.c (.bool true))), (1, 1, (.t 35))], none⟩,
    ⟨some 37, .mv (.t 7), none⟩,
    ⟨some 38, .bin .add (.c (.int .i64 1)) (.t 37), none⟩,
    ⟨none, .store 3 (.t 2) (.t 36), none⟩,
    ⟨some 3, .mv (.t 38), none⟩,
    ⟨some 4, .mv (.c (.int .i64 0)), none⟩])
  (.ret)) (.skip)))
  (.seq (.ops [⟨some 39, .mv (.t 0), none⟩,
    ⟨some 40, .mv (.t 7), none⟩,
    ⟨some 41, .bin .add (.c (.int .i64 1)) (.t 40), none⟩,
    ⟨some 42, .mv (.t 6), none⟩,
    ⟨some 43, .call (.c (.fn n_val_takeText [] [])) [(.t 39), (.t 41), (.t 42)], none⟩,
    ⟨some 44, .ext (.t 43) 0, none⟩,
    ⟨some 45, .ext (.t 43) 1, none⟩,
    ⟨some 46, .ext (.t 43) 2, none⟩,
    ⟨none, .store 3 (.t 2) (.t 44), none⟩,
    ⟨some 3, .mv (.t 45), none⟩,
    ⟨some 4, .mv (.t 46), none⟩])
  (.ret))))))))
theorem k_val_Take : FnIs AP n_val_Take c_val_Take 47 [.cell 2 3 true, .tmp 3, .tmp 4] := fnIs_of (fn := Go.Proofs.Try.f97) Go.Proofs.Try.func97 (by kernel_rfl) (by kernel_rfl) (by kernel_rfl) (by kernel_rfl) (by kernel_rfl)
theorem a_val_Take {x0 : V} {H : List Entry} {K : KV} (h : Wf H → awp AP H.length c_val_Take (finW H.length [.cell 2 3 true, .tmp 3, .tmp 4] K) ([x0] ++ List.replicate 46 undefV) H) : BCall AP n_val_Take [x0] H K := k_val_Take.call (by kernel_rfl) h
/-- strings.Index: 8 slots -/
def c_strings_Index : AC := .seq (.ops [⟨some 4, .mv (.c (.int .i64 0)), none⟩])
  (.seq (.ops [⟨some 5, .mv (.t 0), none⟩,
    ⟨some 6, .mv (.t 1), none⟩,
    ⟨some 7, .call (.c (.fn n_internal_stringslite_Index [] [])) [(.t 5), (.t 6)], none⟩,
    ⟨some 4, .mv (.t 7), none⟩])
  (.ret))
theorem k_strings_Index : FnIs AP n_strings_Index c_strings_Index 8 (rsT [4]) := fnIs_of (fn := Go.Proofs.Try.f98) Go.Proofs.Try.func98 (by kernel_rfl) (by kernel_rfl) (by kernel_rfl) (by kernel_rfl) (by kernel_rfl)
theorem a_strings_Index {x0 x1 : V} {H : List Entry} {K : KV} (h : Wf H → awp AP H.length c_strings_Index (finW H.length (rsT [4]) K) ([x0, x1] ++ List.replicate 6 undefV) H) : BCall AP n_strings_Index [x0, x1] H K := k_strings_Index.call (by kernel_rfl) h
/-- slices.IndexFunc[[]tryst/api.Field,tryst/api.Field]: 19 slots -/
def c_slices_IndexFunc_api_Field_api_Field : AC := .seq (.ops [⟨some 4, .mv (.c (.int .i64 0)), none⟩])
  (.seq (.seq (.ops [⟨some 6, .mv (.t 0), none⟩,
    ⟨some 7, .len 1 (.t 6), none⟩,
    ⟨some 8, .mv (.c (.int .i64 0)), none⟩])
  (.block 0 (.loop (.seq (.ops [⟨some 9, .bin .lss (.t 8) (.t 7), none⟩])
  (.seq (.cond (.t 9) (.skip) (.exit 0))
  (.seq (.block 1 (.seq (.ops [⟨some 10, .mv (.t 8), none⟩,
    ⟨some 5, .mv (.t 10), none⟩])
  (.seq (.ops [⟨some 11, .mv (.t 1), none⟩,
    ⟨some 12, .mv (.t 0), none⟩,
    ⟨some 13, .mv (.t 5), none⟩,
    ⟨some 14, .iad 4 true (.t 12) (.t 13), none⟩,
    ⟨some 15, .load 4 true (.t 14), none⟩,
    ⟨some 16, .call (.t 11) [(.t 15)], none⟩])
  (.cond (.t 16) (.seq (.ops [⟨some 17, .mv (.t 5), none⟩,
    ⟨some 4, .mv (.t 17), none⟩])
  (.ret)) (.skip)))))
  (.ops [⟨some 18, .bin .add (.t 8) (.c (.int .i64 1)), none⟩,
    ⟨some 8, .mv (.t 18), none⟩])))))))
  (.seq (.ops [⟨some 4, .mv (.c (.int .i64 (-1))), none⟩])
  (.ret)))
theorem k_slices_IndexFunc_api_Field_api_Field : FnIs AP n_slices_IndexFunc_api_Field_api_Field c_slices_IndexFunc_api_Field_api_Field 19 (rsT [4]) := fnIs_of (fn := Go.Proofs.Try.f99) Go.Proofs.Try.func99 (by kernel_rfl) (by kernel_rfl) (by kernel_rfl) (by kernel_rfl) (by kernel_rfl)
theorem a_slices_IndexFunc_api_Field_api_Field {x0 x1 : V} {H : List Entry} {K : KV} (h : Wf H → awp AP H.length c_slices_IndexFunc_api_Field_api_Field (finW H.length (rsT [4]) K) ([x0, x1] ++ List.replicate 17 undefV) H) : BCall AP n_slices_IndexFunc_api_Field_api_Field [x0, x1] H K := k_slices_IndexFunc_api_Field_api_Field.call (by kernel_rfl) h
/-- tryst/num.mayEnd: 15 slots -/
def c_num_mayEnd : AC := .seq (.ops [⟨some 4, .mv (.c (.bool false)), none⟩])
  (.seq (.seq (.ops [⟨some 5, .mv (.t 0), none⟩,
    ⟨some 6, .bin .eql (.t 5) (.c (.int .i64 9)), none⟩])
  (.cond (.t 6) (.seq (.ops [⟨some 7, .mv (.t 1), none⟩,
    ⟨some 8, .bin .eql (.t 7) (.c (.int .u8 1)), none⟩,
    ⟨some 4, .mv (.t 8), none⟩])
  (.ret)) (.skip)))
  (.seq (.ops [⟨some 9, .mv (.t 0), none⟩,
    ⟨some 10, .bin .eql (.t 9) (.c (.int .i64 0)), none⟩,
    ⟨some 11, .mv (.t 10), none⟩,
    ⟨some 12, .mv (.t 1), some (11, false)⟩,
    ⟨some 13, .bin .neq (.t 12) (.c (.int .u8 0)), some (11, false)⟩,
    ⟨some 14, .pick (.t 11) (.c (.bool true)) (.t 13), none⟩,
    ⟨some 4, .mv (.t 14), none⟩])
  (.ret)))
theorem k_num_mayEnd : FnIs AP n_num_mayEnd c_num_mayEnd 15 (rsT [4]) := fnIs_of (fn := Go.Proofs.Try.f100) Go.Proofs.Try.func100 (by kernel_rfl) (by kernel_rfl) (by kernel_rfl) (by kernel_rfl) (by kernel_rfl)
theorem a_num_mayEnd {x0 x1 : V} {H : List Entry} {K : KV} (h : Wf H → awp AP H.length c_num_mayEnd (finW H.length (rsT [4]) K) ([x0, x1] ++ List.replicate 13 undefV) H) : BCall AP n_num_mayEnd [x0, x1] H K := k_num_mayEnd.call (by kernel_rfl) h
/-- tryst/num.Unfold: 13 slots -/
def c_num_Unfold : AC := .seq (.ops [⟨some 2, .mv (.c (.int .i64 0)), none⟩])
  (.seq (.seq (.ops [⟨some 3, .mv (.t 0), none⟩,
    ⟨some 4, .bin .and (.t 3) (.c (.int .u64 1)), none⟩,
    ⟨some 5, .bin .eql (.t 4) (.c (.int .u64 1)), none⟩])
  (.cond (.t 5) (.seq (.ops [⟨some 6, .mv (.t 0), none⟩,
    ⟨some 7, .bin .shr (.t 6) (.c (.int .u64 1)), none⟩,
    ⟨some 8, .cvi .i64 (.t 7), none⟩,
    ⟨some 9, .un .xor (.t 8), none⟩,
    ⟨some 2, .mv (.t 9), none⟩])
  (.ret)) (.skip)))
  (.seq (.ops [⟨some 10, .mv (.t 0), none⟩,
    ⟨some 11, .bin .shr (.t 10) (.c (.int .u64 1)), none⟩,
    ⟨some 12, .cvi .i64 (.t 11), none⟩,
    ⟨some 2, .mv (.t 12), none⟩])
  (.ret)))
theorem k_num_Unfold : FnIs AP n_num_Unfold c_num_Unfold 13 (rsT [2]) := fnIs_of (fn := Go.Proofs.Try.f101) Go.Proofs.Try.func101 (by kernel_rfl) (by kernel_rfl) (by kernel_rfl) (by kernel_rfl) (by kernel_rfl)
theorem a_num_Unfold {x0 : V} {H : List Entry} {K : KV} (h : Wf H → awp AP H.length c_num_Unfold (finW H.length (rsT [2]) K) ([x0] ++ List.replicate 12 undefV) H) : BCall AP n_num_Unfold [x0] H K := k_num_Unfold.call (by kernel_rfl) h
/-- tryst/val.takeText: 28 slots -/
def c_val_takeText : AC := .seq (.ops [⟨some 6, .alloc [.bool false, .int .i64 0, .str []], none⟩,
    ⟨some 7, .mv (.c (.int .i64 0)), none⟩,
    ⟨some 8, .mv (.c (.int .i64 0)), none⟩])
  (.seq (.seq (.ops [⟨some 10, .mv (.t 2), none⟩,
    ⟨some 11, .bin .gtr (.t 10) (.c (.int .u64 60)), none⟩])
  (.cond (.t 11) (.seq (.ops [⟨some 12, .build [.bool false, .int .i64 0, .str []] [], none⟩,
    ⟨none, .store 3 (.t 6) (.t 12), none⟩,
    ⟨some 7, .mv (.c (.int .i64 0)), none⟩,
    ⟨some 8, .mv (.c (.int .i64 2)), none⟩])
  (.ret)) (.skip)))
  (.seq (.ops [⟨some 13, .mv (.t 1), none⟩,
    ⟨some 14, .mv (.t 2), none⟩,
    ⟨some 15, .cvi .i64 (.t 14), none⟩,
    ⟨some 16, .bin .add (.t 13) (.t 15), none⟩,
    ⟨some 9, .mv (.t 16), none⟩])
  (.seq (.seq (.ops [⟨some 17, .mv (.t 9), none⟩,
    ⟨some 18, .mv (.t 0), none⟩,
    ⟨some 19, .len 0 (.t 18), none⟩,
    ⟨some 20, .bin .gtr (.t 17) (.t 19), none⟩])
  (.cond (.t 20) (.seq (.ops [⟨some 21, .build [.bool false, .int .i64 0, .str []] [], none⟩,
    ⟨none, .store 3 (.t 6) (.t 21), none⟩,
    ⟨some 7, .mv (.c (.int .i64 0)), none⟩,
    ⟨some 8, .mv (.c (.int .i64 3)), none⟩])
  (.ret)) (.skip)))
  (.seq (.ops [⟨some 22, .mv (.t 0), none⟩,
    ⟨some 23, .mv (.t 1), none⟩,
    ⟨some 24, .mv (.t 9), none⟩,
    ⟨some 25, .sls (.t 22) (some (.t 23)) (some (.t 24)), none⟩,
    ⟨some 26, .build [.bool false, .int .i64 0, .str []] [(2, 1, (.t 25))], none⟩,
    ⟨some 27, .mv (.t 9), none⟩,
    ⟨none, .store 3 (.t 6) (.t 26), none⟩,
    ⟨some 7, .mv (.t 27), none⟩,
    ⟨some 8, .mv (.c (.int .i64 0)), none⟩])
  (.ret)))))
theorem k_val_takeText : FnIs AP n_val_takeText c_val_takeText 28 [.cell 6 3 true, .tmp 7, .tmp 8] := fnIs_of (fn := Go.Proofs.Try.f102) Go.Proofs.Try.func102 (by kernel_rfl) (by kernel_rfl) (by kernel_rfl) (by kernel_rfl) (by kernel_rfl)
theorem a_val_takeText {x0 x1 x2 : V} {H : List Entry} {K : KV} (h : Wf H → awp AP H.length c_val_takeText (finW H.length [.cell 6 3 true, .tmp 7, .tmp 8] K) ([x0, x1, x2] ++ List.replicate 25 undefV) H) : BCall AP n_val_takeText [x0, x1, x2] H K := k_val_takeText.call (by kernel_rfl) h
/-- internal/stringslite.Index: 143 slots -/
def c_internal_stringslite_Index : AC := .seq (.ops [⟨some 4, .mv (.c (.int .i64 0)), none⟩])
  (.seq (.ops [⟨some 14, .mv (.t 1), none⟩,
    ⟨some 15, .len 0 (.t 14), none⟩,
    ⟨some 5, .mv (.t 15), none⟩])
  (.seq (.block 0 (.seq (.ops [⟨some 17, .mv (.t 5), none⟩,
    ⟨some 18, .bin .eql (.t 17) (.c (.int .i64 0)), none⟩,
    ⟨some 19, .mv (.t 18), none⟩,
    ⟨some 20, .mv (.t 1), some (19, false)⟩,
    ⟨some 21, .mv (.t 0), some (19, false)⟩,
    ⟨some 22, .bin .eql (.t 20) (.t 21), some (19, false)⟩,
    ⟨some 23, .pick (.t 19) (.c (.bool true)) (.t 22), none⟩,
    ⟨some 16, .mv (.t 23), none⟩])
  (.cond (.t 16) (.seq (.ops [⟨some 4, .mv (.c (.int .i64 0)), none⟩])
  (.ret)) (.seq (.ops [⟨some 25, .mv (.t 5), none⟩,
    ⟨some 26, .bin .eql (.t 25) (.c (.int .i64 1)), none⟩,
    ⟨some 24, .mv (.t 26), none⟩])
  (.cond (.t 24) (.seq (.ops [⟨some 27, .mv (.t 0), none⟩,
    ⟨some 28, .mv (.t 1), none⟩,
    ⟨some 29, .ixs (.t 28) (.c (.int .i64 0)), none⟩,
    ⟨some 30, .call (.c (.fn n_internal_stringslite_IndexByte [] [])) [(.t 27), (.t 29)], none⟩,
    ⟨some 4, .mv (.t 30), none⟩])
  (.ret)) (.seq (.ops [⟨some 32, .mv (.t 5), none⟩,
    ⟨some 33, .mv (.t 0), none⟩,
    ⟨some 34, .len 0 (.t 33), none⟩,
    ⟨some 35, .bin .geq (.t 32) (.t 34), none⟩,
    ⟨some 31, .mv (.t 35), none⟩])
  (.cond (.t 31) (.seq (.ops [⟨some 4, .mv (.c (.int .i64 (-1))), none⟩])
  (.ret)) (.seq (.bad)
  (.cond (.t 36) (.seq (.ops [⟨some 45, .mv (.t 0), none⟩,
    ⟨some 46, .mv (.t 1), none⟩,
    ⟨some 47, .call (.c (.fn n_internal_bytealg_IndexString [] [])) [(.t 45), (.t 46)], none⟩,
    ⟨some 4, .mv (.t 47), none⟩])
  (.ret)) (.skip))))))))))
  (.seq (.ops [⟨some 48, .mv (.t 1), none⟩,
    ⟨some 49, .ixs (.t 48) (.c (.int .i64 0)), none⟩,
    ⟨some 6, .mv (.t 49), none⟩])
  (.seq (.ops [⟨some 50, .mv (.t 1), none⟩,
    ⟨some 51, .ixs (.t 50) (.c (.int .i64 1)), none⟩,
    ⟨some 7, .mv (.t 51), none⟩])
  (.seq (.ops [⟨some 8, .mv (.c (.int .i64 0)), none⟩])
  (.seq (.ops [⟨some 52, .mv (.t 0), none⟩,
    ⟨some 53, .len 0 (.t 52), none⟩,
    ⟨some 54, .mv (.t 5), none⟩,
    ⟨some 55, .bin .sub (.t 53) (.t 54), none⟩,
    ⟨some 56, .bin .add (.t 55) (.c (.int .i64 1)), none⟩,
    ⟨some 9, .mv (.t 56), none⟩])
  (.seq (.ops [⟨some 10, .mv (.c (.int .i64 0)), none⟩])
  (.seq (.block 1 (.loop (.seq (.seq (.ops [⟨some 57, .mv (.t 8), none⟩,
    ⟨some 58, .mv (.t 9), none⟩,
    ⟨some 59, .bin .lss (.t 57) (.t 58), none⟩])
  (.cond (.t 59) (.skip) (.exit 1)))
  (.block 2 (.seq (.seq (.ops [⟨some 60, .mv (.t 0), none⟩,
    ⟨some 61, .mv (.t 8), none⟩,
    ⟨some 62, .ixs (.t 60) (.t 61), none⟩,
    ⟨some 63, .mv (.t 6), none⟩,
    ⟨some 64, .bin .neq (.t 62) (.t 63), none⟩])
  (.cond (.t 64) (.seq (.ops [⟨some 65, .mv (.t 0), none⟩,
    ⟨some 66, .mv (.t 8), none⟩,
    ⟨some 67, .bin .add (.t 66) (.c (.int .i64 1)), none⟩,
    ⟨some 68, .mv (.t 9), none⟩,
    ⟨some 69, .sls (.t 65) (some (.t 67)) (some (.t 68)), none⟩,
    ⟨some 70, .mv (.t 6), none⟩,
    ⟨some 71, .call (.c (.fn n_internal_stringslite_IndexByte [] [])) [(.t 69), (.t 70)], none⟩,
    ⟨some 11, .mv (.t 71), none⟩])
  (.seq (.seq (.ops [⟨some 72, .mv (.t 11), none⟩,
    ⟨some 73, .bin .lss (.t 72) (.c (.int .i64 0)), none⟩])
  (.cond (.t 73) (.seq (.ops [⟨some 4, .mv (.c (.int .i64 (-1))), none⟩])
  (.ret)) (.skip)))
  (.ops [⟨some 74, .mv (.t 8), none⟩,
    ⟨some 75, .mv (.t 11), none⟩,
    ⟨some 76, .bin .add (.t 75) (.c (.int .i64 1)), none⟩,
    ⟨some 77, .bin .add (.t 74) (.t 76), none⟩,
    ⟨some 8, .mv (.t 77), none⟩]))) (.skip)))
  (.seq (.seq (.ops [⟨some 78, .mv (.t 0), none⟩,
    ⟨some 79, .mv (.t 8), none⟩,
    ⟨some 80, .bin .add (.t 79) (.c (.int .i64 1)), none⟩,
    ⟨some 81, .ixs (.t 78) (.t 80), none⟩,
    ⟨some 82, .mv (.t 7), none⟩,
    ⟨some 83, .bin .eql (.t 81) (.t 82), none⟩,
    ⟨some 84, .mv (.t 83), none⟩,
    ⟨some 85, .mv (.t 0), some (84, true)⟩,
    ⟨some 86, .mv (.t 8), some (84, true)⟩,
    ⟨some 87, .mv (.t 8), some (84, true)⟩,
    ⟨some 88, .mv (.t 5), some (84, true)⟩,
    ⟨some 89, .bin .add (.t 87) (.t 88), some (84, true)⟩,
    ⟨some 90, .sls (.t 85) (some (.t 86)) (some (.t 89)), some (84, true)⟩,
    ⟨some 91, .mv (.t 1), some (84, true)⟩,
    ⟨some 92, .bin .eql (.t 90) (.t 91), some (84, true)⟩,
    ⟨some 93, .pick (.t 84) (.t 92) (.c (.bool false)), none⟩])
  (.cond (.t 93) (.seq (.ops [⟨some 94, .mv (.t 8), none⟩,
    ⟨some 4, .mv (.t 94), none⟩])
  (.ret)) (.skip)))
  (.seq (.ops [⟨some 95, .mv (.t 8), none⟩,
    ⟨some 96, .bin .add (.t 95) (.c (.int .i64 1)), none⟩,
    ⟨some 8, .mv (.t 96), none⟩])
  (.seq (.ops [⟨some 97, .mv (.t 10), none⟩,
    ⟨some 98, .bin .add (.t 97) (.c (.int .i64 1)), none⟩,
    ⟨some 10, .mv (.t 98), none⟩])
  (.seq (.bad)
  (.cond (.t 107) (.seq (.ops [⟨some 108, .mv (.t 0), none⟩,
    ⟨some 109, .mv (.t 8), none⟩,
    ⟨some 110, .sls (.t 108) (some (.t 109)) none, none⟩,
    ⟨some 111, .mv (.t 1), none⟩,
    ⟨some 112, .call (.c (.fn n_internal_bytealg_IndexString [] [])) [(.t 110), (.t 111)], none⟩,
    ⟨some 12, .mv (.t 112), none⟩])
  (.seq (.seq (.ops [⟨some 113, .mv (.t 12), none⟩,
    ⟨some 114, .bin .geq (.t 113) (.c (.int .i64 0)), none⟩])
  (.cond (.t 114) (.seq (.ops [⟨some 115, .mv (.t 12), none⟩,
    ⟨some 116, .mv (.t 8), none⟩,
    ⟨some 117, .bin .add (.t 115) (.t 116), none⟩,
    ⟨some 4, .mv (.t 117), none⟩])
  (.ret)) (.skip)))
  (.seq (.ops [⟨some 4, .mv (.c (.int .i64 (-1))), none⟩])
  (.ret)))) (.seq (.bad)
  (.cond (.t 132) (.seq (.ops [⟨some 133, .mv (.t 0), none⟩,
    ⟨some 134, .mv (.t 8), none⟩,
    ⟨some 135, .sls (.t 133) (some (.t 134)) none, none⟩,
    ⟨some 136, .mv (.t 1), none⟩,
    ⟨some 137, .call (.c (.fn n_internal_bytealg_IndexRabinKarp_string [] [])) [(.t 135), (.t 136)], none⟩,
    ⟨some 13, .mv (.t 137), none⟩])
  (.seq (.seq (.ops [⟨some 138, .mv (.t 13), none⟩,
    ⟨some 139, .bin .lss (.t 138) (.c (.int .i64 0)), none⟩])
  (.cond (.t 139) (.seq (.ops [⟨some 4, .mv (.c (.int .i64 (-1))), none⟩])
  (.ret)) (.skip)))
  (.seq (.ops [⟨some 140, .mv (.t 8), none⟩,
    ⟨some 141, .mv (.t 13), none⟩,
    ⟨some 142, .bin .add (.t 140) (.t 141), none⟩,
    ⟨some 4, .mv (.t 142), none⟩])
  (.ret)))) (.skip)))))))))))))
  (.seq (.ops [⟨some 4, .mv (.c (.int .i64 (-1))), none⟩])
  (.ret))))))))))
theorem k_internal_stringslite_Index : FnIs AP n_internal_stringslite_Index c_internal_stringslite_Index 143 (rsT [4]) := fnIs_of (fn := Go.Proofs.Try.f103) Go.Proofs.Try.func103 (by kernel_rfl) (by kernel_rfl) (by kernel_rfl) (by kernel_rfl) (by kernel_rfl)
theorem a_internal_stringslite_Index {x0 x1 : V} {H : List Entry} {K : KV} (h : Wf H → awp AP H.length c_internal_stringslite_Index (finW H.length (rsT [4]) K) ([x0, x1] ++ List.replicate 141 undefV) H) : BCall AP n_internal_stringslite_Index [x0, x1] H K := k_internal_stringslite_Index.call (by kernel_rfl) h
-- 103 internal/stringslite.Index: [strings.go:37, strings.go:61, strings.go:68]
/-- internal/stringslite.IndexByte: 8 slots -/
def c_internal_stringslite_IndexByte : AC := .seq (.ops [⟨some 4, .mv (.c (.int .i64 0)), none⟩])
  (.seq (.ops [⟨some 5, .mv (.t 0), none⟩,
    ⟨some 6, .mv (.t 1), none⟩,
    ⟨some 7, .call (.c (.fn n_internal_bytealg_IndexByteString [] [])) [(.t 5), (.t 6)], none⟩,
    ⟨some 4, .mv (.t 7), none⟩])
  (.ret))
theorem k_internal_stringslite_IndexByte : FnIs AP n_internal_stringslite_IndexByte c_internal_stringslite_IndexByte 8 (rsT [4]) := fnIs_of (fn := Go.Proofs.Try.f104) Go.Proofs.Try.func104 (by kernel_rfl) (by kernel_rfl) (by kernel_rfl) (by kernel_rfl) (by kernel_rfl)
theorem a_internal_stringslite_IndexByte {x0 x1 : V} {H : List Entry} {K : KV} (h : Wf H → awp AP H.length c_internal_stringslite_IndexByte (finW H.length (rsT [4]) K) ([x0, x1] ++ List.replicate 6 undefV) H) : BCall AP n_internal_stringslite_IndexByte [x0, x1] H K := k_internal_stringslite_IndexByte.call (by kernel_rfl) h
/-- internal/bytealg.Cutover: 6 slots -/
def c_internal_bytealg_Cutover : AC := .seq (.ops [⟨some 2, .mv (.c (.int .i64 0)), none⟩])
  (.seq (.ops [⟨some 3, .mv (.t 0), none⟩,
    ⟨some 4, .bin .add (.t 3) (.c (.int .i64 16)), none⟩,
    ⟨some 5, .bin .quo (.t 4) (.c (.int .i64 8)), none⟩,
    ⟨some 2, .mv (.t 5), none⟩])
  (.ret))
theorem k_internal_bytealg_Cutover : FnIs AP n_internal_bytealg_Cutover c_internal_bytealg_Cutover 6 (rsT [2]) := fnIs_of (fn := Go.Proofs.Try.f106) Go.Proofs.Try.func106 (by kernel_rfl) (by kernel_rfl) (by kernel_rfl) (by kernel_rfl) (by kernel_rfl)
theorem a_internal_bytealg_Cutover {x0 : V} {H : List Entry} {K : KV} (h : Wf H → awp AP H.length c_internal_bytealg_Cutover (finW H.length (rsT [2]) K) ([x0] ++ List.replicate 5 undefV) H) : BCall AP n_internal_bytealg_Cutover [x0] H K := k_internal_bytealg_Cutover.call (by kernel_rfl) h
/-- internal/bytealg.IndexRabinKarp[string]: 81 slots -/
def c_internal_bytealg_IndexRabinKarp_string : AC := .seq (.ops [⟨some 4, .mv (.c (.int .i64 0)), none⟩])
  (.seq (.ops [⟨some 12, .mv (.t 1), none⟩,
    ⟨some 13, .call (.c (.fn n_internal_bytealg_hashStr_string [] [])) [(.t 12)], none⟩,
    ⟨some 11, .mv (.t 13), none⟩,
    ⟨some 14, .ext (.t 11) 0, none⟩,
    ⟨some 15, .ext (.t 11) 1, none⟩,
    ⟨some 5, .mv (.t 14), none⟩,
    ⟨some 6, .mv (.t 15), none⟩])
  (.seq (.ops [⟨some 16, .mv (.t 1), none⟩,
    ⟨some 17, .len 0 (.t 16), none⟩,
    ⟨some 7, .mv (.t 17), none⟩])
  (.seq (.ops [⟨some 8, .mv (.c (.int .u32 0)), none⟩])
  (.seq (.seq (.ops [⟨some 9, .mv (.c (.int .i64 0)), none⟩])
  (.block 0 (.loop (.seq (.seq (.ops [⟨some 18, .mv (.t 9), none⟩,
    ⟨some 19, .mv (.t 7), none⟩,
    ⟨some 20, .bin .lss (.t 18) (.t 19), none⟩])
  (.cond (.t 20) (.skip) (.exit 0)))
  (.seq (.block 1 (.ops [⟨some 23, .mv (.t 8), none⟩,
    ⟨some 24, .bin .mul (.t 23) (.c (.int .u32 16777619)), none⟩,
    ⟨some 25, .mv (.t 0), none⟩,
    ⟨some 26, .mv (.t 9), none⟩,
    ⟨some 27, .ixs (.t 25) (.t 26), none⟩,
    ⟨some 28, .cvi .u32 (.t 27), none⟩,
    ⟨some 29, .bin .add (.t 24) (.t 28), none⟩,
    ⟨some 8, .mv (.t 29), none⟩]))
  (.ops [⟨some 21, .mv (.t 9), none⟩,
    ⟨some 22, .bin .add (.t 21) (.c (.int .i64 1)), none⟩,
    ⟨some 9, .mv (.t 22), none⟩]))))))
  (.seq (.seq (.ops [⟨some 30, .mv (.t 8), none⟩,
    ⟨some 31, .mv (.t 5), none⟩,
    ⟨some 32, .bin .eql (.t 30) (.t 31), none⟩,
    ⟨some 33, .mv (.t 32), none⟩,
    ⟨some 34, .mv (.t 0), some (33, true)⟩,
    ⟨some 35, .mv (.t 7), some (33, true)⟩,
    ⟨some 36, .sls (.t 34) none (some (.t 35)), some (33, true)⟩,
    ⟨some 37, .mv (.t 1), some (33, true)⟩,
    ⟨some 38, .bin .eql (.t 36) (.t 37), some (33, true)⟩,
    ⟨some 39, .pick (.t 33) (.t 38) (.c (.bool false)), none⟩])
  (.cond (.t 39) (.seq (.ops [⟨some 4, .mv (.c (.int .i64 0)), none⟩])
  (.ret)) (.skip)))
  (.seq (.seq (.ops [⟨some 40, .mv (.t 7), none⟩,
    ⟨some 10, .mv (.t 40), none⟩])
  (.block 2 (.loop (.seq (.seq (.ops [⟨some 41, .mv (.t 10), none⟩,
    ⟨some 42, .mv (.t 0), none⟩,
    ⟨some 43, .len 0 (.t 42), none⟩,
    ⟨some 44, .bin .lss (.t 41) (.t 43), none⟩])
  (.cond (.t 44) (.skip) (.exit 2)))
  (.block 3 (.seq (.ops [⟨some 45, .mv (.t 8), none⟩,
    ⟨some 46, .bin .mul (.t 45) (.c (.int .u32 16777619)), none⟩,
    ⟨some 8, .mv (.t 46), none⟩])
  (.seq (.ops [⟨some 47, .mv (.t 8), none⟩,
    ⟨some 48, .mv (.t 0), none⟩,
    ⟨some 49, .mv (.t 10), none⟩,
    ⟨some 50, .ixs (.t 48) (.t 49), none⟩,
    ⟨some 51, .cvi .u32 (.t 50), none⟩,
    ⟨some 52, .bin .add (.t 47) (.t 51), none⟩,
    ⟨some 8, .mv (.t 52), none⟩])
  (.seq (.ops [⟨some 53, .mv (.t 8), none⟩,
    ⟨some 54, .mv (.t 6), none⟩,
    ⟨some 55, .mv (.t 0), none⟩,
    ⟨some 56, .mv (.t 10), none⟩,
    ⟨some 57, .mv (.t 7), none⟩,
    ⟨some 58, .bin .sub (.t 56) (.t 57), none⟩,
    ⟨some 59, .ixs (.t 55) (.t 58), none⟩,
    ⟨some 60, .cvi .u32 (.t 59), none⟩,
    ⟨some 61, .bin .mul (.t 54) (.t 60), none⟩,
    ⟨some 62, .bin .sub (.t 53) (.t 61), none⟩,
    ⟨some 8, .mv (.t 62), none⟩])
  (.seq (.ops [⟨some 63, .mv (.t 10), none⟩,
    ⟨some 64, .bin .add (.t 63) (.c (.int .i64 1)), none⟩,
    ⟨some 10, .mv (.t 64), none⟩])
  (.seq (.ops [⟨some 65, .mv (.t 8), none⟩,
    ⟨some 66, .mv (.t 5), none⟩,
    ⟨some 67, .bin .eql (.t 65) (.t 66), none⟩,
    ⟨some 68, .mv (.t 67), none⟩,
    ⟨some 69, .mv (.t 0), some (68, true)⟩,
    ⟨some 70, .mv (.t 10), some (68, true)⟩,
    ⟨some 71, .mv (.t 7), some (68, true)⟩,
    ⟨some 72, .bin .sub (.t 70) (.t 71), some (68, true)⟩,
    ⟨some 73, .mv (.t 10), some (68, true)⟩,
    ⟨some 74, .sls (.t 69) (some (.t 72)) (some (.t 73)), some (68, true)⟩,
    ⟨some 75, .mv (.t 1), some (68, true)⟩,
    ⟨some 76, .bin .eql (.t 74) (.t 75), some (68, true)⟩,
    ⟨some 77, .pick (.t 68) (.t 76) (.c (.bool false)), none⟩])
  (.cond (.t 77) (.seq (.ops [⟨some 78, .mv (.t 10), none⟩,
    ⟨some 79, .mv (.t 7), none⟩,
    ⟨some 80, .bin .sub (.t 78) (.t 79), none⟩,
    ⟨some 4, .mv (.t 80), none⟩])
  (.ret)) (.skip))))))))))))
  (.seq (.ops [⟨some 4, .mv (.c (.int .i64 (-1))), none⟩])
  (.ret))))))))
theorem k_internal_bytealg_IndexRabinKarp_string : FnIs AP n_internal_bytealg_IndexRabinKarp_string c_internal_bytealg_IndexRabinKarp_string 81 (rsT [4]) := fnIs_of (fn := Go.Proofs.Try.f107) Go.Proofs.Try.func107 (by kernel_rfl) (by kernel_rfl) (by kernel_rfl) (by kernel_rfl) (by kernel_rfl)
theorem a_internal_bytealg_IndexRabinKarp_string {x0 x1 : V} {H : List Entry} {K : KV} (h : Wf H → awp AP H.length c_internal_bytealg_IndexRabinKarp_string (finW H.length (rsT [4]) K) ([x0, x1] ++ List.replicate 79 undefV) H) : BCall AP n_internal_bytealg_IndexRabinKarp_string [x0, x1] H K := k_internal_bytealg_IndexRabinKarp_string.call (by kernel_rfl) h
/-- internal/bytealg.hashStr[string]: 39 slots -/
def c_internal_bytealg_hashStr_string : AC := .seq (.ops [⟨some 2, .mv (.c (.int .u32 0)), none⟩,
    ⟨some 3, .mv (.c (.int .u32 0)), none⟩])
  (.seq (.ops [⟨some 4, .mv (.c (.int .u32 0)), none⟩])
  (.seq (.seq (.ops [⟨some 5, .mv (.c (.int .i64 0)), none⟩])
  (.block 0 (.loop (.seq (.seq (.ops [⟨some 9, .mv (.t 5), none⟩,
    ⟨some 10, .mv (.t 0), none⟩,
    ⟨some 11, .len 0 (.t 10), none⟩,
    ⟨some 12, .bin .lss (.t 9) (.t 11), none⟩])
  (.cond (.t 12) (.skip) (.exit 0)))
  (.seq (.block 1 (.ops [⟨some 15, .mv (.t 4), none⟩,
    ⟨some 16, .bin .mul (.t 15) (.c (.int .u32 16777619)), none⟩,
    ⟨some 17, .mv (.t 0), none⟩,
    ⟨some 18, .mv (.t 5), none⟩,
    ⟨some 19, .ixs (.t 17) (.t 18), none⟩,
    ⟨some 20, .cvi .u32 (.t 19), none⟩,
    ⟨some 21, .bin .add (.t 16) (.t 20), none⟩,
    ⟨some 4, .mv (.t 21), none⟩]))
  (.ops [⟨some 13, .mv (.t 5), none⟩,
    ⟨some 14, .bin .add (.t 13) (.c (.int .i64 1)), none⟩,
    ⟨some 5, .mv (.t 14), none⟩]))))))
  (.seq (.ops [⟨some 6, .mv (.c (.int .u32 1)), none⟩,
    ⟨some 7, .mv (.c (.int .u32 16777619)), none⟩])
  (.seq (.seq (.ops [⟨some 22, .mv (.t 0), none⟩,
    ⟨some 23, .len 0 (.t 22), none⟩,
    ⟨some 8, .mv (.t 23), none⟩])
  (.block 2 (.loop (.seq (.seq (.ops [⟨some 24, .mv (.t 8), none⟩,
    ⟨some 25, .bin .gtr (.t 24) (.c (.int .i64 0)), none⟩])
  (.cond (.t 25) (.skip) (.exit 2)))
  (.seq (.block 3 (.seq (.seq (.ops [⟨some 28, .mv (.t 8), none⟩,
    ⟨some 29, .bin .and (.t 28) (.c (.int .i64 1)), none⟩,
    ⟨some 30, .bin .neq (.t 29) (.c (.int .i64 0)), none⟩])
  (.cond (.t 30) (.ops [⟨some 31, .mv (.t 6), none⟩,
    ⟨some 32, .mv (.t 7), none⟩,
    ⟨some 33, .bin .mul (.t 31) (.t 32), none⟩,
    ⟨some 6, .mv (.t 33), none⟩]) (.skip)))
  (.ops [⟨some 34, .mv (.t 7), none⟩,
    ⟨some 35, .mv (.t 7), none⟩,
    ⟨some 36, .bin .mul (.t 34) (.t 35), none⟩,
    ⟨some 7, .mv (.t 36), none⟩])))
  (.ops [⟨some 26, .mv (.t 8), none⟩,
    ⟨some 27, .bin .shr (.t 26) (.c (.int .u64 1)), none⟩,
    ⟨some 8, .mv (.t 27), none⟩]))))))
  (.seq (.ops [⟨some 37, .mv (.t 4), none⟩,
    ⟨some 38, .mv (.t 6), none⟩,
    ⟨some 2, .mv (.t 37), none⟩,
    ⟨some 3, .mv (.t 38), none⟩])
  (.ret))))))
theorem k_internal_bytealg_hashStr_string : FnIs AP n_internal_bytealg_hashStr_string c_internal_bytealg_hashStr_string 39 (rsT [2, 3]) := fnIs_of (fn := Go.Proofs.Try.f109) Go.Proofs.Try.func109 (by kernel_rfl) (by kernel_rfl) (by kernel_rfl) (by kernel_rfl) (by kernel_rfl)
theorem a_internal_bytealg_hashStr_string {x0 : V} {H : List Entry} {K : KV} (h : Wf H → awp AP H.length c_internal_bytealg_hashStr_string (finW H.length (rsT [2, 3]) K) ([x0] ++ List.replicate 38 undefV) H) : BCall AP n_internal_bytealg_hashStr_string [x0] H K := k_internal_bytealg_hashStr_string.call (by kernel_rfl) h
def tab : List (FuncId × Fn) := [(n_trystlaw12_TopicAppends, ⟨c_trystlaw12_TopicAppends, 144, (rsT [6])⟩), (n_trystlaw12_TopicReads, ⟨c_trystlaw12_TopicReads, 68, (rsT [6])⟩), (n_trystlaw12_TopicKeeps, ⟨c_trystlaw12_TopicKeeps, 174, (rsT [4])⟩), (n_trystlaw12_TopicBounds, ⟨c_trystlaw12_TopicBounds, 104, (rsT [4])⟩), (n_trystlaw12_Few, ⟨c_trystlaw12_Few, 68, (rsT [2])⟩), (n_trystlaw04_Few, ⟨c_trystlaw04_Few, 46, [.cell 2 4 true]⟩), (n_trystlaw02_Few, ⟨c_trystlaw02_Few, 9, (rsT [2])⟩), (n_topic_Append, ⟨c_topic_Append, 74, (rsT [4, 5, 6])⟩), (n_trystref12_Append, ⟨c_trystref12_Append, 70, (rsT [4, 5, 6])⟩), (n_topic_Find, ⟨c_topic_Find, 14, (rsT [4, 5])⟩), (n_trystref12_Find, ⟨c_trystref12_Find, 21, (rsT [4, 5])⟩), (n_trystref12_Same, ⟨c_trystref12_Same, 55, (rsT [4])⟩), (n_topic_Check, ⟨c_topic_Check, 17, (rsT [2])⟩), (n_trystref12_May, ⟨c_trystref12_May, 97, (rsT [2])⟩), (n_topic_End, ⟨c_topic_End, 22, (rsT [4, 5])⟩), (n_trystlaw12_awake, ⟨c_trystlaw12_awake, 87, (rsT [0])⟩), (n_topic_Read, ⟨c_topic_Read, 54, [.cell 6 4 true, .tmp 7]⟩), (n_trystref12_Read, ⟨c_trystref12_Read, 69, [.cell 6 4 true, .tmp 7]⟩), (n_topic_Trim, ⟨c_topic_Trim, 51, (rsT [6, 7])⟩), (n_trystref12_Trim, ⟨c_trystref12_Trim, 76, (rsT [6, 7])⟩), (n_trystref04_Same, ⟨c_trystref04_Same, 52, (rsT [4])⟩), (n_trystlaw03_Few, ⟨c_trystlaw03_Few, 12, [.cell 2 3 true]⟩), (n_event_Lay, ⟨c_event_Lay, 51, (rsT [2, 3])⟩), (n_topic_begin, ⟨c_topic_begin, 23, (rsT [6, 7, 8])⟩), (n_topic_endOf, ⟨c_topic_endOf, 9, (rsT [2])⟩), (n_list_Set_api_Topic, ⟨c_list_Set_api_Topic, 15, (rsT [6])⟩), (n_trystref04_May, ⟨c_trystref04_May, 68, (rsT [2])⟩), (n_trystref04_Lay, ⟨c_trystref04_Lay, 47, (rsT [2])⟩), (n_trystref12_With, ⟨c_trystref12_With, 55, (rsT [4])⟩), (n_slices_IndexFunc_api_Topic_api_Topic, ⟨c_slices_IndexFunc_api_Topic_api_Topic, 19, (rsT [4])⟩), (n_topic_Find_1, ⟨c_topic_Find_1, 8, (rsT [3])⟩), (n_trystref02_Same, ⟨c_trystref02_Same, 26, (rsT [4])⟩), (n_topic_Check_1, ⟨c_topic_Check_1, 10, (rsT [4])⟩), (n_cmp_Compare_string, ⟨c_cmp_Compare_string, 20, (rsT [4])⟩), (n_list_Rises_api_Topic, ⟨c_list_Rises_api_Topic, 24, (rsT [4])⟩), (n_slices_ContainsFunc_api_Topic_api_Topic, ⟨c_slices_ContainsFunc_api_Topic_api_Topic, 9, (rsT [4])⟩), (n_topic_isWrong, ⟨c_topic_isWrong, 31, (rsT [2])⟩), (n_trystref02_Topic, ⟨c_trystref02_Topic, 5, (rsT [2])⟩), (n_trystref04_Take, ⟨c_trystref04_Take, 134, [.cell 2 4 true, .tmp 3, .tmp 4]⟩), (n_topic_find, ⟨c_topic_find, 20, (rsT [4, 5])⟩), (n_trystlaw12_ev, ⟨c_trystlaw12_ev, 8, [.cell 4 4 true]⟩), (n_event_Take, ⟨c_event_Take, 38, [.cell 2 4 true, .tmp 3, .tmp 4]⟩), (n_slices_Clone_string_string, ⟨c_slices_Clone_string_string, 8, (rsT [2])⟩), (n_event_May, ⟨c_event_May, 21, (rsT [2])⟩), (n_event_layText, ⟨c_event_layText, 9, (rsT [2])⟩), (n_num_Pack, ⟨c_num_Pack, 33, (rsT [2])⟩), (n_val_Lay, ⟨c_val_Lay, 23, (rsT [2, 3])⟩), (n_list_Place_api_Topic, ⟨c_list_Place_api_Topic, 14, (rsT [4])⟩), (n_topic_begin_1, ⟨c_topic_begin_1, 8, (rsT [3])⟩), (n_list_With_api_Topic, ⟨c_list_With_api_Topic, 17, (rsT [6])⟩), (n_slices_Clone_api_Topic_api_Topic, ⟨c_slices_Clone_api_Topic_api_Topic, 8, (rsT [2])⟩), (n_trystref04_Field, ⟨c_trystref04_Field, 21, (rsT [2])⟩), (n_trystref03_May, ⟨c_trystref03_May, 26, (rsT [2])⟩), (n_trystref04_text, ⟨c_trystref04_text, 9, (rsT [2])⟩), (n_trystref01_Pack, ⟨c_trystref01_Pack, 19, (rsT [2])⟩), (n_trystref03_Lay, ⟨c_trystref03_Lay, 19, (rsT [2])⟩), (n_cmp_isNaN_string, ⟨c_cmp_isNaN_string, 6, (rsT [2])⟩), (n_name_Topic, ⟨c_name_Topic, 5, (rsT [2])⟩), (n_slices_ContainsFunc_string_string, ⟨c_slices_ContainsFunc_string_string, 9, (rsT [4])⟩), (n_topic_isWrong_1, ⟨c_topic_isWrong_1, 8, (rsT [3])⟩), (n_topic_isOf, ⟨c_topic_isOf, 29, (rsT [4])⟩), (n_trystref02_is, ⟨c_trystref02_is, 47, (rsT [4])⟩), (n_trystref04_word, ⟨c_trystref04_word, 53, (rsT [6, 7, 8])⟩), (n_trystref01_Unpack, ⟨c_trystref01_Unpack, 68, (rsT [2, 3, 4])⟩), (n_trystref03_Take, ⟨c_trystref03_Take, 66, [.cell 2 3 true, .tmp 3, .tmp 4]⟩), (n_event_reader_event, ⟨c_event_reader_event, 40, [.cell 2 4 true]⟩), (n_event_Field, ⟨c_event_Field, 15, (rsT [2])⟩), (n_event_mayFields, ⟨c_event_mayFields, 17, (rsT [2])⟩), (n_num_packedWide, ⟨c_num_packedWide, 8, (rsT [2])⟩), (n_val_May, ⟨c_val_May, 17, (rsT [2])⟩), (n_num_Fold, ⟨c_num_Fold, 12, (rsT [2])⟩), (n_slices_Concat_api_Topic_api_Topic, ⟨c_slices_Concat_api_Topic_api_Topic, 36, (rsT [2])⟩), (n_trystref01_Fold, ⟨c_trystref01_Fold, 14, (rsT [2])⟩), (n_name_allParts, ⟨c_name_allParts, 32, (rsT [4])⟩), (n_name_isPart, ⟨c_name_isPart, 9, (rsT [2])⟩), (n_slices_IndexFunc_string_string, ⟨c_slices_IndexFunc_string_string, 19, (rsT [4])⟩), (n_trystref02_cut, ⟨c_trystref02_cut, 33, (rsT [2])⟩), (n_trystref02_part, ⟨c_trystref02_part, 35, (rsT [2])⟩), (n_trystref01_Unfold, ⟨c_trystref01_Unfold, 14, (rsT [2])⟩), (n_event_reader_text, ⟨c_event_reader_text, 49, (rsT [4])⟩), (n_event_reader_number, ⟨c_event_reader_number, 34, (rsT [2])⟩), (n_event_reader_size, ⟨c_event_reader_size, 15, (rsT [4])⟩), (n_event_reader_value, ⟨c_event_reader_value, 35, [.cell 2 3 true]⟩), (n_strings_Contains, ⟨c_strings_Contains, 9, (rsT [4])⟩), (n_event_mayFields_1, ⟨c_event_mayFields_1, 13, (rsT [2])⟩), (n_event_mayFields_2, ⟨c_event_mayFields_2, 10, (rsT [4])⟩), (n_slices_ContainsFunc_api_Field_api_Field, ⟨c_slices_ContainsFunc_api_Field_api_Field, 9, (rsT [4])⟩), (n_list_Rises_api_Field, ⟨c_list_Rises_api_Field, 24, (rsT [4])⟩), (n_math_bits_Len64, ⟨c_math_bits_Len64, 25, (rsT [2])⟩), (n_slices_Grow_api_Topic_api_Topic, ⟨c_slices_Grow_api_Topic_api_Topic, 27, (rsT [4])⟩), (n_name_allParts_1, ⟨c_name_allParts_1, 23, (rsT [6])⟩), (n_name_allRunes, ⟨c_name_allRunes, 16, (rsT [4])⟩), (n_name_isPart_1, ⟨c_name_isPart_1, 21, (rsT [2])⟩), (n_num_Unpack, ⟨c_num_Unpack, 40, (rsT [2, 3, 4])⟩), (n_val_Take, ⟨c_val_Take, 47, [.cell 2 3 true, .tmp 3, .tmp 4]⟩), (n_strings_Index, ⟨c_strings_Index, 8, (rsT [4])⟩), (n_slices_IndexFunc_api_Field_api_Field, ⟨c_slices_IndexFunc_api_Field_api_Field, 19, (rsT [4])⟩), (n_num_mayEnd, ⟨c_num_mayEnd, 15, (rsT [4])⟩), (n_num_Unfold, ⟨c_num_Unfold, 13, (rsT [2])⟩), (n_val_takeText, ⟨c_val_takeText, 28, [.cell 6 3 true, .tmp 7, .tmp 8]⟩), (n_internal_stringslite_Index, ⟨c_internal_stringslite_Index, 143, (rsT [4])⟩), (n_internal_stringslite_IndexByte, ⟨c_internal_stringslite_IndexByte, 8, (rsT [4])⟩), (n_internal_bytealg_Cutover, ⟨c_internal_bytealg_Cutover, 6, (rsT [2])⟩), (n_internal_bytealg_IndexRabinKarp_string, ⟨c_internal_bytealg_IndexRabinKarp_string, 81, (rsT [4])⟩), (n_internal_bytealg_hashStr_string, ⟨c_internal_bytealg_hashStr_string, 39, (rsT [2, 3])⟩)]
theorem tabOk : TabOk AP tab := ⟨k_trystlaw12_TopicAppends, k_trystlaw12_TopicReads, k_trystlaw12_TopicKeeps, k_trystlaw12_TopicBounds, k_trystlaw12_Few, k_trystlaw04_Few, k_trystlaw02_Few, k_topic_Append, k_trystref12_Append, k_topic_Find, k_trystref12_Find, k_trystref12_Same, k_topic_Check, k_trystref12_May, k_topic_End, k_trystlaw12_awake, k_topic_Read, k_trystref12_Read, k_topic_Trim, k_trystref12_Trim, k_trystref04_Same, k_trystlaw03_Few, k_event_Lay, k_topic_begin, k_topic_endOf, k_list_Set_api_Topic, k_trystref04_May, k_trystref04_Lay, k_trystref12_With, k_slices_IndexFunc_api_Topic_api_Topic, k_topic_Find_1, k_trystref02_Same, k_topic_Check_1, k_cmp_Compare_string, k_list_Rises_api_Topic, k_slices_ContainsFunc_api_Topic_api_Topic, k_topic_isWrong, k_trystref02_Topic, k_trystref04_Take, k_topic_find, k_trystlaw12_ev, k_event_Take, k_slices_Clone_string_string, k_event_May, k_event_layText, k_num_Pack, k_val_Lay, k_list_Place_api_Topic, k_topic_begin_1, k_list_With_api_Topic, k_slices_Clone_api_Topic_api_Topic, k_trystref04_Field, k_trystref03_May, k_trystref04_text, k_trystref01_Pack, k_trystref03_Lay, k_cmp_isNaN_string, k_name_Topic, k_slices_ContainsFunc_string_string, k_topic_isWrong_1, k_topic_isOf, k_trystref02_is, k_trystref04_word, k_trystref01_Unpack, k_trystref03_Take, k_event_reader_event, k_event_Field, k_event_mayFields, k_num_packedWide, k_val_May, k_num_Fold, k_slices_Concat_api_Topic_api_Topic, k_trystref01_Fold, k_name_allParts, k_name_isPart, k_slices_IndexFunc_string_string, k_trystref02_cut, k_trystref02_part, k_trystref01_Unfold, k_event_reader_text, k_event_reader_number, k_event_reader_size, k_event_reader_value, k_strings_Contains, k_event_mayFields_1, k_event_mayFields_2, k_slices_ContainsFunc_api_Field_api_Field, k_list_Rises_api_Field, k_math_bits_Len64, k_slices_Grow_api_Topic_api_Topic, k_name_allParts_1, k_name_allRunes, k_name_isPart_1, k_num_Unpack, k_val_Take, k_strings_Index, k_slices_IndexFunc_api_Field_api_Field, k_num_mayEnd, k_num_Unfold, k_val_takeText, k_internal_stringslite_Index, k_internal_stringslite_IndexByte, k_internal_bytealg_Cutover, k_internal_bytealg_IndexRabinKarp_string, k_internal_bytealg_hashStr_string, trivial⟩
end
end Go.Av
