import PyProof.Rows.All
import Wide.All
import OpenK.AllK
import Wide.FinOn
import Lean
import PyProof.EqAt
import PyProof.EqKinds
import PyProof.TupleCall
import PyProof.AttrMiss
import PyProof.IsiH_list
import PySem.SetOps
import PyProof.SetScanFacts
import PyProof.SetKind
import PyProof.IsRules
import PyProof.TupleKey
import PyProof.P3Eq
import Wide.Seal
import PyProof.StrCalls
import PyProof.SeqI3
import PyProof.Draws
import PyProof.EnumMake
import PyProof.DictValues
import PyProof.DictWalks
import PyProof.TupleOfSeq
import PyProof.TupleOfGen
import KE.KDictList
import KE.KRevIter
import PyProof.MinMaxWalk
import PyProof.Rows.CallKwBuiltin
import KE.KSortTup
import PyProof.Rows.SortWalk
import PyProof.Rows.SortShell
import PyProof.DictIter
import PyProof.P3In
import PyProof.Rows.SortStr
import PyProof.MeetsStr
import PyProof.FactsAll.str_6
import PyProof.StrCalls2
import PyProof.MeetsStr2
import KE.KIntText
import PyProof.SliceStr2
import PyProof.Rows.Range3
import PyProof.FactsAll.list_3
import PyProof.FString4
import PyProof.ZipIter
import PyProof.ListNew
import PyProof.SetRoads
import PyProof.Rows.SetFrom
import PyProof.SetNew
import PyProof.WalksMore
import PyProof.FactsAll.set_2
import PySem.Challenge.RW_staymark_k71_whole_history
set_option Elab.async false
set_option linter.all false
set_option maxRecDepth 100000
set_option maxHeartbeats 4000000
set_option compiler.extract_closed false
set_option bootstrap.genMatcherCode false
set_option genSizeOf false
local macro_rules | `(⋯) => `(by kernel_rfl)
open PySem renaming PyData→zS,wpAny_bind→zT,wpAny_pure→zU,Value→zV,Shared→zW,Spec→zY,Addr→c6,starEach→e8,model→i9,Program→j5,World→l9,wpAny_newObj_type→o0,wpAny_call_entry→p0,Heap→p9,wpAny_holding→s0,wpAny_callSpecial?_slot→t8,Around→u5,DictEntry→u8,compareOp→x0,foldedSetIterable→x8,mainGlobals→z0,Paired→z6,wpAny_truthy_bool→z8,wpAny_mono→z9,Builtin→AA,wpAny_dictEpoch→AF,wpAny_rule→AI,backTo→AN,wpAny_loadPart'→AR,builtinLookup_eq_fast→AV,codeAny_builtin→AZ,cLine→BD,wpAny_setState_of→BN,SetTable→BO,swapsWith→BX,CmpOp→BZ,relabel→CC,wpAny_specialOf→CG,sysModules→CH,wpAny_of_eq→CK,wpAny_attempt→CL,Stmt→CN,typeLookup_type→CQ,mem_of_lookup→CS,sizeLine_eq→CU,bootBuiltins→CV,attributeBase→DC,wpAny_typeNameOfWhole_keyiter→DR,rawInt→DX,wpAny_passesOwn→EC,wpAny_ite_split→ED,SetTable→EE,wpAny_dictEntries→EI,isSubtype_type→EO,wpAny_isInstance→ER,wpAny_askSetting→ES,codeAny_mono→ET,wpAny_setEntries_of→EX,plainId_quiet→FE,Keyword→FK,wpAny_setField_rec→FM,wpAny_Call_Name_kw→FN,wpAny_field→FP,wpAny_fieldsOf→FW,firstArgMember→FX,FuncData→FZ,wpAny_notOrdered_dict→GE,wpAny_forIn_list→GG,codeAny→GJ,sliceBounds→GK,keywordEach→GL,wpAny_typeOf→GS,getItem→GU,scanBound→GZ,wpAny_setField→HE,assignEach→HF,NameKind→HH,wpAny_sequenceKey→HN,wpAny_pyIter_slot→HP,wpAny_pyIter_list→HQ,Params→HV,bindArgs→IE,binaryOp→IF,call_meets→IM,builtinsNs→IN,wpAny_execs_nil→IR,letOwnedTupleGo→IS,wpAny_isOneOf_keyiter→IZ,backToKw→JO,assign→JP,IsPart→JQ,lastMarks→JS,typeLookup→KN,slot_list_getitem→LB,setField→LC,relayAll→LD,intKind→LF,entryFor→LG,callerA→LH,call_meetsIn→LI,pyIter→LS,noFill_tuple_add→LU,entryFor_of_tree→LV,beq_builtin_none→LX,argsOk→LY,subscripted→MD,codeAny_of_tree→MI,setNext→MO,wpAny_seqItems→MS,wpAny_runValue→MT,wpAny_load→MU,slotArgs→MX,isSubtype_stop→MY,entryFor_alias→MZ,carriedByValue→NA,ReadsAll→ND,GenState→NM
open PySem.W renaming Frag→zX,fnOf→x3,keepIn→AJ,kia_one→AS,codeIn→CI,nsIn→GD,methodObj→JA,instObj→KC,lookIn→KQ,cellsFrom_some→LZ,kitx_list→NP,kitx_dict→NQ
open List renaming length_map→zZ,mem_cons→a9,map_cons→c7,mem_singleton→c8,length_cons→i0,replicate→i4,size_toArray→i5,mem_append→i7,set_cons_zero→j0,set_cons_succ→j4,getElem?_eq_some_iff→j6,mem_map→j7,getElem?_map→j8,getElem?_eq_getElem→l0,nil_append→l3,length_append→l8,map_append→m4,find?_cons→m7,append_nil→m8,pairwise_cons→n0,mem_filter→o6,getElem?_append_left→o8,range→o9,length_nil→p4,getElem?_append_right→p7,cons_append→p8,mem_range→q9,getElem?_cons_zero→u7,length_filter_le→w6,length_eq_zero_iff→w8,mem_cons_self→x6,mem_map_of_mem→y4,map_nil→y9,append_assoc→z4,mem_cons_of_mem→z7,mem_append_right→AE,nodup_cons→AU,mem_of_getElem?→AY,map_map→BE,getD_eq_getElem?_getD→BF,filter_eq_nil_iff→BG,replicate_succ→BJ,map_congr_left→BK,filter_eq_self→BL,drop_eq_getElem_cons→BP,getElem?_eq_none→BQ,filter_cons→BR,all_eq_true→BS,pairwise_append→BW,getElem?_replicate→CA,pairwise_singleton→CY,getElem_mem→CZ,filter_cons_of_pos→DB,eq_nil_of_length_eq_zero→DH,length_replicate→DV,flatten_cons→DY,mem_append_left→EG,any_eq_true→EM,sum_cons→EQ,filter_filter→EW,filter_cons_of_neg→FA,nodup_append→FH,ext_getElem?→FI,drop_eq_nil_of_le→FJ,eq_nil_or_concat→FS,concat_eq_append→FT,getElem?_set_ne→GC,reverse_append→GI,zip_cons_cons→GM,drop_zero→GN,pairwise_map→GW,not_mem_nil→HI,length_take→HJ,getElem_map→HK,pairwise_lt_range→HS,mem_iff_getElem?→IB,length→IK,length_reverse→IT,getElem_of_mem→IU,flatten_append→IV,filterMap_cons→IW,any_cons→JC,mem_filterMap→JH,getElem_range→JI,foldl→JJ,find?_eq_none→JK,filter_append→JL,take_sublist→JU,foldl_append→JV,filter_congr→JW,length_drop→KJ,ext_getElem→KL,of_mem_zip→KT,length_set→KU,forIn_cons→KW,foldl_cons→KY,dropLast_concat_getLast→KZ,nodup_iff_pairwise_ne→LQ,length_eraseIdx_of_lt→LR,pairwise_iff_getElem→MB,find?_range_eq_some→MF,getElem?_cons_succ→MK,toArray→MP,getElem?_set_self→MQ,any_map→MR,singleton_append→NH,length_singleton→NI,dropLast_eq_take→NJ,reverse_reverse→NR,replicate_succ'→NS,mem_of_mem_drop→NT,length_dropLast→NU,getElem?_mapIdx→NV
open PySem.Heap renaming get?_push_of_some→a8,get?_push_size→e9,lt_size→i8,get?_update_self→y3,get?_none_of_le→AM,SameBut→CF,get?_update_other→FL,size_push→GO,ExtBut→GX,get?_update_ne→IY
open Nat renaming le_refl→f8,le_trans→i6,lt_of_lt_of_le→m3,ne_of_lt→m6,reduceSub→AB,reduceAdd→AC,not_lt→BI,min_le_right→BU,lt_irrefl→BV,zero_le→BY,ne_of_gt→DM,lt_of_le_of_lt→EZ,le_succ→FD,lt_succ_self→FY,lt_succ_of_lt→HB,le_succ_of_le→HC,lt_or_ge→HW,min_le_left→IA,lt_trans→KD,zero_add→NE,mul_comm→NF,le_of_lt→NG
open PySem.PyData renaming eqv→g9,strOk→l7,int→p5,depthAll→w5,depth→x4,bool→x5,tuple→AD,str→AK,canLayAll0→BB,eqvAll→EN,list→FV
open Bool renaming and_eq_true→j9,false_eq_true→n8,false_ne_true→AW,eq_iff_iff→BM,or_eq_true→GF,not_eq_true'→GY,not_true→HD,not_false→IL,or_false→MG
open Array renaming length_toList→n6,getElem?_eq_getElem→o7,toList_append→CT,getElem?_toList→DQ,getElem?_eq_none→FG,getD→HM,toList_inj→KG,all_toList→KH,toList→MN,getElem_toList→NN
open Option renaming map_eq_some_iff→p6,map_some→GB,bind_eq_some_iff→HA,isSome_iff_exists→LP
open Option.some renaming inj→u6,injEq→IH
open PySem.Value renaming ref→u9,none→AL,type→CM,bool→FQ,notImplemented→IG,int→JY,str→ME,isStrOf_shape→NO
open PySem.Around renaming under_plainId→z5
open PySem.Str renaming join→AG,ofString→BH
open List.Perm renaming refl→AH,swap→HL,cons_inv→ML,nil_eq→NK
open PySem.Challenge renaming pw_staymark_k71_whole_history→AO
open PySem.Heap.SameBut renaming update→AX,refl→MC
open PyProof.Rows renaming slot_tuple_getitem→BA,callWith_type1→DD,seqObj→FO,StrsAre→HR,IntsAre→IP,AllBare→IQ,IsTup→IX,slot_tuple_getitem→KO,envOfC→KP,entry_list_sort→MH,sortedHeap→MV,slot_list_sort→MW,args_list_sort→NB
open List.cons renaming injEq→BC
open Int renaming toNat_natCast→CB,emod_lt_of_pos→GQ,zero_add→HY,emod_nonneg→IC
open LawfulBEq renaming eq_of_beq→CD
open ForInStep renaming yield→CJ
open PySem.PyData.tuple renaming injEq→CO
open PySem.F renaming plainAttrs_list→CP,args_tuple_add_2→GP,entry_tuple_add→GV,slot_tuple_add→HG,type_list_append→LK,slot_list_append→LL,plainAttrs_dict→LO
open PySem.NameKind renaming free→DG
open PySem.Obj renaming data_mapFields→DL,mapSeq→EY,mapDictKeys→HZ,isFreed_of_fields→II,isFreed_of_dict→JB,putSet→MA,mapFields→MJ
open PySem.Builtin.Slice renaming slicePlaces→DP,sliceAdjust→GA,sliceApplied→JD
open PySem.SetTable renaming grown→DU,below→EV
open PySem.Builtin.Tuple renaming tupleExact→DZ,tupleItemsOf→FU,tupleCompareSizes→ID,tupleHashOf→JN
open Classical renaming byContradiction→EA
open PySem.Builtin.List renaming listTooLong→EB,listLengthHint→JE,listExtendWith→JF,listSameRef→JX
open False renaming elim→EF
open PySem.Calls renaming spliced_cons→EU,callWith_builtin→FF,call_function_entry→GR,evalArgs_plain→IJ,spliced_nil→JR,Name_function_global→LM
open PySem.PyData.str renaming injEq→FB
open PySem.PyData.int renaming injEq→FC
open PySem.PassesOwn renaming never→FR
open PySem.Builtin.Dict_items renaming ownsTuple→HU
open List.Pairwise renaming nil→HX,filter→KR
open True renaming intro→JG
open PySem.Code renaming quiet_builtin→JM
open Prod renaming ext→JT
open Sum renaming inr→JZ,inl→KA
open PySem.SeqAt.ReadsAll renaming length→KB
open PySem.Builtin.Dict renaming updateFrom→KF,showsAll→KS
open Decidable renaming byContradiction→KM
open PySem.AutoSeq1 renaming sub_tuple_tuple→LA,idx_int→NW
open PySem.SetTable.probe renaming go→LJ
open PySem.Shared renaming TypeIs→LN
open PySem.Heap.ExtBut renaming push→MM
namespace L2
open PySem PySem.Spec PyProof.Rows
def M9 (s:CN):Arguments:=match s with
 | .FunctionDef _ a _ _ _ _ _ _ _ _=>a
 | _=>{ posonlyargs:=[],args:=[],vararg:=none,kwonlyargs:=[],kw_defaults:=[],kwarg:=none,defaults:=[] }
def B3 (s:CN):List CN:=match s with
 | .FunctionDef _ _ b _ _ _ _ _ _ _=>b
 | _=>[]
def A4 (s:CN):Scope:=match s with
 | .FunctionDef _ _ _ _ _ _ sc _ _ _=>sc
 | _=>{ kind:=.function,names:=[],isGenerator:=false,isCoroutine:=false }
end L2
namespace Sm
open PySem PySem.Spec PyProof.Rows L2
noncomputable def top (i:Nat):CN:=AO.main.body.getD i (.Pass ⟨0,0,0,0⟩)
noncomputable def F6 (P:HV) (x:Str) (t:Nat) (v:zV):u8:=⟨PyData.keyHash P x,.str x t,v⟩
noncomputable def sD (i:Nat):Str:=match top i with | .FunctionDef n _ _ _ _ _ _ _ _ _=>n | _ => ""
noncomputable def M3 (i:Nat) (m:zV) (c:Nat):Obj:=⟨.type "function",none,.func (x3 (sD i) (sD i) (M9 (top i)) (B3 (top i)) (A4 (top i)) .none .none .none m none (.ref c) .none),#[]⟩
noncomputable def M4 (i t:Nat) (l a:Int) (r:Nat) (u v w:zV) (n:Nat):Obj:=⟨.type "code",none,.fields #[.str (sD i) t,.str (sD i) (t+1),.str "/claim/cut.py" (t+2),.int l 0,.int a 0,.int 0 0,.int 0 0,.int 3 0,.ref r,.bool true,.int 181 0,.ref (r+1),.none,u,v,w,.int n 0,.int l 0,.str "/claim/cut.py" (n+1)],#[]⟩
noncomputable def owM0 (P:HV):List u8:=[F6 P "__name__" 165 (.str "law_staymark_k71_whole_history" 500),F6 P "__doc__" 166 .none,F6 P "__package__" 167 .none,F6 P "__loader__" 168 (.builtin "__main__.__loader__#opaque"),F6 P "__spec__" 169 .none,F6 P "__annotations__" 170 (.ref 6),F6 P "__builtins__" 171 (.ref 4),F6 P "__file__" 173 (.str "/claim/cut.py" 172),F6 P "__cached__" 174 .none,F6 P "MarkError" 206 (.ref 24),F6 P "NoPlace" 222 (.ref 37)]
noncomputable def owM1 (P:HV):List u8:=[F6 P "HANDS" 226 (.str "abcdefgh" 225),F6 P "SIDES" 228 (.str "lr" 227),F6 P "MOST_ADDED" 230 (.int 20 229),F6 P "MOST_DROPPED" 232 (.int 400 231),F6 P "LONGEST_NAME" 234 (.int 6 233),F6 P "is_whole" 242 (.ref 46),F6 P "is_one_of" 250 (.ref 53),F6 P "is_text" 256 (.ref 58),F6 P "is_name" 263 (.ref 65),F6 P "is_added_text" 270 (.ref 72),F6 P "is_pair" 277 (.ref 79)]
noncomputable def owM2 (P:HV):List u8:=[F6 P "is_deed_id" 284 (.ref 86),F6 P "is_sign_id" 291 (.ref 93),F6 P "is_sign_id_or_none" 298 (.ref 100),F6 P "is_anchor" 305 (.ref 107),F6 P "is_rising" 311 (.ref 112),F6 P "is_dropped" 317 (.ref 117),F6 P "has_form" 325 (.ref 124),F6 P "signs_named" 331 (.ref 129),F6 P "deeds_named" 337 (.ref 134),F6 P "is_deed" 343 (.ref 139),F6 P "signs_added" 350 (.ref 146)]
noncomputable def owM3 (P:HV):List u8:=[F6 P "by_ids" 356 (.ref 151),F6 P "has_all_named" 362 (.ref 156),F6 P "is_book" 368 (.ref 161),F6 P "adds_behind" 379 (.ref 168),F6 P "signs_of" 385 (.ref 173),F6 P "undone_in" 394 (.ref 180),F6 P "dropped_in" 405 (.ref 187),F6 P "presence_in" 416 (.ref 194),F6 P "shown_in" 422 (.ref 199),F6 P "text_of" 428 (.ref 204),F6 P "authors_of" 438 (.ref 211)]
noncomputable def owM4 (P:HV):List u8:=[F6 P "as_of" 446 (.ref 216),F6 P "times_of" 452 (.ref 221),F6 P "text_at" 460 (.ref 228),F6 P "texts_of" 469 (.ref 235),F6 P "age_at" 478 (.ref 242),F6 P "first_seen" 487 (.ref 249),F6 P "lost" 493 (.ref 254),F6 P "by_hand" 499 (.ref 259),F6 P "_law_cell" 509 (.ref 266),F6 P "_law_drawn" 519 (.ref 273),F6 P "_law_names" 530 (.ref 280)]
noncomputable def owM5 (P:HV):List u8:=[F6 P "_law_words" 536 (.ref 285),F6 P "_law_signs" 542 (.ref 290),F6 P "_law_anchor" 552 (.ref 297),F6 P "_law_deed" 558 (.ref 302),F6 P "_law_book" 564 (.ref 307),F6 P "law" 570 (.ref 312)]
noncomputable def ownK (P:HV):zX :=
 (nat_lit 3,⟨.type "dict",none,.dict (owM0 P++owM1 P++owM2 P++owM3 P++owM4 P++owM5 P).toArray 61,#[]⟩) ::
 (nat_lit 23,⟨.type "dict",none,.dict #[F6 P "__module__" 196 (.str "staymark.errors" 187),F6 P "__firstlineno__" 200 (.int 2 199),F6 P "__static_attributes__" 201 (.ref 22),F6 P "__weakref__" 203 (.ref 25),F6 P "__doc__" 204 .none] 3,#[]⟩) ::
 (nat_lit 24,⟨.type "type",none,.cls { name := "MarkError",qualname := "MarkError",bases:=[.type "ValueError"],mro:=[.ref 24,.type "ValueError",.type "Exception",.type "BaseException",.type "object"],ns:=23,hasDict:=true,subclasses:=[.ref 37],abstract:=false,hasDel:=false },#[some (.ref 15),none,some (.str "MarkError" 189),some (.str "MarkError" 197),some (.builtin "ValueError.__new__"),some (.bool true)]⟩) ::
 (nat_lit 36,⟨.type "dict",none,.dict #[F6 P "__module__" 214 (.str "staymark.errors" 187),F6 P "__firstlineno__" 218 (.int 4 217),F6 P "__static_attributes__" 219 (.ref 35),F6 P "__doc__" 220 .none] 2,#[]⟩) ::
 (nat_lit 37,⟨.type "type",none,.cls { name := "NoPlace",qualname := "NoPlace",bases:=[.ref 24],mro:=[.ref 37,.ref 24,.type "ValueError",.type "Exception",.type "BaseException",.type "object"],ns:=36,hasDict:=true,subclasses:=[],abstract:=false,hasDel:=false },#[some (.ref 28),none,some (.str "NoPlace" 207),some (.str "NoPlace" 215),some (.builtin "ValueError.__new__"),some (.bool true)]⟩) ::
 (nat_lit 45,M4 9 235 12 2 40 (.ref 42) (.ref 43) (.ref 44) 240) ::
 (nat_lit 46,M3 9 (.str "staymark.deeds" 223) 45) ::
 (nat_lit 52,M4 10 243 14 2 47 (.ref 49) (.ref 50) (.ref 51) 248) ::
 (nat_lit 53,M3 10 (.str "staymark.deeds" 223) 52) ::
 (nat_lit 57,M4 11 251 16 4 54 .none .none (.ref 56) 254) ::
 (nat_lit 58,M3 11 (.str "staymark.deeds" 223) 57) ::
 (nat_lit 64,M4 12 257 20 1 59 (.ref 61) (.ref 62) (.ref 63) 261) ::
 (nat_lit 65,M3 12 (.str "staymark.deeds" 223) 64) ::
 (nat_lit 71,M4 13 264 22 1 66 (.ref 68) (.ref 69) (.ref 70) 268) ::
 (nat_lit 72,M3 13 (.str "staymark.deeds" 223) 71) ::
 (nat_lit 78,M4 14 271 24 1 73 (.ref 75) (.ref 76) (.ref 77) 275) ::
 (nat_lit 79,M3 14 (.str "staymark.deeds" 223) 78) ::
 (nat_lit 85,M4 15 278 26 1 80 (.ref 82) (.ref 83) (.ref 84) 282) ::
 (nat_lit 86,M3 15 (.str "staymark.deeds" 223) 85) ::
 (nat_lit 92,M4 16 285 28 1 87 (.ref 89) (.ref 90) (.ref 91) 289) ::
 (nat_lit 93,M3 16 (.str "staymark.deeds" 223) 92) ::
 (nat_lit 99,M4 17 292 30 1 94 (.ref 96) (.ref 97) (.ref 98) 296) ::
 (nat_lit 100,M3 17 (.str "staymark.deeds" 223) 99) ::
 (nat_lit 106,M4 18 299 32 1 101 (.ref 103) (.ref 104) (.ref 105) 303) ::
 (nat_lit 107,M3 18 (.str "staymark.deeds" 223) 106) ::
 (nat_lit 111,M4 19 306 34 1 108 .none .none (.ref 110) 309) ::
 (nat_lit 112,M3 19 (.str "staymark.deeds" 223) 111) ::
 (nat_lit 116,M4 20 312 36 1 113 .none .none (.ref 115) 315) ::
 (nat_lit 117,M3 20 (.str "staymark.deeds" 223) 116) ::
 (nat_lit 123,M4 21 318 40 2 118 (.ref 120) (.ref 121) (.ref 122) 323) ::
 (nat_lit 124,M3 21 (.str "staymark.deeds" 223) 123) ::
 (nat_lit 128,M4 22 326 52 1 125 .none .none (.ref 127) 329) ::
 (nat_lit 129,M3 22 (.str "staymark.deeds" 223) 128) ::
 (nat_lit 133,M4 23 332 61 1 130 .none .none (.ref 132) 335) ::
 (nat_lit 134,M3 23 (.str "staymark.deeds" 223) 133) ::
 (nat_lit 138,M4 24 338 65 1 135 .none .none (.ref 137) 341) ::
 (nat_lit 139,M3 24 (.str "staymark.deeds" 223) 138) ::
 (nat_lit 145,M4 25 344 71 1 140 (.ref 142) (.ref 143) (.ref 144) 348) ::
 (nat_lit 146,M3 25 (.str "staymark.deeds" 223) 145) ::
 (nat_lit 150,M4 26 351 73 1 147 .none .none (.ref 149) 354) ::
 (nat_lit 151,M3 26 (.str "staymark.deeds" 223) 150) ::
 (nat_lit 155,M4 27 357 75 2 152 .none .none (.ref 154) 360) ::
 (nat_lit 156,M3 27 (.str "staymark.deeds" 223) 155) ::
 (nat_lit 160,M4 28 363 79 1 157 .none .none (.ref 159) 366) ::
 (nat_lit 161,M3 28 (.str "staymark.deeds" 223) 160) ::
 (nat_lit 167,M4 30 371 85 1 162 (.ref 164) (.ref 165) (.ref 166) 377) ::
 (nat_lit 168,M3 30 (.str "staymark.orders" 369) 167) ::
 (nat_lit 172,M4 31 380 91 1 169 .none .none (.ref 171) 383) ::
 (nat_lit 173,M3 31 (.str "staymark.orders" 369) 172) ::
 (nat_lit 179,M4 32 386 105 1 174 (.ref 176) (.ref 177) (.ref 178) 392) ::
 (nat_lit 180,M3 32 (.str "staymark.orders" 369) 179) ::
 (nat_lit 186,M4 33 395 111 2 181 (.ref 183) (.ref 184) (.ref 185) 403) ::
 (nat_lit 187,M3 33 (.str "staymark.orders" 369) 186) ::
 (nat_lit 193,M4 34 406 118 1 188 (.ref 190) (.ref 191) (.ref 192) 414) ::
 (nat_lit 194,M3 34 (.str "staymark.orders" 369) 193) ::
 (nat_lit 198,M4 35 417 125 1 195 .none .none (.ref 197) 420) ::
 (nat_lit 199,M3 35 (.str "staymark.orders" 369) 198) ::
 (nat_lit 203,M4 36 423 127 1 200 .none .none (.ref 202) 426) ::
 (nat_lit 204,M3 36 (.str "staymark.orders" 369) 203) ::
 (nat_lit 210,M4 37 429 129 1 205 (.ref 207) (.ref 208) (.ref 209) 436) ::
 (nat_lit 211,M3 37 (.str "staymark.orders" 369) 210) ::
 (nat_lit 215,M4 39 441 139 2 212 .none .none (.ref 214) 444) ::
 (nat_lit 216,M3 39 (.str "staymark.history" 439) 215) ::
 (nat_lit 220,M4 40 447 141 1 217 .none .none (.ref 219) 450) ::
 (nat_lit 221,M3 40 (.str "staymark.history" 439) 220) ::
 (nat_lit 227,M4 41 453 143 2 222 (.ref 224) (.ref 225) (.ref 226) 458) ::
 (nat_lit 228,M3 41 (.str "staymark.history" 439) 227) ::
 (nat_lit 234,M4 42 461 145 1 229 (.ref 231) (.ref 232) (.ref 233) 467) ::
 (nat_lit 235,M3 42 (.str "staymark.history" 439) 234) ::
 (nat_lit 241,M4 43 470 152 2 236 (.ref 238) (.ref 239) (.ref 240) 476) ::
 (nat_lit 242,M3 43 (.str "staymark.history" 439) 241) ::
 (nat_lit 248,M4 44 479 157 2 243 (.ref 245) (.ref 246) (.ref 247) 485) ::
 (nat_lit 249,M3 44 (.str "staymark.history" 439) 248) ::
 (nat_lit 253,M4 45 488 162 1 250 .none .none (.ref 252) 491) ::
 (nat_lit 254,M3 45 (.str "staymark.history" 439) 253) ::
 (nat_lit 258,M4 46 494 167 2 255 .none .none (.ref 257) 497) ::
 (nat_lit 259,M3 46 (.str "staymark.history" 439) 258) ::
 (nat_lit 265,M4 48 502 175 2 260 (.ref 262) (.ref 263) (.ref 264) 507) ::
 (nat_lit 266,M3 48 (.str "law_staymark_k71_whole_history" 500) 265) ::
 (nat_lit 272,M4 49 510 179 3 267 (.ref 269) (.ref 270) (.ref 271) 517) ::
 (nat_lit 273,M3 49 (.str "law_staymark_k71_whole_history" 500) 272) ::
 (nat_lit 279,M4 50 520 183 2 274 (.ref 276) (.ref 277) (.ref 278) 528) ::
 (nat_lit 280,M3 50 (.str "law_staymark_k71_whole_history" 500) 279) ::
 (nat_lit 284,M4 51 531 189 2 281 .none .none (.ref 283) 534) ::
 (nat_lit 285,M3 51 (.str "law_staymark_k71_whole_history" 500) 284) ::
 (nat_lit 289,M4 52 537 191 1 286 .none .none (.ref 288) 540) ::
 (nat_lit 290,M3 52 (.str "law_staymark_k71_whole_history" 500) 289) ::
 (nat_lit 296,M4 53 543 197 3 291 (.ref 293) (.ref 294) (.ref 295) 550) ::
 (nat_lit 297,M3 53 (.str "law_staymark_k71_whole_history" 500) 296) ::
 (nat_lit 301,M4 54 553 200 5 298 .none .none (.ref 300) 556) ::
 (nat_lit 302,M3 54 (.str "law_staymark_k71_whole_history" 500) 301) ::
 (nat_lit 306,M4 55 559 215 4 303 .none .none (.ref 305) 562) ::
 (nat_lit 307,M3 55 (.str "law_staymark_k71_whole_history" 500) 306) ::
 (nat_lit 311,M4 56 565 227 1 308 .none .none (.ref 310) 568) ::
 (nat_lit 312,M3 56 (.str "law_staymark_k71_whole_history" 500) 311)::[]
noncomputable def owV:j5:={ AO with main:={ AO.main with body:=[top 1,top 2,top 4,top 5,top 6,top 7,top 8,top 9,top 10,top 11,top 12,top 13,top 14,top 15,top 16,top 17,top 18,top 19,top 20,top 21,top 22,top 23,top 24,top 25,top 26,top 27,top 28,top 30,top 31,top 32,top 33,top 34,top 35,top 36,top 37,top 39,top 40,top 41,top 42,top 43,top 44,top 45,top 46,top 48,top 49,top 50,top 51,top 52,top 53,top 54,top 55,top 56] } }
set_option maxHeartbeats 0 in
theorem owL:PySem.W.LeftO AO owV [] (fun s=>PySem.W.xlAt owV [] s&&PySem.W.recOk (PySem.W.RowW.records (PySem.W.OpenRow.toRowW (PySem.W.OpenLaw.row PySem.Challenge.rw_staymark_k71_whole_history))) s) (PySem.W.Hook.obs (PySem.W.kHook ownK [3,23,24,36,37,45,46,52,53,57,58,64,65,71,72,78,79,85,86,92,93,99,100,106,107,111,112,116,117,123,124,128,129,133,134,138,139,145,146,150,151,155,156,160,161,167,168,172,173,179,180,186,187,193,194,198,199,203,204,210,211,215,216,220,221,227,228,234,235,241,242,248,249,253,254,258,259,265,266,272,273,279,280,284,285,289,290,296,297,301,302,306,307,311,312] (fun _=>by kernel_rfl))) (PySem.W.Hook.val (PySem.W.kHook ownK [3,23,24,36,37,45,46,52,53,57,58,64,65,71,72,78,79,85,86,92,93,99,100,106,107,111,112,116,117,123,124,128,129,133,134,138,139,145,146,150,151,155,156,160,161,167,168,172,173,179,180,186,187,193,194,198,199,203,204,210,211,215,216,220,221,227,228,234,235,241,242,248,249,253,254,258,259,265,266,272,273,279,280,284,285,289,290,296,297,301,302,306,307,311,312] (fun _=>by kernel_rfl))) 9000:=by
 intro w
 kernel_rfl
end Sm
namespace L2
open PySem PySem.Spec PyProof.Rows
abbrev Key:=Sum Int Str
def vM:Key->zV->Bool
 | .inl k,v=>Value.isInt k v
 | .inr x,v=>Value.isStrOf x v
def keyH (w:l9):Key->Int
 | .inl k=>hashInt k
 | .inr x=>hashStr w x
theorem M8:∀ {k:Key} {v:zV},vM k v=true->(∃ i t,k=KA i/\v=JY i t)\/(∃ x t,k=JZ x/\v=ME x t)
 | .inl i,v,h=>by
   obtain ⟨t,e⟩:=Value.isInt_shape (k:=i) (v:=v) h; exact .inl ⟨i,t,rfl,e⟩
 | .inr x,v,h=>by
   obtain ⟨t,e⟩:=NO (x:=x) (v:=v) h; exact .inr ⟨x,t,rfl,e⟩
theorem yJ (a b:Int):decide ((KA a:Key)=KA b)=(a==b):=by
 by_cases e:a=b
 . subst e; simp
 . have h:¬ (KA a:Key)=KA b:=fun q=>e (Sum.inl.inj q)
   rw [decide_eq_false h]; exact (beq_eq_false_iff_ne.mpr e).symm
theorem yG (a b:Str):decide ((JZ a:Key)=JZ b)=decide (a=b):=by
 by_cases e:a=b
 . subst e; simp
 . have h:¬ (JZ a:Key)=JZ b:=fun q=>e (Sum.inr.inj q)
   rw [decide_eq_false h,decide_eq_false e]
theorem yI (a:Int) (b:Str):decide ((KA a:Key)=JZ b)=false:=decide_eq_false (fun q=>nomatch q)
theorem yH (a:Str) (b:Int):decide ((JZ a:Key)=KA b)=false:=decide_eq_false (fun q=>nomatch q)
def Xb (prog:j5) (w:l9):PySem.KeyKind prog w Key where
 is:=vM
 hash:=keyH w
 inj:=fun v a b ha hb=>by
   rcases M8 ha with ⟨i,t,rfl,rfl⟩ | ⟨x,t,rfl,rfl⟩
   . rcases M8 hb with ⟨j,u,rfl,e⟩ | ⟨y,u,rfl,e⟩
     . injection e with e1 _; rw [e1]
     . exact nomatch e
   . rcases M8 hb with ⟨j,u,rfl,e⟩ | ⟨y,u,rfl,e⟩
     . exact nomatch e
     . injection e with e1 _; rw [e1]
 byValue:=fun k v h=>by
   rcases M8 h with ⟨i,t,rfl,rfl⟩ | ⟨x,t,rfl,rfl⟩ <;> rfl
 pyHash:=fun hv h=>by
   rcases M8 hv with ⟨i,t,rfl,rfl⟩ | ⟨x,t,rfl,rfl⟩
   . exact wpAny_pyHash_int h
   . exact wpAny_pyHash_str h
 eqBool:=fun hu hv h=>by
   rcases M8 hu with ⟨i,t,rfl,rfl⟩ | ⟨x,t,rfl,rfl⟩
   . rcases M8 hv with ⟨j,u,rfl,rfl⟩ | ⟨y,u,rfl,rfl⟩
     . rw [yJ] at h; exact wpAny_eqBool_int h
     . rw [yI] at h; exact SeqAt.EqAt.int_str i t y u _ _ _ _ h
   . rcases M8 hv with ⟨j,u,rfl,rfl⟩ | ⟨y,u,rfl,rfl⟩
     . rw [yH] at h; exact SeqAt.EqAt.str_int x t j u _ _ _ _ h
     . rw [yG] at h; exact wpAny_eqBool_str h
 «strs» := fun k x t v h=>by
   rcases M8 h with ⟨i,u,rfl,e⟩ | ⟨y,u,rfl,e⟩
   . exact nomatch e
   . injection e with e1 _
     subst e1;cases v <;> rfl
end L2
namespace L2
open PySem PySem.Spec PyProof.Rows
inductive V where
 | non | bl (b:Bool) | int (i:Int) | str (x:Str) | byt (b:Array UInt8) | flt (b:UInt64) | ref (a:c6) | ty (n:String)
 deriving DecidableEq
def RelV:V->zV->Prop
 | .non,u=>u=AL
 | .bl b,u=>u=FQ b
 | .int i,u=>∃ t,u=JY i t
 | .str x,u=>∃ t,u=ME x t
 | .byt b,u=>∃ t,u=Value.bytes b t
 | .flt b,u=>∃ t,u=Value.float b t
 | .ref a,u=>u=u9 a
 | .ty n,u=>u=CM n
abbrev Vals:List V->List zV->Prop:=z6 RelV
theorem Vals.length {xs:List V} {us:List zV} (r:Vals xs us):xs.length=us.length:=Paired.length r
theorem Vals.get:∀ {xs:List V} {us:List zV} {i:Nat} {x:V},Vals xs us->xs[i]? = some x->∃ u,us[i]? = some u/\RelV x u
 | _,_,_,_,.nil,e=>by simp at e
 | _,_,0,_,.cons r _,e=>by simp at e; subst e; exact ⟨_,rfl,r⟩
 | _,_,i+1,x,.cons _ t,e=>by
   obtain ⟨u,h1,h2⟩:=Vals.get (i:=i) (x:=x) t (by simpa using e);exact ⟨u,by simpa using h1,h2⟩
theorem Vals.set {x:V} {u:zV} (r:RelV x u):∀ {xs:List V} {us:List zV} (i:Nat),Vals xs us->Vals (xs.set i x) (us.set i u)
 | _,_,_,.nil=>.nil
 | _,_,0,.cons _ t=>.cons r t
 | _,_,i+1,.cons q t=>.cons q (Vals.set r i t)
theorem Vals.append:∀ {xs ys:List V} {us ws:List zV},Vals xs us->Vals ys ws->Vals (xs++ys) (us++ws)
 | _,_,_,_,.nil,s=>s
 | _,_,_,_,.cons r t,s=>.cons r (Vals.append t s)
theorem Vals.take:∀ {xs:List V} {us:List zV} (n:Nat),Vals xs us->Vals (xs.take n) (us.take n)
 | _,_,0,_=>.nil
 | _,_,_+1,.nil=>.nil
 | _,_,n+1,.cons r t=>.cons r (Vals.take n t)
theorem Vals.drop:∀ {xs:List V} {us:List zV} (n:Nat),Vals xs us->Vals (xs.drop n) (us.drop n)
 | _,_,0,r=>r
 | _,_,_+1,.nil=>.nil
 | _,_,n+1,.cons _ t=>Vals.drop n t
def zP:Option V->Option zV->Prop
 | some v,some u=>RelV v u
 | none,none=>True
 | _,_=>False
def KV {κ:Type}:List (κ×V)->List (κ×zV)->Prop:=z6 fun (p:κ×V) (q:κ×zV)=>p.1=q.1/\RelV p.2 q.2
def kV:Key->V
 | .inl i=>.int i
 | .inr x=>.str x
inductive HO where
 | lst (xs:List V)
 | tup (xs:List V)
 | dK (kvs:List (Key×V)) | dT (kvs:List (List Key×V))
 | dN (kvs:List (zS×V))
 | set (S:Int->Bool) (n:Nat)
 | ins (C dx:c6) (fs:List (Str×V))
 | own (x:c6)
 | xd (fs:List (Str×V))
 | met (f x:c6)
 | rng (lo hi:Int)
 | frz (o:Obj) (u:HO)
 | tbl (ps:Array zV)
 | ext (φ:p9->Prop)
abbrev Hp:=c6->Option HO
def upd (H:Hp) (a:c6) (o:HO):Hp:=fun b=>if b=a then some o else H b
theorem C3 {H:Hp} {a:c6} {o:HO}:upd H a o a=some o:=by unfold upd; rw [if_pos rfl]
theorem C4 {H:Hp} {a b:c6} {o:HO} (h:b≠a):upd H a o b=H b:=by unfold upd; rw [if_neg h]
theorem Vs {H:Hp} {a:c6} {o u:HO}:upd (upd H a o) a u=upd H a u:=by
 funext b; unfold upd; split <;> rfl
theorem Qs {H:Hp} {a b:c6} {o u:HO} (h:H a=some o) (h':H b=some u) (d:o≠u):a≠b:=by
 intro e; subst e; rw [h] at h'; exact d (u6 h')
theorem E3 {H:Hp} {a b:c6} {o:HO} (h:H a=some o) (h':H b=none):a≠b:=by
 intro e; subst e; rw [h] at h'; cases h'
mutual
def isK:zS->Bool
 | .int _=>true
 | .str _=>true
 | .tuple xs=>Hd xs
 | .none | .bool _ | .list _ | .dict _=>false
def Hd:List zS->Bool
 | []=>true
 | x::r=>isK x&&Hd r
end
mutual
def aR (w:l9):zS->Int
 | .int i=>hashInt i
 | .str x=>hashStr w x
 | .tuple xs=>reduceHash (JN (Gy w xs))
 | .none | .bool _ | .list _ | .dict _=>0
def Gy (w:l9):List zS->List Int
 | []=>[]
 | x::r=>aR w x::Gy w r
end
def W7 (w:l9):zS->Int
 | .none=>0xFCA86420
 | d=>aR w d
def nkD (d:zS):Bool:=match d with
 | .none=>true
 | .str _=>true
 | .tuple xs=>Hd xs&&decide ((AD xs).depth<=8)
 | _=>false
mutual
def KRep (H:Hp):zS->V->Prop
 | .none,v=>v=.non
 | .int i,v=>v=.int i
 | .str x,v=>v=.str x/\l7 x=true/\x.length<=sizeLine
 | .tuple ds,v=>∃ b xs,v=.ref b/\H b=some (.tup xs)/\KRepL H ds xs
 | .bool _,_=>False
 | .list _,_=>False
 | .dict _,_=>False
def KRepL (H:Hp):List zS->List V->Prop
 | [],xs=>xs=[]
 | d::ds,xs=>∃ x r,xs=x::r/\KRep H d x/\KRepL H ds r
end
mutual
theorem KRep.mono {H H':Hp} (ht:∀ b xs,H b=some (.tup xs)->H' b=some (.tup xs)):∀ {d:zS} {v:V},KRep H d v->KRep H' d v
 | .none,_,r=>r
 | .int _,_,r=>r
 | .str _,_,r=>r
 | .tuple _,_,r=>by obtain ⟨b,xs,e,q,l⟩:=r; exact ⟨b,xs,e,ht _ _ q,KRepL.mono ht l⟩
 | .bool _,_,r=>r.elim
 | .list _,_,r=>r.elim
 | .dict _,_,r=>r.elim
theorem KRepL.mono {H H':Hp} (ht:∀ b xs,H b=some (.tup xs)->H' b=some (.tup xs)):∀ {ds:List zS} {xs:List V},KRepL H ds xs->KRepL H' ds xs
 | [],_,r=>r
 | _::_,_,r=>by obtain ⟨x,t,e,q,l⟩:=r; exact ⟨x,t,e,KRep.mono ht q,KRepL.mono ht l⟩
end
def T5 (w:l9) (kvs:List (zS×V)) (xs:List (zV×zV)):List u8:=List.zipWith (fun p q=>⟨W7 w p.1,q.1,q.2⟩) kvs xs
section
variable (P:j5) (w:l9)
def ObjOk (H:Hp) (h:p9) (a:c6):HO->Prop
 | .lst xs=>xs.length<=sizeLine/\∃ (its:List zV) (n:Nat),Vals xs its/\h.get? a=some { cls:=.type "list",data:=.seq its.toArray n }
 | .tup xs=>xs.length<=sizeLine/\∃ its:List zV,Vals xs its/\IX h a its.toArray
 | .dK kvs=>kvs.length<=sizeLine/\(a==CH)=false/\∃ vs,KV kvs vs/\h.DictOf (Xb P w) a vs
 | .dT kvs => kvs.length <= sizeLine /\ (a == CH) = false /\ ∃ xs : List (List Key × c6 × zV),
     z6 (fun (p:List Key×V) (q:List Key×c6×zV)=>p.1=q.1/\H q.2.1=some (.tup (p.1.map kV))/\RelV p.2 q.2.2) kvs xs /\
     ∃ o es ep,h.get? a=some o/\o.ExactDict/\o.data=.dict es ep/\es.toList=xs.map (entryOfKey (tupleKind (Xb P w)))/\(xs.map (·.1)).Nodup
 | .dN kvs => kvs.length <= sizeLine /\ (a == CH) = false /\ (kvs.map (·.1)).Nodup /\ (∀ p ∈ kvs, nkD p.1 = true) /\ ∃ xs : List (zV × zV),
     z6 (fun (p:zS×V) (q:zV×zV)=>(∃ v,KRep H p.1 v/\RelV v q.1)/\RelV p.2 q.2) kvs xs/\∃ ep,h.get? a=some { cls:=.type "dict",data:=.dict (T5 w kvs xs).toArray ep }
 | .set S n=>h.SetOf (LF P w) a S n
 | .ins C dx fs => H dx = some (.own a) /\ fs.length <= 1000 /\ dx ≠ a /\ h.get? a = some (KC C dx) /\
     ∃ mA,h.Ns1 dx mA/\(∀ f,zP (fs.lookup f) (mA f))/\PySem.Within mA (fs.map (·.1))
 | .own _=>∃ o,h.get? a=some o
 | .xd fs=>∃ mA,h.Ns1 a mA/\∀ f,zP (fs.lookup f) (mA f)
 | .rng lo hi=>∃ t u v,h.get? a=some { cls:=.type "range",data:=.fields #[.int lo t,.int hi u,.int 1 v] }
 | .frz o u=>h.get? a=some o/\ObjOk H h a u
 | .tbl ps=>h.get? a=some { cls:=.none,data:=.fields ps }
 | .met f x=>h.get? a=some (JA (.ref f) (.ref x))
 | .ext φ=>φ h/\(∃ o,h.get? a=some o)/\∀ h1 h2:p9,φ h1->(∀ o,h1.get? a=some o->h2.get? a=some o)->φ h2
def HOk (H:Hp) (h:p9):Prop:=∀ a o,H a=some o->ObjOk P w H h a o
end
section
variable {P:j5} {w:l9} {H H':Hp} {h h':p9} {a:c6} {o:HO}
theorem ObjOk.lt (x:ObjOk P w H h a o):a < h.objs.size:=by
 cases o with
 | lst xs=>obtain ⟨_,_,_,_,e⟩:=x; exact i8 e
 | tup xs=>obtain ⟨_,_,_,p⟩:=x; exact p.lt
 | dK kvs=>obtain ⟨_,_,_,_,o,_,_,e,_⟩:=x; exact i8 e
 | dT kvs=>obtain ⟨_,_,_,_,o,_,_,e,_⟩:=x; exact i8 e
 | dN kvs=>obtain ⟨_,_,_,_,_,_,_,e⟩:=x; exact i8 e
 | set S n=>obtain ⟨o,_,_,_,e,_⟩:=x; exact i8 e
 | ins C dx fs=>obtain ⟨_,_,_,e,_⟩:=x; exact i8 e
 | own y=>obtain ⟨_,e⟩:=x; exact i8 e
 | xd fs=>obtain ⟨_,⟨_,_,_,e,_⟩,_⟩:=x; exact i8 e
 | rng lo hi=>obtain ⟨_,_,_,e⟩:=x; exact i8 e
 | frz ob u=>obtain ⟨e,_⟩:=x; exact i8 e
 | tbl ps=>exact i8 (show h.get? a=some _ from x)
 | met f y=>exact i8 (show h.get? a=some _ from x)
 | ext φ=>obtain ⟨_,⟨_,e⟩,_⟩:=x; exact i8 e
theorem Paired.mapP {α β:Type} {F G:α->β->Prop}:∀ {l₁:List α} {l₂:List β},z6 F l₁ l₂->(∀ a b,F a b->G a b)->z6 G l₁ l₂
 | _,_,.nil,_=>.nil
 | _,_,.cons r t,f=>.cons (f _ _ r) (Paired.mapP t f)
theorem ObjOk.stay (x:ObjOk P w H h a o) (k:∀ b u,(b=a\/H b=some (.own a))->h.get? b=some u->h'.get? b=some u)
   (ho:∀ b,H b=some (.own a)->H' b=some (.own a)) (ht:∀ b xs,H b=some (.tup xs)->H' b=some (.tup xs)):ObjOk P w H' h' a o:=by
 induction o with
 | lst xs=>obtain ⟨z,its,n,r,e⟩:=x; exact ⟨z,its,n,r,k _ _ (.inl rfl) e⟩
 | tup xs=>obtain ⟨z,its,r,ob,e,c⟩:=x; exact ⟨z,its,r,ob,k _ _ (.inl rfl) e,c⟩
 | dK kvs=>obtain ⟨z,y,vs,r,ob,es,ep,e,c⟩:=x; exact ⟨z,y,vs,r,ob,es,ep,k _ _ (.inl rfl) e,c⟩
 | dT kvs =>
   obtain ⟨z,y,xs,r,ob,es,ep,e,c⟩:=x; exact ⟨z,y,xs,Paired.mapP r fun p q z=>⟨z.1,ht _ _ z.2.1,z.2.2⟩,ob,es,ep,k _ _ (.inl rfl) e,c⟩
 | dN kvs =>
   obtain ⟨z,y,nd,nk,xs,r,ep,e⟩:=x; exact ⟨z,y,nd,nk,xs,Paired.mapP r fun p q hZ2=>by obtain ⟨⟨v,z1,z2⟩,z3⟩:=hZ2; exact ⟨⟨v,z1.mono ht,z2⟩,z3⟩,ep,k _ _ (.inl rfl) e⟩
 | set S n=>obtain ⟨ob,es,ep,t,e,c⟩:=x; exact ⟨ob,es,ep,t,k _ _ (.inl rfl) e,c⟩
 | ins C dx fs =>
   obtain ⟨d,z,ne,e,mA,⟨od,es,ep,e2,c⟩,r⟩:=x; exact ⟨ho _ d,z,ne,k _ _ (.inl rfl) e,mA,⟨od,es,ep,k _ _ (.inr d) e2,c⟩,r⟩
 | own y=>obtain ⟨ob,e⟩:=x; exact ⟨ob,k _ _ (.inl rfl) e⟩
 | xd fs=>obtain ⟨mA,⟨od,es,ep,e,c⟩,r⟩:=x; exact ⟨mA,⟨od,es,ep,k _ _ (.inl rfl) e,c⟩,r⟩
 | rng lo hi=>obtain ⟨t,u,v,e⟩:=x; exact ⟨t,u,v,k _ _ (.inl rfl) e⟩
 | frz ob u ih=>obtain ⟨e,q⟩:=x; exact ⟨k _ _ (.inl rfl) e,ih q⟩
 | tbl ps =>
   have e:h.get? a=some { cls:=.none,data:=.fields ps }:=x; show h'.get? a=some { cls:=.none,data:=.fields ps };exact k a _ (.inl rfl) e
 | met f y =>
   have e:h.get? a=some (JA (.ref f) (.ref y)):=x; show h'.get? a=some (JA (.ref f) (.ref y));exact k a _ (.inl rfl) e
 | ext φ=>obtain ⟨p,⟨o,e⟩,st⟩:=x; exact ⟨st _ _ p fun o q=>k _ _ (.inl rfl) q,⟨o,k _ _ (.inl rfl) e⟩,st⟩
theorem HOk.lt (x:HOk P w H h) (e:H a=some o):a < h.objs.size:=(x a o e).lt
theorem HOk.fresh (x:HOk P w H h) (e:h.objs.size<=a):H a=none:=by
 cases q:H a with
 | none=>rfl
 | some u=>exact absurd (m3 (x.lt q) e) (BV _)
theorem HOk.kept (x:HOk P w H h) (k:∀ b u,h.get? b=some u->h'.get? b=some u):HOk P w H h':=fun a o e =>
 (x a o e).stay (fun b u _ q=>k b u q) (fun _ q=>q) fun _ _ q=>q
theorem HOk.laid (x:HOk P w H h) (k:∀ b u,h.get? b=some u->h'.get? b=some u) (hp:h.objs.size<=a) (new:ObjOk P w (upd H a o) h' a o):HOk P w (upd H a o) h':=fun b u e=>by
 have hn:=x.fresh hp;by_cases hb:b=a
 . subst hb; rw [C3] at e; cases e; exact new
 . rw [C4 hb] at e
   exact (x b u e).stay (fun c v _ q=>k c v q) (fun c q=>by rw [C4 (E3 q hn)]; exact q) fun c xs q=>by rw [C4 (E3 q hn)]; exact q
end
def Rd (H:Hp) (a:c6) (u:HO):Prop:=H a=some u\/∃ o,H a=some (.frz o u)
theorem Rd.ok {P:j5} {w:l9} {H:Hp} {h:p9} {a:c6} {u:HO} (r:Rd H a u) (x:HOk P w H h):ObjOk P w H h a u:=by
 rcases r with r | ⟨o,r⟩
 . exact x a u r
 . obtain ⟨_,q⟩:=x a _ r
   exact q
def Mut:Option HO->Prop
 | some (.lst _)=>True
 | some (.dK _)=>True
 | some (.dT _)=>True
 | some (.dN _)=>True
 | some (.set _ _)=>True
 | some (.ins _ _ _)=>True
 | some (.ext _)=>True
 | _=>False
section
variable {P:j5} {w:l9} {H:Hp} {h h':p9} {x e:c6} {o':HO}
theorem HOk.write (ok:HOk P w H h) (mu:Mut (H x)) (he:e=x\/H e=some (.own x)) (k:∀ b u,b≠e->h.get? b=some u->h'.get? b=some u) (heo:∃ u,h'.get? e=some u)
   (new:ObjOk P w (upd H x o') h' x o'):HOk P w (upd H x o') h':=fun b u q=>by
 have nown:∀ c y,H c=some (.own y)->c≠x:=fun c y r z=>by subst z; rw [r] at mu; exact mu
 have ntup:∀ c xs,H c=some (.tup xs)->c≠x:=fun c xs r z=>by subst z; rw [r] at mu; exact mu
 by_cases hb:b=x
 . subst hb; rw [C3] at q; cases q; exact new
 . rw [C4 hb] at q
   by_cases hbe:b=e
   . have q' : H b = some (.own x) := by
       rcases he with z | z
       . exact absurd (hbe.trans z) hb
       . rw [hbe]; exact z
     rw [q] at q'; cases q';obtain ⟨v,hv⟩:=heo; exact ⟨v,by rw [hbe]; exact hv⟩
   . refine (ok b u q).stay (fun c v hc r=>k c v ?_ r) (fun c r=>by rw [C4 (nown c b r)]; exact r) fun c xs r=>by rw [C4 (ntup c xs r)]; exact r
     rcases hc with rfl | hc
     . exact hbe
     . rintro rfl
       rcases he with z | z
       . exact nown c b hc z
       . rw [hc] at z; cases z; exact hb rfl
end
structure Un (fs ex:List c6) (H H':Hp) (h h':p9):Prop where
 keep:∀ b o,h.get? b=some o->H b=none->b∉fs->b∉ex->h'.get? b=some o
 slot:∀ b o,h.get? b=some o->H b=none->b∈fs->b∉ex->∃ sl,h'.get? b=some { o with slots:=sl }
 free:∀ b o,h.get? b=some o->H b=none->b∉ex->H' b=none
 there:∀ b o,h.get? b=some o->b∉ex->∃ o',h'.get? b=some o'
 tups:∀ b xs,H b=some (.tup xs)->H' b=some (.tup xs)
 frzs:∀ b o u,H b=some (.frz o u)->H' b=some (.frz o u)
 tbls:∀ b ps,H b=some (.tbl ps)->∃ more,H' b=some (.tbl (ps++more))
section
variable {fs ex:List c6} {H H1:Hp} {h h1 h':p9} {a x e:c6} {o:HO}
theorem Un.any (u:Un fs ex H H1 h h1) {b:c6} {ob:Obj} (q:h.get? b=some ob) (n:H b=none) (hx:b∉ex):∃ sl,h1.get? b=some { ob with slots:=sl }:=by
 by_cases hb:b∈fs
 . exact u.slot b ob q n hb hx
 . exact ⟨ob.slots,u.keep b ob q n hb hx⟩
theorem Un.kept (k:∀ b u,h.get? b=some u->h'.get? b=some u):Un fs ex H H h h' :=
 ⟨fun b ob q _ _ _=>k b ob q,fun b ob q _ _ _=>⟨ob.slots,k b ob q⟩,fun _ _ _ n _=>n,fun b ob q _=>⟨ob,k b ob q⟩,fun _ _ q=>q,fun _ _ _ q=>q,fun _ ps q=>⟨#[],by rw [q]; simp⟩⟩
theorem Un.refl:Un fs ex H H h h:=Un.kept fun _ _ q=>q
theorem Un.laid (k:∀ b u,h.get? b=some u->h'.get? b=some u) (hp:h.objs.size<=a) (hn:H a=none):Un fs ex H (upd H a o) h h' where
 keep:=fun b u q _ _ _=>k b u q
 slot:=fun b u q _ _ _=>⟨u.slots,k b u q⟩
 free:=fun b u q n _=>by rw [C4 (m6 (m3 (i8 q) hp))]; exact n
 there:=fun b u q _=>⟨u,k b u q⟩
 tups:=fun b xs q=>by rw [C4 (E3 q hn)]; exact q
 frzs:=fun b u xs q=>by rw [C4 (E3 q hn)]; exact q
 tbls:=fun b ps q=>⟨#[],by rw [C4 (E3 q hn),q]; simp⟩
theorem Un.write (mu:Mut (H x)) (he:e=x\/H e=some (.own x)) (k:∀ b u,b≠e->h.get? b=some u->h'.get? b=some u) (heo:∃ u,h'.get? e=some u):Un fs ex H (upd H x o) h h':=by
 have hx:∀ b,H b=none->b≠x:=fun b n z=>by subst z; rw [n] at mu; exact mu
 have hb:∀ b,H b=none->b≠e:=fun b n z=>by
   subst z; rcases he with r | r
   . exact hx b n r
   . rw [n] at r; cases r
 have hm:∀ b u,H b=some u->¬ Mut (some u)->b≠x:=fun b u q nm z=>by subst z; rw [q] at mu; exact nm mu
 refine ⟨fun b u q n _ _=>k b u (hb b n) q,fun b u q n _ _=>⟨u.slots,k b u (hb b n) q⟩,fun b u q n _=>by rw [C4 (hx b n)]; exact n,fun b u q _=>?_,
   fun b xs q=>by rw [C4 (hm b _ q fun z=>z)]; exact q,fun b u xs q=>by rw [C4 (hm b _ q fun z=>z)]; exact q,fun b ps q=>⟨#[],by rw [C4 (hm b _ q fun z=>z),q]; simp⟩⟩
 by_cases hbe:b=e
 . subst hbe; exact heo
 . exact ⟨u,k b u hbe q⟩
end
def trk (h:p9) (H:Hp):List c6:=(o9 h.objs.size).filter fun a=>(H a).isSome
def Xj (h:p9) (H:Hp):p9:=PySem.W.hideAll h (trk h H)
theorem jO (h:p9) (H:Hp):(Xj h H).objs.size=h.objs.size:=PySem.W.hideAll_size _ _
theorem oB {h:p9} {H:Hp} {b:c6} {o:Obj} (e:h.get? b=some o) (n:H b=none):(Xj h H).get? b=some o :=
 PySem.W.hideAll_get _ e fun hm=>by
   have q:(H b).isSome=true:=(o6.mp hm).2; rw [n] at q; simp at q
theorem sL {h:p9} {H:Hp} {b:c6} {o:Obj} (e:(Xj h H).get? b=some o):h.get? b=some o/\H b=none:=by
 have e':h.get? b=some o:=PySem.W.of_hideAll (trk h H) e;refine ⟨e',?_⟩;cases q:H b with
 | none=>rfl
 | some x =>
   have hm:b∈trk h H:=o6.mpr ⟨q9.mpr (i8 e'),by simp [q]⟩;have z:(Xj h H).get? b=none:=PySem.W.hideAll_none (trk h H) hm; rw [z] at e; cases e
def uR (g h:p9) (L:c6):List (c6×Obj):=(o9 h.objs.size).filterMap fun a=>if a=L\/(g.get? a).isSome=true then none else (h.get? a).map fun o=>(a,o)
def I8 (g h:p9) (L d:c6):List (c6×Obj):=(uR g h L).filter fun p=>decide (p.1≠d)
end L2
namespace L2
open PySem PySem.Spec PyProof.Rows
structure Mod (K:zX) (mg:Str->Option zV) (base:p9):Prop where
 kin:K.In base
 glob:base.Ns z0 mg
 blt:∃ mb,base.Ns IN mb/\∀ x:Str,x ≠ "__name__" -> mb x=CV x
 nolimit:base.NoLimit
structure Cx where
 prog:j5
 w:l9
 K:zX
 mg:Str->Option zV
 base:p9
 A:u5
 N:List Str
 s₀:zW
 H₀:Hp
 env:Env
 outer:List Env
 stack:List Env
 ex:List c6
 fn:Str->Bool
 calm:Bool
 pn:List (c6×Obj)
 xe:zV->zW->Prop
def frs (l:List Env):List c6:=l.filterMap (·.frame)
abbrev Cx.fs (X:Cx):List c6:=frs X.outer
def Vis (sc:Scope) (x:Str):Prop:=sc.names.lookup x=some .local\/sc.names.lookup x=some .cell\/sc.names.lookup x=some .free
def Loc (sc:Scope) (x:Str):Prop:=sc.names.lookup x=some .local\/sc.names.lookup x=some .cell
def Look (env:Env) (h:p9) (m:Str->Option zV) (x:Str) (u:zV):Prop :=
 (env.kindOf x=some .local/\m x=some u)\/((env.kindOf x=some .cell\/env.kindOf x=some .free)/\∃ c,env.cells.lookup x=some c/\h.IsCell c (some u))
structure Cx.Ok (X:Cx):Prop where
 mod:Mod X.K X.mg X.base
 kind:X.env.scope.kind=.function
 glob:X.env.globals=z0
 blt:X.env.builtins=IN
 above:X.s₀.heap.objs.size<=X.env.locals
 inj:∀ x y c,X.env.cells.lookup x=some c->X.env.cells.lookup y=some c->x=y
 has:∀ x,(X.env.kindOf x=some .cell\/X.env.kindOf x=some .free)->∃ c,X.env.cells.lookup x=some c
 cab:∀ x c,X.fn x=true->X.env.cells.lookup x=some c->X.s₀.heap.objs.size<=c
 hd:X.calm=true->X.A.handled=none
 frames:X.A.frames=some X.stack
 stk:X.stack=X.outer\/(X.stack=X.env::X.outer/\X.env.frame=some X.env.locals)
 exf:∀ b∈X.ex,b≠X.env.locals/\∀ x c,X.env.cells.lookup x=some c->c≠b
 bs:∀ b o,X.base.get? b=some o->X.s₀.heap.get? b=some o/\X.H₀ b=none
 bsz:X.base.objs.size<=X.s₀.heap.objs.size
 noex:∀ b o,X.base.get? b=some o->b∉X.ex
 exfs:∀ b∈X.ex,b∉X.fs
 funs:X.s₀.heap.FunFrames X.base X.outer
 frf:∀ b∈X.fs,X.H₀ b=none
structure Inv (X:Cx) (pins:List (c6×Obj)) (Z:List (Option V)) (H:Hp) (s:zW):Prop where
 ok:X.Ok
 os:s.os=X.s₀.os
 bare:IQ s.gens
 base:Un X.fs X.ex X.H₀ H X.s₀.heap s.heap
 loc:∃ m,s.heap.Ns X.env.locals m/\∀ (i:Nat) (x:Str) (v:V),X.N[i]? = some x->Z[i]? = some (some v)->Vis X.env.scope x->∃ u,RelV v u/\Look X.env s.heap m x u
 cell:∀ x c,X.env.cells.lookup x=some c->∃ v,s.heap.IsCell c v
 free:H X.env.locals=none
 freeC:∀ x c,X.env.cells.lookup x=some c->H c=none
 pin:∀ p∈X.pn++pins,s.heap.get? p.1=some p.2/\H p.1=none/\p.1≠X.env.locals/\p.1∉X.fs/\∀ v,p.2.data≠.cell v
 hok:HOk X.prog X.w H s.heap
 len:Z.length=X.N.length
section
variable {X:Cx} {pins:List (c6×Obj)} {Z:List (Option V)} {H H':Hp} {s:zW} {h':p9}
theorem Cx.Ok.nofr (ok:X.Ok) {b:c6} {o:Obj} (e:X.base.get? b=some o):b∉X.fs:=fun hb=>by
 have:=(ok.funs.mem hb).1;rw [e] at this; cases this
theorem Inv.bs (I:Inv X pins Z H s):∀ b o,X.base.get? b=some o->s.heap.get? b=some o/\H b=none:=fun b o e =>
 ⟨I.base.keep b o (I.ok.bs b o e).1 (I.ok.bs b o e).2 (I.ok.nofr e) (I.ok.noex b o e),I.base.free b o (I.ok.bs b o e).1 (I.ok.bs b o e).2 (I.ok.noex b o e)⟩
theorem Inv.bk (I:Inv X pins Z H s):∀ b o,X.base.get? b=some o->s.heap.get? b=some o:=fun b o e=>(I.bs b o e).1
theorem Inv.mod (I:Inv X pins Z H s):Mod X.K X.mg X.base:=I.ok.mod
theorem Inv.kIn (I:Inv X pins Z H s):X.K.In s.heap:=I.ok.mod.kin.keeps I.bk
theorem Inv.fr (I:Inv X pins Z H s):∃ m,Fr X.base X.env.locals s.heap m :=
 let ⟨m,hn,_⟩:=I.loc
 ⟨m,hn,I.bk,i6 I.ok.bsz I.ok.above⟩
theorem Inv.lt (I:Inv X pins Z H s):X.env.locals < s.heap.objs.size:=let ⟨_,hn,_⟩:=I.loc; hn.lt
theorem Inv.sz (I:Inv X pins Z H s):X.s₀.heap.objs.size<=s.heap.objs.size:=i6 I.ok.above (NG I.lt)
theorem Inv.nofs (I:Inv X pins Z H s) {a:c6} (h:s.heap.objs.size<=a):a∉X.fs:=fun hb=>by
 obtain ⟨_,o,ho,_⟩:=I.ok.funs.mem hb;exact absurd (m3 (i8 ho) (i6 I.sz h)) (BV _)
theorem Inv.cne (I:Inv X pins Z H s):∀ x c,X.env.cells.lookup x=some c->c≠X.env.locals:=fun x c e z=>by
 obtain ⟨v,o,ho,hd⟩:=I.cell x c e;obtain ⟨m,⟨o',es,ep,ho',hd',_⟩,_⟩:=I.loc;rw [z,ho'] at ho; cases ho; rw [hd'] at hd; cases hd
theorem Inv.funs (I:Inv X pins Z H s):s.heap.FunFrames X.base X.outer:=by
 have all:∀ (l:List Env),(∀ b∈frs l,b∈X.fs)->X.s₀.heap.FunFrames X.base l->s.heap.FunFrames X.base l:=by
   intro l;induction l with
   | nil=>intro _ _; trivial
   | cons env r ih =>
     intro hs hl; obtain ⟨hk,⟨L,o,hf,hn,ho,hd⟩,hr⟩:=hl; have hL:L∈X.fs:=hs L (by unfold frs; rw [IW,hf]; exact x6);obtain ⟨sl,e⟩:=I.base.slot L o ho (I.ok.frf L hL) hL fun z=>I.ok.exfs L z hL;exact ⟨hk,⟨L,_,hf,hn,e,hd⟩,ih (fun b hb=>hs b (by unfold frs; rw [IW,hf]; exact z7 _ hb)) hr⟩
 exact all X.outer (fun _ hb=>hb) I.ok.funs
theorem Inv.stack (I:Inv X pins Z H s):s.heap.FunFrames X.base X.stack:=by
 rcases I.ok.stk with e | ⟨e,hf⟩
 . rw [e]; exact I.funs
 . rw [e]
   obtain ⟨m,hn,_⟩:=I.loc; refine .cons (by rw [I.ok.kind]; decide) hf hn ?_ I.funs;exact AM (i6 I.ok.bsz I.ok.above)
theorem Inv.stkSub (I:Inv X pins Z H s):∀ b∈frs X.stack,b∈X.env.locals::X.fs:=fun b hb=>by
 rcases I.ok.stk with e | ⟨e,hf⟩
 . rw [e] at hb; exact z7 _ hb
 . rw [e] at hb
   unfold frs at hb; rw [IW,hf] at hb; exact hb
theorem Inv.stkFree (I:Inv X pins Z H s):∀ b∈frs X.stack,H b=none:=fun b hb=>by
 rcases a9.mp (I.stkSub b hb) with e | hb
 . rw [e]; exact I.free
 . obtain ⟨_,o,ho,_⟩:=I.ok.funs.mem hb
   exact I.base.free b o ho (I.ok.frf b hb) fun z=>I.ok.exfs b z hb
theorem Inv.step {g':Array NM} {t':Nat} {d':Drawn} {ch:List c6} (I:Inv X pins Z H s)
   (hch:∀ b∈ch,(b∈X.ex\/X.s₀.heap.objs.size<=b)/\b≠X.env.locals/\(∀ x c,X.env.cells.lookup x=some c->c≠b)/\∀ p∈X.pn++pins,p.1≠b)
   (keep:∀ b o,b≠X.env.locals->b∉X.fs->b∉ch->s.heap.get? b=some o->H b=none->h'.get? b=some o)
   (slot:∀ b o,b≠X.env.locals->b∈X.fs->b∉ch->s.heap.get? b=some o->H b=none->∃ sl,h'.get? b=some { o with slots:=sl }) (free:∀ b o,b∉ch->s.heap.get? b=some o->H b=none->H' b=none)
   (there:∀ b o,b∉ch->s.heap.get? b=some o->∃ o',h'.get? b=some o')
   (tups:∀ b xs,H b=some (.tup xs)->H' b=some (.tup xs)) (frzs:∀ b o u,H b=some (.frz o u)->H' b=some (.frz o u)) (tbls:∀ b ps,H b=some (.tbl ps)->∃ more,H' b=some (.tbl (ps++more)))
   (ns:∀ m,s.heap.Ns X.env.locals m->h'.Ns X.env.locals m) (hok:HOk X.prog X.w H' h') (hg:IQ g') :
   Inv X pins Z H' { s with heap:=h',gens:=g',drawn:=d',toks:=t' }:=by
 have neL:∀ b o,X.s₀.heap.get? b=some o->b≠X.env.locals:=fun b o e=>m6 (m3 (i8 e) I.ok.above);have neC:∀ b o,X.s₀.heap.get? b=some o->b∉X.ex->b∉ch:=fun b o e hx hb=>by
   rcases (hch b hb).1 with z | z
   . exact hx z
   . exact absurd (m3 (i8 e) z) (BV _)
 have cellK:∀ x c,X.env.cells.lookup x=some c->∀ v,s.heap.IsCell c v->h'.IsCell c v:=fun x c e v hZ4=>by
   obtain ⟨o,ho,hd⟩:=hZ4; have nch:c∉ch:=fun z=>(hch c z).2.2.1 x c e rfl;by_cases hc:c∈X.fs
   . obtain ⟨sl,q⟩:=slot c o (I.cne x c e) hc nch ho (I.freeC x c e)
     exact ⟨_,q,hd⟩
   . exact ⟨o,keep c o (I.cne x c e) hc nch ho (I.freeC x c e),hd⟩
 refine ⟨I.ok,I.os,hg,⟨fun b o e n hb hx=>?_,fun b o e n hb hx=>?_,fun b o e n hx=>?_,fun b o e hx=>?_,fun b xs e=>tups b xs (I.base.tups b xs e),fun b o xs e=>frzs b o xs (I.base.frzs b o xs e),fun b ps e=>?_⟩,?_,fun x c e=>?_,?_,fun x c e=>?_,fun p hp=>?_,hok,I.len⟩
 . exact keep b o (neL b o e) hb (neC b o e hx) (I.base.keep b o e n hb hx) (I.base.free b o e n hx)
 . obtain ⟨sl,e1⟩:=I.base.slot b o e n hb hx
   obtain ⟨sl',e2⟩:=slot b _ (neL b o e) hb (neC b o e hx) e1 (I.base.free b o e n hx); exact ⟨sl',e2⟩
 . obtain ⟨o',e1⟩:=I.base.there b o e hx
   exact free b o' (neC b o e hx) e1 (I.base.free b o e n hx)
 . obtain ⟨o',e1⟩:=I.base.there b o e hx
   exact there b o' (neC b o e hx) e1
 . obtain ⟨m1,e1⟩:=I.base.tbls b ps e
   obtain ⟨m2,e2⟩:=tbls b _ e1; exact ⟨m1++m2,by rw [e2,Array.append_assoc]⟩
 . obtain ⟨m,hn,hl⟩:=I.loc
   refine ⟨m,ns m hn,fun i x v e1 e2 e3=>?_⟩;obtain ⟨u,r,l⟩:=hl i x v e1 e2 e3; refine ⟨u,r,?_⟩; rcases l with l | ⟨k,c,e,z⟩
   . exact .inl l
   . exact .inr ⟨k,c,e,cellK x c e _ z⟩
 . obtain ⟨v,z⟩:=I.cell x c e
   exact ⟨v,cellK x c e v z⟩
 . obtain ⟨m,⟨o,_,_,ho,_⟩,_⟩:=I.loc
   exact free _ o (fun z=>(hch _ z).2.1 rfl) ho I.free
 . obtain ⟨v,o,ho,hd⟩:=I.cell x c e
   exact free c o (fun z=>(hch c z).2.2.1 x c e rfl) ho (I.freeC x c e)
 . obtain ⟨e,n,ne,nf,d⟩:=I.pin p hp
   have nch:p.1∉ch:=fun z=>(hch p.1 z).2.2.2 p hp rfl;exact ⟨keep p.1 p.2 ne nf nch e n,free p.1 p.2 nch e n,ne,nf,d⟩
theorem Inv.un {t':Nat} (I:Inv X pins Z H s) (u:Un X.fs [] H H' s.heap h') (hok:HOk X.prog X.w H' h'):Inv X pins Z H' { s with heap:=h',toks:=t' }:=by
 obtain ⟨m,⟨o,es,ep,ho,r⟩,_⟩:=id I.loc;obtain ⟨sl,hL⟩:=u.any ho I.free (by simp);exact I.step (g':=s.gens) (d':=s.drawn) (ch:=[]) (fun _ z=>nomatch z) (fun b o _ hb _ e n=>u.keep b o e n hb (by simp)) (fun b o _ hb _ e n=>u.slot b o e n hb (by simp)) (fun b o _ e n=>u.free b o e n (by simp)) (fun b o _ e=>u.there b o e (by simp)) u.tups u.frzs u.tbls (fun m' hm=>by
   obtain ⟨o',es',ep',ho',r'⟩:=hm; rw [ho] at ho'; cases ho'; exact ⟨_,es',ep',hL,r'⟩) hok I.bare
theorem Inv.call {g':Array NM} {t':Nat} {d':Drawn} {ch:List c6} (I:Inv X pins Z H s) (u:Un (frs X.stack) ch H H' s.heap h') (hok:HOk X.prog X.w H' h') (hg:IQ g')
   (hch:∀ b∈ch,(b∈X.ex\/X.s₀.heap.objs.size<=b)/\b≠X.env.locals/\(∀ x c,X.env.cells.lookup x=some c->c≠b)/\∀ p∈X.pn++pins,p.1≠b) :
   Inv X pins Z H' { s with heap:=h',gens:=g',drawn:=d',toks:=t' }:=by
 obtain ⟨m,⟨o,es,ep,ho,r⟩,_⟩:=id I.loc;obtain ⟨sl,hL⟩:=u.any ho I.free fun z=>(hch _ z).2.1 rfl;exact I.step (ch:=ch) hch (fun b o hL hb hc e n=>u.keep b o e n (fun z=>(a9.mp (I.stkSub b z)).elim hL hb) hc) (fun b o _ _ hc e n=>u.any e n hc) (fun b o hc e n=>u.free b o e n hc) (fun b o hc e=>u.there b o e hc) u.tups u.frzs u.tbls (fun m' hm=>by
   obtain ⟨o',es',ep',ho',r'⟩:=hm; rw [ho] at ho'; cases ho'; exact ⟨_,es',ep',hL,r'⟩) hok hg
theorem Inv.turned {t':Nat} {it:c6} (I:Inv X pins Z H s) (k:∀ b o,b≠it->s.heap.get? b=some o->h'.get? b=some o) (hn:H it=none) (hL:it≠X.env.locals)
   (h1:it∈X.ex\/X.s₀.heap.objs.size<=it) (h2:∀ x c,X.env.cells.lookup x=some c->c≠it) (h3:∀ p∈X.pn++pins,p.1≠it):Inv X pins Z H { s with heap:=h',toks:=t' }:=by
 have nit:∀ b u,H b=some u->b≠it:=fun b u e z=>by rw [z,hn] at e; cases e
 refine I.step (g':=s.gens) (d':=s.drawn) (ch:=[it]) (fun b hb=>?_) (fun b o _ _ hc e _=>k b o (fun z=>hc (by simp [z])) e) (fun b o _ _ hc e _=>⟨o.slots,k b o (fun z=>hc (by simp [z])) e⟩) (fun _ _ _ _ n=>n)
   (fun b o hc e=>⟨o,k b o (fun z=>hc (by simp [z])) e⟩) (fun _ _ e=>e) (fun _ _ _ e=>e) (fun b ps e=>⟨#[],by rw [e]; simp⟩) (fun m hm=>?_) (fun b u e=>?_) I.bare
 . have e:b=it:=by simpa using hb
   subst e; exact ⟨h1,hL,h2,h3⟩
 . obtain ⟨o,es,ep,ho,r⟩:=hm
   exact ⟨o,es,ep,k _ o (Ne.symm hL) ho,r⟩
 . refine (I.hok b u e).stay (fun c v hc q=>k c v ?_ q) (fun _ q=>q) fun _ _ q=>q
   rcases hc with z | z
   . rw [z]; exact nit b u e
   . exact nit c _ z
theorem Inv.tok (I:Inv X pins Z H s) (t:Nat):Inv X pins Z H { s with toks:=t }:=I.un (h':=s.heap) (t':=t) Un.refl I.hok
theorem Inv.kept {t':Nat} (I:Inv X pins Z H s) (k:∀ b u,s.heap.get? b=some u->h'.get? b=some u):Inv X pins Z H { s with heap:=h',toks:=t' }:=I.un (Un.kept k) (I.hok.kept k)
theorem Inv.laid {a:c6} {o:HO} {t':Nat} (I:Inv X pins Z H s) (k:∀ b u,s.heap.get? b=some u->h'.get? b=some u) (hp:s.heap.objs.size<=a) (new:ObjOk X.prog X.w (upd H a o) h' a o) :
   Inv X pins Z (upd H a o) { s with heap:=h',toks:=t' }:=I.un (Un.laid k hp (I.hok.fresh hp)) (I.hok.laid k hp new)
theorem Inv.write {x e:c6} {o:HO} {t':Nat} (I:Inv X pins Z H s) (mu:Mut (H x)) (he:e=x\/H e=some (.own x)) (k:∀ b u,b≠e->s.heap.get? b=some u->h'.get? b=some u) (heo:∃ u,h'.get? e=some u)
   (new:ObjOk X.prog X.w (upd H x o) h' x o):Inv X pins Z (upd H x o) { s with heap:=h',toks:=t' }:=I.un (Un.write mu he k heo) (I.hok.write mu he k heo new)
theorem Inv.weak {Z':List (Option V)} (I:Inv X pins Z H s) (hl:Z'.length=Z.length) (w:∀ (i:Nat) v,Z'[i]? = some (some v)->Z[i]? = some (some v)):Inv X pins Z' H s :=
 ⟨I.ok,I.os,I.bare,I.base,let ⟨m,hn,hl'⟩:=I.loc; ⟨m,hn,fun i x v e1 e2 e3=>hl' i x v e1 (w i v e2) e3⟩,I.cell,I.free,I.freeC,I.pin,I.hok,hl.trans I.len⟩
theorem Inv.pins_of {pins':List (c6×Obj)} (I:Inv X pins Z H s) (h:∀ p∈pins',s.heap.get? p.1=some p.2/\H p.1=none/\p.1≠X.env.locals/\p.1∉X.fs/\∀ v,p.2.data≠.cell v):Inv X pins' Z H s :=
 ⟨I.ok,I.os,I.bare,I.base,I.loc,I.cell,I.free,I.freeC,fun p hp=>(i7.mp hp).elim (fun z=>I.pin p (EG _ z)) (h p),I.hok,I.len⟩
theorem aG {N:List Str} (hN:N.Nodup) {i j:Nat} {x:Str} (a:N[i]? = some x) (b:N[j]? = some x):i=j:=by
 obtain ⟨h1,e1⟩:=j6.mp a;obtain ⟨h2,e2⟩:=j6.mp b;exact (List.getElem_inj hN).mp (e1.trans e2.symm)
theorem Ud {M:Model} {A:u5} {E:zV->zW->Prop} {i:Nat} {x:Str} {v:V} {u:zV} {Q:Unit->zW->Prop} (I:Inv X pins Z H s) (hN:X.N.Nodup) (hi:X.N[i]? = some x) (hx:Loc X.env.scope x) (r:RelV v u)
   (h:∀ s',Inv X pins (Z.set i (some v)) H s'->(∃ a,CF a s.heap s'.heap/\(a=X.env.locals\/X.env.cells.lookup x=some a))->Q () s') (hf:X.fn x=true\/X.env.scope.names.lookup x=some .local:=by first | exact .inl rfl | exact .inr rfl | assumption):wpAny M A (storeName X.env x u) Q E s:=by
 obtain ⟨m,hn,hl⟩:=id I.loc;have hcls:(X.env.scope.kind==.class||(X.env.scope.kind==.module&&X.env.locals != X.env.globals))=false:=by rw [I.ok.kind]; rfl
 have hiσ:i < Z.length:=by rw [I.len]; exact (j6.mp hi).1
 have cne:=I.cne;have tracked:∀ {a:c6} {h':p9},(∃ o,s.heap.get? a=some o/\H a=none)->CF a s.heap h'->HOk X.prog X.w H h':=fun {a h'} ha hs b ob e=>by
   obtain ⟨_,_,hfree⟩:=ha; refine (I.hok b ob e).stay (fun c w' hc q=>(hs.2 c ?_).trans q) (fun _ q=>q) fun _ _ q=>q;rintro rfl;rcases hc with rfl | hc
   . rw [hfree] at e; cases e
   . rw [hfree] at hc; cases hc
 rcases hx with hk | hk
 . refine wpAny_storeName_local hk hn (fun h' hn' hs=>?_) hcls
   obtain ⟨oL,_,_,hoL,_⟩:=id hn; refine h _ ⟨I.ok,I.os,I.bare,⟨fun b o e n hb hx=>?_,fun b o e n hb hx=>?_,I.base.free,fun b o e hx=>?_,I.base.tups,I.base.frzs,I.base.tbls⟩,⟨_,hn',fun j y v' e1 e2 e3=>?_⟩,fun y c e=>?_,I.free,I.freeC,fun p hp=>?_,tracked ⟨oL,hoL,I.free⟩ hs,by simpa using I.len⟩ ⟨_,hs,.inl rfl⟩
   . exact (hs.2 b (m6 (m3 (i8 e) I.ok.above))).trans (I.base.keep b o e n hb hx)
   . obtain ⟨sl,e1⟩:=I.base.slot b o e n hb hx
     exact ⟨sl,(hs.2 b (m6 (m3 (i8 e) I.ok.above))).trans e1⟩
   . obtain ⟨o',e1⟩:=I.base.there b o e hx
     exact ⟨o',(hs.2 b (m6 (m3 (i8 e) I.ok.above))).trans e1⟩
   . by_cases hj:j=i
     . subst hj
       rw [hi] at e1; cases e1;rw [MQ hiσ] at e2; cases e2; exact ⟨u,r,.inl ⟨hk,by simp⟩⟩
     . rw [GC (Ne.symm hj)] at e2
       obtain ⟨u',r',q⟩:=hl j y v' e1 e2 e3; refine ⟨u',r',?_⟩; rcases q with ⟨k,e⟩ | ⟨k,c,e,z⟩
       . refine .inl ⟨k,?_⟩
         have:y≠x:=fun e=>hj (aG hN e1 (e▸hi));simp [this,e]
       . exact .inr ⟨k,c,e,z.sameBut hs (cne y c e)⟩
   . obtain ⟨w',z⟩:=I.cell y c e
     exact ⟨w',z.sameBut hs (cne y c e)⟩
   . obtain ⟨e,n,ne,nf,d⟩:=I.pin p hp
     exact ⟨(hs.2 p.1 ne).trans e,n,ne,nf,d⟩
 . have hfn : X.fn x = true := by
     rcases hf with z | z
     . exact z
     . rw [z] at hk; cases hk
   obtain ⟨c,hc⟩:=I.ok.has x (.inl hk); obtain ⟨w',z⟩:=I.cell x c hc; refine wpAny_storeName_cell I.ok.kind hk hc z (fun h' hc' hs=>?_);obtain ⟨oc,hoc,hocd⟩:=id z; refine h { s with heap:=h' } ⟨I.ok,I.os,I.bare,⟨fun b o e n hb hx=>?_,fun b o e n hb hx=>?_,I.base.free,fun b o e hx=>?_,I.base.tups,I.base.frzs,I.base.tbls⟩,⟨m,hn.sameBut hs (Ne.symm (cne x c hc)),fun j y v' e1 e2 e3=>?_⟩,fun y c' e=>?_,I.free,I.freeC,fun p hp=>?_,tracked ⟨oc,hoc,I.freeC x c hc⟩ hs,by simpa using I.len⟩ ⟨c,hs,.inr hc⟩
   . exact (hs.2 b (m6 (m3 (i8 e) (I.ok.cab x c hfn hc)))).trans (I.base.keep b o e n hb hx)
   . obtain ⟨sl,e1⟩:=I.base.slot b o e n hb hx
     exact ⟨sl,(hs.2 b (m6 (m3 (i8 e) (I.ok.cab x c hfn hc)))).trans e1⟩
   . obtain ⟨o',e1⟩:=I.base.there b o e hx
     exact ⟨o',(hs.2 b (m6 (m3 (i8 e) (I.ok.cab x c hfn hc)))).trans e1⟩
   . by_cases hj:j=i
     . subst hj
       rw [hi] at e1; cases e1;rw [MQ hiσ] at e2; cases e2; exact ⟨u,r,.inr ⟨.inl hk,c,hc,hc'⟩⟩
     . rw [GC (Ne.symm hj)] at e2
       obtain ⟨u',r',q⟩:=hl j y v' e1 e2 e3; refine ⟨u',r',?_⟩; rcases q with q | ⟨k,c',e,z'⟩
       . exact .inl q
       . refine .inr ⟨k,c',e,z'.sameBut hs ?_⟩
         rintro rfl;exact hj (aG hN e1 (I.ok.inj _ _ _ e hc▸hi))
   . by_cases hcc:c'=c
     . subst hcc; exact ⟨_,hc'⟩
     . obtain ⟨w2,z2⟩:=I.cell y c' e
       exact ⟨w2,z2.sameBut hs hcc⟩
   . obtain ⟨e,n,ne,nf,d⟩:=I.pin p hp
     refine ⟨(hs.2 p.1 ?_).trans e,n,ne,nf,d⟩; intro q; rw [q,hoc] at e; have q':oc=p.2:=u6 e; exact d w' (by rw [<- q']; exact hocd)
theorem Zc {M:Model} {A:u5} {E:zV->zW->Prop} {i:Nat} {x:Str} {v:V} {u:zV} {Q:Unit->zW->Prop} (I:Inv X pins Z H s) (hN:X.N.Nodup) (hi:X.N[i]? = some x) (hx:Loc X.env.scope x) (r:RelV v u)
   (h:∀ s',Inv X pins (Z.set i (some v)) H s'->Q () s') (hf:X.fn x=true\/X.env.scope.names.lookup x=some .local:=by first | exact .inl rfl | exact .inr rfl | assumption):wpAny M A (storeName X.env x u) Q E s :=
 Ud I hN hi hx r (fun s' I' _=>h s' I') hf
theorem Inv.call' {s':zW} {ch:List c6} (I:Inv X pins Z H s) (ho:s'.os=s.os) (u:Un (frs X.stack) ch H H' s.heap s'.heap) (hok:HOk X.prog X.w H' s'.heap) (hg:IQ s'.gens)
   (hch:∀ b∈ch,(b∈X.ex\/X.s₀.heap.objs.size<=b)/\b≠X.env.locals/\(∀ x c,X.env.cells.lookup x=some c->c≠b)/\∀ p∈X.pn++pins,p.1≠b):Inv X pins Z H' s':=by
 obtain ⟨h',g',d',t',o'⟩:=s';have e:o'=s.os:=ho;subst e;exact I.call (g':=g') (t':=t') (d':=d') u hok hg hch
end
abbrev XK:=zV->Option c6->Hp->Prop
abbrev St:=List (Option V)
abbrev VK:=V->Hp->Prop
abbrev TE:=St->Hp->VK->Prop
abbrev TT:=St->Hp->(Bool->Hp->Prop)->Prop
abbrev TA:=St->Hp->(List V->Hp->Prop)->Prop
structure Ends where
 nx:St->Hp->Prop
 rt:VK
 bk:St->Hp->Prop:=fun _ _=>False
 ct:St->Hp->Prop:=fun _ _=>False
abbrev TS:=Ends->St->Hp->Prop
def EP (X:Cx) (pins:List (c6×Obj)) (Z:St) (Q:VK) (u:zV) (s':zW):Prop:=∃ v H',Inv X pins Z H' s'/\RelV v u/\Q v H'
def TP (X:Cx) (pins:List (c6×Obj)) (Z:St) (Q:Bool->Hp->Prop) (b:Bool) (s':zW):Prop:=∃ H',Inv X pins Z H' s'/\Q b H'
def AP (X:Cx) (pins:List (c6×Obj)) (Z:St) (Q:List V->Hp->Prop) (us:List zV) (s':zW):Prop:=∃ vs H',Inv X pins Z H' s'/\Vals vs us/\Q vs H'
def SP (X:Cx) (pins:List (c6×Obj)) (D:Ends) (f:Flow) (s':zW):Prop :=
 match f with
 | .next=>∃ Z' H',Inv X pins Z' H' s'/\D.nx Z' H'
 | .brk=>∃ Z' H',Inv X pins Z' H' s'/\D.bk Z' H'
 | .cont=>∃ Z' H',Inv X pins Z' H' s'/\D.ct Z' H'
 | .ret u=>∃ v Z' H',Inv X pins Z' H' s'/\RelV v u/\D.rt v H'
def PE (X:Cx) (e:Expr) (t:TE):Prop :=
 ∀ (pins:List (c6×Obj)) (s:zW) (Z:St) (H:Hp) (Q:VK),Inv X pins Z H s->t Z H Q->wpAny (i9 X.prog X.w) X.A (eval e X.env) (EP X pins Z Q) X.xe s
def PT (X:Cx) (e:Expr) (t:TT):Prop :=
 ∀ (pins:List (c6×Obj)) (s:zW) (Z:St) (H:Hp) (Q:Bool->Hp->Prop),Inv X pins Z H s->t Z H Q->wpAny (i9 X.prog X.w) X.A (isTrue e X.env (eval e X.env)) (TP X pins Z Q) X.xe s
def PW (X:Cx) (e:Expr) (t:TT):Prop :=
 ∀ (whole:Sem zV) (pins:List (c6×Obj)) (s:zW) (Z:St) (H:Hp) (Q:Bool->Hp->Prop),Inv X pins Z H s->t Z H Q->wpAny (i9 X.prog X.w) X.A (isTrue e X.env whole) (TP X pins Z Q) X.xe s
theorem PW.pt {X:Cx} {e:Expr} {t:TT} (h:PW X e t):PT X e t:=h _
def PA (X:Cx) (es:List Expr) (t:TA):Prop :=
 ∀ (pos:Pos) (pins:List (c6×Obj)) (s:zW) (Z:St) (H:Hp) (Q:List V->Hp->Prop),Inv X pins Z H s->t Z H Q->wpAny (i9 X.prog X.w) X.A (spliced (AN pos (e8 es X.env))) (AP X pins Z Q) X.xe s
def PS (X:Cx) (st:CN) (t:TS):Prop :=
 ∀ (pins:List (c6×Obj)) (s:zW) (Z:St) (H:Hp) (D:Ends),Inv X pins Z H s->t D Z H->wpAny (i9 X.prog X.w) X.A (exec st X.env) (SP X pins D) X.xe s
def PSs (X:Cx) (st:List CN) (t:TS):Prop :=
 ∀ (pins:List (c6×Obj)) (s:zW) (Z:St) (H:Hp) (D:Ends),Inv X pins Z H s->t D Z H->wpAny (i9 X.prog X.w) X.A (execs st X.env) (SP X pins D) X.xe s
theorem thn {α:Type} {t:Sem α} {Q Q':α->zW->Prop} {M:Model} {A:u5} {E:zV->zW->Prop} {s:zW} (h:wpAny M A t Q E s) (hQ:∀ a s,Q a s->Q' a s):wpAny M A t Q' E s:=z9 h hQ fun _ _ x=>x
end L2
namespace L2
open PySem PySem.Spec PyProof.Rows
section
variable {X:Cx}
def qK (i:Nat):TE:=fun Z H Q=>∃ v,Z[i]? = some (some v)/\Q v H
def tC (v:V):TE:=fun _ H Q=>Q v H
theorem cV {i:Nat} {x:Str} {pos:Pos} (hN:X.N[i]? = some x) (hv:Vis X.env.scope x) (hd:(x==("__debug__" : Str))=false:=by decide) (hcd:(x==("__classdict__" : Str))=false:=by decide):PE X (.Name x pos) (qK i):=by
 intro pins s Z H Q I h;obtain ⟨v,e,h⟩:=h;obtain ⟨m,hn,hl⟩:=I.loc;obtain ⟨u,r,l⟩:=hl i x v hN e hv;have fin:EP X pins Z Q u s:=⟨v,H,I,r,h⟩;rcases l with ⟨hk,hm⟩ | ⟨hk,c,hc,hcell⟩
 . exact wpAny_Name (wpAny_loadName_local I.ok.kind hk hn hm fin) hd
 . rcases hk with hk | hk
   . exact wpAny_Name (wpAny_loadName_cell I.ok.kind hk hc hcell fin) hd
   . exact wpAny_Name (wpAny_loadName_free I.ok.kind hk hc hcell fin hcd) hd
theorem xJ {i j pos}:PE X (.Constant (.int i) j pos) (tC (.int i)):=fun _ _ _ H _ I h=>wpAny_Constant_int ⟨.int i,H,I.tok _,⟨_,rfl⟩,h⟩
theorem pe_bl {b j pos}:PE X (.Constant (.bool b) j pos) (tC (.bl b)):=fun _ _ _ H _ I h=>Constant_bool ⟨.bl b,H,I,rfl,h⟩
theorem xH {j pos}:PE X (.Constant .none j pos) (tC .non):=fun _ _ _ H _ I h=>Constant_none ⟨.non,H,I,rfl,h⟩
theorem mN {x j pos}:PE X (.Constant (.str x) j pos) (tC (.str x)):=fun _ _ _ H _ I h=>Calls.Constant_str ⟨.str x,H,I.tok _,⟨_,rfl⟩,h⟩
def Gl (X:Cx) (x:Str):Prop:=X.env.kindOf x=some .globalImplicit
theorem fH {E:zV->zW->Prop} {pins:List (c6×Obj)} {s:zW} {Z:St} {H:Hp} {x:Str} {u:zV} {pos:Pos} {Q:zV->zW->Prop} (I:Inv X pins Z H s) (hg:Gl X x) (hm:X.mg x=some u) (h:Q u s)
   (hd:(x==("__debug__" : Str))=false:=by decide):wpAny (i9 X.prog X.w) X.A (eval (.Name x pos) X.env) Q E s :=
 LM I.ok.kind hg (Calls.loadGlobal_global (by rw [I.ok.glob]; exact I.mod.glob.keeps I.bk) hm h) hd
theorem Me {E:zV->zW->Prop} {pins:List (c6×Obj)} {s:zW} {Z:St} {H:Hp} {x:Str} {u:zV} {pos:Pos} {Q:zV->zW->Prop} (I:Inv X pins Z H s) (hg:Gl X x) (hm:X.mg x=none) (hv:CV x=some u) (h:Q u s)
   (hn:x ≠ "__name__" := by decide) (hd:(x==("__debug__" : Str))=false:=by decide):wpAny (i9 X.prog X.w) X.A (eval (.Name x pos) X.env) Q E s:=by
 obtain ⟨mb,h1,h2⟩:=I.mod.blt;exact LM I.ok.kind hg (Calls.loadGlobal_builtin (by rw [I.ok.glob]; exact I.mod.glob.keeps I.bk) hm (by rw [I.ok.blt]; exact h1.keeps I.bk) ((h2 x hn).trans hv) h) hd
theorem eW {x:Str} {v:V} {u:zV} {pos:Pos} (hg:Gl X x) (hm:X.mg x=some u) (r:RelV v u) (hd:(x==("__debug__" : Str))=false:=by decide):PE X (.Name x pos) (tC v) :=
 fun _ _ _ H _ I h=>fH I hg hm ⟨v,H,I,r,h⟩ hd
theorem sB {x:Str} {v:V} {u:zV} {pos:Pos} (hg:Gl X x) (hm:X.mg x=none) (hv:CV x=some u) (r:RelV v u) (hn:x ≠ "__name__" := by decide) (hd:(x==("__debug__" : Str))=false:=by decide):PE X (.Name x pos) (tC v) :=
 fun _ _ _ H _ I h=>Me I hg hm hv ⟨v,H,I,r,h⟩ hn hd
variable {a b:Expr} {ta tb:TE} {pos:Pos}
def PC (X:Cx) (op:BZ) (a b:Expr) (t:TE):Prop :=
 ∀ (pins:List (c6×Obj)) (s:zW) (Z:St) (H:Hp) (Q:VK),Inv X pins Z H s->t Z H Q ->
   wpAny (i9 X.prog X.w) X.A (eval a X.env) (fun v s₁=>wpAny (i9 X.prog X.w) X.A (eval b X.env) (fun u s₂=>wpAny (i9 X.prog X.w) X.A (x0 op v u) (EP X pins Z Q) X.xe s₂) X.xe s₁) X.xe s
theorem aH (b:Expr) {op:BZ} (h:op≠.In) (h2:op≠.NotIn):behindInMarks op b=false:=by
 have e1:(op==CmpOp.In)=false:=by cases op <;> first | rfl | exact absurd rfl h
 have e2:(op==CmpOp.NotIn)=false:=by cases op <;> first | rfl | exact absurd rfl h2
 cases b <;> simp [behindInMarks,e1,e2]
def tIsN (ta:TE):TE:=fun Z H Q=>ta Z H fun x H1=>Q (.bl (decide (x=.non))) H1
def tNotN (ta:TE):TE:=fun Z H Q=>ta Z H fun x H1=>Q (.bl (!decide (x=.non))) H1
theorem RelV.none_iff {x:V} {v:zV} (r:RelV x v):(v==AL)=decide (x=.non):=by
 cases x with
 | non=>cases r; rfl
 | bl _=>cases r; rfl
 | int _=>obtain ⟨t,rfl⟩:=r; rfl
 | str _=>obtain ⟨t,rfl⟩:=r; rfl
 | byt _=>obtain ⟨t,rfl⟩:=r; rfl
 | flt _=>obtain ⟨t,rfl⟩:=r; rfl
 | ref _=>cases r; rfl
 | ty _=>cases r; rfl
theorem xN {j pos'} (ha:PE X a ta):PC X .Is a (.Constant .none j pos') (tIsN ta):=by
 intro pins s Z H Q I h;refine thn (ha pins s Z H _ I h) fun v s1 hZ2=>?_;obtain ⟨x,H1,I1,r1,q1⟩:=hZ2;exact Constant_none (is_none_gen ⟨.bl _,H1,I1,by rw [r1.none_iff]; rfl,q1⟩)
theorem sC {j pos'} (ha:PE X a ta):PC X .IsNot a (.Constant .none j pos') (tNotN ta):=by
 intro pins s Z H Q I h;refine thn (ha pins s Z H _ I h) fun v s1 hZ2=>?_;obtain ⟨x,H1,I1,r1,q1⟩:=hZ2;exact Constant_none (isnot_none_gen ⟨.bl _,H1,I1,by rw [r1.none_iff]; rfl,q1⟩)
def tB (t:TE):TT:=fun Z H Q=>t Z H fun x H1=>∃ c,x=.bl c/\Q c H1
theorem cX {op:BZ} {t:TE} (h:PC X op a b t) (h1:behindInMarks op b=false:=by first | exact aH _ (by decide) (by decide) | rfl):PE X (.Compare a [op] [b] pos) t:=fun pins s Z H Q I hw=>wpAny_Compare1 (h pins s Z H Q I hw) h1
theorem mI {op:BZ} {t:TE} (h:PC X op a b t) (h1:behindInMarks op b=false:=by first | exact aH _ (by decide) (by decide) | rfl):PT X (.Compare a [op] [b] pos) (tB t):=by
 intro pins s Z H Q I hw;refine wpAny_isTrue_Compare1 (thn (h pins s Z H _ I hw) fun v s1 h1=>thn h1 fun u s2 h2=>thn h2 fun c s3 hY1=>?_) h1;obtain ⟨x,H1,I1,r1,q1⟩:=hY1;obtain ⟨d,rfl,q⟩:=q1;cases r1;exact z8 ⟨H1,I1,q⟩
variable {tA tB':TT} {I8:List Expr}
def tAnd (t u:TT):TT:=fun Z H Q=>t Z H fun c H1=>if c=true then u Z H1 Q else Q false H1
def tOr (t u:TT):TT:=fun Z H Q=>t Z H fun c H1=>if c=true then Q true H1 else u Z H1 Q
def tNot (t:TT):TT:=fun Z H Q=>t Z H fun c H1=>Q (!c) H1
theorem rM (ha:PT X a tA):PW X (.BoolOp .And [a] pos) tA:=by
 intro wh pins s Z H Q I h;refine isTrue_and (thn (ha pins s Z H Q I h) fun c s1 e=>?_);cases c with
 | true=>exact isTrue_and_nil e
 | false=>exact e
theorem wZ (ha:PT X a tA):PW X (.BoolOp .Or [a] pos) tA:=by
 intro wh pins s Z H Q I h;refine isTrue_or (thn (ha pins s Z H Q I h) fun c s1 e=>?_);cases c with
 | false=>exact isTrue_or_nil e
 | true=>exact e
theorem xA (ha:PT X a tA) (hb:PW X (.BoolOp .And (b::I8) pos) tB'):PW X (.BoolOp .And (a::b::I8) pos) (tAnd tA tB'):=by
 intro wh pins s Z H Q I h;refine isTrue_and (thn (ha pins s Z H _ I h) fun c s1 hZ2=>?_);obtain ⟨H1,I1,q1⟩:=hZ2;cases c with
 | true=>exact hb wh pins s1 Z H1 Q I1 q1
 | false=>exact ⟨H1,I1,q1⟩
theorem pw_or (ha:PT X a tA) (hb:PW X (.BoolOp .Or (b::I8) pos) tB'):PW X (.BoolOp .Or (a::b::I8) pos) (tOr tA tB'):=by
 intro wh pins s Z H Q I h;refine isTrue_or (thn (ha pins s Z H _ I h) fun c s1 hZ2=>?_);obtain ⟨H1,I1,q1⟩:=hZ2;cases c with
 | true=>exact ⟨H1,I1,q1⟩
 | false=>exact hb wh pins s1 Z H1 Q I1 q1
theorem xB (ha:PT X a tA):PT X (.UnaryOp .Not a pos) (tNot tA):=by
 intro pins s Z H Q I h;exact isTrue_not (ha pins s Z H (fun c H1=>Q (!c) H1) I h)
def tAndV (ta tb:TE):TE:=fun Z H Q=>ta Z H fun x H1=>∃ c,x=.bl c/\if c=true then tb Z H1 Q else Q (.bl false) H1
def tOrV (ta tb:TE):TE:=fun Z H Q=>ta Z H fun x H1=>∃ c,x=.bl c/\if c=true then Q (.bl true) H1 else tb Z H1 Q
def tNotV (ta:TE):TE:=fun Z H Q=>ta Z H fun x H1=>∃ c,x=.bl c/\Q (.bl (!c)) H1
theorem xF {op} {t:TE} (h:PE X a t):PE X (.BoolOp op [a] pos) t:=fun pins s Z H Q I hw=>BoolOp_one (h pins s Z H Q I hw)
theorem xL (ha:PE X a ta) (hb:PE X (.BoolOp .And (b::I8) pos) tb):PE X (.BoolOp .And (a::b::I8) pos) (tAndV ta tb):=by
 intro pins s Z H Q I h;refine BoolOp_and (thn (ha pins s Z H _ I h) fun v s1 hZ2=>?_);obtain ⟨x,H1,I1,r1,q1⟩:=hZ2;obtain ⟨c,rfl,q1⟩:=q1;cases r1;refine z8 ?_;cases c with
 | true=>exact hb pins s1 Z H1 Q I1 q1
 | false=>exact ⟨.bl false,H1,I1,rfl,q1⟩
theorem pe_or (ha:PE X a ta) (hb:PE X (.BoolOp .Or (b::I8) pos) tb):PE X (.BoolOp .Or (a::b::I8) pos) (tOrV ta tb):=by
 intro pins s Z H Q I h;refine BoolOp_or (thn (ha pins s Z H _ I h) fun v s1 hZ2=>?_);obtain ⟨x,H1,I1,r1,q1⟩:=hZ2;obtain ⟨c,rfl,q1⟩:=q1;cases r1;refine z8 ?_;cases c with
 | false=>exact hb pins s1 Z H1 Q I1 q1
 | true=>exact ⟨.bl true,H1,I1,rfl,q1⟩
theorem xG (ha:PE X a ta):PE X (.UnaryOp .Not a pos) (tNotV ta):=by
 intro pins s Z H Q I h;refine UnaryOp_ (thn (ha pins s Z H _ I h) fun v s1 hZ2=>?_);obtain ⟨x,H1,I1,r1,q1⟩:=hZ2;obtain ⟨c,rfl,q1⟩:=q1;cases r1;exact not_of (z8 ⟨.bl (!c),H1,I1,rfl,q1⟩)
def tIf (t:TT) (ta tb:TE):TE:=fun Z H Q=>t Z H fun c H1=>if c=true then ta Z H1 Q else tb Z H1 Q
theorem mS {c:Expr} (hc:PT X c tA) (ha:PE X a ta) (hb:PE X b tb):PE X (.IfExp c a b pos) (tIf tA ta tb):=by
 intro pins s Z H Q I h;refine wpAny_IfExp (thn (hc pins s Z H _ I h) fun d s1 hZ2=>?_);obtain ⟨H1,I1,q1⟩:=hZ2;cases d with
 | true=>exact ha pins s1 Z H1 Q I1 q1
 | false=>exact hb pins s1 Z H1 Q I1 q1
end
end L2
namespace L2
open PySem PySem.Spec PyProof.Rows
def SqL (K:zX) (H:Hp) (a:c6) (xs:List V):Prop :=
 Rd H a (.lst xs) \/
   ∃ (o:Obj) (its:Array zV) (n:Nat),K.lookup a=some o/\o.cls=.type "list" /\ o.dict=none/\o.data=.seq its n/\its.size<=sizeLine/\Vals xs its.toList
def SqT (K:zX) (H:Hp) (a:c6) (xs:List V):Prop :=
 Rd H a (.tup xs) \/
   ∃ (o:Obj) (its:Array zV) (n:Nat),K.lookup a=some o/\o.cls=.type "tuple" /\ o.data=.seq its n/\its.size<=sizeLine/\Vals xs its.toList
def absV:zV->Option V
 | .none=>some .non
 | .bool b=>some (.bl b)
 | .int i _=>some (.int i)
 | .str x _=>some (.str x)
 | .bytes b _=>some (.byt b)
 | .float b _=>some (.flt b)
 | .ref a=>some (.ref a)
 | .type n=>some (.ty n)
 | _=>none
theorem RelV.abs {x:V} {u:zV} (r:RelV x u):absV u=some x:=by
 cases x with
 | non=>cases r; rfl
 | bl _=>cases r; rfl
 | int _=>obtain ⟨t,rfl⟩:=r; rfl
 | str _=>obtain ⟨t,rfl⟩:=r; rfl
 | byt _=>obtain ⟨t,rfl⟩:=r; rfl
 | flt _=>obtain ⟨t,rfl⟩:=r; rfl
 | ref _=>cases r; rfl
 | ty _=>cases r; rfl
theorem RelV.inj {x y:V} {u:zV} (r:RelV x u) (q:RelV y u):x=y:=u6 (r.abs.symm.trans q.abs)
theorem Vals.inj {xs:List V}:∀ {ys:List V} {us:List zV},Vals xs us->Vals ys us->xs=ys:=by
 induction xs with
 | nil=>intro ys us h q; cases h; cases q; rfl
 | cons x xs ih=>intro ys us h q; cases h with | cons r t=>cases q with | cons r' t'=>rw [r.inj r',ih t t']
section
variable {X:Cx} {pins:List (c6×Obj)} {Z:St} {H:Hp} {s:zW} {a:c6} {xs ys:List V}
theorem Inv.list (I:Inv X pins Z H s) (h:SqL X.K H a xs):∃ its:List zV,Vals xs its/\PlainL s.heap a its.toArray/\xs.length<=sizeLine:=by
 rcases h with h | ⟨o,its,n,hk,hc,hd,hs,hz,r⟩
 . obtain ⟨z,its,n,r,e⟩:=h.ok I.hok
   exact ⟨its,r,⟨_,n,e,rfl,rfl,rfl⟩,z⟩
 . refine ⟨its.toList,r,⟨o,n,I.kIn a o hk,hc,hd,by simpa using hs⟩,?_⟩
   have e:=r.length; simp only [n6] at e;lia
theorem Inv.tuple (I:Inv X pins Z H s) (h:SqT X.K H a xs):∃ its:List zV,Vals xs its/\IX s.heap a its.toArray/\xs.length<=sizeLine:=by
 rcases h with h | ⟨o,its,n,hk,hc,hs,hz,r⟩
 . obtain ⟨z,its,r,p⟩:=h.ok I.hok
   exact ⟨its,r,p,z⟩
 . refine ⟨its.toList,r,⟨o,I.kIn a o hk,hc,n,by simpa using hs⟩,?_⟩
   have e:=r.length; simp only [n6] at e;lia
theorem Inv.list_inj (I:Inv X pins Z H s) (h:SqL X.K H a xs) (h':SqL X.K H a ys):xs=ys:=by
 obtain ⟨its,r,⟨o,n,e,_,_,d⟩,_⟩:=I.list h;obtain ⟨its',r',⟨o',n',e',_,_,d'⟩,_⟩:=I.list h';rw [e] at e'; cases e';rw [d] at d';injection d' with d1 _
 have:its=its':=by simpa using congrArg MN d1
 subst this;exact r.inj r'
theorem Inv.tuple_inj (I:Inv X pins Z H s) (h:SqT X.K H a xs) (h':SqT X.K H a ys):xs=ys:=by
 obtain ⟨its,r,⟨o,e,_,n,d⟩,_⟩:=I.tuple h;obtain ⟨its',r',⟨o',e',_,n',d'⟩,_⟩:=I.tuple h';rw [e] at e'; cases e';rw [d] at d';injection d' with d1 _
 have:its=its':=by simpa using congrArg MN d1
 subst this;exact r.inj r'
end
abbrev Cx.wish (X:Cx) (E:zV->zW->Prop):Cx:={ X with xe:=E }
abbrev Cx.nox (X:Cx):Cx:=X.wish fun _ _=>False
theorem Cx.Ok.wish {X:Cx} (ok:X.Ok) (E:zV->zW->Prop):(X.wish E).Ok :=
 ⟨ok.mod,ok.kind,ok.glob,ok.blt,ok.above,ok.inj,ok.has,ok.cab,ok.hd,ok.frames,ok.stk,ok.exf,ok.bs,ok.bsz,ok.noex,ok.exfs,ok.funs,ok.frf⟩
theorem Cx.Ok.unwish {X:Cx} {E:zV->zW->Prop} (ok:(X.wish E).Ok):X.Ok :=
 ⟨ok.mod,ok.kind,ok.glob,ok.blt,ok.above,ok.inj,ok.has,ok.cab,ok.hd,ok.frames,ok.stk,ok.exf,ok.bs,ok.bsz,ok.noex,ok.exfs,ok.funs,ok.frf⟩
section
variable {X:Cx} {pins:List (c6×Obj)} {Z:St} {H:Hp} {s:zW} {E:zV->zW->Prop}
theorem Inv.wish (I:Inv X pins Z H s) (E:zV->zW->Prop):Inv (X.wish E) pins Z H s:=⟨I.ok.wish E,I.os,I.bare,I.base,I.loc,I.cell,I.free,I.freeC,I.pin,I.hok,I.len⟩
theorem Inv.unwish (I:Inv (X.wish E) pins Z H s):Inv X pins Z H s:=⟨I.ok.unwish,I.os,I.bare,I.base,I.loc,I.cell,I.free,I.freeC,I.pin,I.hok,I.len⟩
theorem SP.unwish {D:Ends} {f:Flow} {s':zW} (h:SP (X.wish E) pins D f s'):SP X pins D f s':=by
 cases f with
 | next=>obtain ⟨Z',H',I,q⟩:=h; exact ⟨Z',H',I.unwish,q⟩
 | brk=>obtain ⟨Z',H',I,q⟩:=h; exact ⟨Z',H',I.unwish,q⟩
 | cont=>obtain ⟨Z',H',I,q⟩:=h; exact ⟨Z',H',I.unwish,q⟩
 | ret u=>obtain ⟨v,Z',H',I,r,q⟩:=h; exact ⟨v,Z',H',I.unwish,r,q⟩
theorem PSs.nox {st:List CN} {t:TS} (h:PSs X.nox st t):PSs X st t:=fun pins s Z H D I hw =>
 z9 (h pins s Z H D (I.wish _) hw) (fun _ _ q=>q.unwish) fun _ _ z=>EF z
end
section
variable {X:Cx} {st:CN} {I8:List CN} {t u:TS} {e:Expr} {te:TE} {pos:Pos}
def tNext:TS:=fun D Z H=>D.nx Z H
def tSeq (t u:TS):TS:=fun D Z H=>t { D with nx:=u D } Z H
theorem eV:PSs X [] tNext:=fun _ _ Z H _ I h=>IR ⟨Z,H,I,h⟩
theorem aB (h1:PS X st t) (h2:PSs X I8 u):PSs X (st::I8) (tSeq t u):=by
 intro pins s Z H D I h;refine wpAny_execs_cons (thn (h1 pins s Z H { D with nx:=u D } I h) fun f s1 q=>?_);cases f with
 | next =>
   obtain ⟨Z',H',I',q⟩:=q; exact h2 pins s1 Z' H' D I' q
 | ret v=>exact q
 | brk=>exact q
 | cont=>exact q
theorem Kh (h1:PS X st t):PSs X [st] t:=by
 intro pins s Z H D I h;refine wpAny_execs_cons (thn (h1 pins s Z H D I h) fun f s1 q=>?_);cases f with
 | next=>exact IR q
 | ret v=>exact q
 | brk=>exact q
 | cont=>exact q
theorem Inv.quiet {pins:List (c6×Obj)} {Z:St} {H:Hp} {s:zW} (I:Inv X pins Z H s):interactive X.env=false:=by simp [interactive,I.ok.kind]
def tDrop (te:TE):TS:=fun D Z H=>te Z H fun _ H1=>D.nx Z H1
theorem Wv (he:PE X e te) (hs:BX e none pos.line X.env=pure false:=by rfl):PS X (.Expr e pos) (tDrop te):=by
 intro pins s Z H D I h;exact wpAny_Expr_any (thn (he pins s Z H _ I h) fun v s1 hZ2=>by obtain ⟨x,H1,I1,r1,q1⟩:=hZ2; exact ⟨Z,H1,I1,q1⟩) I.quiet hs
def tRet (te:TE):TS:=fun D Z H=>te Z H D.rt
theorem cS (he:PE X e te):PS X (.Return (some e) pos) (tRet te):=by
 intro pins s Z H D I h;exact wpAny_Return_some (thn (he pins s Z H _ I h) fun v s1 hZ2=>by obtain ⟨x,H1,I1,r1,q1⟩:=hZ2; exact ⟨x,Z,H1,I1,r1,q1⟩)
def tIfS (c:TT) (t u:TS):TS:=fun D Z H=>c Z H fun b H1=>if b=true then t D Z H1 else u D Z H1
theorem vH {c:Expr} {a b:List CN} {tc:TT} (hc:PT X c tc) (ha:PSs X a t) (hb:PSs X b u):PS X (.If c a b pos) (tIfS tc t u):=by
 intro pins s Z H D I h;refine wpAny_If (thn (hc pins s Z H _ I h) fun d s1 hZ2=>?_);obtain ⟨H1,I1,q1⟩:=hZ2;cases d with
 | true=>exact ha pins s1 Z H1 D I1 q1
 | false=>exact hb pins s1 Z H1 D I1 q1
end
abbrev TG:=V->St->Hp->(St->Hp->Prop)->Prop
abbrev TGs:=List V->St->Hp->(St->Hp->Prop)->Prop
def PG (X:Cx) (target:Expr) (t:TG):Prop :=
 ∀ (pins:List (c6×Obj)) (s:zW) (Z:St) (H:Hp) (v:V) (u:zV) (Q:St->Hp->Prop),Inv X pins Z H s->RelV v u->t v Z H Q ->
   wpAny (i9 X.prog X.w) X.A (JP target X.env u) (fun _ s'=>∃ Z' H',Inv X pins Z' H' s'/\Q Z' H') X.xe s
def PGs (X:Cx) (ts:List Expr) (t:TGs):Prop :=
 ∀ (pins:List (c6×Obj)) (s:zW) (Z:St) (H:Hp) (vs:List V) (us:List zV) (Q:St->Hp->Prop),Inv X pins Z H s->Vals vs us->t vs Z H Q ->
   wpAny (i9 X.prog X.w) X.A (assignInOrder ((HF ts X.env).map (·.2)) us) (fun _ s'=>∃ Z' H',Inv X pins Z' H' s'/\Q Z' H') X.xe s
abbrev zO:=V->V->V->Hp->(Hp->Prop)->Prop
def PSet (X:Cx) (t:zO):Prop :=
 ∀ (pins:List (c6×Obj)) (s:zW) (Z:St) (H:Hp) (o i v:V) (ov iv u:zV) (Q:Hp->Prop),Inv X pins Z H s->RelV o ov->RelV i iv->RelV v u->t o i v H Q ->
   wpAny (i9 X.prog X.w) X.A (setItem ov iv u) (fun _ s'=>∃ H',Inv X pins Z H' s'/\Q H') X.xe s
section
variable {X:Cx} {pos:Pos}
def V3 (i:Nat):TG:=fun v Z H Q=>Q (Z.set i (some v)) H
theorem V8 {i:Nat} {x:Str} (hN:X.N.Nodup) (hi:X.N[i]? = some x) (hx:Loc X.env.scope x) (hf:X.fn x=true\/X.env.scope.names.lookup x=some .local:=by first | exact .inl rfl | exact .inr rfl | assumption):PG X (.Name x pos) (V3 i):=by
 intro pins s Z H v u Q I r h;exact wpAny_assign_Name (Zc I hN hi hx r (fun s' I'=>⟨_,H,I',h⟩) hf)
def oH:TGs:=fun vs Z H Q=>vs=[]/\Q Z H
def Hq (t:TG) (u:TGs):TGs:=fun vs Z H Q=>∃ v r,vs=v::r/\t v Z H fun Z' H'=>u r Z' H' Q
theorem Ww:PGs X [] oH:=by
 intro pins s Z H vs us Q I r h;obtain ⟨e,h⟩:=h;subst e;cases r;exact assignInOrder_nil ⟨Z,H,I,h⟩
theorem Ci {e:Expr} {es:List Expr} {t:TG} {u:TGs} (h1:PG X e t) (h2:PGs X es u)
   (hs:(HF (e::es) X.env).map (·.2)=JP e X.env::(HF es X.env).map (·.2):=by rfl):PGs X (e::es) (Hq t u):=by
 intro pins s Z H vs us Q I r h;obtain ⟨v,vr,e1,h⟩:=h;subst e1;cases r with
 | cons r rr =>
   rw [hs]; refine assignInOrder_cons (thn (h1 pins s Z H _ _ _ I r h) fun _ s1 hZ2=>?_);obtain ⟨Z1,H1,I1,q1⟩:=hZ2; exact h2 pins s1 Z1 H1 _ _ Q I1 rr q1
def oG (K:zX) (n:Nat) (t:TGs):TG:=fun v Z H Q=>∃ a xs,v=.ref a/\SqT K H a xs/\xs.length=n/\t xs Z H Q
theorem cU {es:List Expr} {k:Nat} {t:TGs} {n:Nat} (hc:X.calm=true) (h:PGs X es t)
   (hn:(HF es X.env).length=n:=by rfl) (hst:(HF es X.env).findIdx? (·.1)=none:=by rfl):PG X (.Tuple es k pos) (oG X.K n t):=by
 intro pins s Z H v u Q I r hw;obtain ⟨a,xs,e1,hq,hl,hw⟩:=hw;subst e1;cases r;obtain ⟨its,rv,ht,hz⟩:=I.tuple hq;refine assign_Tuple_tuple (I.ok.hd hc) ht (by simp [hn,<- hl,rv.length]) hst fun h' hx=>?_;have I1:Inv X pins Z H { s with heap:=h' }:=I.kept (t':=s.toks) fun b o e=>hx b o (m6 (i8 e)) e;exact h pins _ Z H xs _ Q I1 (by simpa using rv) hw
def gSub (to ti:TE) (t:zO):TG:=fun v Z H Q=>to Z H fun o H1=>ti Z H1 fun i H2=>t o i v H2 fun H3=>Q Z H3
theorem xD {o i:Expr} {to ti:TE} {t:zO} (ho:PE X o to) (hi:PE X i ti) (hs:PSet X t)
   (ha:∀ v,JP (.Subscript o i pos) X.env v=(do
     let ov <- holding [v] (eval o X.env)
     let iv <- holding [v,ov] (eval i X.env)
     standAt pos
     holding [v,ov,iv] (setItem ov iv v)
     release [v,ov,iv] []):=by intro _; rfl):PG X (.Subscript o i pos) (gSub to ti t):=by
 intro pins s Z H v u Q I r h;rw [ha];refine zT (s0 (thn (ho pins s Z H _ I h) fun ov s1 hZ2=>?_));obtain ⟨x,H1,I1,r1,q1⟩:=hZ2;refine zT (s0 (thn (hi pins s1 Z H1 _ I1 q1) fun iv s2 hZ2=>?_));obtain ⟨y,H2,I2,r2,q2⟩:=hZ2;refine zT (wpAny_standAt (zT (s0 (thn (hs pins s2 Z H2 x y v ov iv u _ I2 r1 r2 r q2) fun _ s3 hZ2=>?_))));obtain ⟨H3,I3,q3⟩:=hZ2;exact wpAny_release ⟨Z,H3,I3,q3⟩
def wI (te:TE) (g:TG):TS:=fun D Z H=>te Z H fun x H1=>g x Z H1 D.nx
theorem xC {tg e:Expr} {te:TE} {g:TG} (he:PE X e te) (hg:PG X tg g) (hs:swapsWithSole [tg] e pos.line X.env=pure false:=by rfl) (hw:swappedStores [tg] e X.env=pure none:=by rfl)
   (h1:(HF [tg] X.env).map (·.2)=[JP tg X.env]:=by rfl):PS X (.Assign [tg] e pos) (wI te g):=by
 intro pins s Z H D I h;refine wpAny_Assign_stores (thn (he pins s Z H _ I h) fun v s1 hY3=>?_) hs hw;obtain ⟨x,H1,I1,r1,q1⟩:=hY3;rw [h1];exact thn (hg pins s1 Z H1 x v _ I1 r1 q1) fun _ s2 q=>q
theorem Qo {i:Nat} {x:Str} {e:Expr} {te:TE} {pos':Pos} (hN:X.N.Nodup) (hi:X.N[i]? = some x) (hx:Loc X.env.scope x) (he:PE X e te) (hs:BX e (some (.Name x pos')) pos.line X.env=pure false:=by rfl) (hf:X.fn x=true\/X.env.scope.names.lookup x=some .local:=by first | exact .inl rfl | exact .inr rfl | assumption) :
   PS X (.Assign [.Name x pos'] e pos) (wI te (V3 i)):=by
 intro pins s Z H D I h;refine wpAny_Assign_Name (thn (he pins s Z H _ I h) fun v s1 hY4=>?_) hs;obtain ⟨y,H1,I1,r1,q1⟩:=hY4;exact Zc I1 hN hi hx r1 (fun s2 I2=>⟨_,H1,I2,q1⟩) hf
end
section
variable {X:Cx} {pos:Pos}
def wD (c:TT) (tb:TS):TS:=fun D Z H=>∃ W:Nat->St->Hp->Prop,(∃ m,W m Z H)/\∀ m Z H,W m Z H ->
 c Z H fun b H1=>if b=true then ∃ N:St->Hp->Prop,(∀ Z' H',N Z' H'->∃ m',m' < m/\W m' Z' H')/\tb { D with nx:=N,ct:=N,bk:=D.nx } Z H1 else D.nx Z H1
theorem mJ {c:Expr} {body:List CN} {tc:TT} {tb:TS} (hp:PassesOwn (i9 X.prog X.w) X.A X.env X.xe) (hc:PT X c tc) (hb:PSs X body tb):PS X (.While c body [] pos) (wD tc tb):=by
 intro pins s Z H D I h;obtain ⟨W,⟨m0,w0⟩,turn⟩:=h;refine wpAny_While (codeAny_whileLoop (fun n s'=>∃ Z' H',Inv X pins Z' H' s'/\W n Z' H') ?_ m0 ⟨Z,H,I,w0⟩);rintro n s1 ⟨Z1,H1,I1,w1⟩;refine EC hp (thn (hc pins s1 Z1 H1 _ I1 (turn n Z1 H1 w1)) fun b s2 hZ2=>?_);obtain ⟨H2,I2,q2⟩:=hZ2;cases b with
 | true =>
   obtain ⟨N,hN,q2⟩:=q2; rw [if_pos rfl]; refine EC hp (thn (hb pins s2 Z1 H2 _ I2 q2) fun f s3 q3=>?_);cases f with
   | next =>
     obtain ⟨Z3,H3,I3,n3⟩:=q3; obtain ⟨m',hm,w3⟩:=hN Z3 H3 n3; exact ⟨m',hm,Z3,H3,I3,w3⟩
   | cont =>
     obtain ⟨Z3,H3,I3,n3⟩:=q3; obtain ⟨m',hm,w3⟩:=hN Z3 H3 n3; exact ⟨m',hm,Z3,H3,I3,w3⟩
   | brk=>exact q3
   | ret v=>exact q3
 | false =>
   rw [if_neg AW]; exact IR ⟨Z1,H2,I2,q2⟩
end
structure It where
 go:Nat->Hp->Prop
 yld:Nat->Hp->V->Hp->Prop
 stop:Nat->Hp->Prop
def Sf (X:Cx) (pins:List (c6×Obj)) (H:Hp) (b:c6):Prop :=
 H b=none/\b≠X.env.locals/\b∉X.fs/\(b∈X.ex\/X.s₀.heap.objs.size<=b)/\(∀ x c,X.env.cells.lookup x=some c->c≠b)/\∀ p∈X.pn++pins,p.1≠b
theorem Inv.fpOk {X:Cx} {pins:List (c6×Obj)} {Z:St} {H H':Hp} {s:zW} {b:c6} (I:Inv X pins Z H s) (hb:s.heap.objs.size<=b) (hn:H' b=none):Sf X pins H' b:=by
 refine ⟨hn,DM (m3 I.lt hb),I.nofs hb,.inr (i6 I.sz hb),fun x c e z=>?_,fun p hp z=>?_⟩
 . obtain ⟨v,q⟩:=I.cell x c e
   exact absurd (m3 q.lt (by rw [z]; exact hb)) (BV _)
 . exact absurd (m3 (i8 (I.pin p hp).1) (by rw [z]; exact hb)) (BV _)
structure Turn (P:j5) (w:l9) (K:zX) (tg:Expr) (J:It) (fp:List c6) (it:c6) (tn:Nat->p9->Prop):Prop where
 mem:it∈fp
 obj:∀ i h,tn i h->∀ b∈fp,∃ o,h.get? b=some o/\∀ v,o.data≠.cell v
 keep:∀ i h h',tn i h->(∀ b∈fp,∀ o,h.get? b=some o->h'.get? b=some o)->tn i h'
 item:∀ (X:Cx),X.prog=P->X.w=w->X.K=K->X.calm=true->∀ (i:Nat) (pins:List (c6×Obj)) (s:zW) (Z:St) (H:Hp) (E:zV->zW->Prop),Inv X pins Z H s->(∀ b∈fp,Sf X pins H b)->tn i s.heap->J.go i H ->
   wpAny (i9 P w) X.A (pyNext (.ref it)) (fun r s1=>∃ u,r=some u /\
     wpAny (i9 P w) X.A (IS tg (.ref it) u) (fun _ s2=>∃ x H',Inv X pins Z H' s2/\RelV x u/\J.yld i H x H'/\tn (i+1) s2.heap/\∀ b∈fp,H' b=none) E s1) E s
 done:∀ (X:Cx),X.prog=P->X.w=w->X.K=K->X.calm=true->∀ (i:Nat) (pins:List (c6×Obj)) (s:zW) (Z:St) (H:Hp) (E:zV->zW->Prop),Inv X pins Z H s->(∀ b∈fp,Sf X pins H b)->tn i s.heap->J.stop i H ->
   wpAny (i9 P w) X.A (pyNext (.ref it)) (fun r s1=>r=none/\Inv X pins Z H s1) E s
 self:∀ (A:u5) (i:Nat) (s:zW) (Q:zV->zW->Prop) (E:zV->zW->Prop),tn i s.heap->Q (.ref it) s->wpAny (i9 P w) A (LS (.ref it)) Q E s
abbrev TI:=St->Hp->(It->Hp->Prop)->Prop
def PIE (X:Cx) (pins:List (c6×Obj)) (Z:St) (tg:Expr) (R:It->Hp->Prop) (itv:zV) (s2:zW):Prop :=
 ∃ (it:c6) (fp:List c6) (tn:Nat->p9->Prop) (J:It) (H':Hp),itv=.ref it/\Inv X pins Z H' s2/\Turn X.prog X.w X.K tg J fp it tn/\tn 0 s2.heap/\(∀ b∈fp,Sf X pins H' b)/\R J H'
def PI (X:Cx) (tg iter:Expr) (wi:TI):Prop :=
 ∀ (pins:List (c6×Obj)) (s:zW) (Z:St) (H:Hp) (R:It->Hp->Prop),Inv X pins Z H s->wi Z H R ->
   wpAny (i9 X.prog X.w) X.A (eval iter X.env) (fun v s1=>wpAny (i9 X.prog X.w) X.A (LS v) (PIE X pins Z tg R) X.xe s1) X.xe s
theorem Uy {M:Model} {A:u5} {E:zV->zW->Prop} {s:zW} {tg:Expr} {it:c6} {u:zV} {o:Obj} {n:String} {vs:Array zV} {Q:Unit->zW->Prop} (ho:s.heap.get? it=some o) (hc:o.cls=.type n) (hd:o.data=.fields vs)
   (hn:["enumerate", "zip", "dict_itemiterator", "dict_reverseitemiterator", "odict_iterator", "itertools.zip_longest", "itertools.pairwise"].contains n=false) (hQ:Q () s):wpAny M A (IS tg (.ref it) u) Q E s:=by
 unfold IS;cases tg <;> first
   | exact zU hQ
   | (cases u <;> first
       | exact zU hQ
       | (refine zT (MU ho ?_)
          rw [hc,hd]; show wpAny M A (if (["enumerate", "zip", "dict_itemiterator", "dict_reverseitemiterator", "odict_iterator", "itertools.zip_longest", "itertools.pairwise"].contains n&&vs[0]? == some (DX _))=true then _ else _) Q E s;rw [if_neg (by intro h; rw [hn,Bool.false_and] at h; cases h)];exact zU hQ))
def Itl (K:zX) (a:c6):It :=
 ⟨fun i H=>∃ xs x,SqL K H a xs/\xs[i]? = some x,fun i H x H'=>H'=H/\∀ xs,SqL K H a xs->xs[i]? = some x,fun i H=>∃ xs,SqL K H a xs/\xs.length<=i⟩
def Itt (K:zX) (a:c6):It :=
 ⟨fun i H=>∃ xs x,SqT K H a xs/\xs[i]? = some x,fun i H x H'=>H'=H/\∀ xs,SqT K H a xs->xs[i]? = some x,fun i H=>∃ xs,SqT K H a xs/\xs.length<=i⟩
def Itr (lo:Int) (n:Nat):It:=⟨fun i _=>i < n,fun i H x H'=>H'=H/\x=.int (lo+i),fun i _=>n<=i⟩
theorem gN {P:j5} {w:l9} {K:zX} {tg:Expr} (a it:c6):Turn P w K tg (Itl K a) [it] it (fun i h=>h.IsListIter it a i) where
 mem:=by simp
 obj:=fun i h st b hb=>by
   have e:b=it:=by simpa using hb
   subst e; obtain ⟨o,e,c,d⟩:=st; exact ⟨o,e,fun v z=>by rw [d] at z; cases z⟩
 keep:=fun i h h' st k=>st.at fun o e=>k it (by simp) o e
 item:=by
   intro X hP hw hK hc i pins s Z H E I hf st hg; subst hP hw hK; obtain ⟨xs,x,hq,hx⟩:=hg; obtain ⟨its,rv,p,hz⟩:=I.list hq; obtain ⟨u,hu,ru⟩:=rv.get hx; obtain ⟨f0,f1,f2,f3,f4,f5⟩:=hf it (by simp);refine wpAny_pyNext_list_item st p.isList (x:=u) (by simpa using hu) fun h' st' sb=>?_;have I1:Inv X pins Z H { s with heap:=h' }:=I.turned (t':=s.toks) (fun b o hb e=>(sb.2 b hb).trans e) f0 f1 f3 f4 f5;obtain ⟨o,e,c,d⟩:=id st'; exact ⟨u,rfl,Uy (s:={ s with heap:=h' }) e c d (by decide) ⟨x,H,I1,ru,⟨rfl,fun ys hy=>by rw [I.list_inj hy hq]; exact hx⟩,st',fun b hb=>(hf b hb).1⟩⟩
 done:=by
   intro X hP hw hK hc i pins s Z H E I hf st hg; subst hP hw hK; obtain ⟨xs,hq,hx⟩:=hg; obtain ⟨its,rv,p,hz⟩:=I.list hq; obtain ⟨f0,f1,f2,f3,f4,f5⟩:=hf it (by simp);have hl:=rv.length; exact wpAny_pyNext_list_end (I.ok.hd hc) st p.isList (by simp; lia) fun h' eb=>⟨rfl,I.turned (t':=s.toks) (fun b o hb e=>eb b o hb e) f0 f1 f3 f4 f5⟩
 self:=fun _ _ _ _ _ st h=>wpAny_pyIter_listiter st h
theorem bQ {P:j5} {w:l9} {K:zX} {tg:Expr} (a it:c6):Turn P w K tg (Itt K a) [it] it (fun i h=>h.IsTupleIter it a i) where
 mem:=by simp
 obj:=fun i h st b hb=>by
   have e:b=it:=by simpa using hb
   subst e; obtain ⟨o,e,c,d⟩:=st; exact ⟨o,e,fun v z=>by rw [d] at z; cases z⟩
 keep:=fun i h h' st k=>st.at fun o e=>k it (by simp) o e
 item:=by
   intro X hP hw hK hc i pins s Z H E I hf st hg; subst hP hw hK; obtain ⟨xs,x,hq,hx⟩:=hg; obtain ⟨its,rv,p,hz⟩:=I.tuple hq; obtain ⟨u,hu,ru⟩:=rv.get hx; obtain ⟨f0,f1,f2,f3,f4,f5⟩:=hf it (by simp);refine wpAny_pyNext_tuple_item st (show s.heap.IsTuple a its.toArray from p) (x:=u) (by simpa using hu) fun h' st' sb=>?_;have I1:Inv X pins Z H { s with heap:=h' }:=I.turned (t':=s.toks) (fun b o hb e=>(sb.2 b hb).trans e) f0 f1 f3 f4 f5;obtain ⟨o,e,c,d⟩:=id st'; exact ⟨u,rfl,Uy (s:={ s with heap:=h' }) e c d (by decide) ⟨x,H,I1,ru,⟨rfl,fun ys hy=>by rw [I.tuple_inj hy hq]; exact hx⟩,st',fun b hb=>(hf b hb).1⟩⟩
 done:=by
   intro X hP hw hK hc i pins s Z H E I hf st hg; subst hP hw hK; obtain ⟨xs,hq,hx⟩:=hg; obtain ⟨its,rv,p,hz⟩:=I.tuple hq; obtain ⟨f0,f1,f2,f3,f4,f5⟩:=hf it (by simp);have hl:=rv.length; exact wpAny_pyNext_tuple_end (I.ok.hd hc) st (show s.heap.IsTuple a its.toArray from p) (by simp; lia) fun h' eb=>⟨rfl,I.turned (t':=s.toks) (fun b o hb e=>eb b o hb e) f0 f1 f3 f4 f5⟩
 self:=fun _ _ _ _ _ st h=>wpAny_pyIter_tupleiter st h
theorem bR {P:j5} {w:l9} {K:zX} {tg:Expr} (it:c6) (lo:Int) (n:Nat):Turn P w K tg (Itr lo n) [it] it (fun i h=>IsRangeIter h it (lo+(i:Nat)*1) ((n:Int) - (i:Nat)) 1) where
 mem:=by simp
 obj:=fun i h st b hb=>by
   have e:b=it:=by simpa using hb
   subst e; exact ⟨_,st,fun v z=>by
     have z':Data.fields _=Data.cell v:=z;cases z'⟩
 keep:=fun i h h' st k=>k it (by simp) _ st
 item:=by
   intro X hP hw hK hc i pins s Z H E I hf st hg; subst hP hw hK; obtain ⟨f0,f1,f2,f3,f4,f5⟩:=hf it (by simp);have W:=Walks.range (prog:=X.prog) (w:=X.w) (I.ok.hd hc) it lo 1 n; refine W.item i s _ _ hg st fun v h' tk hv st' kk=>?_;obtain ⟨t,rfl⟩:=hv; have I1:Inv X pins Z H { s with heap:=h',toks:=tk }:=I.turned (fun b o hb e=>kk b o (by simpa using hb) e) f0 f1 f3 f4 f5;refine ⟨_,rfl,Uy (s:={ s with heap:=h',toks:=tk }) (n := "range_iterator") st' rfl rfl (by decide) ⟨.int (lo+i),H,I1,⟨t,?_⟩,⟨rfl,rfl⟩,st',fun b hb=>(hf b hb).1⟩⟩;rw [Int.mul_one]
 done:=by
   intro X hP hw hK hc i pins s Z H E I hf st hg; subst hP hw hK; obtain ⟨f0,f1,f2,f3,f4,f5⟩:=hf it (by simp);exact wpAny_pyNext_range_end (I.ok.hd hc) st (by have:n<=i:=hg; lia) fun h' eb=>⟨rfl,I.turned (t':=s.toks) (fun b o hb e=>eb b o hb e) f0 f1 f3 f4 f5⟩
 self:=fun _ _ _ _ _ st h=>wpAny_pyIter_rangeiter st h
end L2
namespace L2
open PySem PySem.Spec PyProof.Rows
section
variable {X:Cx} {tg:Expr}
theorem mD {pins:List (c6×Obj)} {Z:St} {H:Hp} {s:zW} {R:It->Hp->Prop} {E:zV->zW->Prop} {lo hi:Int} {t u v:Tok} {tk:Nat} (I:Inv X pins Z H s) (h1 : -(2 ^ 62)<=lo) (h2:lo < 2 ^ 62) (h3 : -(2 ^ 62)<=hi) (h4:hi < 2 ^ 62)
   (q:R (Itr lo (hi - lo).toNat) H):wpAny (i9 X.prog X.w) X.A (LS (.ref s.heap.objs.size)) (PIE X pins Z tg R) E { s with heap:=s.heap.push { cls:=.type "range",data:=.fields #[.int lo t,.int hi u,.int 1 v] },toks:=tk }:=by
 refine wpAny_pyIter_range (IsRange.new ..) (small_one h1 h2 h3 h4) ?_;have I1:Inv X pins Z H { s with heap:=s.heap.push { cls:=.type "range",data:=.fields #[.int lo t,.int hi u,.int 1 v] },toks:=tk }:=I.kept fun b o e=>a8 _ e;refine ⟨(s.heap.push { cls:=.type "range",data:=.fields #[.int lo t,.int hi u,.int 1 v] }).objs.size,[(s.heap.push { cls:=.type "range",data:=.fields #[.int lo t,.int hi u,.int 1 v] }).objs.size],_,_,H,rfl,
   I1.kept (t':=tk) fun b o e=>a8 _ e,bR _ lo (hi - lo).toNat,?_,fun b hb=>?_,q⟩
 . have e1:lo+((0:Nat):Int)*1=lo:=by simp
   have e2:(((hi - lo).toNat:Nat):Int) - ((0:Nat):Int)=Builtin.Range.rangeSize lo hi 1:=by rw [rangeSize_one]; split <;> lia
   show IsRangeIter _ _ (lo+((0:Nat):Int)*1) ((((hi - lo).toNat:Nat):Int) - ((0:Nat):Int)) 1;rw [e1,e2]; exact e9 _ rfl
 . have e:b=(s.heap.push { cls:=.type "range",data:=.fields #[.int lo t,.int hi u,.int 1 v] }).objs.size:=by simpa using hb
   subst e; exact I1.fpOk (f8 _) (I1.hok.fresh (f8 _))
def iRng1 (ta:TA):TI:=fun Z H R=>ta Z H fun vs H1=>∃ j:Int,vs=[.int j] /\ -(2 ^ 62)<=j/\j < 2 ^ 62/\R (Itr 0 j.toNat) H1
theorem iJ {a:Expr} {ta:TA} {p pos:Pos} (hg:Gl X "range") (hm:X.mg "range" = none) (ha:PA X [a] ta) (hs:e8 [a] X.env=[(false,eval a X.env)]:=by rfl):PI X tg (.Call (.Name "range" p) [a] [] pos) (iRng1 ta):=by
 intro pins s Z H R I h;refine Call_ (Me I hg hm boot_range (DD (thn (ha pos pins s Z H _ I h) fun us s1 hY6=>?_) hs rfl));obtain ⟨vs,H1,I1,r1,q1⟩:=hY6;obtain ⟨j,e,q1,q2,q⟩:=q1;subst e;cases r1 with
 | cons r rr =>
   cases rr; obtain ⟨t,rfl⟩:=r; exact call_range_1 (mD I1 (by lia) (by lia) q1 q2 (by simpa using q))
def tFor (wi:TI) (g:TG) (tb:TS):TS:=fun D Z H=>wi Z H fun J H1=>∃ W:Nat->Nat->St->Hp->Prop,(∃ m,W 0 m Z H1)/\∀ i m Z H,W i m Z H ->
 (J.stop i H/\D.nx Z H)\/(J.go i H/\∃ N:St->Hp->Prop,(∀ Z' H',N Z' H'->∃ m',m' < m/\W (i+1) m' Z' H')/\∀ x H',J.yld i H x H'->g x Z H' fun Z2 H2=>tb { D with nx:=N,ct:=N,bk:=D.nx } Z2 H2)
def Qp (fp:List c6) (h:p9):List (c6×Obj):=fp.filterMap fun b=>(h.get? b).map fun o=>(b,o)
theorem Ij {fp:List c6} {h:p9} {b:c6} {o:Obj} (hb:b∈fp) (e:h.get? b=some o):(b,o)∈Qp fp h:=JH.mpr ⟨b,hb,by rw [e]; rfl⟩
theorem iQ {fp:List c6} {h:p9} {p:c6×Obj} (hp:p∈Qp fp h):p.1∈fp/\h.get? p.1=some p.2:=by
 obtain ⟨b,hb,e⟩:=JH.mp hp;cases q:h.get? b with
 | none=>rw [q] at e; cases e
 | some o =>
   rw [q] at e; have e':(b,o)=p:=u6 e; subst e'; exact ⟨hb,q⟩
theorem Inv.pinned {pins:List (c6×Obj)} {Z:St} {H:Hp} {s:zW} {fp:List c6} (I:Inv X pins Z H s) (hf:∀ b∈fp,Sf X pins H b) (ho:∀ b∈fp,∃ o,s.heap.get? b=some o/\∀ v,o.data≠.cell v):Inv X (pins++Qp fp s.heap) Z H s :=
 I.pins_of fun p hp=>(i7.mp hp).elim (fun z=>I.pin p (AE _ z)) fun z=>by
   obtain ⟨hb,e⟩:=iQ z; obtain ⟨f0,f1,f2,_⟩:=hf p.1 hb; obtain ⟨o,e',d⟩:=ho p.1 hb; rw [e] at e'; cases e'; exact ⟨e,f0,f1,f2,d⟩
theorem Inv.unpinned {pins pl:List (c6×Obj)} {Z:St} {H:Hp} {s:zW} (I:Inv X (pins++pl) Z H s):Inv X pins Z H s:=I.pins_of fun p hp=>I.pin p (AE _ (EG _ hp))
theorem mK {iter:Expr} {body:List CN} {wi:TI} {g:TG} {tb:TS} {pos:Pos} (hp:PassesOwn (i9 X.prog X.w) X.A X.env X.xe) (hc:X.calm=true) (hi:PI X tg iter wi) (hg:PG X tg g) (hb:PSs X body tb)
   (hs:∀ x,x8 iter X.env x=pure x:=by intro _; rfl):PS X (.For tg iter body [] pos) (tFor wi g tb):=by
 intro pins s Z H D I h;refine wpAny_For (thn (hi pins s Z H _ I h) fun v s1 h1=>thn h1 fun itv s2 h2=>?_) hs;obtain ⟨it,fp,tn,J,H2,e,I2,T,st2,f2,W,⟨m0,w0⟩,turn⟩:=h2;subst e;have stat:∀ {H':Hp},(∀ b∈fp,H' b=none)->∀ b∈fp,Sf X pins H' b:=fun hn b hb=>⟨hn b hb,(f2 b hb).2⟩;refine codeAny_forLoop_any (fun n s'=>∃ i Z' H',Inv X pins Z' H' s'/\tn i s'.heap/\(∀ b∈fp,H' b=none)/\W i n Z' H') ?_ m0 ⟨0,Z,H2,I2,st2,fun b hb=>(f2 b hb).1,w0⟩;rintro n s3 ⟨i,Z3,H3,I3,st3,fr3,w3⟩;rcases turn i n Z3 H3 w3 with ⟨stop,qn⟩ | ⟨go,N,hN,step⟩
 . refine EC hp (thn (T.done X rfl rfl rfl hc i pins s3 Z3 H3 X.xe I3 (stat fr3) st3 stop) fun r s4 hZ2=>?_)
   obtain ⟨hr,I4⟩:=hZ2; subst hr; exact IR ⟨Z3,H3,I4,qn⟩
 . refine EC hp (thn (T.item X rfl rfl rfl hc i pins s3 Z3 H3 X.xe I3 (stat fr3) st3 go) fun r s4 hZ2=>?_)
   obtain ⟨u,hr,h4⟩:=hZ2; subst hr; refine EC hp (thn h4 fun _ s5 hZ2=>?_);obtain ⟨x,H5,I5,r5,y5,st5,fr5⟩:=hZ2; have I5':=I5.pinned (stat fr5) (T.obj _ _ st5); refine EC hp (thn (hg _ s5 Z3 H5 x u _ I5' r5 (step x H5 y5)) fun _ s6 hZ2=>?_);obtain ⟨Z6,H6,I6,q6⟩:=hZ2; refine EC hp (thn (hb _ s6 Z6 H6 _ I6 q6) fun f s7 q7=>?_);have again:∀ {Z7:St} {H7:Hp},Inv X (pins++Qp fp s5.heap) Z7 H7 s7->N Z7 H7->∃ m,m < n/\∃ i Z' H',Inv X pins Z' H' s7/\tn i s7.heap/\(∀ b∈fp,H' b=none)/\W i m Z' H':=fun {Z7 H7} I7 n7=>by
     obtain ⟨m',hm,w7⟩:=hN Z7 H7 n7; refine ⟨m',hm,i+1,Z7,H7,I7.unpinned,T.keep _ _ _ st5 fun b hb o e=>(I7.pin (b,o) (AE _ (AE _ (Ij hb e)))).1,fun b hb=>?_,w7⟩;obtain ⟨o,e,d⟩:=T.obj _ _ st5 b hb; exact (I7.pin (b,o) (AE _ (AE _ (Ij hb e)))).2.1
   cases f with
   | next=>obtain ⟨Z7,H7,I7,n7⟩:=q7; exact again I7 n7
   | cont=>obtain ⟨Z7,H7,I7,n7⟩:=q7; exact again I7 n7
   | brk=>obtain ⟨Z7,H7,I7,q7⟩:=q7; exact ⟨Z7,H7,I7.unpinned,q7⟩
   | ret v=>obtain ⟨x7,Z7,H7,I7,r7,q7⟩:=q7; exact ⟨x7,Z7,H7,I7.unpinned,r7,q7⟩
end
end L2
namespace L2
open PySem PySem.Spec PyProof.Rows
abbrev R2:=V->V->Hp->VK->Prop
def OpR (X:Cx) (f:zV->zV->Sem zV) (r:R2):Prop :=
 ∀ (pins:List (c6×Obj)) (s:zW) (Z:St) (H:Hp) (x y:V) (v u:zV) (Q:VK),Inv X pins Z H s->RelV x v->RelV y u->r x y H Q ->
   wpAny (i9 X.prog X.w) X.A (f v u) (EP X pins Z Q) X.xe s
def UnR (X:Cx) (f:zV->Sem zV) (r:V->Hp->VK->Prop):Prop :=
 ∀ (pins:List (c6×Obj)) (s:zW) (Z:St) (H:Hp) (x:V) (v:zV) (Q:VK),Inv X pins Z H s->RelV x v->r x H Q ->
   wpAny (i9 X.prog X.w) X.A (f v) (EP X pins Z Q) X.xe s
def Y0 (X:Cx) (f:zV) (r:List V->Hp->VK->Prop):Prop :=
 ∀ (pins:List (c6×Obj)) (s:zW) (Z:St) (H:Hp) (xs:List V) (us:List zV) (Q:VK),Inv X pins Z H s->Vals xs us->r xs H Q ->
   wpAny (i9 X.prog X.w) X.A (call f us) (EP X pins Z Q) X.xe s
def TruR (X:Cx) (r:V->Hp->(Bool->Hp->Prop)->Prop):Prop :=
 ∀ (pins:List (c6×Obj)) (s:zW) (Z:St) (H:Hp) (x:V) (v:zV) (Q:Bool->Hp->Prop),Inv X pins Z H s->RelV x v->r x H Q ->
   wpAny (i9 X.prog X.w) X.A (truthy v) (TP X pins Z Q) X.xe s
def tOp (r:R2) (ta tb:TE):TE:=fun Z H Q=>ta Z H fun x H1=>tb Z H1 fun y H2=>r x y H2 Q
def tUn (r:V->Hp->VK->Prop) (ta:TE):TE:=fun Z H Q=>ta Z H fun x H1=>r x H1 Q
def rI (C:Int->Int->Prop) (g:Int->Int->V):R2:=fun x y H Q=>∃ i j,x=.int i/\y=.int j/\C i j/\Q (g i j) H
def rI0 (g:Int->Int->V):R2:=fun x y H Q=>∃ i j,x=.int i/\y=.int j/\Q (g i j) H
def rU (g:Int->V):V->Hp->VK->Prop:=fun x H Q=>∃ i,x=.int i/\Q (g i) H
section
variable {X:Cx} {a b:Expr} {ta tb:TE} {pos:Pos}
theorem zJ (ha:PE X a ta) (hb:PE X b tb) {pins:List (c6×Obj)} {s:zW} {Z:St} {H:Hp} {R:V->V->Hp->Prop} (I:Inv X pins Z H s)
   (h:ta Z H fun x H1=>tb Z H1 fun y H2=>R x y H2) {Q:zV->zW->Prop} {f:zV->zV->Sem zV}
   (hf:∀ v u s2 x y H2,Inv X pins Z H2 s2->RelV x v->RelV y u->R x y H2->wpAny (i9 X.prog X.w) X.A (f v u) Q X.xe s2) :
   wpAny (i9 X.prog X.w) X.A (eval a X.env) (fun v s₁=>wpAny (i9 X.prog X.w) X.A (eval b X.env) (fun u s₂=>wpAny (i9 X.prog X.w) X.A (f v u) Q X.xe s₂) X.xe s₁) X.xe s:=by
 refine thn (ha pins s Z H _ I h) fun v s1 hZ2=>?_;obtain ⟨x,H1,I1,r1,q1⟩:=hZ2;refine thn (hb pins s1 Z H1 _ I1 q1) fun u s2 hZ2=>?_;obtain ⟨y,H2,I2,r2,q2⟩:=hZ2;exact hf v u s2 x y H2 I2 r1 r2 q2
theorem pe_op {op:Operator} {r:R2} (ho:OpR X (IF op) r) (ha:PE X a ta) (hb:PE X b tb):PE X (.BinOp a op b pos) (tOp r ta tb):=by
 intro pins s Z H Q I h;exact wpAny_BinOp (zJ ha hb I h fun v u s2 x y H2 I2 rx ry q=>ho pins s2 Z H2 x y v u Q I2 rx ry q)
theorem pe_un {op:UnaryOp} {r:V->Hp->VK->Prop} (ho:UnR X (unaryOp op) r) (ha:PE X a ta):PE X (.UnaryOp op a pos) (tUn r ta):=by
 intro pins s Z H Q I h;exact UnaryOp_ (thn (ha pins s Z H _ I h) fun v s1 hZ2=>by obtain ⟨x,H1,I1,r1,q1⟩:=hZ2; exact ho pins s1 Z H1 x v Q I1 r1 q1)
theorem opI {f:zV->zV->Sem zV} {C:Int->Int->Prop} {g:Int->Int->Int}
   (rule:∀ (i j:Int) (t u:Tok) (s:zW) (Q:zV->zW->Prop) (E:zV->zW->Prop),C i j->Q (.int (g i j) s.toks) { s with toks:=s.toks+1 }->wpAny (i9 X.prog X.w) X.A (f (.int i t) (.int j u)) Q E s) :
   OpR X f (rI C fun i j=>.int (g i j)):=by
 intro pins s Z H x y v u Q I rx ry h;obtain ⟨i,j,rfl,rfl,hc,q⟩:=h;obtain ⟨t,rfl⟩:=rx;obtain ⟨t',rfl⟩:=ry;exact rule i j t t' s _ _ hc ⟨.int (g i j),H,I.tok _,⟨_,rfl⟩,q⟩
theorem opI0 {f:zV->zV->Sem zV} {g:Int->Int->Int}
   (rule:∀ (i j:Int) (t u:Tok) (s:zW) (Q:zV->zW->Prop) (E:zV->zW->Prop),Q (.int (g i j) s.toks) { s with toks:=s.toks+1 }->wpAny (i9 X.prog X.w) X.A (f (.int i t) (.int j u)) Q E s) :
   OpR X f (rI0 fun i j=>.int (g i j)):=by
 intro pins s Z H x y v u Q I rx ry h;obtain ⟨i,j,rfl,rfl,q⟩:=h;obtain ⟨t,rfl⟩:=rx;obtain ⟨t',rfl⟩:=ry;exact rule i j t t' s _ _ ⟨.int (g i j),H,I.tok _,⟨_,rfl⟩,q⟩
def CDiv (i j:Int):Prop:=0 < j/\j < 1073741824
def CMul (i j:Int):Prop:=(-(2 ^ 64) < i/\i < 2 ^ 64)\/(-(2 ^ 64) < j/\j < 2 ^ 64)
theorem CMul.ok {i j:Int} (h:CMul i j):IntMulOk i j:=by
 rcases h with ⟨h1,h2⟩ | ⟨h1,h2⟩
 . exact .of_left (intBits_le_64 h1 h2)
 . exact .of_right (intBits_le_64 h1 h2)
theorem xO:OpR X (IF .Sub) (rI0 fun i j=>.int (i - j)):=opI0 fun _ _ _ _ _ _ _ q=>sub_int q
theorem sF:OpR X (IF .FloorDiv) (rI CDiv fun i j=>.int (i / j)):=opI fun i j _ _ _ _ _ hc q=>by
 have h1:(0:Int) < j:=hc.1;have h2:j < 1073741824:=hc.2;exact floordiv_int (by lia) (by rw [Int.fdiv_eq_ediv_of_nonneg i (by lia)]; exact q) (.inl (PyProof.noPylong_small (by lia)))
theorem xQ:OpR X (IF .Mod) (rI (fun _ j=>0 < j) fun i j=>.int (i % j)):=opI fun i j _ _ _ _ _ hc q=>by
 have h1:(0:Int) < j:=hc;exact mod_int' (by lia) (by rw [Int.fmod_eq_emod_of_nonneg i (by lia)]; exact q)
theorem unI {f:zV->Sem zV} {g:Int->Int}
   (rule:∀ (i:Int) (t:Tok) (s:zW) (Q:zV->zW->Prop) (E:zV->zW->Prop),Q (.int (g i) s.toks) { s with toks:=s.toks+1 }->wpAny (i9 X.prog X.w) X.A (f (.int i t)) Q E s) :
   UnR X f (rU fun i=>.int (g i)):=by
 intro pins s Z H x v Q I rx h;obtain ⟨i,rfl,q⟩:=h;obtain ⟨t,rfl⟩:=rx;exact rule i t s _ _ ⟨.int (g i),H,I.tok _,⟨_,rfl⟩,q⟩
theorem vW:UnR X (unaryOp .USub) (rU fun i=>.int (-i)):=unI fun _ _ _ _ _ q=>neg_int q
end
section
variable {X:Cx} {a b c:Expr} {ta tb tc:TE} {pos:Pos}
theorem Gg (b:Expr) {op:BZ} (h:op≠.In:=by decide) (h2:op≠.NotIn:=by decide):behindInMarks op b=false:=by
 have e1:(op==CmpOp.In)=false:=by cases op <;> first | rfl | exact absurd rfl h
 have e2:(op==CmpOp.NotIn)=false:=by cases op <;> first | rfl | exact absurd rfl h2
 cases b <;> simp [behindInMarks,e1,e2]
theorem sA {op:BZ} {r:R2} (ho:OpR X (x0 op) r) (ha:PE X a ta) (hb:PE X b tb) (hm:behindInMarks op b=false):PE X (.Compare a [op] [b] pos) (tOp r ta tb):=by
 intro pins s Z H Q I h;exact wpAny_Compare1 (zJ ha hb I h fun v u s2 x y H2 I2 rx ry q=>ho pins s2 Z H2 x y v u Q I2 rx ry q) hm
def uZ (t:TE):TT:=fun Z H Q=>t Z H fun x H'=>∃ k,x=.bl k/\Q k H'
theorem rS {op:BZ} {r:R2} (ho:OpR X (x0 op) r) (ha:PE X a ta) (hb:PE X b tb) (hm:behindInMarks op b=false):PT X (.Compare a [op] [b] pos) (uZ (tOp r ta tb)):=by
 intro pins s Z H Q I h;refine wpAny_isTrue_Compare1 (thn (ha pins s Z H _ I h) fun v s1 hY8=>?_) hm;obtain ⟨x,H1,I1,r1,q1⟩:=hY8;refine thn (hb pins s1 Z H1 _ I1 q1) fun u s2 hY9=>?_;obtain ⟨y,H2,I2,r2,q2⟩:=hY9;refine thn (ho pins s2 Z H2 x y v u _ I2 r1 r2 q2) fun c s3 hY10=>?_;obtain ⟨z,H3,I3,r3,k,e,q3⟩:=hY10;subst e;cases r3;exact z8 ⟨H3,I3,q3⟩
def kX (r r':R2) (ta tb tc:TE):TE:=fun Z H Q=>ta Z H fun x H1=>tb Z H1 fun y H2=>r x y H2 fun z H3=>∃ k,z=.bl k /\
 (if k=true then tc Z H3 fun w' H4=>r' y w' H4 Q else Q (.bl false) H3)
theorem mV {op op':BZ} {r r':R2} (ho:OpR X (x0 op) r) (ho':OpR X (x0 op') r') (ha:PE X a ta) (hb:PE X b tb) (hc:PE X c tc)
   (hm:JS [op,op'] [b,c]=false:=by with_unfolding_all rfl):PE X (.Compare a [op,op'] [b,c] pos) (kX r r' ta tb tc):=by
 intro pins s Z H Q I h;refine Compare_chain (thn (ha pins s Z H _ I h) fun v s1 hY11=>?_) hm;obtain ⟨x,H1,I1,r1,q1⟩:=hY11;refine chain_link (thn (hb pins s1 Z H1 _ I1 q1) fun u s2 hY12=>?_);obtain ⟨y,H2,I2,r2,q2⟩:=hY12;refine thn (ho pins s2 Z H2 x y v u _ I2 r1 r2 q2) fun d s3 hY13=>?_;obtain ⟨z,H3,I3,r3,k,e,q3⟩:=hY13;subst e;cases r3;refine z8 ?_;cases k with
 | false=>exact ite_ff ⟨.bl false,H3,I3,rfl,q3⟩
 | true=>exact ite_tt (chain_last (thn (hc pins s3 Z H3 _ I3 q3) fun w' s4 hZ2=>by obtain ⟨z',H4,I4,r4,q4⟩:=hZ2; exact ho' pins s4 Z H4 y z' u w' Q I4 r2 r4 q4))
theorem aA {op op':BZ} {r r':R2} (ho:OpR X (x0 op) r) (ho':OpR X (x0 op') r') (ha:PE X a ta) (hb:PE X b tb) (hc:PE X c tc)
   (hm:JS [op,op'] [b,c]=false:=by with_unfolding_all rfl):PT X (.Compare a [op,op'] [b,c] pos) (uZ (kX r r' ta tb tc)):=by
 intro pins s Z H Q I h;refine isTrue_chain (thn (ha pins s Z H _ I h) fun v s1 hY14=>?_) hm;obtain ⟨x,H1,I1,r1,q1⟩:=hY14;refine test_link (thn (hb pins s1 Z H1 _ I1 q1) fun u s2 hY15=>?_);obtain ⟨y,H2,I2,r2,q2⟩:=hY15;refine thn (ho pins s2 Z H2 x y v u _ I2 r1 r2 q2) fun d s3 hY16=>?_;obtain ⟨z,H3,I3,r3,k,e,q3⟩:=hY16;subst e;cases r3;refine z8 ?_;cases k with
 | false =>
   obtain ⟨k',e',q'⟩:=q3;cases e'; exact ite_ff ⟨H3,I3,q'⟩
 | true =>
   refine ite_tt (test_last (thn (hc pins s3 Z H3 _ I3 q3) fun w' s4 hY17=>?_));obtain ⟨z',H4,I4,r4,q4⟩:=hY17; refine thn (ho' pins s4 Z H4 y z' u w' _ I4 r2 r4 q4) fun d' s5 hZ2=>?_;obtain ⟨z2,H5,I5,r5,k2,e2,q5⟩:=hZ2; subst e2; cases r5; exact z8 ⟨H5,I5,q5⟩
def zM (K:zX) (x:V) (H:Hp) (k:Bool):Prop :=
 match x with
 | .non=>k=false
 | .bl b=>k=b
 | .int i=>k=(i != 0)
 | .str y=>y.length<=sizeLine/\k=((y.length:Int) != 0)
 | .byt y=>y.size<=sizeLine/\k=((y.size:Int) != 0)
 | .ref p=>(∃ xs,SqL K H p xs/\k = !xs.isEmpty)\/(∃ xs,SqT K H p xs/\k = !xs.isEmpty)\/∃ kvs,H p=some (.dK kvs)/\k = !kvs.isEmpty
 | _=>False
theorem dG {κ:Type} {kvs:List (κ×V)} {vs:List (κ×zV)} (r:KV kvs vs):(!vs.isEmpty) = !kvs.isEmpty:=by
 cases r <;> rfl
theorem Qx {xs:List V} {its:List zV} (r:Vals xs its):(!its.toArray.isEmpty) = !xs.isEmpty:=by
 cases r <;> simp
theorem Et:(sizeLine:Nat) < 2 ^ 63:=by rw [CU]; decide
theorem vZ:TruR X (fun x H Q=>∃ k,zM X.K x H k/\Q k H):=by
 intro pins s Z H x v Q I rx h;obtain ⟨k,e,q⟩:=h;have hl:=Et;have hs:sizeLine=16777216:=CU;cases x with
 | non =>
   cases rx; have e':k=false:=e; subst e'; exact truthy_none ⟨H,I,q⟩
 | bl b =>
   cases rx; have e':k=b:=e; subst e'; exact z8 ⟨H,I,q⟩
 | int i =>
   obtain ⟨t,rfl⟩:=rx; have e':k=(i != 0):=e; subst e'; exact PySem.P.truthy_int ⟨H,I,q⟩
 | str y =>
   obtain ⟨t,rfl⟩:=rx; obtain ⟨hy,e'⟩:y.length<=sizeLine/\k=((y.length:Int) != 0):=e; subst e'; exact PySem.P.truthy_str (by lia) ⟨H,I.tok _,q⟩
 | byt y =>
   obtain ⟨t,rfl⟩:=rx; obtain ⟨hy,e'⟩:y.size<=sizeLine/\k=((y.size:Int) != 0):=e; subst e'; exact PySem.W.truthy_bytes (by lia) ⟨H,I.tok _,q⟩
 | ref p =>
   cases rx; have e':(∃ xs,SqL X.K H p xs/\k = !xs.isEmpty)\/(∃ xs,SqT X.K H p xs/\k = !xs.isEmpty)\/∃ kvs,H p=some (.dK kvs)/\k = !kvs.isEmpty:=e; rcases e' with ⟨xs,hx,e'⟩ | ⟨xs,hx,e'⟩ | ⟨kvs,hx,e'⟩
   . subst e'
     obtain ⟨its,r,pl,hz⟩:=I.list hx; have hlen:=r.length; exact wpAny_truthy_list pl.isList (by simp only [i5]; lia) ⟨H,I.tok _,by rw [Qx r]; exact q⟩
   . subst e'
     obtain ⟨its,r,pl,hz⟩:=I.tuple hx; have hlen:=r.length; exact truthy_tuple pl (by simp only [i5]; lia) ⟨H,I.tok _,by rw [Qx r]; exact q⟩
   . subst e'
     obtain ⟨hz,hS,vs,r,m⟩:kvs.length<=sizeLine/\(p==CH)=false/\∃ vs,KV kvs vs/\s.heap.DictOf (Xb X.prog X.w) p vs:=I.hok p _ hx; have hlen:kvs.length=vs.length:=Paired.length r; exact wpAny_truthy_dict hS m (by lia) ⟨H,I.tok _,by rw [dG r]; exact q⟩
 | _=>exact (show False from e).elim
theorem Zz (ha:PE X a ta) (he:∀ whole,isTrue a X.env whole=(do let v <- whole; standAt a.pos; holding [v] (truthy v))) :
   PT X a (fun Z H Q=>ta Z H fun x H'=>∃ k,zM X.K x H' k/\Q k H'):=by
 intro pins s Z H Q I h;exact isTrue_plain (thn (ha pins s Z H _ I h) fun v s1 hZ2=>by obtain ⟨x,H1,I1,r1,q1⟩:=hZ2; exact vZ pins s1 Z H1 x v Q I1 r1 q1) (he _)
theorem Ov {x:V} {us:List zV} (r:Vals [x] us):∃ u,us=[u]/\RelV x u:=by
 cases r with
 | cons r1 r2=>cases r2; exact ⟨_,rfl,r1⟩
theorem vals2 {x y:V} {us:List zV} (r:Vals [x,y] us):∃ u w',us=[u,w']/\RelV x u/\RelV y w':=by
 cases r with
 | cons r1 r2 =>
   cases r2 with
   | cons r3 r4=>cases r4; exact ⟨_,_,rfl,r1,r3⟩
theorem Vd:Y0 X (.type "int") (fun xs H Q=>(∃ i,xs=[.int i]/\Q (.int i) H)\/∃ k,xs=[.bl k]/\Q (.int (if k then 1 else 0)) H):=by
 intro pins s Z H xs us Q I r h;rcases h with ⟨i,rfl,q⟩ | ⟨k,rfl,q⟩
 . obtain ⟨u,rfl,t,rfl⟩:=Ov r
   exact call_int_int ⟨.int i,H,I,⟨_,rfl⟩,q⟩
 . obtain ⟨u,rfl,r1⟩:=Ov r
   cases r1; exact call_int_bool ⟨.int (if k then 1 else 0),H,I.tok _,⟨_,rfl⟩,q⟩
def LenV (K:zX) (x:V) (H:Hp) (n:Nat):Prop :=
 match x with
 | .str y=>y.length<=sizeLine/\n=y.length
 | .byt y=>y.size<=sizeLine/\n=y.size
 | .ref p=>(∃ xs,SqL K H p xs/\n=xs.length)\/∃ xs,SqT K H p xs/\n=xs.length
 | _=>False
theorem Rs:Y0 X (.builtin "len") (fun xs H Q=>∃ x n,xs=[x]/\LenV X.K x H n/\Q (.int n) H):=by
 intro pins s Z H xs us Q I r h;obtain ⟨x,n,rfl,e,q⟩:=h;obtain ⟨u,rfl,rx⟩:=Ov r;have hl:=Et;have hs:sizeLine=16777216:=CU;cases x with
 | str y =>
   obtain ⟨t,rfl⟩:=rx; obtain ⟨hy,e'⟩:y.length<=sizeLine/\n=y.length:=e; subst e'; exact len_str (by lia) ⟨.int _,H,I.tok _,⟨_,rfl⟩,q⟩
 | byt y =>
   obtain ⟨t,rfl⟩:=rx; obtain ⟨hy,e'⟩:y.size<=sizeLine/\n=y.size:=e; subst e'; exact PySem.W.len_bytes (by lia) ⟨.int _,H,I.tok _,⟨_,rfl⟩,q⟩
 | ref p =>
   cases rx; have e':(∃ xs,SqL X.K H p xs/\n=xs.length)\/∃ xs,SqT X.K H p xs/\n=xs.length:=e; rcases e' with ⟨xs,hx,e'⟩ | ⟨xs,hx,e'⟩
   . subst e'
     obtain ⟨its,r',pl,hz⟩:=I.list hx; have hlen:=r'.length; exact Calls.call_len_list pl.isList (by simp only [i5]; lia) ⟨.int xs.length,H,I.tok _,⟨_,by simp only [i5]; rw [hlen]⟩,q⟩
   . subst e'
     obtain ⟨its,r',pl,hz⟩:=I.tuple hx; have hlen:=r'.length; exact len_tuple pl (by simp only [i5]; lia) ⟨.int xs.length,H,I.tok _,⟨_,by simp only [i5]; rw [hlen]⟩,q⟩
 | _=>exact (show False from e).elim
end
end L2
namespace L2
open PySem PySem.Spec PyProof.Rows
structure ObjM (h:p9) (x dx C:c6) (mA:Str->Option zV):Prop where
 obj:h.get? x=some (KC C dx)
 ns:h.Ns1 dx mA
 ne:dx≠x
theorem jA {h:p9} {dx:c6} {mA:Str->Option zV} (n:h.Ns1 dx mA):∃ od,h.get? dx=some od/\∀ name,KQ name od=some (mA name):=by
 obtain ⟨o,es,ep,ho,hd,hk,_,hm⟩:=n;refine ⟨o,ho,fun name=>?_⟩;have e:=hm name;unfold nsFind findBy at e;rw [<- Array.find?_toList] at e;unfold KQ;rw [hd];dsimp only;split
 . rename_i y q
   rw [q] at e; exact congrArg some e
 . rename_i q
   rw [q] at e; have a:es.toList.any (·.refKey)=false:=by
     rw [List.any_eq_false]; intro y hy; obtain ⟨z,t,hkey⟩:=hk y (Array.mem_toList_iff.mp hy); simp [DictEntry.refKey,hkey]
   have a':¬ es.toList.any (·.refKey)=true:=by rw [a]; exact AW
   rw [if_neg a']; exact congrArg some e
theorem ObjM.look {h:p9} {x dx C:c6} {mA:Str->Option zV} (I:ObjM h x dx C mA):∃ od,PySem.W.InstAt h x (KC C dx) C (some od)/\∀ name,KQ name od=some (mA name) :=
 let ⟨od,ho,hl⟩:=jA I.ns
 ⟨od,⟨I.obj,rfl,rfl,ho⟩,hl⟩
section
variable {P:j5} {w:l9} {H:Hp} {h:p9} {a C dx:c6} {fs:List (Str×V)}
theorem sW (hok:HOk P w H h) (e:H a=some (.ins C dx fs)):∃ mA,ObjM h a dx C mA/\(∀ f,zP (fs.lookup f) (mA f))/\PySem.Within mA (fs.map (·.1))/\fs.length<=1000/\H dx=some (.own a):=by
 obtain ⟨d,z,ne,ob,mA,n,r,q⟩:=(show ObjOk P w H h a (.ins C dx fs) from hok a _ e);exact ⟨mA,⟨ob,n,ne⟩,r,q,z,d⟩
end
structure Cls (K:zX) (C:c6):Prop where
 pg:PySem.W.plainGet K C Str.empty=true
 hd:PySem.W.hasDictIn K C=true
 po:PySem.W.plainOver K C=true
 sa:PySem.W.findIn K (.ref C) "__setattr__" = some (some (.builtin "object.__setattr__"))
theorem Cls.get {K:zX} {C:c6} (c:Cls K C) (f:Str):PySem.W.plainGet K C f=true:=c.pg
section
variable {X:Cx} {pins:List (c6×Obj)} {Z:St} {H:Hp} {s:zW} {A:u5} {E:zV->zW->Prop} {Q:zV->zW->Prop} {c:zV} {b:Bool}
inductive TyOf (K:zX) (H:Hp):V->zV->Prop where
 | non:TyOf K H .non (.type "NoneType")
 | bl (x:Bool):TyOf K H (.bl x) (.type "bool")
 | int (i:Int):TyOf K H (.int i) (.type "int")
 | str (x:Str):TyOf K H (.str x) (.type "str")
 | flt (x:UInt64):TyOf K H (.flt x) (.type "float")
 | lst {a:c6} {xs:List V} (e:H a=some (.lst xs)):TyOf K H (.ref a) (.type "list")
 | frz {a:c6} {o:Obj} {xs:List V} (e:H a=some (.frz o (.lst xs))):TyOf K H (.ref a) (.type "list")
 | tup {a:c6} {xs:List V} (e:H a=some (.tup xs)):TyOf K H (.ref a) (.type "tuple")
 | dK {a:c6} {kvs:List (Key×V)} (e:H a=some (.dK kvs)):TyOf K H (.ref a) (.type "dict")
 | dT {a:c6} {kvs:List (List Key×V)} (e:H a=some (.dT kvs)):TyOf K H (.ref a) (.type "dict")
 | ins {a C dx : c6} {fs : List (Str × V)} (e : H a = some (.ins C dx fs)) (cl : Cls K C) (ha : PySem.W.findIn K (.ref C) "__class__" = some (some (.builtin "object.__class__")))
     (hn:PySem.W.specialIn K (.builtin "object.__class__") "__get__" = some (some (.builtin "getset_descriptor.__get__"))) (htk:PySem.W.takesIn K (.builtin "object.__class__")=some true)
     (hm:PySem.W.mroIn K C (.type "object")=some true):TyOf K H (.ref a) (.ref C)
theorem jF {x:V} {u t:zV} (I:Inv X pins Z H s) (rx:RelV x u) (ty:TyOf X.K H x t) (e:PySem.W.kitOne X.K t c=some b) (h:∀ tk,Q (.bool b) { s with toks:=tk }) :
   wpAny (i9 X.prog X.w) A (call (.builtin "isinstance") [u,c]) Q E s:=by
 cases ty with
 | non=>cases (show u=AL from rx); exact AS PySem.W.kitx_none I.kIn JG e (fun z=>nomatch z) h
 | bl y=>cases (show u=FQ y from rx); exact AS PySem.W.kitx_bool I.kIn JG e (fun z=>nomatch z) h
 | int i=>obtain ⟨t,q⟩:=(show ∃ t,u=JY i t from rx); cases q; exact AS PySem.W.kitx_int I.kIn JG e (fun z=>nomatch z) h
 | str y=>obtain ⟨t,q⟩:=(show ∃ t,u=ME y t from rx); cases q; exact AS PySem.W.kitx_str I.kIn JG e (fun z=>nomatch z) h
 | flt y=>obtain ⟨t,q⟩:=(show ∃ t,u=Value.float y t from rx); cases q; exact AS PySem.W.kitx_float I.kIn JG e (fun z=>nomatch z) h
 | @lst a xs ea =>
   cases (show u=u9 a from rx);obtain ⟨_,_,n,_,h1⟩:=(show ObjOk X.prog X.w H s.heap a (.lst xs) from I.hok a _ ea);exact AS NP I.kIn ⟨_,h1,rfl⟩ e (fun z=>nomatch z) h
 | @frz a ob xs ea =>
   cases (show u=u9 a from rx);obtain ⟨_,_,_,n,_,h1⟩:=(show ObjOk X.prog X.w H s.heap a (.frz ob (.lst xs)) from I.hok a _ ea);exact AS NP I.kIn ⟨_,h1,rfl⟩ e (fun z=>nomatch z) h
 | @tup a xs ea =>
   cases (show u=u9 a from rx);obtain ⟨_,_,_,p⟩:=(show ObjOk X.prog X.w H s.heap a (.tup xs) from I.hok a _ ea);obtain ⟨o,h1,h2,_⟩:=p; exact AS PySem.W.kitx_tuple I.kIn ⟨o,h1,h2⟩ e (fun z=>nomatch z) h
 | @dK a kvs ea =>
   cases (show u=u9 a from rx);obtain ⟨_,_,vs,_,p⟩:=(show ObjOk X.prog X.w H s.heap a (.dK kvs) from I.hok a _ ea);obtain ⟨o,es,ep,h1,h2,_⟩:=p; exact AS NQ I.kIn ⟨o,h1,h2.1⟩ e (fun z=>nomatch z) h
 | @dT a kvs ea =>
   cases (show u=u9 a from rx);obtain ⟨_,_,xs,_,o,es,ep,h1,h2,_⟩:=(show ObjOk X.prog X.w H s.heap a (.dT kvs) from I.hok a _ ea);exact AS NQ I.kIn ⟨o,h1,h2.1⟩ e (fun z=>nomatch z) h
 | @ins a C dx fs ea cl ha hn htk hm =>
   cases (show u=u9 a from rx);obtain ⟨mA,O,_⟩:=sW I.hok ea; obtain ⟨od,J,_⟩:=O.look; exact AS (PySem.W.kitx_own (cl.get _) cl.hd ha hn htk hm) I.kIn J e (fun z=>nomatch z) h
end
end L2
namespace L2
open PySem PySem.Spec PyProof.Rows
structure Room (k:Nat) (A:u5):Prop where
 hd:A.handled=none
 dp:A.depth+3*k+5 < recursionLimit
 un:A.units+16*k+200 < BD
 gd:A.guards=some []
theorem Room.mono {j k:Nat} {A:u5} (r:Room k A) (h:j<=k):Room j A:=⟨r.hd,by have:=r.dp; lia,by have:=r.un; lia,r.gd⟩
theorem Room.deeper {k:Nat} {A:u5} (r:Room (k+1) A) (env:Env):Room k (A.deeper env) :=
 ⟨r.hd,by have:=r.dp; show A.depth+1+3*k+5 < _; lia,by have:=r.un; show A.units+3+16*k+200 < _; lia,r.gd⟩
theorem Room.depth {k:Nat} {A:u5} (r:Room k A):A.depth < recursionLimit:=by have:=r.dp; lia
theorem Room.units {k:Nat} {A:u5} (r:Room k A):A.units+64 < BD:=by have:=r.un; lia
def tNil:TA:=fun _ H Q=>Q [] H
def tCons (ta:TE) (tr:TA):TA:=fun Z H Q=>ta Z H fun x H1=>tr Z H1 fun xs H2=>Q (x::xs) H2
section
variable {X:Cx} {e:Expr} {es:List Expr} {te:TE} {t:TA} {pos:Pos}
theorem X3:PA X [] tNil:=fun _ _ _ _ H Q I h=>JR ⟨[],H,I,.nil,h⟩
theorem N4 (ha:PE X e te) (hr:PA X es t) (hs:e8 (e::es) X.env=(false,eval e X.env)::e8 es X.env:=by rfl):PA X (e::es) (tCons te t):=by
 intro pos pins s Z H Q I h;rw [hs];show wpAny _ _ (spliced ((false,eval e X.env)::AN pos (e8 es X.env))) _ _ s;refine EU (thn (ha pins s Z H _ I h) fun u s1 hZ2=>?_);obtain ⟨x,H1,I1,r1,q1⟩:=hZ2;exact thn (hr pos pins s1 Z H1 _ I1 q1) fun us s2 hZ2=>by obtain ⟨xs,H2,I2,r2,q2⟩:=hZ2; exact ⟨x::xs,H2,I2,.cons r1 r2,q2⟩
def tTup (t:TA):TE:=fun Z H Q=>t Z H fun xs H1=>xs.length<=sizeLine/\∀ p,H1 p=none->Q (.ref p) (upd H1 p (.tup xs))
def tLst (t:TA):TE:=fun Z H Q=>t Z H fun xs H1=>xs.length<=sizeLine/\∀ p,H1 p=none->Q (.ref p) (upd H1 p (.lst xs))
theorem xE {x1} (h:PA X es t):PE X (.Tuple es x1 pos) (tTup t):=by
 intro pins s Z H Q I hq;refine wpAny_Tuple_spliced (thn (h pos pins s Z H _ I hq) fun us s1 hY22=>?_);obtain ⟨xs,H1,I1,r,z,q⟩:=hY22;refine ⟨by rw [<- r.length]; exact z,?_⟩;have hf:H1 s1.heap.objs.size=none:=I1.hok.fresh (f8 _);refine ⟨.ref s1.heap.objs.size,upd H1 s1.heap.objs.size (.tup xs),I1.laid (t':=s1.toks) (fun b u e=>a8 _ e) (f8 _) ?_,rfl,q _ hf⟩;exact ⟨z,us,r,⟨_,e9 _ rfl,rfl,_,rfl⟩⟩
theorem mR (h:PA X es t):PE X (.List es pos) (tLst t):=by
 intro pins s Z H Q I hq;refine wpAny_List_spliced (thn (h pos pins s Z H _ I hq) fun us s1 hY23=>?_);obtain ⟨xs,H1,I1,r,z,q⟩:=hY23;refine ⟨by rw [<- r.length]; exact z,?_⟩;have hf:H1 s1.heap.objs.size=none:=I1.hok.fresh (f8 _);refine ⟨.ref s1.heap.objs.size,upd H1 s1.heap.objs.size (.lst xs),I1.laid (t':=s1.toks) (fun b u e=>a8 _ e) (f8 _) ?_,rfl,q _ hf⟩;exact ⟨z,us,0,r,e9 _ rfl⟩
end
abbrev Sp:=List V->Hp->VK->XK->Prop
abbrev CXT:=List Env->Hp->zW->XK->zV->zW->Prop
structure Env0 (P:j5) (w:l9) (K:zX) (mg:Str->Option zV) (base:p9) (A:u5) (outer:List Env) (s:zW) (H:Hp):Prop where
 frames:A.frames=some outer
 mod:Mod K mg base
 bs:∀ b o,base.get? b=some o->s.heap.get? b=some o/\H b=none
 bsz:base.objs.size<=s.heap.objs.size
 funs:s.heap.FunFrames base outer
 frf:∀ b∈frs outer,H b=none
 hok:HOk P w H s.heap
 bare:IQ s.gens
def CE (outer:List Env) (P:j5) (w:l9) (H:Hp) (s:zW) (Q:VK) (u:zV) (s':zW):Prop :=
 ∃ v H',s'.os=s.os/\IQ s'.gens/\Un (frs outer) [] H H' s.heap s'.heap/\HOk P w H' s'.heap/\RelV v u/\Q v H'
def CR (CX:CXT) (outer:List Env) (P:j5) (w:l9) (H:Hp) (s:zW) (Q:VK) (E:XK) (r:Result) (s':zW):Prop :=
 match r with
 | .ok (.ret u)=>CE outer P w H s Q u s'
 | .ok _=>False
 | .error e=>CX outer H s E e s'
structure FnOk (P:j5) (w:l9) (K:zX) (mg:Str->Option zV) (base:p9) (CX:CXT) (k:Nat) (f:c6) (fd:FZ) (ps:List Str) (sp:Sp):Prop where
 len:∀ vs H Q E,sp vs H Q E->vs.length=ps.length
 run:∀ (A:u5) (outer:List Env) (s:zW) (H:Hp) (args:Args) (us:List zV) (vs:List V) (Q:VK) (E:XK),Room k A->Env0 P w K mg base A outer s H->BindsTo s fd args (ps.zip us)->Vals vs us->sp vs H Q E ->
   GJ (i9 P w) A (.call (.ref f) args) (CR CX outer P w H s Q E) s
section
variable {X:Cx} {pins:List (c6×Obj)} {Z:St} {H:Hp} {s s':zW}
theorem Inv.env0 (I:Inv X pins Z H s):Env0 X.prog X.w X.K X.mg X.base X.A X.stack s H :=
 ⟨I.ok.frames,I.ok.mod,I.bs,i6 I.ok.bsz I.sz,I.stack,I.stkFree,I.hok,I.bare⟩
theorem Inv.after {Q:VK} {u:zV} (I:Inv X pins Z H s) (h:CE X.stack X.prog X.w H s Q u s'):EP X pins Z Q u s':=by
 obtain ⟨v,H',os,bare,un,hok,r,q⟩:=h;obtain ⟨hh,g,d,t,os'⟩:=s';obtain rfl:os'=s.os:=os;exact ⟨v,H',I.call (h':=hh) (g':=g) (d':=d) (t':=t) (ch:=[]) un hok bare (fun b z=>absurd z (by simp)),r,q⟩
end
def tCall (sp:Sp) (dvs:List V) (E:XK) (t:TA):TE:=fun Z H Q=>t Z H fun vs H1=>sp (vs++dvs) H1 Q E
def Binds (K:zX) (fd:FZ) (ps:List Str) (ds:List zV):Prop :=
 ∀ (s:zW) (us:List zV),K.In s.heap->(us++ds).length=ps.length->BindsTo s fd ⟨us,[]⟩ (ps.zip (us++ds))
theorem Binds.all {K:zX} {fd:FZ} {ps:List Str} (h:∀ us:List zV,us.length=ps.length->IE fd ⟨us,[]⟩=pure (ps.zip us)):Binds K fd ps []:=fun s us _ hl=>by
 rw [m8] at hl ⊢;exact .of_eq (h us hl)
def eF (CX:CXT) (X:Cx) (E:XK):Prop:=∀ (pins:List (c6×Obj)) (Z:St) (H:Hp) (s:zW) (e:zV) (s':zW),Inv X pins Z H s->CX X.stack H s E e s'->X.xe e s'
section
variable {X:Cx} {CX:CXT} {k:Nat} {f:c6} {fd:FZ} {ps:List Str} {sp:Sp} {dvs:List V} {ds:List zV} {E:XK} {x:Str} {p pos:Pos} {e:Expr} {es:List Expr} {t:TA}
theorem wR {pins:List (c6×Obj)} {Z:St} {H:Hp} {s:zW} {Q:VK} {us:List zV} {vs:List V} (F:FnOk X.prog X.w X.K X.mg X.base CX k f fd ps sp) (hr:Room k X.A) (hb:Binds X.K fd ps ds) (hd:Vals dvs ds) (hx:eF CX X E)
   (I:Inv X pins Z H s) (r:Vals vs us) (h:sp (vs++dvs) H Q E):wpAny (i9 X.prog X.w) X.A (call (.ref f) us) (EP X pins Z Q) X.xe s:=by
 have r2:Vals (vs++dvs) (us++ds):=r.append hd;have hl:(us++ds).length=ps.length:=by rw [<- r2.length]; exact F.len _ _ _ _ h
 refine wpAny_call (ET (F.run X.A X.stack s H ⟨us,[]⟩ (us++ds) (vs++dvs) Q E hr I.env0 (hb s us I.kIn hl) r2 h) fun r s' hq=>?_);cases r with
 | error e=>exact hx pins Z H s e s' I hq
 | ok fl =>
   cases fl with
   | ret u=>exact I.after hq
   | next=>exact EF hq
   | brk=>exact EF hq
   | cont=>exact EF hq
theorem Oj (F:FnOk X.prog X.w X.K X.mg X.base CX k f fd ps sp) (hr:Room k X.A) (hg:Gl X x) (hm:X.mg x=some (.ref f)) (hk:AJ X.K (.ref f)=true) (hb:Binds X.K fd ps ds) (hd:Vals dvs ds) (hx:eF CX X E)
   (ha:PA X (e::es) t) (hdb:(x==("__debug__" : Str))=false:=by decide) (he:e8 (e::es) X.env=(false,eval e X.env)::e8 es X.env:=by rfl) (hpl:(AN pos (e8 es X.env)).any (·.1)=false:=by rfl) :
   PE X (.Call (.Name x p) (e::es) [] pos) (tCall sp dvs E t):=by
 intro pins s Z H Q I h;refine FN (fH I hg hm ?_ hdb);refine PySem.W.callWith_K (h₀:=X.base) I.ok.mod.kin hk (thn (ha pos pins s Z H _ I h) fun us s1 hY24=>?_) he hpl;obtain ⟨vs,H1,I1,r,q⟩:=hY24;refine ⟨I1.kIn,?_⟩;exact wR F hr hb hd hx I1 r q
end
structure FnScope (N P:List Str) (sc:Scope):Prop where
 kind:sc.kind=.function
 co:sc.isCoroutine=false
 gen:sc.isGenerator=false
 nd:N.Nodup
 pre:N.take P.length=P
 par:∀ x∈P,sc.names.lookup x=some .local\/sc.names.lookup x=some .cell
 nofree:∀ y∈sc.names,y.2≠.free
theorem Vi {kindOf:Str->Option HH} {x:Str}:∀ {binds:List (Str×zV)} {m:Str->Option zV},(∀ v,(x,v)∉binds)->bindL kindOf binds m x=m x
 | [],_,_=>rfl
 | (n,v)::r,m,h=>by
   unfold bindL; rw [Vi fun w hw=>h w (z7 _ hw)];split
   . have:x≠n:=by rintro rfl; exact h v x6
     simp [this]
   . rfl
theorem Vk {kindOf:Str->Option HH} {x:Str}:∀ {binds:List (Str×zV)} {m:Str->Option zV},(∀ v,(x,v)∉binds)->bindC kindOf binds m x=m x
 | [],_,_=>rfl
 | (n,v)::r,m,h=>by
   unfold bindC; rw [Vk fun w hw=>h w (z7 _ hw)];split
   . rfl
   . have:x≠n:=by rintro rfl; exact h v x6
     simp [this]
theorem Vj {kindOf:Str->Option HH} {x:Str} {v:zV}:∀ {P:List Str} {vs:List zV} {i:Nat} {m:Str->Option zV},P.Nodup->P[i]? = some x->vs[i]? = some v->kindOf x=some .local ->
   bindL kindOf (P.zip vs) m x=some v
 | [],_,_,_,_,h,_,_=>by simp at h
 | _::_,[],_,_,_,_,h,_=>by simp at h
 | p::P,w::vs,0,m,nd,h1,h2,hk=>by
   simp at h1 h2; subst h1; subst h2;show bindL kindOf ((p,w)::P.zip vs) m p=_;unfold bindL; rw [Vi fun v hv=>(AU.mp nd).1 (KT hv).1,if_pos hk];simp
 | p::P,w::vs,i+1,m,nd,h1,h2,hk=>by
   show bindL kindOf ((p,w)::P.zip vs) m x=_;unfold bindL; exact Vj (i:=i) (AU.mp nd).2 (by simpa using h1) (by simpa using h2) hk
theorem Vl {kindOf:Str->Option HH} {x:Str} {v:zV}:∀ {P:List Str} {vs:List zV} {i:Nat} {m:Str->Option zV},P.Nodup->P[i]? = some x->vs[i]? = some v->kindOf x≠some .local ->
   bindC kindOf (P.zip vs) m x=some v
 | [],_,_,_,_,h,_,_=>by simp at h
 | _::_,[],_,_,_,_,h,_=>by simp at h
 | p::P,w::vs,0,m,nd,h1,h2,hk=>by
   simp at h1 h2; subst h1; subst h2;show bindC kindOf ((p,w)::P.zip vs) m p=_;unfold bindC; rw [Vk fun v hv=>(AU.mp nd).1 (KT hv).1,if_neg hk];simp
 | p::P,w::vs,i+1,m,nd,h1,h2,hk=>by
   show bindC kindOf ((p,w)::P.zip vs) m x=_;unfold bindC; exact Vl (i:=i) (AU.mp nd).2 (by simpa using h1) (by simpa using h2) hk
def Cq (N:List Str) (vs:List V):St:=vs.map some++i4 (N.length - vs.length) none
def jX (CX:CXT) (P:j5) (w:l9) (K:zX) (mg:Str->Option zV) (base:p9) (N:List Str) (qual:Str) (scope:Scope) (f:c6) (cd:zV) (A:u5) (outer:List Env) (s:zW) (H:Hp) (E:XK):Cx where
 prog:=P
 w:=w
 K:=K
 mg:=mg
 base:=base
 A:=A.deeper (KP qual scope s.heap.objs.size f cd)
 N:=N
 s₀:=s
 H₀:=H
 env:=KP qual scope s.heap.objs.size f cd
 outer:=outer
 stack:=KP qual scope s.heap.objs.size f cd::outer
 ex:=[]
 calm:=true
 fn:=fun _=>true
 pn:=[]
 xe:=fun e s'=>wpAny (i9 P w) (A.deeper (KP qual scope s.heap.objs.size f cd)) (leaving (KP qual scope s.heap.objs.size f cd) e) (fun _ s''=>CX outer H s E e s'') (fun e' s''=>CX outer H s E e' s'') s'
theorem bB {sc:Scope} {n:Nat} {x:Str} (h:sc.names.lookup x=some .cell):∃ c,(cellsFrom n sc.names []).lookup x=some c:=by
 have q:=LZ sc.names n [] (.inl h);exact LP.mp q
theorem jK {CX:CXT} {P:j5} {w:l9} {K:zX} {mg:Str->Option zV} {base:p9} {N ps:List Str} {qual:Str} {scope:Scope} {f:c6} {cd:zV} {A:u5} {outer:List Env} {s s1:zW} {H:Hp} {E:XK} {us:List zV} {vs:List V}
   (S:FnScope N ps scope) (hd:A.handled=none) (e0:Env0 P w K mg base A outer s H) (hl:vs.length=ps.length) (r:Vals vs us)
   (x:InCallC s s.heap.objs.size (bindL (KP qual scope s.heap.objs.size f cd).kindOf (ps.zip us) fun _=>none) (cellsFrom (s.heap.objs.size+1) scope.names []) (bindC (KP qual scope s.heap.objs.size f cd).kindOf (ps.zip us) fun _=>none) s1) :
   Inv (jX CX P w K mg base N qual scope f cd A outer s H E) [] (Cq N vs) H s1:=by
 have hpl:ps.length<=N.length:=by have:=congrArg IK S.pre; rw [HJ] at this; lia
 obtain ⟨h1,tk,rfl,hk⟩:=x.done;have noA:∀ b:c6,b∉(jX CX P w K mg base N qual scope f cd A outer s H E).ex:=fun b z=>absurd (show b∈([]:List c6) from z) (by simp);refine ⟨⟨e0.mod,S.kind,rfl,rfl,f8 _,fun y z c h1 h2=>?_,fun y hy=>?_,fun y c _ h=>?_,fun _=>hd,Around.frames_deeper e0.frames,.inr ⟨rfl,rfl⟩,fun b z=>absurd z (noA b),e0.bs,e0.bsz,fun b _ _=>noA b,fun b z=>absurd z (noA b),e0.funs,e0.frf⟩,
   rfl,e0.bare,Un.kept hk,⟨_,x.toInCall.ns,fun i y v h1 h2 h3=>?_⟩,fun y c h=>⟨_,x.cell y c h⟩,e0.hok.fresh (f8 _),fun y c h=>?_,fun p hp=>absurd (show p∈([]:List (c6×Obj)) from hp) (by simp),e0.hok.kept hk,?_⟩
 . exact name_of_addr x.apart (CS h1) (CS h2)
 . have hy:scope.names.lookup y=some .cell\/scope.names.lookup y=some .free:=hy
   rcases hy with hy | hy
   . exact bB hy
   . exact absurd rfl (S.nofree _ (CS hy))
 . exact NG (x.above y c (CS h))
 . have hi : i < vs.length := by
     unfold Cq at h2;by_cases hi:i < vs.length
     . exact hi
     . rw [p7 (by simpa using hi)] at h2
       rw [CA] at h2;split at h2 <;> cases h2
   have ha:vs[i]? = some v:=by
     unfold Cq at h2; rw [o8 (by simpa using hi),j8] at h2;cases e:vs[i]? with
     | none=>rw [e] at h2; cases h2
     | some a=>rw [e] at h2; cases h2; rfl
   obtain ⟨u,hu,rv⟩:=r.get ha; have hp:ps[i]? = some y:=by
     rw [<- S.pre,List.getElem?_take_of_lt (by lia)]; exact h1
   have ndP:ps.Nodup:=by rw [<- S.pre]; exact S.nd.sublist (JU _ _)
   refine ⟨u,rv,?_⟩; rcases S.par y (AY hp) with k | k
   . exact .inl ⟨k,Vj ndP hp hu k⟩
   . obtain ⟨c,e⟩:=bB (n:=s.heap.objs.size+1) k
     refine .inr ⟨.inl k,c,e,?_⟩; have q:=x.cell y c e; rw [Vl ndP hp hu (by show scope.names.lookup y≠_; rw [k]; decide)] at q;exact q
 . exact e0.hok.fresh (NG (x.above y c (CS h)))
 . unfold Cq
   show _=N.length;rw [l8,zZ,DV];lia
theorem fn_of {CX:CXT} {P:j5} {w:l9} {K:zX} {mg:Str->Option zV} {base:p9} {k:Nat} {f:c6} {name qual:Str} {params:Arguments} {body:List CN} {scope:Scope} {dV kV doc pm cdv ct oc:zV} {an od:Option c6}
   {osl:Array (Option zV)} {N ps:List Str} {sp:Sp} (lk:K.lookup f=some ⟨oc,od,.func (x3 name qual params body scope dV kV doc pm an cdv ct),osl⟩) (hcd:CI K cdv qual=true) (S:FnScope N ps scope)
   (len:∀ vs H Q E,sp vs H Q E->vs.length=ps.length)
   (hbody:∀ (A:u5) (outer:List Env) (s:zW) (H:Hp) (vs:List V) (Q:VK) (E:XK),Room k (A.deeper (KP qual scope s.heap.objs.size f cdv))->sp vs H Q E ->
     ∃ t,PSs (jX CX P w K mg base N qual scope f cdv A outer s H E) body t/\t { nx:=fun _ H'=>Q .non H',rt:=Q } (Cq N vs) H) :
   FnOk P w K mg base CX (k+1) f (x3 name qual params body scope dV kV doc pm an cdv ct) ps sp:=by
 refine ⟨len,fun A outer s H args us vs Q E hr e0 hb r hsp=>?_⟩;have hl:=len _ _ _ _ hsp;have KX:K.In s.heap:=e0.mod.kin.keeps fun b o e=>(e0.bs b o e).1;have lim:s.heap.NoLimit:=e0.mod.nolimit.keeps fun b o e=>(e0.bs b o e).1;have hkind:∀ y∈ps.zip us,scope.names.lookup y.1=some .local\/(scope.names.lookup y.1=some .cell/\((cellsFrom (s.heap.objs.size+1) scope.names []).lookup y.1).isSome=true):=fun hZ0 hy=>by
   obtain ⟨n,v⟩:=hZ0; rcases S.par n (KT hy).1 with q | q
   . exact .inl q
   . exact .inr ⟨q,LZ _ _ _ (.inl q)⟩
 refine codeAny_call_function hr.depth (KX _ _ lk) rfl S.co S.gen rfl (PySem.W.codeRec_of KX hcd) (hb _ _ _ _ ?_);refine wpAny_newFunctionEnv_cells S.kind hkind fun env he s1 x=>?_;subst he;refine ⟨lim.keeps x.toInCall.keep,codeAny_func ?_⟩;obtain ⟨t,ht,hq⟩:=hbody A outer s H vs Q E (hr.deeper _) hsp;have I:Inv (jX CX P w K mg base N qual scope f cdv A outer s H E) [] (Cq N vs) H s1:=jK S hr.hd e0 hl r x;refine z9 (ht [] s1 (Cq N vs) H _ I hq) (fun fl s' hs=>?_) fun e s' hs=>hs;have fin:∀ {Z':St} {H':Hp} {v:V} {u:zV},Inv (jX CX P w K mg base N qual scope f cdv A outer s H E) [] Z' H' s'->RelV v u->Q v H'->CE outer P w H s Q u s' :=
   fun {Z' H' v u} J rv q=>⟨v,H',J.os,J.bare,J.base,J.hok,rv,q⟩
 cases fl with
 | ret u =>
   obtain ⟨v,Z',H',J,rv,q⟩:=hs; exact fin J rv q
 | next =>
   obtain ⟨Z',H',J,q⟩:=hs; exact fin (v:=V.non) (u:=AL) J rfl q
 | brk =>
   obtain ⟨_,_,_,q⟩:=hs; exact EF q
 | cont =>
   obtain ⟨_,_,_,q⟩:=hs; exact EF q
end L2
namespace L2
open PySem PySem.Spec PyProof.Rows
section
variable {X:Cx} {x:Str} {p pos:Pos} {e:Expr} {es:List Expr} {t:TA} {id T:String} {r:List V->Hp->VK->Prop}
def tCB (r:List V->Hp->VK->Prop) (t:TA):TE:=fun Z H Q=>t Z H fun vs H1=>r vs H1 Q
theorem Ki (hc:Y0 X (.builtin id) r) (hg:Gl X x) (hm:X.mg x=none) (hv:CV x=some (.builtin id)) (ha:PA X (e::es) t) (hn:x ≠ "__name__" := by decide) (hdb:(x==("__debug__" : Str))=false:=by decide)
   (he:e8 (e::es) X.env=(false,eval e X.env)::e8 es X.env:=by rfl) (hpl:(AN pos (e8 es X.env)).any (·.1)=false:=by rfl):PE X (.Call (.Name x p) (e::es) [] pos) (tCB r t):=by
 intro pins s Z H Q I h;refine FN (Me I hg hm hv ?_ hn hdb);exact PyProof.Rows.callWith_builtin1 (thn (ha pos pins s Z H _ I h) fun us s1 hZ2=>by obtain ⟨vs,H1,I1,r1,q1⟩:=hZ2; exact hc pins s1 Z H1 vs us Q I1 r1 q1) he hpl
theorem Ly (hc:Y0 X (.type T) r) (hg:Gl X x) (hm:X.mg x=none) (hv:CV x=some (.type T)) (ha:PA X (e::es) t) (hn:x ≠ "__name__" := by decide) (hdb:(x==("__debug__" : Str))=false:=by decide)
   (he:e8 (e::es) X.env=(false,eval e X.env)::e8 es X.env:=by rfl) (hpl:(AN pos (e8 es X.env)).any (·.1)=false:=by rfl):PE X (.Call (.Name x p) (e::es) [] pos) (tCB r t):=by
 intro pins s Z H Q I h;refine FN (Me I hg hm hv ?_ hn hdb);exact DD (thn (ha pos pins s Z H _ I h) fun us s1 hZ2=>by obtain ⟨vs,H1,I1,r1,q1⟩:=hZ2; exact hc pins s1 Z H1 vs us Q I1 r1 q1) he hpl
end
end L2
namespace HT
open PySem PyProof.Rows
section
variable {prog:j5} {w:l9} {A:u5} {E:zV->zW->Prop} {s:zW}
theorem cat_tup {t b:c6} {vs ws:List zV} {Q:zV->zW->Prop} (ht:IX s.heap t vs.toArray) (hb:IX s.heap b ws.toArray) (hv:vs≠[])
   (h1:ws=[]->Q (.ref t) s) (h2:ws≠[]->Q (.ref s.heap.objs.size) { s with heap:=s.heap.push { cls:=.type "tuple",data:=.seq (vs++ws).toArray } })
   (hsz:vs.length+ws.length<=sizeLine):wpAny (i9 prog w) A (IF .Add (.ref t) (.ref b)) Q E s:=by
 obtain ⟨⟨cls,dd,data,sl⟩,ho,hc,n,hd⟩:=id ht;obtain ⟨⟨cls2,dd2,data2,sl2⟩,ho2,hc2,n2,hd2⟩:=id hb;simp only at hc hd hc2 hd2;subst hc hd hc2 hd2;have e:vs.toArray++ws.toArray=(vs++ws).toArray:=by simp
 by_cases hw:ws=[]
 . exact concat_meets ⟨_, ho, rfl⟩ ⟨_, ho2, rfl⟩ LU seq_tuple_add HG GV (GP _ _)
     (tuple_addW1 t b vs.toArray ws.toArray n n2 dd dd2 sl sl2 (by simpa using hv) (by simp [hw])) ⟨ho,ho2,h1 hw⟩
 . refine concat_meets ⟨_, ho, rfl⟩ ⟨_, ho2, rfl⟩ LU seq_tuple_add HG GV (GP _ _)
     (tuple_addW2 t b vs.toArray ws.toArray n n2 dd dd2 sl sl2 (by simpa using hv) (by simpa using hw) (by rw [i5,i5]; exact hsz)) ⟨ho,ho2,?_⟩
   rw [e]; exact h2 hw
def sIx (n d:Nat):Option Int->Nat
 | none=>d
 | some v=>if v < 0 then (v+(n:Int)).toNat else min v.toNat n
theorem sIx_none (n d:Nat):sIx n d none=d:=rfl
theorem sIx_nat (n d k:Nat):sIx n d (some (k:Int))=min k n:=by
 show (if (k:Int) < 0 then ((k:Int)+(n:Int)).toNat else min (k:Int).toNat n)=min k n;rw [if_neg (by lia),CB]
theorem wO (n d:Nat) (hd:d<=n) (o:Option Int):sIx n d o<=n:=by
 cases o with
 | none=>exact hd
 | some v =>
   show (if v < 0 then (v+(n:Int)).toNat else min v.toNat n)<=n;by_cases hv:v < 0
   . rw [if_pos hv]; lia
   . rw [if_neg hv]; exact BU _ _
theorem fZ (v:Int) (n d:Nat):(if v < 0 then max (v+(n:Int)) 0 else min v (n:Int))=((sIx n d (some v):Nat):Int):=by
 show (if v < 0 then max (v+(n:Int)) 0 else min v (n:Int))=(((if v < 0 then (v+(n:Int)).toNat else min v.toNat n):Nat):Int);by_cases hv:v < 0
 . simp only [if_pos hv]; lia
 . simp only [if_neg hv]; lia
theorem eD (lo hi:Option Int) (n:Nat):GA lo hi 1 (n:Int)=(((sIx n 0 lo:Nat):Int),((sIx n n hi:Nat):Int)):=by
 have h1:¬ ((1:Int) < 0):=by lia
 unfold GA;simp only [h1,if_false];refine JT ?_ ?_
 . cases lo with
   | none=>rfl
   | some v=>exact fZ v n 0
 . cases hi with
   | none=>rfl
   | some v=>exact fZ v n n
theorem cT (i j:Nat):DP (i:Int) (j:Int) 1=j - i:=by
 unfold DP;have h1:(1:Int)>0:=by lia
 simp only [h1,if_true,Int.ediv_one];split <;> lia
theorem Px {v:zV} {o:Option Int} {Q:Option Int->zW->Prop} (p:JQ v o) (h:Q o s):wpAny (i9 prog w) A (Builtin.Slice.slicePartIndex v) Q E s:=by
 cases p with
 | none=>exact slicePart_none h
 | int i t=>exact slicePart_int h
theorem sliceApplied_gen {sl:c6} {vl vu:zV} {lo hi:Option Int} {n:Nat} {Q:Int×Int×Nat->zW->Prop} (hs:s.heap.IsSliceOf sl vl vu .none) (pl:JQ vl lo) (pu:JQ vu hi)
   (h:Q (((sIx n 0 lo:Nat):Int),1,sIx n n hi - sIx n 0 lo) s):wpAny (i9 prog w) A (JD (.ref sl) (pure (n:Int))) Q E s:=by
 obtain ⟨os,hos,hcs,hds⟩:=id hs;unfold JD Builtin.Slice.sliceFields;refine zT (zT (FP hos hds (x:=vl) rfl (zT (FP hos hds (x:=vu) rfl (zT (FP hos hds (x:=.none) rfl (zU ?_)))))));refine zT (slicePart_none ?_);show wpAny _ _ (if ((1:Int)==0)=true then _ else _) _ _ s;rw [if_neg (by decide)];refine zT (Px pl (zT (Px pu (zT (zU ?_)))));show wpAny _ _ (match GA lo hi 1 (n:Int) with | (lo,hi)=>pure (lo,(1:Int),DP lo hi 1)) _ _ s
 rw [eD lo hi n];show wpAny _ _ (pure (((sIx n 0 lo:Nat):Int),(1:Int),DP ((sIx n 0 lo:Nat):Int) ((sIx n n hi:Nat):Int) 1)) _ _ s;rw [cT];exact zU h
theorem mM (xs:Array zV) (i k:Nat):((o9 k).filterMap fun (m:Nat)=>xs[((i:Int)+(m:Int)*1).toNat]?).toArray=((xs.toList.drop i).take k).toArray:=by
 have e:(fun (m:Nat)=>xs[((i:Int)+(m:Int)*1).toNat]?)=fun m=>xs[i+m]? := by
   funext m
   have:((i:Int)+(m:Int)*1).toNat=i+m:=by lia
   rw [this]
 rw [e];have:=pick_run xs i k;rw [List.filterMap_map] at this;have e2:((fun x=>xs[x]?)∘fun x=>i+x)=fun m=>xs[i+m]? := rfl;rw [e2] at this;rw [this]
theorem getItem_tuple_cut {t sl:c6} {items:Array zV} {vl vu:zV} {lo hi:Option Int} {Q:zV->zW->Prop} (ht:IX s.heap t items) (hs:s.heap.IsSliceOf sl vl vu .none) (pl:JQ vl lo) (pu:JQ vu hi)
   (hw:¬ (sIx items.size 0 lo=0/\sIx items.size items.size hi=items.size))
   (h:Q (.ref s.heap.objs.size) { s with heap:=s.heap.push { cls:=.type "tuple",data:=.seq ((items.toList.drop (sIx items.size 0 lo)).take (sIx items.size items.size hi - sIx items.size 0 lo)).toArray } })
   (hsz:items.size<=sizeLine):wpAny (i9 prog w) A (GU (.ref t) (.ref sl)) Q E s:=by
 have htake:sizeOk (.seq ((items.toList.drop (sIx items.size 0 lo)).take (sIx items.size items.size hi - sIx items.size 0 lo)).toArray):=by
   show ((items.toList.drop (sIx items.size 0 lo)).take (sIx items.size items.size hi - sIx items.size 0 lo)).toArray.size<=sizeLine;rw [i5,HJ,KJ,n6]; omega
 have hj:sIx items.size items.size hi<=items.size:=wO _ _ (f8 _) hi;obtain ⟨os,hos,hcs,hds⟩:=id hs;have hTs:s.TypeIs (.ref sl) "slice" := ⟨os,hos,hcs⟩;unfold GU;try with_reducible refine s0 ?_
 first | refine zT (zU ?_) | skip
 refine zT (HN ht.typeIs (by decide) ?_);refine zT (t8 (name:=BH "__getitem__") ht.typeIs BA
   (p0 BA ht.typeIs entry_tuple_getitem ?_ (args_tuple_getitem _ _)))
 show wpAny _ _ (FU (.ref t)>>=_) _ _ s;refine zT (tupleItemsOf_ ht ?_);refine zT (GS hTs ?_);rw [if_pos (by decide)];refine zT (sliceApplied_gen hs pl pu ?_);have hno:¬ ((((sIx items.size 0 lo:Nat):Int)==0&&(1:Int)==1&&(sIx items.size items.size hi - sIx items.size 0 lo)==items.size)=true):=by
   intro q; rw [j9,j9] at q; have q1:((sIx items.size 0 lo:Nat):Int)=0:=CD q.1.1; have q2:sIx items.size items.size hi - sIx items.size 0 lo=items.size:=CD q.2; exact hw ⟨by omega,by omega⟩
 show wpAny _ _ (if (((sIx items.size 0 lo:Nat):Int)==0&&(1:Int)==1&&(sIx items.size items.size hi - sIx items.size 0 lo)==items.size)=true then _ else _) _ _ s;rw [if_neg hno,mM];first
   | exact zT (m:=DZ _) (o0 (zU ⟨_,rfl,zU h⟩) htake)
   | exact zT (m:=DZ _) (o0 (zT (zU (zU ⟨_,rfl,zU h⟩))) htake)
   | exact zT (zT (m:=DZ _) (o0 (zU (zU ⟨_,rfl,zU h⟩)) htake))
   | exact zT (zT (m:=DZ _) (o0 (zU ⟨_,rfl,zU h⟩) htake))
end
end HT
namespace L2
open PySem PySem.Spec PyProof.Rows
abbrev TO:=St->Hp->(Option Int->Hp->Prop)->Prop
def PO (X:Cx) (e:Option Expr) (t:TO):Prop :=
 ∀ (pins:List (c6×Obj)) (s:zW) (Z:St) (H:Hp) (Q:Option Int->Hp->Prop),Inv X pins Z H s->t Z H Q ->
   wpAny (i9 X.prog X.w) X.A (evalPart e X.env) (fun u s'=>∃ o H',Inv X pins Z H' s'/\JQ u o/\Q o H') X.xe s
def qL:TO:=fun _ H Q=>Q none H
def tPart (t:TE):TO:=fun Z H Q=>t Z H fun x H1=>∃ i,x=.int i/\Q (some i) H1
section
variable {X:Cx} {e:Expr} {te:TE} {lo hi:Option Expr} {tl th:TO} {pos p2:Pos}
theorem rY:PO X none qL:=by
 intro pins s Z H Q I h;rw [evalPart_none];exact zU ⟨none,H,I,.none,h⟩
theorem rW (h:PE X e te):PO X (some e) (tPart te):=by
 intro pins s Z H Q I hw;rw [evalPart_some];refine thn (h pins s Z H _ I hw) fun u s1 hZ2=>?_;obtain ⟨x,H1,I1,r1,q1⟩:=hZ2;obtain ⟨i,rfl,q⟩:=q1;obtain ⟨t,rfl⟩:=r1;exact ⟨some i,H1,I1,.int i t,q⟩
def SlR (X:Cx) (r:V->Option Int->Option Int->Hp->VK->Prop):Prop :=
 ∀ (pins:List (c6×Obj)) (s:zW) (Z:St) (H:Hp) (x:V) (v vl vu:zV) (lo hi:Option Int) (sl:c6) (Q:VK),Inv X pins Z H s->RelV x v->s.heap.IsSliceOf sl vl vu .none->JQ vl lo->JQ vu hi->r x lo hi H Q ->
   ∃ T id,KN (.type T) "__getitem__" = pure (some (.builtin id))/\s.TypeIs v T/\wpAny (i9 X.prog X.w) X.A (GU v (.ref sl)) (EP X pins Z Q) X.xe s
def tSl (r:V->Option Int->Option Int->Hp->VK->Prop) (te:TE) (tl th:TO):TE:=fun Z H Q=>te Z H fun x H1=>tl Z H1 fun l H2=>th Z H2 fun u H3=>r x l u H3 Q
theorem mO {r:V->Option Int->Option Int->Hp->VK->Prop} (hr:SlR X r) (he:PE X e te) (hl:PO X lo tl) (hu:PO X hi th):PE X (.Subscript e (.Slice lo hi none p2) pos) (tSl r te tl th):=by
 intro pins s Z H Q I h;refine Subscript_ (thn (he pins s Z H _ I h) fun v s1 hZ2=>?_);obtain ⟨x,H1,I1,r1,q1⟩:=hZ2;refine wpAny_Slice (thn (hl pins s1 Z H1 _ I1 q1) fun vl s2 hY32=>?_);obtain ⟨l,H2,I2,pl,q2⟩:=hY32;refine thn (hu pins s2 Z H2 _ I2 q2) fun vu s3 hZ2=>?_;obtain ⟨u,H3,I3,pu,q3⟩:=hZ2;rw [evalPart_none];refine zU ?_;have I4:Inv X pins Z H3 { s3 with heap:=s3.heap.push { cls:=.type "slice",data:=.fields #[vl,vu,.none] } }:=I3.kept (t':=s3.toks) fun b ob q=>a8 _ q;obtain ⟨T,id,hT,ht,hg⟩:=hr pins { s3 with heap:=s3.heap.push { cls:=.type "slice",data:=.fields #[vl,vu,.none] } } Z H3 x v vl vu l u s3.heap.objs.size Q I4 r1 (Heap.IsSliceOf.new ..) pl pu q3
 show wpAny (i9 X.prog X.w) X.A (subscriptTail e (.Slice lo hi none p2) v (.ref s3.heap.objs.size)) (EP X pins Z Q) X.xe { s3 with heap:=s3.heap.push { cls:=.type "slice",data:=.fields #[vl,vu,.none] } };exact tail_any (ops:=[.ref s3.heap.objs.size,v]) ht hT hg (by with_unfolding_all rfl)
def jY (xs:List V) (lo hi:Option Int):List V:=(xs.drop (HT.sIx xs.length 0 lo)).take (HT.sIx xs.length xs.length hi - HT.sIx xs.length 0 lo)
theorem Gn (xs:List V) (lo hi:Option Int):(jY xs lo hi).length<=xs.length:=by
 unfold jY;rw [HJ,KJ];lia
end
end L2
namespace L2
open PySem PySem.Spec PyProof.Rows
def ixN (n:Nat) (i:Int):Option Nat:=if 0<=i then (if i < n then some i.toNat else none) else if -(n:Int)<=i then some (i+n).toNat else none
def atI {α:Type} (xs:List α) (i:Int):Option α:=(ixN xs.length i).bind fun j=>xs[j]?
theorem fK {n:Nat} {i:Int} {j:Nat} (h:ixN n i=some j):seqIndex? i n=some j/\j < n /\ -(n:Int)<=i/\i < n:=by
 unfold ixN at h;by_cases h0:0<=i
 . rw [if_pos h0] at h
   by_cases h1:i < n
   . rw [if_pos h1] at h
     have e:i.toNat=j:=u6 h; exact ⟨by rw [seqIndex_of h0 h1,e],by lia,by lia,h1⟩
   . rw [if_neg h1] at h; cases h
 . rw [if_neg h0] at h
   by_cases h1 : -(n:Int)<=i
   . rw [if_pos h1] at h
     have e:(i+n).toNat=j:=u6 h; exact ⟨by rw [seqIndex_neg (by lia) h1,e],by lia,h1,by lia⟩
   . rw [if_neg h1] at h; cases h
theorem Oo {α:Type} {xs:List α} {i:Int} {v:α} (h:atI xs i=some v):∃ j,seqIndex? i xs.length=some j/\xs[j]? = some v/\j < xs.length /\ -(xs.length:Int)<=i/\i < xs.length:=by
 unfold atI at h;cases e:ixN xs.length i with
 | none=>rw [e] at h; cases h
 | some j =>
   rw [e] at h; obtain ⟨h1,h2,h3,h4⟩:=fK e; exact ⟨j,h1,h,h2,h3,h4⟩
def gG (b:Expr):Prop:=∀ o i,MD b false o i=operate [o,i] (GU o i)
def IxR (X:Cx) (r:R2):Prop :=
 ∀ (value slice:Expr) (pins:List (c6×Obj)) (s:zW) (Z:St) (H:Hp) (x y:V) (v u:zV) (Q:VK),Inv X pins Z H s->RelV x v->RelV y u->r x y H Q ->
   MD slice false v u=operate [v,u] (GU v u)->wpAny (i9 X.prog X.w) X.A (subscriptTail value slice v u) (EP X pins Z Q) X.xe s
def MtR (X:Cx) (id:String) (r:V->List V->Hp->VK->Prop):Prop :=
 ∀ (pins:List (c6×Obj)) (s:zW) (Z:St) (H:Hp) (x:V) (xs:List V) (v:zV) (us:List zV) (Q:VK),Inv X pins Z H s->RelV x v->Vals xs us->r x xs H Q ->
   wpAny (i9 X.prog X.w) X.A (call (.builtin id) (v::us)) (EP X pins Z Q) X.xe s
section
variable {X:Cx} {a b:Expr} {ta tb:TE} {pos:Pos}
theorem IxR.or {r r':R2} (h:IxR X r) (h':IxR X r'):IxR X (fun x y H Q=>r x y H Q\/r' x y H Q):=by
 intro value slice pins s Z H x y v u Q I rx ry q hs;rcases q with q | q
 . exact h value slice pins s Z H x y v u Q I rx ry q hs
 . exact h' value slice pins s Z H x y v u Q I rx ry q hs
theorem pe_ix {r:R2} (hr:IxR X r) (ha:PE X a ta) (hb:PE X b tb) (hs:gG b):PE X (.Subscript a b pos) (tOp r ta tb):=by
 intro pins s Z H Q I h;exact Subscript_ (zJ ha hb I h fun v u s2 x y H2 I2 rx ry q=>hr a b pins s2 Z H2 x y v u Q I2 rx ry q (hs _ _))
def rIxL (K:zX):R2:=fun x y H Q=>∃ p xs i v,x=.ref p/\y=.int i/\SqL K H p xs/\atI xs i=some v/\Q v H
def rIxT (K:zX):R2:=fun x y H Q=>∃ p xs i v,x=.ref p/\y=.int i/\SqT K H p xs/\atI xs i=some v/\Q v H
def rIxS:R2:=fun x y H Q=>∃ z i c,x=.str z/\y=.int i/\z.length<=sizeLine/\atI z.cps.toList i=some c/\Q (.str ⟨#[c]⟩) H
theorem sU:IxR X (rIxL X.K):=by
 intro value slice pins s Z H x y v u Q I rx ry h hs;obtain ⟨p,xs,i,z,rfl,rfl,hq,he,q⟩:=h;cases rx;obtain ⟨t,rfl⟩:=ry;obtain ⟨its,r,pl,hz⟩:=I.list hq;obtain ⟨j,h1,h2,h3,h4,h5⟩:=Oo he;obtain ⟨w,ew,rw'⟩:=r.get h2;have hl:=r.length;have hn:=Et;have fin:EP X pins Z Q w s:=⟨z,H,I,rw',q⟩;by_cases h0:0<=i
 . have hj : i.toNat = j := by
     rw [seqIndex_of h0 h5] at h1; exact u6 h1
   exact item_listR pl.isList h0 (by lia) (by rw [hj]; simpa using ew) fin hs
 . have hj : (i + (its.toArray.size : Int)).toNat = j := by
     rw [seqIndex_neg (by lia) h4] at h1; rw [i5,<- hl]; exact u6 h1
   exact subscriptTail_builtinR (x:=w) pl.isList.typeIs LB.lookup
     (wpAny_getItem_list_neg (Q:=fun r s'=>r=w/\EP X pins Z Q r s') pl.isList (by lia) (by rw [i5] <;> lia) (by lia) (by rw [hj]; simpa using ew) ⟨rfl,fin⟩) hs
theorem yL:IxR X (rIxT X.K):=by
 intro value slice pins s Z H x y v u Q I rx ry h hs;obtain ⟨p,xs,i,z,rfl,rfl,hq,he,q⟩:=h;cases rx;obtain ⟨t,rfl⟩:=ry;obtain ⟨its,r,pl,hz⟩:=I.tuple hq;obtain ⟨j,h1,h2,h3,h4,h5⟩:=Oo he;obtain ⟨w,ew,rw'⟩:=r.get h2;have hl:=r.length;have hn:=Et;have fin:EP X pins Z Q w s:=⟨z,H,I,rw',q⟩;exact subscriptTail_builtinR (x:=w) pl.typeIs KO.lookup
   (getItem_tuple (j:=j) (Q:=fun r s'=>r=w/\EP X pins Z Q r s') pl (by lia) (by lia) (by rw [i5,<- hl]; exact h1) (by simpa using ew) ⟨rfl,fin⟩) hs
theorem yM:IxR X rIxS:=by
 intro value slice pins s Z H x y v u Q I rx ry h hs;obtain ⟨z,i,c,rfl,rfl,hz,he,q⟩:=h;obtain ⟨t,rfl⟩:=rx;obtain ⟨t',rfl⟩:=ry;obtain ⟨j,h1,h2,h3,h4,h5⟩:=Oo he;have hl:z.cps.toList.length=z.length:=by simp [Str.length]
 rw [hl] at h1 h4 h5;have hn:=Et;exact tail_any (typeIs_str s z t) slot_str_getitem.lookup (getItem_str (c:=c) (by
   have e1:decide (i < -(2 ^ 63:Int))=false:=decide_eq_false (by lia);have e2:decide (i≥2 ^ 63)=false:=decide_eq_false (by lia);rw [e1,e2,MG]) (by rw [h1]; simpa using h2) ⟨.str ⟨#[c]⟩,H,I.tok _,⟨_,rfl⟩,q⟩) hs
def rIx (K:zX):R2:=fun x y H Q=>rIxL K x y H Q\/rIxT K x y H Q\/rIxS x y H Q
theorem yN:IxR X (rIx X.K):=sU.or (yL.or yM)
theorem dD (its:List zV) (n j:Nat) (u:zV):EY (·.setIfInBounds j u) { cls:=.type "list",data:=.seq its.toArray n }={ cls:=.type "list",data:=.seq (its.set j u).toArray n }:=by
 simp [EY]
theorem Inv.lst {pins:List (c6×Obj)} {Z:St} {H:Hp} {s:zW} {p:c6} {xs:List V} (I:Inv X pins Z H s) (h:H p=some (.lst xs)) :
   ∃ (its:List zV) (n:Nat),Vals xs its/\s.heap.get? p=some { cls:=.type "list",data:=.seq its.toArray n }/\xs.length<=sizeLine:=by
 obtain ⟨z,its,n,r,e⟩:=I.hok p _ h;exact ⟨its,n,r,e,z⟩
theorem Inv.lstUpd {pins:List (c6×Obj)} {Z:St} {H:Hp} {s:zW} {p:c6} {xs ys:List V} {its its':List zV} {n n':Nat} {f:Obj->Obj} (I:Inv X pins Z H s) (h:H p=some (.lst xs))
   (ho:s.heap.get? p=some { cls:=.type "list",data:=.seq its.toArray n }) (hf:f { cls:=.type "list",data:=.seq its.toArray n }={ cls:=.type "list",data:=.seq its'.toArray n' }) (r:Vals ys its') (hz:ys.length<=sizeLine) (t:Nat) :
   Inv X pins Z (upd H p (.lst ys)) { s with heap:=s.heap.update p f,toks:=t }:=by
 have e:(s.heap.update p f).get? p=some { cls:=.type "list",data:=.seq its'.toArray n' }:=by
   rw [y3 f ho (by rw [hf] <;> rfl),hf]
 refine I.write (x:=p) (e:=p) (by rw [h]; trivial) (.inl rfl) (fun b u hb q=>(FL _ _ (Ne.symm hb)).trans q) ⟨_,e⟩ ?_;exact ⟨hz,its',n',r,e⟩
def rSetL:V->V->V->Hp->(Hp->Prop)->Prop:=fun o i v H Q=>∃ p xs k j,o=.ref p/\i=.int k/\H p=some (.lst xs)/\ixN xs.length k=some j/\Q (upd H p (.lst (xs.set j v)))
theorem lP:PSet X rSetL:=by
 intro pins s Z H o i v ov iv u Q I ro ri rv h;obtain ⟨p,xs,k,j,rfl,rfl,hp,hj,q⟩:=h;cases ro;obtain ⟨t,rfl⟩:=ri;obtain ⟨its,n,r,ho,hz⟩:=I.lst hp;obtain ⟨h1,h2,h3,h4⟩:=fK hj;have hl:=r.length;have hn:=Et;have I':Inv X pins Z (upd H p (.lst (xs.set j v))) { s with heap:=s.heap.update p (EY (·.setIfInBounds j u)) } :=
   I.lstUpd hp ho (dD its n j u) (r.set rv j) (by rw [KU]; exact hz) s.toks
 by_cases h0:0<=k
 . have hk : k.toNat = j := by
     rw [seqIndex_of h0 h4] at h1; exact u6 h1
   exact PySem.W.ki_setAt ho h0 (by lia) (by rw [i5,<- hl]; exact h4) (by rw [hk]; exact ⟨_,I',q⟩)
 . have hk : (k + (its.toArray.size : Int)).toNat = j := by
     rw [seqIndex_neg (by lia) h3] at h1; rw [i5,<- hl]; exact u6 h1
   exact PySem.W.ki_setBack ho (by lia) (by rw [i5,<- hl]; exact h3) (by lia) (by rw [hk]; exact ⟨_,I',q⟩)
theorem Wh (lo hi:Option Int) (n:Nat):(GK lo hi none n).1=((HT.sIx n 0 lo:Nat):Int)/\(GK lo hi none n).2.1=((HT.sIx n n hi:Nat):Int)/\(GK lo hi none n).2.2=1:=by
 refine ⟨?_,?_,rfl⟩
 . cases lo with
   | none=>simp [GK,HT.sIx]
   | some i =>
     simp only [GK,HT.sIx,Option.getD_none,show (1:Int)>0 by decide,if_true];by_cases h:i < 0
     . simp only [h,if_true] <;> lia
     . simp only [h,if_false] <;> lia
 . cases hi with
   | none=>simp [GK,HT.sIx]
   | some i =>
     simp only [GK,HT.sIx,Option.getD_none,show (1:Int)>0 by decide,if_true];by_cases h:i < 0
     . simp only [h,if_true] <;> lia
     . simp only [h,if_false] <;> lia
theorem Hi (its:List zV) (lo hi:Option Int):slicePick its.toArray lo hi none=((its.drop (HT.sIx its.length 0 lo)).take (HT.sIx its.length its.length hi - HT.sIx its.length 0 lo)).toArray:=by
 obtain ⟨h1,h2,h3⟩:=Wh lo hi its.toArray.size;unfold slicePick;rw [h1,h2,h3];simp only [sliceRange_one,pick_run,i5] <;> rfl
def rSlL (K:zX):V->Option Int->Option Int->Hp->VK->Prop:=fun x lo hi H Q=>∃ a xs,x=.ref a/\SqL K H a xs/\∀ p,H p=none->Q (.ref p) (upd H p (.lst (jY xs lo hi)))
theorem sl_list:SlR X (rSlL X.K):=by
 intro pins s Z H x v vl vu lo hi sl Q I rx hs pl pu h;obtain ⟨a,xs,rfl,hx,q⟩:=h;cases rx;obtain ⟨its,r,ht,hz⟩:=I.list hx;have hlen:=r.length;refine ⟨"list",_,LB.lookup,ht.isList.typeIs,?_⟩;refine wpAny_getItem_list_slice ht.isList hs pl pu .none (by simp) ?_ (by rw [i5] <;> lia)
 rw [Hi,<- hlen];refine ⟨.ref s.heap.objs.size,_,I.laid (t':=s.toks) (o:=.lst (jY xs lo hi)) (fun b ob q=>a8 _ q) (f8 _) ?_,rfl,q _ (I.hok.fresh (f8 _))⟩;exact ⟨i6 (Gn xs lo hi) hz,_,0,(r.drop (HT.sIx xs.length 0 lo)).take (HT.sIx xs.length xs.length hi - HT.sIx xs.length 0 lo),e9 _ rfl⟩
theorem Kv:Y0 X (.type "list") (fun xs H Q=>∃ p ys,xs=[.ref p]/\(SqL X.K H p ys\/SqT X.K H p ys)/\∀ l,H l=none->Q (.ref l) (upd H l (.lst ys))):=by
 intro pins s Z H xs us Q I r h;obtain ⟨p,ys,rfl,hq,q⟩:=h;obtain ⟨u,rfl,rx⟩:=Ov r;cases rx;have fin : ∀ (its : List zV), Vals ys its -> ys.length <= sizeLine -> ∀ (h' : p9) (c' : Nat), (∀ b o', s.heap.get? b = some o' -> h'.get? b = some o') ->
     h'.get? s.heap.objs.size=some { cls:=.type "list",dict:=none,data:=.seq its.toArray c',slots := #[] }->EP X pins Z Q (.ref s.heap.objs.size) { s with heap:=h' }:=fun its r' hz h' c' kp e =>
   ⟨.ref s.heap.objs.size,_,I.laid (t':=s.toks) kp (f8 _) (show ObjOk X.prog X.w _ h' _ (.lst ys) from ⟨hz,its,c',r',e⟩),rfl,q _ (I.hok.fresh (f8 _))⟩
 rcases hq with hq | hq
 . obtain ⟨its,r',pl,hz⟩:=I.list hq
   have hlen:=r'.length; obtain ⟨o,ho,hc,n,hd⟩:=pl.isList; exact call_list_seq p (.inl rfl) ho hc hd (fun h' c' kp e=>fin its r' hz h' c' kp e) (by simp only [i5] <;> lia)
 . obtain ⟨its,r',pl,hz⟩:=I.tuple hq
   have hlen:=r'.length; obtain ⟨o,ho,hc,n,hd⟩:=pl; exact call_list_seq p (.inr rfl) ho hc hd (fun h' c' kp e=>fin its r' hz h' c' kp e) (by simp only [i5] <;> lia)
theorem Hs:Y0 X (.type "tuple") (fun xs H Q=>∃ p ys,xs=[.ref p]/\((SqL X.K H p ys/\∀ l,H l=none->Q (.ref l) (upd H l (.tup ys)))\/(SqT X.K H p ys/\Q (.ref p) H))):=by
 intro pins s Z H xs us Q I r h;obtain ⟨p,ys,rfl,h⟩:=h;obtain ⟨u,rfl,rx⟩:=Ov r;cases rx;rcases h with ⟨hq,q⟩ | ⟨hq,q⟩
 . obtain ⟨its,r',pl,hz⟩:=I.list hq
   have hlen:=r'.length; refine call_tuple_list pl.isList (fun h' kp=>?_) (by simp only [i5] <;> lia)
   have I1:Inv X pins Z H { s with heap:=h' }:=I.kept (t':=s.toks) kp; have I2:Inv X pins Z (upd H h'.objs.size (.tup ys)) { s with heap:=h'.push { cls:=.type "tuple",data:=.seq its.toArray } } :=
     I1.laid (t':=s.toks) (fun b o e=>a8 _ e) (f8 _) (show ObjOk X.prog X.w _ _ _ (.tup ys) from ⟨hz,its,r',IsTup.new _ _⟩)
   exact ⟨.ref h'.objs.size,_,I2,rfl,q _ (I1.hok.fresh (f8 _))⟩
 . obtain ⟨its,r',pl,hz⟩:=I.tuple hq
   exact call_tuple_same pl ⟨.ref p,H,I,rfl,q⟩
def tyV (K:zX) (T:String) (x:V) (H:Hp):Prop:=match x with
 | .str _=>T = "str"
 | .int _=>T = "int"
 | .ref p => (T = "list" /\ ∃ xs, SqL K H p xs) \/ (T = "tuple" /\ ∃ o, K.lookup p = some o /\ o.cls = .type "tuple" /\ o.dict = none) \/
     (T = "dict" /\ ((∃ kvs,H p=some (.dK kvs))\/∃ kvs,H p=some (.dT kvs)))\/(T = "set" /\ ∃ S n,H p=some (.set S n))
 | _=>False
theorem kM {pins:List (c6×Obj)} {Z:St} {H:Hp} {s:zW} {T:String} {x:V} {v:zV} (I:Inv X pins Z H s) (r:RelV x v) (ty:tyV X.K T x H) :
   s.TypeIs v T/\∀ a,v=.ref a->∃ ob,s.heap.get? a=some ob/\ob.dict=none:=by
 cases x with
 | str z =>
   obtain ⟨t,rfl⟩:=r;cases (show T = "str" from ty);exact ⟨typeIs_str s z t,fun _ e=>nomatch e⟩
 | int i =>
   obtain ⟨t,rfl⟩:=r;cases (show T = "int" from ty);exact ⟨typeIs_int s i t,fun _ e=>nomatch e⟩
 | ref p =>
   cases r; rcases ty with ⟨rfl,xs,hq⟩ | ⟨rfl,o,hk,hc,hd⟩ | ⟨rfl,hk⟩ | ⟨rfl,S,n,hk⟩
   . obtain ⟨its,_,pl,_⟩:=I.list hq
     refine ⟨pl.isList.typeIs,fun a e=>?_⟩;cases e; obtain ⟨o,n,e,c,hd,_⟩:=pl; exact ⟨o,e,hd⟩
   . refine ⟨⟨o,I.kIn p o hk,hc⟩,fun a e=>?_⟩
     cases e; exact ⟨o,I.kIn _ o hk,hd⟩
   . have z : ∃ o, s.heap.get? p = some o /\ o.ExactDict := by
       rcases hk with ⟨kvs,hk⟩ | ⟨kvs,hk⟩
       . obtain ⟨_,_,_,_,o,_,_,e,ex,_⟩:=I.hok p _ hk
         exact ⟨o,e,ex⟩
       . obtain ⟨_,_,_,_,o,_,_,e,ex,_⟩:=I.hok p _ hk
         exact ⟨o,e,ex⟩
     obtain ⟨o,e,ex⟩:=z; refine ⟨⟨o,e,ex.1⟩,fun a e2=>?_⟩;cases e2; exact ⟨o,e,ex.2.1⟩
   . obtain ⟨o,_,_,_,e,ex,_⟩:=I.hok p _ hk
     refine ⟨⟨o,e,ex.1⟩,fun a e2=>?_⟩;cases e2; exact ⟨o,e,ex.2.1⟩
 | _=>exact EF ty
def tBM0 (K:zX) (T:String) (r:V->List V->Hp->VK->Prop) (to:TE):TE:=fun Z H Q=>to Z H fun x H1=>tyV K T x H1/\r x [] H1 Q
def tBM (K:zX) (T:String) (r:V->List V->Hp->VK->Prop) (to:TE) (t:TA):TE:=fun Z H Q=>to Z H fun x H1=>tyV K T x H1/\t Z H1 fun xs H2=>r x xs H2 Q
variable {o e:Expr} {es:List Expr} {to:TE} {t:TA} {name:Str} {apos cpos:Pos} {T id:String} {r:V->List V->Hp->VK->Prop}
theorem xK (pa:PlainAttrs T) (slot:Slot T name id) (hty:typeOf (.builtin id)=pure (.type "method_descriptor")) (hm:MtR X id r) (ho:PE X o to)
   (hbase:DC o name X.env (eval o X.env)=eval o X.env:=by rfl) (hline:(apos.endLine==cpos.line)=true:=by rfl):PE X (.Call (.Attribute o name apos) [] [] cpos) (tBM0 X.K T r to):=by
 intro pins s Z H Q I h;refine wpAny_Call_method0_late hbase hline (thn (ho pins s Z H _ I h) fun v s1 hZ2=>?_);obtain ⟨x,H1,I1,r1,ty,q1⟩:=hZ2;obtain ⟨h1,h2⟩:=kM I1 r1 ty;exact ⟨T,id,pa,slot,hty,h1,h2,FF rfl (PySem.evalArgs_none (hm pins s1 Z H1 x [] v [] Q I1 r1 .nil q1))⟩
theorem aC (pa:PlainAttrs T) (slot:Slot T name id) (hty:typeOf (.builtin id)=pure (.type "method_descriptor")) (hm:MtR X id r) (ho:PE X o to) (ha:PA X (e::es) t)
   (hbase:DC o name X.env (eval o X.env)=eval o X.env:=by rfl)
   (hfew:((AN cpos (e8 (e::es) X.env)).all (fun x => !x.1)&&(JO cpos (GL [] X.env)).all (fun x=>x.1.isSome)
     && decide ((e::es).length+([]:List FK).length+(if ([]:List FK).isEmpty then 0 else 1) < 30))=true:=by rfl)
   (hline:(apos.endLine==cpos.line)=true:=by rfl) (hs:e8 (e::es) X.env=(false,eval e X.env)::e8 es X.env:=by rfl) (hplain:(AN cpos (e8 es X.env)).any (·.1)=false:=by rfl) :
   PE X (.Call (.Attribute o name apos) (e::es) [] cpos) (tBM X.K T r to t):=by
 intro pins s Z H Q I h;refine wpAny_Call_method_late hbase hfew hline rfl (thn (ho pins s Z H _ I h) fun v s1 hZ2=>?_);obtain ⟨x,H1,I1,r1,ty,q1⟩:=hZ2;obtain ⟨h1,h2⟩:=kM I1 r1 ty;refine ⟨T,id,pa,slot,hty,h1,h2,?_⟩;have hA:=ha cpos pins s1 Z H1 _ I1 q1;rw [hs] at hA ⊢;refine FF (by show (false||(AN cpos (e8 es X.env)).any (·.1))=false; rw [hplain] <;> rfl) (IJ ?_)
 exact thn hA fun us s2 hZ2=>by obtain ⟨vs,H2,I2,r2,q2⟩:=hZ2; exact hm pins s2 Z H2 x vs v us Q I2 r1 r2 q2
end
end L2
namespace L2
open PySem PySem.Spec PyProof.Rows
def MtM (X:Cx) (id:String) (r:V->List V->Hp->VK->Prop):Prop :=
 ∀ (pins:List (c6×Obj)) (s:zW) (Z:St) (H:Hp) (x:V) (xs:List V) (v:zV) (us:List zV) (Q:VK),Inv X pins Z H s->RelV x v->Vals xs us->r x xs H Q ->
   wpAny (i9 X.prog X.w) X.A (call (.builtin id) (v::us)) (EP X pins Z Q) X.xe s
theorem Vals.zero {us:List zV} (h:Vals [] us):us=[]:=by cases h; rfl
theorem Vals.uncons {x:V} {xs:List V} {us:List zV} (h:Vals (x::xs) us):∃ u r,us=u::r/\RelV x u/\Vals xs r:=by cases h with | cons a t=>exact ⟨_,_,rfl,a,t⟩
theorem Vals.one {x:V} {us:List zV} (h:Vals [x] us):∃ u,us=[u]/\RelV x u:=by
 obtain ⟨u,r,rfl,a,t⟩:=h.uncons;exact ⟨u,by rw [t.zero],a⟩
theorem Vals.dropLast {xs:List V} {us:List zV} (h:Vals xs us):Vals xs.dropLast us.dropLast:=by
 induction h with
 | nil=>exact .nil
 | cons r t ih =>
   cases t with
   | nil=>exact .nil
   | cons q t'=>exact .cons r ih
theorem Vals.rep {xs:List V} {us:List zV} (h:Vals xs us):∀ k:Nat,Vals (i4 k xs).flatten (i4 k us).flatten:=by
 intro iN; induction iN with
 | zero=>skip; exact .nil
 | succ k ih =>
   skip
   rw [BJ,BJ,DY,DY]; exact Vals.append h (ih)
theorem dI {α:Type} (l:List α):l.eraseIdx (l.length - 1)=l.dropLast:=by
 induction l with
 | nil=>rfl
 | cons a r ih =>
   cases r with
   | nil=>rfl
   | cons b r =>
     have e:(a::b::r).length - 1=((b::r).length - 1)+1:=by
       have h1:(a::b::r).length=r.length+2:=rfl; have h2:(b::r).length=r.length+1:=rfl;lia
     rw [e,List.eraseIdx_cons_succ,ih];all_goals rfl
theorem jQ (its:List zV):∀ (k:Nat) (acc:List zV),
   JJ (fun x1 x2=>x1++x2) acc.toArray (i4 k its.toArray)=(acc++(i4 k its).flatten).toArray:=by
 intro iN; induction iN with
 | zero=>intro acc; simp
 | succ k ih =>
   intro acc; have e:acc.toArray++its.toArray=(acc++its).toArray:=by simp
   have e2:(acc++its)++(i4 k its).flatten=acc++(i4 (k+1) its).flatten:=by
     rw [BJ,DY,z4]
   rw [<- e2,<- ih (acc++its),<- e,BJ,KY]
section
variable {X:Cx} {pins:List (c6×Obj)} {Z:St} {H:Hp} {s:zW} {l:c6} {xs ys:List V}
theorem Inv.lset {its its':List zV} {n:Nat} {f:Array zV->Array zV} {t':Nat} (I:Inv X pins Z H s) (hH:H l=some (.lst xs))
   (e:s.heap.get? l=some { cls:=.type "list",data:=.seq its.toArray n }) (hf:f its.toArray=its'.toArray) (hv:Vals ys its') (hz:ys.length<=sizeLine) :
   Inv X pins Z (upd H l (.lst ys)) { s with heap:=s.heap.update l (EY f),toks:=t' }:=by
 have q:=PySem.IsL.update e f;rw [hf] at q;refine I.write (x:=l) (e:=l) (by rw [hH]; exact trivial) (.inl rfl) (fun b' u hb hu=>(FL s.heap (EY f) (Ne.symm hb)).trans hu) ⟨_,q⟩ ?_;exact ⟨hz,its',_,hv,q⟩
theorem Inv.lnew {its:List zV} {t':Nat} (I:Inv X pins Z H s) (hv:Vals ys its) (hz:ys.length<=sizeLine) :
   Inv X pins Z (upd H s.heap.objs.size (.lst ys)) { s with heap:=s.heap.push { cls:=.type "list",data:=.seq its.toArray },toks:=t' } :=
 I.laid (fun _ _ q=>a8 _ q) (f8 _) ⟨hz,its,0,hv,e9 _ rfl⟩
theorem Inv.fresh (I:Inv X pins Z H s):H s.heap.objs.size=none:=I.hok.fresh (f8 _)
theorem Inv.lstM (I:Inv X pins Z H s) (hH:H l=some (.lst xs)):xs.length<=sizeLine/\∃ (its:List zV) (n:Nat),Vals xs its/\xs.length=its.length/\s.heap.get? l=some { cls:=.type "list",data:=.seq its.toArray n }:=by
 obtain ⟨z,its,n,r,e⟩:=I.hok l _ hH;exact ⟨z,its,n,r,r.length,e⟩
theorem aF {n:Nat} (h:n<=sizeLine):EB n=false:=by
 unfold EB;exact decide_eq_false (by lia)
end
section
variable {X:Cx}
def rL:V->List V->Hp->VK->Prop:=fun x vs H Q=>∃ l xs y,x=.ref l/\vs=[y]/\H l=some (.lst xs)/\xs.length < sizeLine/\Q .non (upd H l (.lst (xs++[y])))
theorem Mc:MtM X "list.append" rL:=by
 intro pins s Z H x vs v us Q I rx rv h;obtain ⟨l,xs,y,rfl,rfl,hH,hz,q⟩:=h;cases rx;obtain ⟨u,rfl,ru⟩:=rv.one;obtain ⟨z,its,n,r,hl,e⟩:=I.lstM hH;refine IM F.slot_list_append ⟨_,e,rfl⟩ F.entry_list_append (F.args_list_append_2 _ _) (PySem.list_append l its.toArray n u (by rw [i5]; lia)) ⟨e,?_⟩;refine ⟨.non,_,I.lset (its':=its++[u]) hH e (by simp) (r.append (.cons ru .nil)) ?_,rfl,q⟩;rw [l8,NI];lia
def rJ:V->List V->Hp->VK->Prop:=fun x vs H Q=>∃ l b xs zs,x=.ref l/\vs=[.ref b]/\H l=some (.lst xs)/\H b=some (.lst zs)/\xs.length+zs.length<=sizeLine/\Q .non (upd H l (.lst (xs++zs)))
theorem iU:MtM X "list.extend" rJ:=by
 intro pins s Z H x vs v us Q I rx rv h;obtain ⟨l,b,xs,zs,rfl,rfl,hH,hB,hz,q⟩:=h;cases rx;obtain ⟨u,rfl,ru⟩:=rv.one;cases ru;obtain ⟨z,its,n,r,hl,e⟩:=I.lstM hH;obtain ⟨z2,its2,n2,r2,hl2,e2⟩:=I.lstM hB;have hsz:its.toArray.size+its2.toArray.size<=sizeLine:=by rw [i5,i5]; lia
 have hlong:¬ (!its.toArray.isEmpty&&EB (its.toArray.size+its2.toArray.size))=true:=by
   rw [aF hsz,Bool.and_false]; exact AW
 refine IM F.slot_list_extend ⟨_,e,rfl⟩ F.entry_list_extend (F.args_list_extend_2 _ _)
   (AutoSeq1.list_extend_list_list_0 l its.toArray n b its2.toArray n2 hlong (by rw [i5]; lia) (by lia)) ⟨e,e2,?_⟩
 refine ⟨.non,_,I.lset (its':=its++its2) hH e (by simp) (r.append r2) ?_,rfl,q⟩;rw [l8];lia
def rPop:V->List V->Hp->VK->Prop:=fun x vs H Q=>∃ l xs y,x=.ref l/\vs=[]/\H l=some (.lst xs)/\xs[xs.length - 1]? = some y/\Q y (upd H l (.lst xs.dropLast))
theorem xZ:MtM X "list.pop" rPop:=by
 intro pins s Z H x vs v us Q I rx rv h;obtain ⟨l,xs,y,rfl,rfl,hH,hy,q⟩:=h;cases rx;have hus:=rv.zero;subst hus;obtain ⟨z,its,n,r,hl,e⟩:=I.lstM hH;obtain ⟨u,hu,ru⟩:=r.get hy;have hy':its.toArray[its.toArray.size - 1]? = some u:=by
   show its.toArray[its.length - 1]? = some u;rw [<- DQ,<- hl]; exact hu
 refine IM F.slot_list_pop ⟨_,e,rfl⟩ F.entry_list_pop (F.args_list_pop_1 _) (MeetsSeq.list_pop_last l its.toArray n u hy' (by rw [i5]; lia)) ⟨e,?_⟩;refine ⟨y,_,I.lset (its':=its.dropLast) hH e ?_ r.dropLast ?_,ru,q⟩
 . show its.toArray.eraseIdxIfInBounds (its.toArray.size - 1)=its.dropLast.toArray
   rw [i5,List.eraseIdxIfInBounds_toArray,dI]
 . rw [NU]
   lia
theorem fG {α:Type} (xs:List α) (k:Nat):(i4 k xs).flatten.length=k*xs.length:=by
 induction k with
 | zero=>simp
 | succ k ih=>rw [BJ,DY,l8,ih,Nat.succ_mul,Nat.add_comm]
end
end L2
namespace Att
open PySem PySem.W PySem.Calls PyProof.Rows
theorem Nu {P:HV} {h:p9}:∀ (ns:List Int) (vs:List zV),WellAll P h vs (ns.map WData.int)->IP vs ns:=by
 intro ns;induction ns with
 | nil =>
   intro vs w; rw [y9] at w; cases w; exact .nil
 | cons n ns ih =>
   intro vs w; rw [c7] at w;cases w with
   | cons a b =>
     cases a; exact .cons _ _ (ih _ b)
theorem hX {l:OpenLaw} {n:Nat} (hn:l.most=some n) {P:HV} {h:p9} {args:List WData} {vals:List zV}
   (hpre:l.row.toRowW.claim.pre args=true) (hwl:WellAll P h vals args) :
   ∃ a vs ns,vals=[u9 a]/\args=[WData.list (ns.map WData.int)]/\h.get? a=some { cls:=.type "list",data:=.seq vs.toArray }/\IP vs ns/\ns.length<=n:=by
 have hsh:WShape.hasAll [] args [.list .int]=true:=(pre_splitW hpre).1;have hc:l.pre.holds [] { args:=args }=true:=(pre_splitW hpre).2;obtain ⟨d,r,rfl,h1,h2⟩:=hasAllW_cons hsh;obtain rfl:=hasAllW_nil h2;obtain ⟨xs,rfl,h3⟩:=hasW_list h1;obtain ⟨ns,rfl⟩:=items_int h3;have hlen:ns.length<=n:=by
   unfold OpenLaw.pre at hc; have h4:(WTm.not (.lt (.lit (.int (n:Int))) (.len (.arg 0)))).holds [] { args:=[.list (ns.map .int)] }=true:=by
     have h4:=(holds_andW hc).1; rw [hn] at h4; exact h4
   have h5:=condW_of h4 (w_not (w_lt w_lit (w_len_list (w_arg rfl)))); rw [zZ] at h5; refine Nat.le_of_not_lt fun q=>?_;have q':(n:Int) < ((ns.length:Nat):Int):=by lia
   first
     | (rw [decide_eq_true q'] at h5; exact absurd h5 (by decide))
     | (simp at h5; lia)
 cases hwl with
 | cons w1 w2 =>
   cases w2;cases w1 with
   | list ho hall=>exact ⟨_,_,ns,rfl,rfl,ho,Nu ns _ hall,hlen⟩
theorem iI (l:OpenLaw) (args:List WData):l.row.toRowW.claim.post args (.bool true) args=true :=
 postW_of (r:=l.row.toRowW) (X:=(true==true))
   (show WShape.has [] (.bool true) .bool=true by first | rfl | decide | simp [WShape.has,WShape.arms,WShape.armsAll])
   (show (WTm.eq .res (.lit (.bool true))).value [] { args:=args,res:=some (.bool true),after:=args }=some (.bool (true==true)) from w_eq_bool (w_res rfl) w_lit) rfl
theorem attach_call {l:OpenLaw} {n:Nat} {q:j5} {loose:List Str} {XP:(Str->Option zV)->p9->Prop} {YP:l9->p9->Prop} {d:DefRec}
   (hn:l.most=some n) (hdf:d.params.defaults=[])
   (call:∀ (w:l9) (s₀ s₁:zW) (mg mb:Str->Option zV) (fa:c6) (o:Obj) (pm cd doc:zV) (a:c6) (vs:List zV) (ns:List Int),
     Ground q loose [] XP w s₀ mg mb s₁.heap->YP w s₁.heap ->
     s₁.heap.get? fa=some o->o.data=.func (docDef d.name d.params d.body d.scope pm cd doc)->s₁.heap.CodeRec cd d.name->mg d.name=some (.ref fa) ->
     s₁.heap.get? a=some { cls:=.type "list",data:=.seq vs.toArray }->IP vs ns->ns.length<=n->s₁.gens = #[] ->
     GJ (i9 l.prog w) LH (.call (.ref fa) ⟨[.ref a],[]⟩) (fun r s'=>r=.ok (.ret (.bool true))/\OldK s₁.heap s'.heap/\s'.os=s₁.os/\IQ s'.gens) s₁) :
   WalkO q loose XP YP l.row.toRowW d [] (fun f vs=>PySem.call f vs):=by
 intro w s₀ s₁ mg mb G Y fa o pm cd doc dV kV ho hd hcd hD hmg hg args vals as hpre hlay hrd hwl hlo;obtain rfl:dV=.none:=Dflts.none hD hdf;obtain rfl:kV=.none:=Dflts.noKw hD;obtain ⟨a,vs,ns,rfl,rfl,hobj,hints,hlen⟩:=hX hn hpre hwl;refine enter_call (ET (call w s₀ s₁ mg mb fa o pm cd doc a vs ns G Y ho (fd_plain hd) hcd hmg hobj hints hlen hg) fun r s' hq=>?_);obtain ⟨rfl,h2,h3,h4⟩:=hq;exact ⟨.inl ⟨.bool true,.bool true,[],rfl,fun _=>rfl,.bool true,iI l _,fun _=>⟨HX,fun _ hm=>(nomatch hm)⟩⟩,h2,h3,h4⟩
end Att
namespace L2
open PySem PySem.Spec PyProof.Rows
theorem Ty:∀ {vs:List zV} {ns:List Int},IP vs ns->Vals (ns.map V.int) vs
 | _,_,.nil=>.nil
 | _,_,.cons n t h=>.cons ⟨t,rfl⟩ (Ty h)
def zQ (H:Hp):Prop:=∀ b,H b=none\/∃ o xs,H b=some (.frz o (.lst xs))
theorem nQ {P:j5} {w:l9} {K:zX} {mg mb:Str->Option zV} {CX:CXT} {k:Nat} {fa a:c6} {fd:FZ} {x:Str} {sp:Sp} {s₁:zW} {vs:List zV} {ns:List Int}
   (KX:K.In s₁.heap) (hns:s₁.heap.Ns z0 mg) (hb:s₁.heap.Ns IN mb) (hbb:∀ x:Str,x ≠ "__name__" -> mb x=CV x) (hlim:s₁.heap.NoLimit) (hg:s₁.gens = #[])
   (ha:s₁.heap.get? a=some { cls:=.type "list",data:=.seq vs.toArray }) (hi:IP vs ns) (hl:ns.length<=sizeLine) (hr:Room k LH)
   (F:∀ base:p9,K.In base->base.Ns z0 mg->FnOk P w K mg base CX k fa fd [x] sp) (hbind:∀ (s:zW) (u:zV),BindsTo s fd ⟨[u],[]⟩ [(x,u)])
   (hsp:∀ H:Hp,zQ H->SqL K H a (ns.map V.int)->sp [.ref a] H (fun v _=>v=.bl true) fun _ _ _=>False)
   (hCX:∀ H e s',CX [] H s₁ (fun _ _ _=>False) e s'->False) :
   GJ (i9 P w) LH (.call (.ref fa) ⟨[.ref a],[]⟩) (fun r s'=>r=.ok (.ret (.bool true))/\OldK s₁.heap s'.heap/\s'.os=s₁.os/\IQ s'.gens) s₁:=by
 have rv:=Ty hi;have lenV:=hi.length;have core : ∀ H : Hp, zQ H -> SqL K H a (ns.map V.int) -> HOk P w H s₁.heap -> (∀ b, H b ≠ none -> b = a) -> (H a ≠ none -> K.lookup a = none) ->
     GJ (i9 P w) LH (.call (.ref fa) ⟨[.ref a],[]⟩) (fun r s'=>r=.ok (.ret (.bool true))/\OldK s₁.heap s'.heap/\s'.os=s₁.os/\IQ s'.gens) s₁:=by
   intro H hO hS hok hA hK; have base_of:∀ {b:c6} {o:Obj},s₁.heap.get? b=some o->H b=none->(Xj s₁.heap H).get? b=some o:=fun e n=>oB e n;have noA:∀ {b:c6} {o:Obj} {es:Array u8} {ep:Nat},s₁.heap.get? b=some o->o.data=.dict es ep->H b=none:=fun {b o es ep} e d=>by
     cases q:H b with
     | none=>rfl
     | some u =>
       have e':b=a:=hA b (by rw [q]; simp);subst e'; rw [ha] at e; cases e; have d':Data.seq vs.toArray _=Data.dict es ep:=d;cases d'
   have nsK:∀ {b:c6} {m:Str->Option zV},s₁.heap.Ns b m->(Xj s₁.heap H).Ns b m:=fun {b m} ⟨o,es,ep,e,d,r⟩=>⟨o,es,ep,base_of e (noA e d),d,r⟩;have hKb:K.In (Xj s₁.heap H):=fun b o e=>base_of (KX b o e) (by
     cases q:H b with
     | none=>rfl
     | some u =>
       have e':b=a:=hA b (by rw [q]; simp);subst e'; rw [hK (by rw [q]; simp)] at e; cases e)
   have hM:Mod K mg (Xj s₁.heap H):=⟨hKb,nsK hns,⟨mb,nsK hb,hbb⟩,let ⟨mc,h1,h2⟩:=hlim; ⟨mc,nsK h1,h2⟩⟩;have e0:Env0 P w K mg (Xj s₁.heap H) LH [] s₁ H:=⟨rfl,hM,fun b o e=>sL e,Nat.le_of_eq (jO _ _),trivial,fun b hb=>absurd (show b∈([]:List c6) from hb) (by simp),hok,.of_eq hg⟩;refine ET ((F _ hKb (nsK hns)).run LH [] s₁ H ⟨[.ref a],[]⟩ [.ref a] [.ref a] _ _ hr e0 (hbind s₁ (.ref a)) (.cons rfl .nil) (hsp H hO hS)) fun r s' h=>?_;cases r with
   | error e=>exact (hCX H e s' h).elim
   | ok fl =>
     cases fl with
     | next=>exact EF h
     | brk=>exact EF h
     | cont=>exact EF h
     | ret u =>
       obtain ⟨v,H',os,bare,un,hok',r',q⟩:=h; have q':v=.bl true:=q; subst q'; obtain rfl:u=FQ true:=r'; refine ⟨rfl,OldK.of_keep fun b o e=>?_,os,bare⟩;cases q:H b with
       | none=>exact un.keep b o e q (by intro z; exact absurd (show b∈([]:List c6) from z) (by simp)) (by simp)
       | some u =>
         rcases hO b with z | ⟨ob,xs,z⟩
         . rw [q] at z; cases z
         . have z2:=un.frzs b ob _ z
           obtain ⟨e1,_⟩:=hok b _ z; obtain ⟨e2,_⟩:=hok' b _ z2; rw [e] at e1; cases e1; exact e2
 cases hk:K.lookup a with
 | some o =>
   have e:=KX a o hk; rw [ha] at e; cases e; refine core (fun _=>none) (fun _=>.inl rfl) (.inr ⟨_,vs.toArray,_,hk,rfl,rfl,rfl,by rw [i5,lenV]; exact hl,by simpa using rv⟩) (fun b u z=>by have z':(none:Option HO)=some u:=z; cases z') (fun b z=>absurd rfl z) fun z=>absurd rfl z
 | none =>
   refine core (fun b=>if b=a then some (.frz { cls:=.type "list",data:=.seq vs.toArray } (.lst (ns.map V.int))) else none) (fun b=>?_) (.inl (.inr ⟨{ cls:=.type "list",data:=.seq vs.toArray },if_pos rfl⟩)) (fun b u z=>?_) (fun b z=>?_) fun _=>hk
   . by_cases hb:b=a
     . exact .inr ⟨_,_,if_pos hb⟩
     . exact .inl (if_neg hb)
   . by_cases hb:b=a
     . have z':=(if_pos hb).symm.trans z
       cases z'; subst hb; exact ⟨ha,by rw [zZ]; exact hl,vs,_,rv,ha⟩
     . have z':=(if_neg hb).symm.trans z
       cases z'
   . by_cases hb:b=a
     . exact hb
     . exact absurd (if_neg hb) z
end L2
namespace L2
open PySem PySem.Spec PyProof.Rows
theorem qD {l:PySem.W.OpenLaw} {n k:Nat} {q:j5} {loose:List Str} {XP:(Str->Option zV)->p9->Prop} {YP:l9->p9->Prop} {d:DefRec} {K:HV->zX} {CX:l9->CXT} {sp:l9->Sp} {x:Str}
   (hn:l.most=some n) (hn2:n<=sizeLine) (hdf:d.params.defaults=[]) (hr:Room k LH)
   (hY:∀ (w:l9) (h:p9),YP w h->(K w.params).In h)
   (F:∀ (w:l9) (mg:Str->Option zV) (fa:c6) (h:p9),(K w.params).In h->h.Ns z0 mg->mg d.name=some (.ref fa) ->
     ∃ fd:FZ,(∀ (s:zW) (u:zV),BindsTo s fd ⟨[u],[]⟩ [(x,u)]) /\
       ∀ base:p9,(K w.params).In base->base.Ns z0 mg->FnOk l.prog w (K w.params) mg base (CX w) k fa fd [x] (sp w))
   (hsp:∀ (w:l9) (H:Hp) (a:c6) (ns:List Int),ns.length<=n->zQ H->SqL (K w.params) H a (ns.map V.int)->sp w [.ref a] H (fun v _=>v=.bl true) fun _ _ _=>False)
   (hCX:∀ (w:l9) (H:Hp) (s:zW) (e:zV) (s':zW),CX w [] H s (fun _ _ _=>False) e s'->False) :
   PySem.W.WalkO q loose XP YP l.row.toRowW d [] (fun f vs=>PySem.call f vs):=by
 refine Att.attach_call hn hdf fun w s₀ s₁ mg mb fa o pm cd doc a vs ns G Y ho hd hcd hmg hobj hints hlen hg=>?_;have KX:=hY w _ Y;obtain ⟨fd,hb,hF⟩:=F w mg fa _ KX G.T.g hmg;exact nQ KX G.T.g G.T.b G.T.builtins G.T.nolimit hg hobj hints (i6 hlen hn2) hr hF hb (fun H hO hS=>hsp w H a ns hlen hO hS) fun H e s'=>hCX w H s₁ e s'
end L2
namespace L2
open PySem PySem.Spec PyProof.Rows
def inClass (s:CN) (j:Nat):CN:=match s with
 | .ClassDef _ _ _ body _ _ _ _ _ _ _=>body.getD j (.Pass ⟨0,0,0,0⟩)
 | _=>.Pass ⟨0,0,0,0⟩
abbrev CX0:CXT:=fun _ _ _ _ _ _=>False
abbrev E0:XK:=fun _ _ _=>False
theorem eY {X:Cx}:eF CX0 X E0:=fun _ _ _ _ _ _ _ h=>h.elim
structure Fun (K:zX) (x qual:Str) (st:CN) (f:c6) (fd:FZ):Prop where
 ex:∃ (oc:zV) (od:Option c6) (kV doc pm:zV) (an:Option c6) (cdv ct:zV) (osl:Array (Option zV)),
   fd=x3 x qual (M9 st) (B3 st) (A4 st) .none kV doc pm an cdv ct/\K.lookup f=some ⟨oc,od,.func fd,osl⟩/\CI K cdv qual=true
 kp:AJ K (.ref f)=true
section
variable {P:j5} {w:l9} {K:zX} {mg:Str->Option zV} {base:p9}
theorem Fun.ok {x qual:Str} {st:CN} {f:c6} {fd:FZ} {N ps:List Str} {k:Nat} {sp:Sp} (F:Fun K x qual st f fd) (S:FnScope N ps (A4 st)) (len:∀ vs H Q E,sp vs H Q E->vs.length=ps.length)
   (hbody:∀ (cdv:zV) (A:u5) (outer:List Env) (s:zW) (H:Hp) (vs:List V) (Q:VK) (E:XK),Room k (A.deeper (KP qual (A4 st) s.heap.objs.size f cdv))->sp vs H Q E ->
     ∃ t,PSs (jX CX0 P w K mg base N qual (A4 st) f cdv A outer s H E).nox (B3 st) t/\t { nx:=fun _ H'=>Q .non H',rt:=Q } (Cq N vs) H):FnOk P w K mg base CX0 (k+1) f fd ps sp:=by
 obtain ⟨oc,od,kV,doc,pm,an,cdv,ct,osl,rfl,lk,hcd⟩:=F.ex;refine fn_of lk hcd S len fun A outer s H vs Q E hr hsp=>?_;obtain ⟨t,h,q⟩:=hbody cdv A outer s H vs Q E hr hsp;exact ⟨t,h.nox,q⟩
theorem Fun.binds {x qual:Str} {st:CN} {f:c6} {fd:FZ} {ps:List Str} (F:Fun K x qual st f fd)
   (h:∀ (kV doc pm:zV) (an:Option c6) (cdv ct:zV) (us:List zV),us.length=ps.length->IE (x3 x qual (M9 st) (B3 st) (A4 st) .none kV doc pm an cdv ct) ⟨us,[]⟩=pure (ps.zip us)):Binds K fd ps []:=by
 obtain ⟨oc,od,kV,doc,pm,an,cdv,ct,osl,rfl,lk,hcd⟩:=F.ex;exact .all (h kV doc pm an cdv ct)
theorem oI {x qual:Str} {st:CN} {f:c6} {oc:zV} {od an:Option c6} {osl:Array (Option zV)} {kV doc pm cdv ct:zV} (l:K.lookup f=some ⟨oc,od,.func (x3 x qual (M9 st) (B3 st) (A4 st) .none kV doc pm an cdv ct),osl⟩)
   (c:CI K cdv qual=true) (k:AJ K (.ref f)=true):Fun K x qual st f (x3 x qual (M9 st) (B3 st) (A4 st) .none kV doc pm an cdv ct):=⟨⟨oc,od,kV,doc,pm,an,cdv,ct,osl,rfl,l,c⟩,k⟩
end
def Same (H H':Hp):Prop:=∀ b o,H b=some o->H' b=some o
theorem Same.refl (H:Hp):Same H H:=fun _ _ h=>h
theorem Same.trans {H H1 H2:Hp} (a:Same H H1) (b:Same H1 H2):Same H H2:=fun c o h=>b c o (a c o h)
theorem Same.free {H H':Hp} (e:Same H H') {l:c6} (h:H' l=Option.none):H l=Option.none:=by
 cases q:H l with
 | none=>rfl
 | some o =>
   rw [e l o q] at h; cases h
end L2
section
namespace Sm
open PySem PySem.Spec PyProof.Rows L2
abbrev St:=L2.St
section
variable {prog:j5} {w:l9} {A:u5} {R:Result->zW->Prop} {s:zW}
theorem Xu {elt target iter:Expr} {ifs:List Expr} {scope:Scope} {pos:Pos} {it acc:zV} {env:Env} (I:Nat->zW->Prop)
   (turn:∀ n s,I n s->wpAny (i9 prog w) A (pyNext it) (fun r s₁=>match r with
     | none=>R (.ok .next) s₁
     | some v => wpAny (i9 prog w) A (IS target it v) (fun _ s₁' => wpAny (i9 prog w) A (JP target env v) (fun _ s₂ =>
         wpAny (i9 prog w) A (forIn ifs true fun c r=>if r=true then do let ok <- isTrue c env (eval c env); pure (CJ ok) else pure (CJ r)) (fun ok s₃ =>
           if ok=true then wpAny (i9 prog w) A (eval elt env) (fun x s₄ =>
             wpAny (i9 prog w) A (call (.builtin "list.append") [acc,x]) (fun _ s₅=>∃ m,m < n/\I m s₅) (fun _ _=>False) s₄) (fun _ _=>False) s₃
           else ∃ m,m < n/\I m s₃) (fun _ _=>False) s₂) (fun _ _=>False) s₁') (fun _ _=>False) s₁) (fun _ _=>False) s)
   (n:Nat) (h:I n s):GJ (i9 prog w) A (.compLoop (.ListComp elt [⟨target,iter,ifs,0⟩] scope pos) 0 it acc env) R s:=by
 refine codeAny_loop rfl I (fun n s hI=>?_) n h;show wpAny _ A ((compTurn (.ListComp elt [⟨target,iter,ifs,0⟩] scope pos) 0 it acc env).onRaise (fun x=>do noteFrame x env; theTreesLotGoes x)) _ _ s;refine wpAny_noted ?_;rw [compTurn_list];refine zT (wpAny_standAt (zT (z9 (turn n s hI) (fun r s₁ h₁=>?_) fun _ _ h'=>h'.elim)));cases r with
 | none=>exact zU h₁
 | some v =>
   refine zT (z9 h₁ (fun _ s₁' h₁'=>?_) fun _ _ h'=>h'.elim);refine zT (z9 h₁' (fun _ s₂ h₂=>zT (z9 h₂ (fun ok s₃ h₃=>?_) fun _ _ h'=>h'.elim)) fun _ _ h'=>h'.elim);cases ok with
   | false=>exact zU ⟨rfl,h₃⟩
   | true =>
     exact zT (zT (z9 h₃ (fun x s₄ h₄=>zT (z9 h₄ (fun _ s₅ h₅=>zU (zU ⟨rfl,h₅⟩)) fun _ _ h'=>h'.elim)) fun _ _ h'=>h'.elim))
end
def bI (X:Cx) (s₃:zW) (H₃:Hp) (scope:Scope) (cl:List (Str×c6)) (N':List Str) (fp:List c6):Cx :=
 { X with N:=N',s₀:=s₃,H₀:=H₃,env:=compEnvC scope cl s₃.heap.objs.size X.env,outer:=X.stack,stack:=X.stack,ex:=fp,fn:=fun _=>false,pn:=[],xe:=fun _ _=>False }
structure Blk (X X':Cx) (N':List Str) (sc':Scope):Prop where
 prog:X'.prog=X.prog
 w:X'.w=X.w
 K:X'.K=X.K
 mg:X'.mg=X.mg
 base:X'.base=X.base
 A:X'.A=X.A
 calm:X'.calm=X.calm
 N:X'.N=N'
 sc:X'.env.scope=sc'
 xe:X'.xe=fun _ _=>False
structure Clos (X:Cx) (scope:Scope) (cl:List (Str×c6)):Prop where
 clo:closureFor scope X.env=pure cl
 sub:∀ x c,cl.lookup x=some c->X.env.cells.lookup x=some c
 has:∀ x,(CC scope X.env).names.lookup x=some .cell\/(CC scope X.env).names.lookup x=some .free->∃ c,cl.lookup x=some c
section
variable {X:Cx} {pins:List (c6×Obj)} {Z:St} {H:Hp} {s₃:zW}
theorem zH {scope:Scope} {cl:List (Str×c6)} {N':List Str} {fp:List c6} (I:Inv X pins Z H s₃) (hk:scope.kind=.function) (C:Clos X scope cl) (hfp:∀ b∈fp,Sf X pins H b) (hlt:∀ b∈fp,b < s₃.heap.objs.size) :
   (bI X s₃ H scope cl N' fp).Ok where
 mod:=I.ok.mod
 kind:=hk
 glob:=I.ok.glob
 blt:=I.ok.blt
 above:=f8 _
 inj:=fun x y c h1 h2=>I.ok.inj x y c (C.sub x c h1) (C.sub y c h2)
 has:=fun x h=>C.has x h
 cab:=fun x c h=>nomatch h
 hd:=I.ok.hd
 frames:=I.ok.frames
 stk:=.inl rfl
 exf:=fun b hb=>⟨m6 (hlt b hb),fun x c h=>(hfp b hb).2.2.2.2.1 x c (C.sub x c h)⟩
 bs:=fun b o e=>I.bs b o e
 bsz:=i6 I.ok.bsz I.sz
 noex:=fun b o e hb=>by
   rcases (hfp b hb).2.2.2.1 with z | z
   . exact I.ok.noex b o e z
   . exact absurd (m3 (i8 e) (i6 I.ok.bsz z)) (BV _)
 exfs:=fun b hb z=>by
   rcases a9.mp (I.stkSub b z) with q | q
   . exact (hfp b hb).2.1 q
   . exact (hfp b hb).2.2.1 q
 funs:=I.stack
 frf:=I.stkFree
def Fp (Z:St) (cap:List Nat):St:=cap.map fun j=>Z[j]?.join
theorem uO {scope:Scope} {cl:List (Str×c6)} {xs:List Str} {cap:List Nat} {capN:List Str} {fp:List c6} {h₁:p9} {tk:Nat} (I:Inv X pins Z H s₃) (hk:scope.kind=.function) (C:Clos X scope cl) (hfp:∀ b∈fp,Sf X pins H b) (hlt:∀ b∈fp,b < s₃.heap.objs.size)
   (hcap:cap.map (fun j=>X.N[j]?)=capN.map some) (hcl:∀ x∈capN,(CC scope X.env).names.lookup x=some .cell\/(CC scope X.env).names.lookup x=some .free)
   (hvis:∀ x∈capN,X.env.scope.names.lookup x=some .cell\/X.env.scope.names.lookup x=some .free) {m:Str->Option zV}
   (hns:h₁.Ns s₃.heap.objs.size m) (old:∀ b o,s₃.heap.get? b=some o->h₁.get? b=some o) :
   Inv (bI X s₃ H scope cl (xs++capN) fp) [] (xs.map (fun _=>none)++Fp Z cap) H { s₃ with heap:=h₁,toks:=tk }:=by
 have hlen:cap.length=capN.length:=by simpa using congrArg IK hcap
 refine ⟨zH I hk C hfp hlt,rfl,I.bare,Un.kept old,⟨m,hns,fun i x v e1 e2 e3=>?_⟩,fun x c e=>?_,I.hok.fresh (f8 _),fun x c e=>I.freeC x c (C.sub x c e),fun p hp=>absurd (show p∈([]:List (c6×Obj)) from hp) (by simp),I.hok.kept old,?_⟩
 . have e1':(xs++capN)[i]? = some x:=e1
   by_cases hi:i < xs.length
   . rw [o8 (by simpa using hi),j8] at e2
     cases q:xs[i]? with
     | none=>rw [q] at e2; cases e2
     | some z=>rw [q] at e2; cases e2
   . rw [p7 (by simpa using hi)] at e2
     rw [p7 (by lia)] at e1'; rw [zZ] at e2;generalize i - xs.length=j at e1' e2;unfold Fp at e2; rw [j8] at e2; have hc:(cap.map (fun j=>X.N[j]?))[j]? = some (some x):=by rw [hcap,j8,e1']; rfl
     rw [j8] at hc;cases q:cap[j]? with
     | none=>rw [q] at e2; cases e2
     | some k =>
       rw [q] at e2 hc; simp only [GB] at e2 hc; have hc':X.N[k]? = some x:=u6 hc; have hs:Z[k]? = some (some v):=by
         cases z:Z[k]? with
         | none=>rw [z] at e2; cases e2
         | some z'=>rw [z] at e2; cases z' with
           | none=>cases e2
           | some z''=>cases e2; rfl
       have hx:x∈capN:=AY e1'; obtain ⟨m',hm',hl'⟩:=I.loc; obtain ⟨u,r,l⟩:=hl' k x v hc' hs (by rcases hvis x hx with z | z; exact .inr (.inl z); exact .inr (.inr z));refine ⟨u,r,.inr ⟨hcl x hx,?_⟩⟩; obtain ⟨c,hcc⟩:=C.has x (hcl x hx); refine ⟨c,hcc,?_⟩; rcases l with ⟨z,_⟩ | ⟨_,c',e',z⟩
       . have z':X.env.scope.names.lookup x=some .local:=z
         rcases hvis x hx with y | y <;> (rw [z'] at y; cases y)
       . rw [C.sub x c hcc] at e'; cases e'
         obtain ⟨o,ho,hd⟩:=z; exact ⟨o,old _ _ ho,hd⟩
 . obtain ⟨v,o,ho,hd⟩:=I.cell x c (C.sub x c e)
   exact ⟨v,o,old _ _ ho,hd⟩
 . show (xs.map (fun _=>none)++Fp Z cap).length=(xs++capN).length
   unfold Fp; rw [l8,l8,zZ,zZ,hlen]
end
def Wk (Z1 Z2:St):Prop:=Z1.length=Z2.length/\∀ (i:Nat) v,Z1[i]? = some (some v)->Z2[i]? = some (some v)
def eK (wi:TI) (Zb:St->St) (g:TG) (tt:TT) (te:TE):TE:=fun Z H Q=>wi Z H fun J H1=>∀ D,H1 D=none->∃ W:Nat->Nat->Hp->Prop,(∃ m,W 0 m (upd H1 D (.lst [])))/\∀ i m H,W i m H ->
 (J.stop i H/\Q (.ref D) H)\/(J.go i H/\∃ N:Hp->Prop,(∀ H',N H'->∃ m',m' < m/\W (i+1) m' H')/\∀ x H',J.yld i H x H'->g x (Zb Z) H' fun Z2 H2=>Wk (Zb Z) Z2/\tt Z2 H2 fun b H3 =>
   if b=true then te Z2 H3 fun y H4=>∃ acc,H4 D=some (.lst acc)/\acc.length < sizeLine/\N (upd H4 D (.lst (acc++[y]))) else N H3)
def PTs (X:Cx) (ifs:List Expr) (t:TT):Prop :=
 ∀ (pins:List (c6×Obj)) (s:zW) (Z:St) (H:Hp) (Q:Bool->Hp->Prop),Inv X pins Z H s->t Z H Q ->
   wpAny (i9 X.prog X.w) X.A (forIn ifs true fun c r=>if r=true then do let ok <- isTrue c X.env (eval c X.env); pure (CJ ok) else pure (CJ r)) (TP X pins Z Q) X.xe s
theorem rR {X:Cx}:PTs X [] (fun _ H Q=>Q true H):=fun _ _ _ H _ I h=>wpAny_tests_nil ⟨H,I,h⟩
theorem rQ {X:Cx} {c:Expr} {t:TT} (h:PT X c t):PTs X [c] t:=fun pins s Z H Q I q=>wpAny_tests_one (h pins s Z H Q I q)
structure CompFacts (X:Cx) (scope:Scope) (xs capN:List Str) (cap:List Nat):Prop where
 kind:scope.kind=.function
 nocell:∀ y∈scope.names,y.2≠.cell
 names:∀ y∈scope.names,y.2=.local->scope.names.lookup y.1=some .local
 clos:∃ cl,Clos X scope cl
 hcap:cap.map (fun j=>X.N[j]?)=capN.map some
 hcl:∀ x∈capN,(CC scope X.env).names.lookup x=some .cell\/(CC scope X.env).names.lookup x=some .free
 hvis:∀ x∈capN,X.env.scope.names.lookup x=some .cell\/X.env.scope.names.lookup x=some .free
section
variable {X:Cx} {tg elt iter:Expr} {ifs:List Expr} {scope:Scope} {pos:Pos} {wi:TI} {g:TG} {tt:TT} {te:TE} {xs capN:List Str} {cap:List Nat}
theorem aZ {use:Option (zV->Sem Unit)} {Q:zV->zW->Prop} {QQ:VK} (hc:X.calm=true) (F:CompFacts X scope xs capN cap) (hi:PI X tg iter wi)
   (hg:∀ X',Blk X X' (xs++capN) (CC scope X.env)->PG X' tg g) (ht:∀ X',Blk X X' (xs++capN) (CC scope X.env)->PTs X' ifs tt) (he:∀ X',Blk X X' (xs++capN) (CC scope X.env)->PE X' elt te)
   (hs:∀ x,x8 iter X.env x=pure x)
   {pins:List (c6×Obj)} {s:zW} {Z:St} {H:Hp} (I:Inv X pins Z H s) (h:eK wi (fun Z=>xs.map (fun _=>none)++Fp Z cap) g tt te Z H QQ) {ps:Pos}
   (fin:∀ (s':zW) (H':Hp) (D C:c6) (m:Str->Option zV),Inv X pins Z H' s'->s'.heap.Ns C m->(H' C=none/\X.s₀.heap.objs.size<=C/\C≠X.env.locals/\(∀ x c,X.env.cells.lookup x=some c->c≠C)/\∀ p∈X.pn++pins,p.1≠C) ->
     QQ (.ref D) H'->compPost (i9 X.prog X.w) X.A X.xe use Q (.ref D) C (.ok .next) s') :
   wpAny (i9 X.prog X.w) X.A (comprehension (.ListComp elt [⟨tg,iter,ifs,0⟩] scope pos) scope X.env ps (newList []) false (eval iter X.env) use) Q X.xe s:=by
 obtain ⟨cl,C⟩:=F.clos;refine wpAny_comprehension_free rfl hs C.clo F.kind F.names (thn (hi pins s Z H _ I h) fun v s1 h1=>thn h1 fun itv s2 h2=>?_);obtain ⟨it,fp,tn,J,H2,e,I2,T,st2,f2,h3⟩:=h2;subst e;refine o0 ?_;obtain ⟨W,⟨m0,w0⟩,turn⟩:=h3 s2.heap.objs.size I2.fresh;have I3:Inv X pins Z (upd H2 s2.heap.objs.size (.lst [])) { s2 with heap:=s2.heap.push { cls:=.type "list",dict:=none,data:=.seq ([]:List zV).toArray } }:=I2.lnew (t':=s2.toks) .nil (BY _);generalize hH3:upd H2 s2.heap.objs.size (HO.lst [])=H3 at I3 w0;generalize hs3:({ s2 with heap:=s2.heap.push { cls:=.type "list",dict:=none,data:=.seq ([]:List zV).toArray } }:zW)=s3 at I3
 have hD3:H3 s2.heap.objs.size=some (.lst []):=by rw [<- hH3]; exact C3
 have kp3:∀ b o,s2.heap.get? b=some o->s3.heap.get? b=some o:=fun b o e=>by rw [<- hs3]; exact a8 _ e
 have hDlt:s2.heap.objs.size < s3.heap.objs.size:=by rw [<- hs3]; show _ < (s2.heap.push _).objs.size; rw [GO]; exact FY _
 have flt:∀ b∈fp,b < s2.heap.objs.size:=fun b hb=>by
   obtain ⟨o,e,_⟩:=T.obj 0 _ st2 b hb; exact i8 e
 have flt3:∀ b∈fp,b < s3.heap.objs.size:=fun b hb=>KD (flt b hb) hDlt;have f3:∀ b∈fp,Sf X pins H3 b:=fun b hb=>⟨by rw [<- hH3,C4 (m6 (flt b hb))]; exact (f2 b hb).1,(f2 b hb).2⟩;have st3:tn 0 s3.heap:=T.keep 0 _ _ st2 fun b hb o e=>kp3 b o e;show wpAny _ _ (newFunctionEnv scope X.env.globals cl [] X.env.qual none .none (some X.env)) _ _ s3;refine wpAny_newFunctionEnv F.nocell (by intro y hy; simp at hy) (fun h₁ hns₁ hsb₁=>?_) F.kind;have old:∀ b o,s3.heap.get? b=some o->h₁.get? b=some o:=fun b o e=>hsb₁.extBut b o (m6 (i8 e)) (a8 _ e);have B:Blk X (bI X s3 H3 scope cl (xs++capN) fp) (xs++capN) (CC scope X.env):=⟨rfl,rfl,rfl,rfl,rfl,rfl,rfl,rfl,rfl,rfl⟩
 have J0:Inv (bI X s3 H3 scope cl (xs++capN) fp) [] (xs.map (fun _=>none)++Fp Z cap) H3 { s3 with heap:=h₁,toks:=s3.toks+([]:List (Str×zV)).length } :=
   uO I3 F.kind C f3 flt3 F.hcap F.hcl F.hvis hns₁ old
 have st4:tn 0 h₁:=T.keep 0 _ _ st3 fun b hb o e=>old b o e;have hg':=hg _ B;have ht':=ht _ B;have he':=he _ B;generalize hX':bI X s3 H3 scope cl (xs++capN) fp=X' at B J0 hg' ht' he';have hex:X'.ex=fp:=by rw [<- hX']; rfl
 have hloc:X'.env.locals=s3.heap.objs.size:=by rw [<- hX']; rfl
 have henv:X'.env=compEnvC scope cl s3.heap.objs.size X.env:=by rw [<- hX']; rfl
 have hpn:X'.pn=[]:=by rw [<- hX']; rfl
 have hxe:X'.xe=fun _ _=>False:=by rw [<- hX']; rfl
 have hH0:X'.H₀=H3:=by rw [<- hX']; rfl
 have hs0:X'.s₀=s3:=by rw [<- hX']; rfl
 have hfs:X'.fs=frs X.stack:=by rw [<- hX']; rfl
 have hP:X'.prog=X.prog:=B.prog;have hw:X'.w=X.w:=B.w;have hA:X'.A=X.A:=B.A;have nfs:∀ b∈fp,b∉X'.fs:=fun b hb z=>J0.ok.exfs b (by rw [hex]; exact hb) z;have stat:∀ {pn':List (c6×Obj)} {H':Hp},(∀ b∈fp,H' b=none)->(∀ p∈pn',p.1∉fp)->∀ b∈fp,Sf X' pn' H' b:=fun {pn' H'} hn hp b hb =>
   ⟨hn b hb,by rw [hloc]; exact m6 (flt3 b hb),nfs b hb,.inl (by rw [hex]; exact hb),fun x c e=>(J0.ok.exf b (by rw [hex]; exact hb)).2 x c e,fun p hp' z=>by
     rw [hpn,l3] at hp'; exact hp p hp' (z▸hb)⟩
 have loop : ∀ s₀' : zW, Inv X' [] (xs.map (fun _ => none) ++ Fp Z cap) H3 s₀' -> tn 0 s₀'.heap ->
     GJ (i9 X.prog X.w) X.A (.compLoop (.ListComp elt [⟨tg,iter,ifs,0⟩] scope pos) 0 (.ref it) (.ref s2.heap.objs.size) X'.env) (compPost (i9 X.prog X.w) X.A X.xe use Q (.ref s2.heap.objs.size) s3.heap.objs.size) s₀':=by
   intro s₀' J1 st5; refine Xu (fun n s'=>∃ i H',Inv X' [] (xs.map (fun _=>none)++Fp Z cap) H' s'/\tn i s'.heap/\(∀ b∈fp,H' b=none)/\W i n H') ?_ m0 ⟨0,H3,J1,st5,fun b hb=>(f3 b hb).1,w0⟩;rintro n s4 ⟨i,H4,J4,st4,fr4,w4⟩;rcases turn i n H4 w4 with ⟨stop,qn⟩ | ⟨go,N,hN,step⟩
   . have hd:=T.done X' B.prog B.w B.K (B.calm.trans hc) i [] s4 _ H4 (fun _ _=>False) J4 (stat fr4 (by simp)) st4 stop
     rw [hA] at hd; refine thn hd fun r s5 hZ2=>?_;obtain ⟨hr,J5⟩:=hZ2; subst hr; have un:Un (frs X.stack) fp H3 H4 s3.heap s5.heap:=by
       have:=J5.base; rw [hfs,hex,hH0,hs0] at this; exact this
     have ho:s5.os=s3.os:=by rw [J5.os,hs0]
     have hok5:HOk X.prog X.w H4 s5.heap:=by have:=J5.hok; rw [hP,hw] at this; exact this
     have I5:Inv X pins Z H4 s5:=I3.call' ho un hok5 J5.bare fun b hb=>⟨(f3 b hb).2.2.2.1,(f3 b hb).2.1,(f3 b hb).2.2.2.2.1,(f3 b hb).2.2.2.2.2⟩;obtain ⟨m5,hm5,_⟩:=J5.loc; rw [hloc] at hm5; refine fin s5 H4 _ s3.heap.objs.size m5 I5 hm5 ⟨by have:=J5.free; rw [hloc] at this; exact this,I3.sz,DM I3.lt,fun x c e z=>?_,fun p hp z=>?_⟩ qn
     . obtain ⟨v,q⟩:=I3.cell x c e
       exact absurd q.lt (by rw [z]; exact BV _)
     . exact absurd (i8 (I3.pin p hp).1) (by rw [z]; exact BV _)
   . have hd:=T.item X' B.prog B.w B.K (B.calm.trans hc) i [] s4 _ H4 (fun _ _=>False) J4 (stat fr4 (by simp)) st4 go
     rw [hA] at hd; refine thn hd fun r s5 hZ2=>?_;obtain ⟨u,hr,h5⟩:=hZ2; subst hr; refine thn h5 fun _ s6 hZ2=>?_;obtain ⟨x,H6,J6,r6,y6,st6,fr6⟩:=hZ2; have J6':=J6.pinned (stat fr6 (by simp)) (T.obj _ _ st6);rw [l3] at J6'; have hgx:=hg' _ s6 _ H6 x u _ J6' r6 (step x H6 y6); rw [hP,hw,hA,hxe] at hgx; refine thn hgx fun _ s7 hZ2=>?_;obtain ⟨Z7,H7,J7,wk7,q7⟩:=hZ2; have htx:=ht' _ s7 Z7 H7 _ J7 q7; rw [hP,hw,hA,hxe] at htx; refine thn htx fun ok s8 hZ2=>?_;obtain ⟨H8,J8,q8⟩:=hZ2; have again:∀ {H9:Hp} {s9:zW},Inv X' (Qp fp s6.heap) Z7 H9 s9->N H9->(∃ m,m < n/\∃ i H',Inv X' [] (xs.map (fun _=>none)++Fp Z cap) H' s9/\tn i s9.heap/\(∀ b∈fp,H' b=none)/\W i m H'):=fun {H9 s9} J9 n9=>by
       obtain ⟨m',hm,w9⟩:=hN H9 n9; have pin9:∀ b∈fp,∀ o,s6.heap.get? b=some o->s9.heap.get? b=some o/\H9 b=none:=fun b hb o e=>by
         have:=J9.pin (b,o) (AE _ (Ij hb e)); exact ⟨this.1,this.2.1⟩
       refine ⟨m',hm,i+1,H9,(J9.weak wk7.1 wk7.2).pins_of (fun p hp=>nomatch hp),T.keep _ _ _ st6 fun b hb o e=>(pin9 b hb o e).1,fun b hb=>?_,w9⟩;obtain ⟨o,e,d⟩:=T.obj _ _ st6 b hb; exact (pin9 b hb o e).2
     cases ok with
     | false =>
       rw [if_neg (by decide)] at q8 ⊢;exact again J8 q8
     | true =>
       rw [if_pos rfl] at q8 ⊢;have hex:=he' _ s8 Z7 H8 _ J8 q8; rw [hP,hw,hA,hxe] at hex; refine thn hex fun y s9 hZ2=>?_;obtain ⟨x9,H9,J9,r9,acc,ha,hz,n9⟩:=hZ2; have hap:=Mc (X:=X') _ s9 Z7 H9 (.ref s2.heap.objs.size) [x9] (.ref s2.heap.objs.size) [y] (fun _ H'=>N H') J9 rfl (.cons r9 .nil) ⟨_,acc,x9,rfl,rfl,ha,hz,n9⟩;rw [hP,hw,hA,hxe] at hap; exact thn hap fun _ s10 hZ2=>by obtain ⟨_,H10,J10,_,n10⟩:=hZ2; exact again J10 n10
 have e0:({ (newEnv scope s3.heap.objs.size X.env.globals cl X.env.qual none .none (some X.env) IN:Env) with scope:=CC scope X.env }:Env)=X'.env:=by rw [henv]; rfl
 have e1:(newEnv scope s3.heap.objs.size X.env.globals cl X.env.qual none .none (some X.env) IN:Env).locals=s3.heap.objs.size:=rfl;show GJ _ _ (.compStart _ 0 (.ref it) (.ref s2.heap.objs.size) ({ (newEnv scope s3.heap.objs.size X.env.globals cl X.env.qual none .none (some X.env) IN:Env) with scope:=CC scope X.env }:Env)) (compPost _ _ _ _ _ _ s3.heap.objs.size) _;rw [e0];exact codeAny_compStart_list (loop _ J0 st4) (T.self _ 0 _ _ _ st4 (loop _ J0 st4))
theorem eX (hc:X.calm=true) (F:X.Ok->CompFacts X scope xs capN cap) (hi:PI X tg iter wi)
   (hg:∀ X',Blk X X' (xs++capN) (CC scope X.env)->PG X' tg g) (ht:∀ X',Blk X X' (xs++capN) (CC scope X.env)->PTs X' ifs tt) (he:∀ X',Blk X X' (xs++capN) (CC scope X.env)->PE X' elt te)
   (hs:∀ x,x8 iter X.env x=pure x:=by intro _; rfl):PE X (.ListComp elt [⟨tg,iter,ifs,0⟩] scope pos) (eK wi (fun Z=>xs.map (fun _=>none)++Fp Z cap) g tt te):=by
 intro pins s Z H Q I h;rw [eval_ListComp];refine aZ (use:=none) hc (F I.ok) hi hg ht he hs I h fun s' H' D C m I' hm hZ7 q=>?_;obtain ⟨c1,c2,c3,c4,c5⟩:=hZ7;refine ⟨m,hm,fun h' sb=>?_⟩;exact ⟨.ref D,H',I'.turned (t':=s'.toks) (fun b o hb e=>(sb.2 b hb).trans e) c1 c3 (.inr c2) c4 c5,rfl,q⟩
theorem Ic {i:Nat} {y:Str} {py spos:Pos} (hc:X.calm=true) (F:X.Ok->CompFacts X scope xs capN cap) (hi:PI X tg iter wi)
   (hg:∀ X',Blk X X' (xs++capN) (CC scope X.env)->PG X' tg g) (ht:∀ X',Blk X X' (xs++capN) (CC scope X.env)->PTs X' ifs tt) (he:∀ X',Blk X X' (xs++capN) (CC scope X.env)->PE X' elt te)
   (hN:X.N.Nodup) (hy:X.N[i]? = some y) (hl:X.env.scope.names.lookup y=some .local) (hsw:BX (.ListComp elt [⟨tg,iter,ifs,0⟩] scope pos) (some (.Name y py)) spos.line X.env=pure true)
   (hs:∀ x,x8 iter X.env x=pure x:=by intro _; rfl):PS X (.Assign [.Name y py] (.ListComp elt [⟨tg,iter,ifs,0⟩] scope pos) spos) (wI (eK wi (fun Z=>xs.map (fun _=>none)++Fp Z cap) g tt te) (V3 i)):=by
 intro pins s Z H D0 I h;rw [exec_Assign_Name_used _ _ _ _ hsw];refine zT (wpAny_standAt (zT ?_));show wpAny _ _ (do let _ <- comprehension (.ListComp elt [⟨tg,iter,ifs,0⟩] scope pos) scope X.env _ (newList []) false (eval iter X.env) (some (JP (.Name y py) X.env))) _ _ s;refine zT (z9 (aZ (use:=some (JP (.Name y py) X.env)) (Q:=fun _ s'=>SP X pins D0 .next s') hc (F I.ok) hi hg ht he hs I h fun s' H' D C m I' hm hY33 q=>?_) (fun _ s' hq=>zU (zU hq)) fun _ _ e=>e);obtain ⟨c1,c2,c3,c4,c5⟩:=hY33;show wpAny _ _ (JP (.Name y py) X.env (.ref D)) _ _ s'
 refine wpAny_assign_Name (Ud I' hN hy (.inl hl) (v:=.ref D) rfl (fun s'' I'' hY34=>?_) (.inr hl));obtain ⟨a,sa,ea⟩:=hY34;have haC:a≠C:=by
   rcases ea with z | z
   . rw [z]; exact Ne.symm c3
   . exact c4 _ _ z
 refine ⟨m,hm.sameBut sa (Ne.symm haC),fun h' sb=>?_⟩;exact ⟨_,H',I''.turned (t':=s''.toks) (fun b o hb e=>(sb.2 b hb).trans e) c1 c3 (.inr c2) c4 c5,q⟩
end
end Sm
end
section
namespace L2
open PySem PySem.Spec PyProof.Rows
section
variable {X:Cx} {pins:List (c6×Obj)} {Z:St} {H:Hp} {s:zW}
theorem Inv.big (I:Inv X pins Z H s):CH < s.heap.objs.size:=by
 have h:z0 < s.heap.objs.size:=(I.mod.glob.keeps I.bk).lt;exact KD (by decide) h
end
def zR (i:Expr):Prop:=∀ ov iv,MD i false ov iv=operate [ov,iv] (GU ov iv)
theorem qM {prog:j5} {w:l9} {A:u5} {E:zV->zW->Prop} {s:zW} {env:Env} {value slice:Expr} {pos:Pos} {T id:String} {Q:zV->zW->Prop}
   (hl:KN (.type T) "__getitem__" = pure (some (.builtin id))) (hs:zR slice)
   (h:wpAny (i9 prog w) A (eval value env) (fun o s₁=>wpAny (i9 prog w) A (eval slice env) (fun i s₂=>s₂.TypeIs o T/\wpAny (i9 prog w) A (GU o i) Q E s₂) E s₁) E s) :
   wpAny (i9 prog w) A (eval (.Subscript value slice pos) env) Q E s:=by
 refine Subscript_ (z9 h (fun o s₁ h₁=>z9 h₁ (fun i s₂ h₂=>?_) fun _ _ x=>x) fun _ _ x=>x);obtain ⟨hT,h₂⟩:=h₂;unfold subscriptTail;refine zT ?_;rw [getitemInPython_of_ne hT.not_modules];refine zT (CG hT hl ?_);have fin:wpAny (i9 prog w) A (MD slice false o i) (fun r s₃=>wpAny (i9 prog w) A (letTemporaryGo value o r>>=fun _=>pure r) Q E s₃) E s₂:=by
   rw [hs o i]; exact wpAny_operating (z9 h₂ (fun r s₃ h₃=>zT (wpAny_letTemporaryGo (zU h₃))) fun _ _ x=>x)
 first
   | exact zU (zT fin)
   | exact zT (zU (zT fin))
   | exact zT fin
theorem oS {P:j5} {w:l9} {H:Hp} (h:p9) (hb:CH < h.objs.size):ObjOk P w H (h.push { cls:=.type "dict",data:=.dict #[] }) h.objs.size (.dT []) :=
 ⟨BY _,beq_eq_false_iff_ne.mpr (Ne.symm (m6 hb)),[],.nil,_,#[],0,e9 _ rfl,⟨rfl,rfl,rfl⟩,rfl,rfl,List.nodup_nil⟩
def wH:TE:=fun _ H Q=>∀ p,H p=none->Q (.ref p) (upd H p (.dT []))
section
variable {X:Cx} {pos:Pos}
theorem mT:PE X (.Dict [] [] pos) wH:=fun pins s Z H Q I h =>
 wpAny_Dict_empty ⟨.ref s.heap.objs.size,_,I.laid (a:=s.heap.objs.size) (o:=.dT []) (t':=s.toks) (fun _ _ q=>a8 _ q) (f8 _) (oS s.heap I.big),rfl,h _ (I.hok.fresh (f8 _))⟩
end
structure M2 (X:Cx) (o:Expr) (m:Str) (apos:Pos) (e f:Expr) (cpos:Pos):Prop where
 base:DC o m X.env (eval o X.env)=eval o X.env
 few:((AN cpos (e8 [e,f] X.env)).all (fun x => !x.1)&&(JO cpos (GL [] X.env)).all (fun x=>x.1.isSome)
   && decide (([e,f]:List Expr).length+([]:List FK).length+(if ([]:List FK).isEmpty then 0 else 1) < 30))=true
 line:(apos.endLine==cpos.line)=true
 trees:AN cpos (e8 [e,f] X.env)=[(false,eval e X.env),(false,eval f X.env)]
end L2
end
section
namespace Sm
open PySem PySem.Spec PyProof.Rows L2
inductive Res (α:Type) where
 | ok (a:α)
 | exc (c:Str)
 | no
noncomputable def Res.bind {α β:Type}:Res α->(α->Res β)->Res β
 | .ok a,k=>k a
 | .exc c,_=>.exc c
 | .no,_=>.no
noncomputable def ofO {α:Type}:Option α->Res α
 | some a=>.ok a
 | none=>.no
inductive Sl where
 | un
 | sh (d:zS)
 | ow (d:zS)
 | fd (kvs:List (zS×zS))
abbrev Dn:=List Sl
mutual
noncomputable def Rep (G:Hp):zS->V->Prop
 | .none,v=>v=.non
 | .bool b,v=>v=.bl b
 | .int i,v=>v=.int i
 | .str x,v=>v=.str x/\l7 x=true/\x.length<=sizeLine
 | .list ds,v=>∃ a xs,v=.ref a/\Rd G a (.lst xs)/\RepL G ds xs
 | .tuple ds,v=>∃ a xs,v=.ref a/\G a=some (.tup xs)/\RepL G ds xs
 | .dict _,_=>False
noncomputable def RepL (G:Hp):List zS->List V->Prop
 | [],xs=>xs=[]
 | d::ds,xs=>∃ x r,xs=x::r/\Rep G d x/\RepL G ds r
end
theorem Rd.mono {G G':Hp} (h:Same G G') {a:c6} {u:HO} (r:Rd G a u):Rd G' a u:=by
 rcases r with r | ⟨o,r⟩
 . exact .inl (h _ _ r)
 . exact .inr ⟨o,h _ _ r⟩
mutual
theorem Rep.mono {G G':Hp} (h:Same G G'):∀ {d:zS} {v:V},Rep G d v->Rep G' d v
 | .none,_,r=>r
 | .bool _,_,r=>r
 | .int _,_,r=>r
 | .str _,_,r=>r
 | .list _,_,r=>by obtain ⟨a,xs,e,q,l⟩:=r; exact ⟨a,xs,e,Rd.mono h q,RepL.mono h l⟩
 | .tuple _,_,r=>by obtain ⟨a,xs,e,q,l⟩:=r; exact ⟨a,xs,e,h _ _ q,RepL.mono h l⟩
 | .dict _,_,r=>r.elim
theorem RepL.mono {G G':Hp} (h:Same G G'):∀ {ds:List zS} {xs:List V},RepL G ds xs->RepL G' ds xs
 | [],_,r=>r
 | _::_,_,r=>by obtain ⟨x,t,e,q,l⟩:=r; exact ⟨x,t,e,Rep.mono h q,RepL.mono h l⟩
end
mutual
theorem Rep.lay {G:Hp}:∀ {d:zS} {v:V},Rep G d v->d.canLay0=true
 | .none,_,r=>rfl
 | .bool _,_,r=>rfl
 | .int _,_,r=>rfl
 | .str _,_,r=>r.2.1
 | .list _,_,r=>by obtain ⟨a,xs,e,q,l⟩:=r; exact RepL.lay l
 | .tuple _,_,r=>by obtain ⟨a,xs,e,q,l⟩:=r; exact RepL.lay l
 | .dict _,_,r=>r.elim
theorem RepL.lay {G:Hp}:∀ {ds:List zS} {xs:List V},RepL G ds xs->BB ds=true
 | [],_,r=>rfl
 | _::_,_,r=>by
   obtain ⟨x,t,e,q,l⟩:=r; rw [BB,Rep.lay q,RepL.lay l]; rfl
end
noncomputable section
variable {G:Hp}
theorem RepL.cons {d:zS} {ds:List zS} {x:V} {xs:List V} (h:Rep G d x) (t:RepL G ds xs):RepL G (d::ds) (x::xs):=⟨x,xs,rfl,h,t⟩
theorem RepL.length:∀ {ds:List zS} {xs:List V},RepL G ds xs->ds.length=xs.length:=by
 intro iN; induction iN with
 | nil=>intro _ r; cases (show _=_ from r); rfl
 | cons d ds ih=>intro _ r; obtain ⟨x,t,rfl,q,l⟩:=r; simp [ih l]
theorem RepL.get:∀ {ds:List zS} {xs:List V} {i:Nat} {d:zS},RepL G ds xs->ds[i]? = some d->∃ x,xs[i]? = some x/\Rep G d x
 | [],_,_,_,_,e=>by simp at e
 | d::ds,_,0,_,r,e=>by obtain ⟨x,t,rfl,q,l⟩:=r; simp at e; subst e; exact ⟨x,rfl,q⟩
 | d::ds,_,i+1,_,r,e=>by
   obtain ⟨x,t,rfl,q,l⟩:=r; obtain ⟨y,h1,h2⟩:=RepL.get (i:=i) l (by simpa using e);exact ⟨y,by simpa using h1,h2⟩
theorem RepL.append:∀ {ds es:List zS} {xs ys:List V},RepL G ds xs->RepL G es ys->RepL G (ds++es) (xs++ys):=by
 intro iN; induction iN with
 | nil=>intro _ _ _ r q; cases (show _=_ from r); exact q
 | cons d ds ih=>intro _ _ _ r q; obtain ⟨x,t,rfl,h,l⟩:=r; exact RepL.cons h (ih l q)
theorem RepL.drop:∀ (n:Nat) {ds:List zS} {xs:List V},RepL G ds xs->RepL G (ds.drop n) (xs.drop n)
 | 0,_,_,r=>r
 | _+1,[],_,r=>by cases (show _=_ from r); exact rfl
 | n+1,d::ds,_,r=>by obtain ⟨x,t,rfl,h,l⟩:=r; exact RepL.drop n l
theorem RepL.take:∀ (n:Nat) {ds:List zS} {xs:List V},RepL G ds xs->RepL G (ds.take n) (xs.take n)
 | 0,_,_,r=>rfl
 | _+1,[],_,r=>by cases (show _=_ from r); exact rfl
 | n+1,d::ds,_,r=>by obtain ⟨x,t,rfl,h,l⟩:=r; exact RepL.cons h (RepL.take n l)
theorem RepL.rep {ds:List zS} {xs:List V} (r:RepL G ds xs):∀ k:Nat,RepL G (i4 k ds).flatten (i4 k xs).flatten:=by
 intro iN; induction iN with
 | zero=>skip; exact rfl
 | succ k ih =>
   skip
   rw [BJ,BJ,DY,DY]; exact RepL.append r (ih)
theorem RepL.ints (ns:List Int):RepL G (ns.map p5) (ns.map V.int):=by
 induction ns with
 | nil=>exact rfl
 | cons n ns ih=>exact RepL.cons rfl ih
theorem RepL.dropLast {ds:List zS} {xs:List V} (r:RepL G ds xs):RepL G ds.dropLast xs.dropLast:=by
 rw [NJ,NJ,r.length];exact RepL.take _ r
end
structure Grow (G H G' H':Hp):Prop where
 g:Same G G'
 h:Same H H'
 gh:Same G' H'
 fr:∀ b o,G' b=some o->G b=some o\/H b=none\/∃ xs,o=HO.tup xs
theorem Grow.refl {G H:Hp} (h:Same G H):Grow G H G H:=⟨Same.refl _,Same.refl _,h,fun _ _ e=>.inl e⟩
theorem Grow.trans {G H G1 H1 G2 H2:Hp} (a:Grow G H G1 H1) (b:Grow G1 H1 G2 H2):Grow G H G2 H2 :=
 ⟨a.g.trans b.g,a.h.trans b.h,b.gh,fun c o e=>by
   rcases b.fr c o e with q | q | q
   . exact a.fr c o q
   . exact .inr (.inl (a.h.free q))
   . exact .inr (.inr q)⟩
theorem Same.upd {H:Hp} {p:c6} {o:HO} (h:H p=none):Same H (upd H p o):=fun b u e=>by
 rw [C4 (E3 e h)]; exact e
theorem Grow.new {G H:Hp} {p:c6} {o:HO} (s:Same G H) (h:H p=none):Grow G H (upd G p o) (upd H p o):=by
 have hg:G p=none:=s.free h;refine ⟨Same.upd hg,Same.upd h,fun b u e=>?_,fun b u e=>?_⟩
 . by_cases hb:b=p
   . subst hb; rw [C3] at e ⊢; exact e
   . rw [C4 hb] at e ⊢; exact s _ _ e
 . by_cases hb:b=p
   . subst hb; exact .inr (.inl h)
   . rw [C4 hb] at e; exact .inl e
theorem Grow.own {G H:Hp} {p:c6} {o:HO} (s:Same G H) (h:H p=none):Grow G H G (upd H p o) :=
 ⟨Same.refl _,Same.upd h,s.trans (Same.upd h),fun _ _ e=>.inl e⟩
noncomputable def yK:Key->zS
 | .inl i=>.int i
 | .inr x=>.str x
noncomputable def vL (kk:List (Key×V)):List (List Key×V):=kk.map fun p=>([p.1],p.2)
noncomputable def OwnK (G H:Hp) (a:c6):List zS->Prop
 | [.dict kvs]=>∃ kk:List (Key×V),H a=some (.dK kk)/\kvs.map (·.1)=(vL kk).map (fun p=>AD (p.1.map yK))/\RepL G (kvs.map (·.2)) ((vL kk).map (·.2))
 | [.dict kvs,.none]=>∃ kk:List (zS×V),H a=some (.dN kk)/\kvs.map (·.1)=kk.map (·.1)/\RepL G (kvs.map (·.2)) (kk.map (·.2))
 | _=>False
theorem OwnK.keep {G G' H H':Hp} {a:c6} {xs:List zS} (g:Same G G') (e:∀ o,H a=some o->H' a=some o) (h:OwnK G H a xs):OwnK G' H' a xs:=by
 unfold OwnK at h ⊢;split at h
 . obtain ⟨kk,h1,h2,h3⟩:=h
   exact ⟨kk,e _ h1,h2,h3.mono g⟩
 . obtain ⟨kk,h1,h2,h3⟩:=h
   exact ⟨kk,e _ h1,h2,h3.mono g⟩
 . exact h.elim
theorem OwnK.is {G H:Hp} {a:c6} {xs:List zS} (h:OwnK G H a xs):∃ o,H a=.some o:=by
 unfold OwnK at h;split at h
 . obtain ⟨kk,h1,_⟩:=h
   exact ⟨_,h1⟩
 . obtain ⟨kk,h1,_⟩:=h
   exact ⟨_,h1⟩
 . exact h.elim
noncomputable def OwnOk (G H:Hp) (a:c6):zS->Prop
 | .list ds=>∃ xs,H a=some (.lst xs)/\RepL G ds xs
 | .dict kvs=>∃ kk:List (List Key×V),H a=some (.dT kk)/\kvs.map (·.1)=kk.map (fun p=>AD (p.1.map yK))/\RepL G (kvs.map (·.2)) (kk.map (·.2))
 | .tuple xs=>OwnK G H a xs
 | _=>False
def FdOk (G:Hp) (o:Option V) (kvs:List (zS×zS)):Prop:=match kvs with
 | (.dict [],.none)::r=>∃ a,∃ kk:List (zS×V),o=some (.ref a)/\Rd G a (.dN kk)/\r.map (·.1)=kk.map (·.1)/\RepL G (r.map (·.2)) (kk.map (·.2))
 | _=>∃ a ob,∃ kk:List (List Key×V),o=some (.ref a)/\G a=some (.frz ob (.dT kk))/\kvs.map (·.1)=kk.map (fun p=>AD (p.1.map yK))/\RepL G (kvs.map (·.2)) (kk.map (·.2))
theorem FdOk.mono {G G':Hp} {o:Option V} {kvs:List (zS×zS)} (g:Same G G') (h:FdOk G o kvs):FdOk G' o kvs:=by
 unfold FdOk at h ⊢;split at h
 . obtain ⟨a,kk,h1,h2,h3,h4⟩:=h
   exact ⟨a,kk,h1,Rd.mono g h2,h3,h4.mono g⟩
 . obtain ⟨a,ob,kk,h1,h2,h3,h4⟩:=h
   exact ⟨a,ob,kk,h1,g _ _ h2,h3,h4.mono g⟩
noncomputable def SlOk (G H:Hp) (o:Option V):Sl->Prop
 | .un=>True
 | .sh d=>∃ v,o=some v/\Rep G d v
 | .ow d=>∃ a,o=some (.ref a)/\G a=none/\OwnOk G H a d
 | .fd kvs=>FdOk G o kvs
structure SR (G H:Hp) (Z:St) (δ:Dn):Prop where
 sub:Same G H
 len:Z.length=δ.length
 sl:∀ (i:Nat) (s:Sl),δ[i]? = some s->SlOk G H (Z[i]?.join) s
 ap:∀ (i j:Nat) (a:c6) (d e:zS),δ[i]? = some (.ow d)->δ[j]? = some (.ow e)->Z[i]?.join=some (.ref a)->Z[j]?.join=some (.ref a)->i=j
theorem OwnOk.some {G H:Hp} {a:c6} {d:zS} (h:OwnOk G H a d):∃ o,H a=some o:=by
 cases d with
 | list ds=>obtain ⟨xs,e,_⟩:=h; exact ⟨_,e⟩
 | dict kvs=>obtain ⟨xs,e,_⟩:=h; exact ⟨_,e⟩
 | tuple xs=>exact OwnK.is h
 | _=>exact (show False from h).elim
theorem OwnOk.grow {G H G' H':Hp} (g:Grow G H G' H') {a:c6} {d:zS} (h:OwnOk G H a d):OwnOk G' H' a d:=by
 cases d with
 | list ds=>obtain ⟨xs,e,r⟩:=h; exact ⟨xs,g.h _ _ e,r.mono g.g⟩
 | dict kvs=>obtain ⟨xs,e,k,r⟩:=h; exact ⟨xs,g.h _ _ e,k,r.mono g.g⟩
 | tuple xs=>exact OwnK.keep g.g (fun o e=>g.h _ _ e) h
 | _=>exact (show False from h).elim
theorem OwnOk.noTup {G H:Hp} {a:c6} {d:zS} (h:OwnOk G H a d) {xs:List V} (e:H a=.some (HO.tup xs)):False:=by
 cases d with
 | list ds=>obtain ⟨_,z,_⟩:=h; rw [e] at z; cases z
 | dict kvs=>obtain ⟨_,z,_⟩:=h; rw [e] at z; cases z
 | tuple ys =>
   have h':OwnK G H a ys:=h; unfold OwnK at h';split at h'
   . obtain ⟨_,z,_⟩:=h'; rw [e] at z; cases z
   . obtain ⟨_,z,_⟩:=h'; rw [e] at z; cases z
   . exact h'
 | _=>exact (show False from h).elim
theorem SlOk.grow {G H G' H':Hp} (g:Grow G H G' H') {o:Option V} {s:Sl} (h:SlOk G H o s):SlOk G' H' o s:=by
 cases s with
 | un=>trivial
 | sh d=>obtain ⟨v,e,r⟩:=h; exact ⟨v,e,r.mono g.g⟩
 | fd kvs=>exact FdOk.mono g.g h
 | ow d =>
   obtain ⟨a,e,n,r⟩:=h; refine ⟨a,e,?_,r.grow g⟩;cases q:G' a with
   | none=>rfl
   | some u =>
     obtain ⟨o',eo⟩:=r.some; rcases g.fr a u q with z | z | ⟨xs,rfl⟩
     . rw [n] at z; cases z
     . rw [eo] at z; cases z
     . exact ((r.grow g).noTup (g.gh _ _ q)).elim
theorem SR.grow {G H G' H':Hp} {Z:St} {δ:Dn} (S:SR G H Z δ) (g:Grow G H G' H'):SR G' H' Z δ :=
 ⟨g.gh,S.len,fun i s e=>(S.sl i s e).grow g,S.ap⟩
abbrev EK:=Str->Hp->Prop
def Aft (E:EK) (G H:Hp) (r:Res zS) (Q:VK):Prop:=match r with
 | .ok d=>∀ v G' H',Grow G H G' H'->Rep G' d v->Q v H'
 | .exc c=>∀ G' H',Grow G H G' H'->E c H'
 | .no=>False
def tD (E:EK) (f:Dn->Res zS):TE:=fun Z H Q=>∃ G δ,SR G H Z δ/\Aft E G H (f δ) Q
abbrev DE (X:Cx) (E:EK) (e:Expr) (f:Dn->Res zS):Prop:=PE X e (tD E f)
theorem Aft.grow {E:EK} {G H G' H':Hp} {r:Res zS} {Q:VK} (g:Grow G H G' H') (a:Aft E G H r Q):Aft E G' H' r Q:=by
 cases r with
 | ok d=>exact fun v G2 H2 g2 q=>a v G2 H2 (g.trans g2) q
 | exc c=>exact fun G2 H2 g2=>a G2 H2 (g.trans g2)
 | no=>exact a
theorem PE.imp {X:Cx} {e:Expr} {t t':TE} (h:PE X e t) (i:∀ Z H Q,t' Z H Q->t Z H Q):PE X e t':=fun pins s Z H Q I q=>h pins s Z H Q I (i _ _ _ q)
theorem I0 {E:EK} {G H:Hp} {Z:St} {δ:Dn} {f:Dn->Res zS} {k:zS->Res zS} {Q R:VK} (S:SR G H Z δ) (a:Aft E G H ((f δ).bind k) Q)
   (h:∀ d v G1 H1,Grow G H G1 H1->Rep G1 d v->SR G1 H1 Z δ->Aft E G1 H1 (k d) Q->R v H1):tD E f Z H R:=by
 refine ⟨G,δ,S,?_⟩;cases e:f δ with
 | ok d =>
   rw [e] at a; exact fun v G' H' g r=>h d v G' H' g r (S.grow g) (Aft.grow g a)
 | exc c=>rw [e] at a; exact a
 | no=>rw [e] at a; exact a
noncomputable section
variable {X:Cx} {E:EK} {pos:Pos}
noncomputable def vC (d:zS):Dn->Res zS:=fun _=>.ok d
noncomputable def A1 (i:Nat):Dn->Res zS:=fun δ=>match δ[i]? with
 | some (.sh d)=>.ok d
 | _=>.no
theorem A9 {i:Int} {j:Nat}:DE X E (.Constant (.int i) j pos) (vC (.int i)):=PE.imp xJ fun Z H Q hZ3=>by obtain ⟨G,δ,S,a⟩:=hZ3; exact a _ G H (Grow.refl S.sub) rfl
theorem N5 {b:Bool} {j:Nat}:DE X E (.Constant (.bool b) j pos) (vC (.bool b)):=PE.imp pe_bl fun Z H Q hZ3=>by obtain ⟨G,δ,S,a⟩:=hZ3; exact a _ G H (Grow.refl S.sub) rfl
theorem Xo {j:Nat}:DE X E (.Constant .none j pos) (vC .none):=PE.imp xH fun Z H Q hZ3=>by obtain ⟨G,δ,S,a⟩:=hZ3; exact a _ G H (Grow.refl S.sub) rfl
theorem L3 {x:Str} {j:Nat} (h:l7 x=true:=by decide +kernel) (hl:x.length<=sizeLine:=by decide +kernel):DE X E (.Constant (.str x) j pos) (vC (.str x)) :=
 PE.imp mN fun Z H Q hZ3=>by obtain ⟨G,δ,S,a⟩:=hZ3; exact a _ G H (Grow.refl S.sub) ⟨rfl,h,hl⟩
theorem yZ {i:Nat} {x:Str} (hN:X.N[i]? = some x) (hv:Vis X.env.scope x) (hd:(x==("__debug__" : Str))=false) (hcd:(x==("__classdict__" : Str))=false):DE X E (.Name x pos) (A1 i) :=
 PE.imp (cV hN hv hd hcd) fun Z H Q hZ3=>by
   obtain ⟨G,δ,S,a⟩:=hZ3; unfold A1 at a;split at a
   . rename_i d e
     obtain ⟨v,e1,r⟩:=S.sl i _ e; refine ⟨v,?_,a _ G H (Grow.refl S.sub) r⟩;cases q:Z[i]? with
     | none=>rw [q] at e1; cases e1
     | some w=>rw [q] at e1; cases w with
       | none=>cases e1
       | some w=>cases e1; rfl
   . exact a.elim
noncomputable def b2 (f g:Dn->Res zS) (op:zS->zS->Option zS):Dn->Res zS:=fun δ=>(f δ).bind fun x=>(g δ).bind fun y=>ofO (op x y)
def OpD (r:R2) (op:zS->zS->Option zS):Prop:=∀ (G H:Hp) (x y:V) (a b d:zS) (Q:VK),Same G H->Rep G a x->Rep G b y->op a b=some d->(∀ v G' H',Grow G H G' H'->Rep G' d v->Q v H')->r x y H Q
theorem kW {r:R2} {op:zS->zS->Option zS} {f g:Dn->Res zS} (ho:OpD r op) {Z:St} {H:Hp} {Q:VK} (h:tD E (b2 f g op) Z H Q):tOp r (tD E f) (tD E g) Z H Q:=by
 obtain ⟨G,δ,S,a⟩:=h;refine I0 S a fun d1 v1 G1 H1 g1 r1 S1 a1=>?_;refine I0 S1 a1 fun d2 v2 G2 H2 g2 r2 S2 a2=>?_;cases e:op d1 d2 with
 | none=>rw [e] at a2; exact a2.elim
 | some d=>rw [e] at a2; exact ho G2 H2 v1 v2 d1 d2 d Q S2.sub (r1.mono g2.g) r2 e a2
theorem aY {a b:Expr} {o:Operator} {r:R2} {op:zS->zS->Option zS} {f g:Dn->Res zS} (hr:OpR X (IF o) r) (ho:OpD r op) (ha:DE X E a f) (hb:DE X E b g):DE X E (.BinOp a o b pos) (b2 f g op) :=
 PE.imp (pe_op hr ha hb) fun _ _ _ h=>kW ho h
theorem fS {a b:Expr} {o:BZ} {r:R2} {op:zS->zS->Option zS} {f g:Dn->Res zS} (hr:OpR X (x0 o) r) (ho:OpD r op) (ha:DE X E a f) (hb:DE X E b g) (hm:behindInMarks o b=false):DE X E (.Compare a [o] [b] pos) (b2 f g op) :=
 PE.imp (sA hr ha hb hm) fun _ _ _ h=>kW ho h
end
end Sm
end
noncomputable section
namespace Sm
open PySem PySem.Spec PyProof.Rows L2
noncomputable section
variable {X:Cx} {pins:List (c6×Obj)} {Z:St} {H G:Hp} {s:zW}
theorem Z5 (I:Inv X pins Z H s) {a:c6} {xs:List V} (hG:Same G H) (r:Rd G a (.lst xs)):xs.length<=sizeLine/\∃ (its:List zV) (n:Nat),Vals xs its/\s.heap.get? a=some { cls:=.type "list",data:=.seq its.toArray n } :=
 (Rd.ok (Rd.mono hG r) I.hok:ObjOk X.prog X.w H s.heap a (.lst xs))
theorem Lw (I:Inv X pins Z H s) {a:c6} {xs:List V} (hG:Same G H) (r:G a=some (.tup xs)):xs.length<=sizeLine/\∃ its:List zV,Vals xs its/\IX s.heap a its.toArray :=
 (I.hok a _ (hG _ _ r):ObjOk X.prog X.w H s.heap a (.tup xs))
mutual
theorem Rep.reads (I:Inv X pins Z H s) (hG:Same G H):∀ {d:zS} {v:V} {u:zV},Rep G d v->RelV v u->∃ as,Reads s.heap u d as
 | .none,_,_,r,q=>by cases (show _=_ from r); cases q; exact ⟨_,.none⟩
 | .bool _,_,_,r,q=>by cases (show _=_ from r); cases q; exact ⟨_,.bool _⟩
 | .int _,_,_,r,q=>by cases (show _=_ from r); obtain ⟨t,rfl⟩:=q; exact ⟨_,.int _ _⟩
 | .str _,_,_,r,q=>by cases r.1; obtain ⟨t,rfl⟩:=q; exact ⟨_,.str _ _⟩
 | .list _,_,_,r,q=>by
   obtain ⟨a,xs,rfl,h,l⟩:=r; cases q; obtain ⟨z,its,n,rv,e⟩:=Z5 I hG h; obtain ⟨as,ra⟩:=RepL.reads I hG l rv; exact ⟨_,.list e rfl rfl (by simpa using ra)⟩
 | .tuple _,_,_,r,q=>by
   obtain ⟨a,xs,rfl,h,l⟩:=r; cases q; obtain ⟨z,its,rv,o,e,c,n,hd⟩:=Lw I hG h; obtain ⟨as,ra⟩:=RepL.reads I hG l rv; exact ⟨_,.tuple e c hd (by simpa using ra)⟩
 | .dict _,_,_,r,_=>r.elim
theorem RepL.reads (I:Inv X pins Z H s) (hG:Same G H):∀ {ds:List zS} {xs:List V} {us:List zV},RepL G ds xs->Vals xs us->∃ as,ND s.heap us ds as
 | [],_,_,r,q=>by cases (show _=_ from r); cases q; exact ⟨_,.nil⟩
 | _::_,_,_,r,q=>by
   obtain ⟨x,t,rfl,h,l⟩:=r;cases q with
   | cons q qs =>
     obtain ⟨as,r1⟩:=Rep.reads I hG h q; obtain ⟨bs,r2⟩:=RepL.reads I hG l qs; exact ⟨_,.cons r1 r2⟩
end
end
noncomputable def dEq (a b:zS):Option zS:=if min a.depth b.depth<=64 then some (.bool (g9 a b)) else none
noncomputable def dNe (a b:zS):Option zS:=if min a.depth b.depth<=64 then some (.bool (!PyData.eqv a b)) else none
def rK (neg:Bool):R2:=fun x y H Q=>∃ G a b,Same G H/\Rep G a x/\Rep G b y/\min a.depth b.depth<=64/\Q (.bl (if neg then !PyData.eqv a b else g9 a b)) H
noncomputable section
variable {X:Cx}
theorem mY (hu:X.A.units+64 < BD):OpR X (x0 .Eq) (rK false):=by
 rintro pins s Z H x y v u Q I rx ry ⟨G,a,b,hG,ra,rb,hm,q⟩;obtain ⟨as,r1⟩:=ra.reads I hG rx;obtain ⟨bs,r2⟩:=rb.reads I hG ry;exact SeqAt.compareEq_reads r1 r2 ra.lay rb.lay (by lia) ⟨.bl _,H,I,rfl,q⟩
theorem xP (hu:X.A.units+64 < BD):OpR X (x0 .NotEq) (rK true):=by
 rintro pins s Z H x y v u Q I rx ry ⟨G,a,b,hG,ra,rb,hm,q⟩;obtain ⟨as,r1⟩:=ra.reads I hG rx;obtain ⟨bs,r2⟩:=rb.reads I hG ry;exact SeqAt.compareNe_reads r1 r2 ra.lay rb.lay (by lia) ⟨.bl _,H,I,rfl,q⟩
theorem nA:OpD (rK false) dEq:=by
 intro G H x y a b d Q hG ra rb e q;unfold dEq at e;split at e
 . rename_i h; cases e; exact ⟨G,a,b,hG,ra,rb,h,q _ G H (Grow.refl hG) rfl⟩
 . cases e
theorem xR:OpD (rK true) dNe:=by
 intro G H x y a b d Q hG ra rb e q;unfold dNe at e;split at e
 . rename_i h; cases e; exact ⟨G,a,b,hG,ra,rb,h,q _ G H (Grow.refl hG) rfl⟩
 . cases e
end
noncomputable def Kn (x y:Str):Bool := !(Builtin.Str.occurrences y x 0 y.length 1).isEmpty
noncomputable def dIn (neg:Bool) (a b:zS):Option zS:=match b with
 | .list ds=>if min (w5 ds) a.depth<=62 then some (.bool (if neg then !ds.any fun y=>g9 y a else ds.any fun y=>g9 y a)) else none
 | .tuple ds=>if min (w5 ds) a.depth<=62 then some (.bool (if neg then !ds.any fun y=>g9 y a else ds.any fun y=>g9 y a)) else none
 | .str y=>match a with
   | .str x=>some (.bool (if neg then !Kn x y else Kn x y))
   | _=>none
 | _=>none
def wY (neg:Bool):R2:=fun x y H Q=>∃ G a b d,Same G H/\Rep G a x/\Rep G b y/\dIn neg a b=some (.bool d)/\Q (.bl d) H
noncomputable section
variable {X:Cx}
theorem mX (hu:X.A.units+64 < BD):OpR X (x0 .In) (wY false):=by
 rintro pins s Z H x y v u Q I rx ry ⟨G,a,b,d,hG,ra,rb,e,q⟩;cases b with
 | list ds =>
   replace e:(if _ then _ else _)=some _:=e;split at e
   . rename_i h
     cases e; obtain ⟨as,r1⟩:=ra.reads I hG rx; obtain ⟨bs,r2⟩:=rb.reads I hG ry; exact SeqAt.in_list_reads r2 r1 rb.lay ra.lay (by lia) ⟨.bl _,H,I,rfl,q⟩
   . cases e
 | tuple ds =>
   replace e:(if _ then _ else _)=some _:=e;split at e
   . rename_i h
     cases e; obtain ⟨as,r1⟩:=ra.reads I hG rx; obtain ⟨bs,r2⟩:=rb.reads I hG ry; exact SeqAt.in_tuple_reads r2 r1 rb.lay ra.lay (by lia) ⟨.bl _,H,I,rfl,q⟩
   . cases e
 | str z =>
   cases a with
   | str z' =>
     cases e;cases ra.1; cases rb.1;obtain ⟨t,rfl⟩:=rx; obtain ⟨t',rfl⟩:=ry; exact in_str ⟨.bl _,H,I,rfl,q⟩
   | _=>cases e
 | _=>cases e
theorem iO (hu:X.A.units+64 < BD):OpR X (x0 .NotIn) (wY true):=by
 rintro pins s Z H x y v u Q I rx ry ⟨G,a,b,d,hG,ra,rb,e,q⟩;cases b with
 | list ds =>
   replace e:(if _ then _ else _)=some _:=e;split at e
   . rename_i h
     cases e; obtain ⟨as,r1⟩:=ra.reads I hG rx; obtain ⟨bs,r2⟩:=rb.reads I hG ry; exact SeqAt.notIn_list_reads r2 r1 rb.lay ra.lay (by lia) ⟨.bl _,H,I,rfl,q⟩
   . cases e
 | tuple ds =>
   replace e:(if _ then _ else _)=some _:=e;split at e
   . rename_i h
     cases e; obtain ⟨as,r1⟩:=ra.reads I hG rx; obtain ⟨bs,r2⟩:=rb.reads I hG ry; exact SeqAt.notIn_tuple_reads r2 r1 rb.lay ra.lay (by lia) ⟨.bl _,H,I,rfl,q⟩
   . cases e
 | str z =>
   cases a with
   | str z' =>
     cases e;cases ra.1; cases rb.1;obtain ⟨t,rfl⟩:=rx; obtain ⟨t',rfl⟩:=ry; exact notIn_str ⟨.bl _,H,I,rfl,q⟩
   | _=>cases e
 | _=>cases e
theorem Ro {neg:Bool} {a b d:zS} (e:dIn neg a b=some d):∃ k,d=.bool k:=by
 cases b with
 | list ds=>replace e:(if _ then _ else _)=some _:=e; split at e <;> cases e; exact ⟨_,rfl⟩
 | tuple ds=>replace e:(if _ then _ else _)=some _:=e; split at e <;> cases e; exact ⟨_,rfl⟩
 | str z=>cases a with
   | str z'=>cases e; exact ⟨_,rfl⟩
   | _=>cases e
 | _=>cases e
theorem cZ {neg:Bool}:OpD (wY neg) (dIn neg):=by
 intro G H x y a b d Q hG ra rb e q;obtain ⟨k,rfl⟩:=Ro e;exact ⟨G,a,b,k,hG,ra,rb,e,q _ G H (Grow.refl hG) rfl⟩
end
noncomputable def D3:zS->zS->Option zS
 | .int i,.int j=>some (.int (i+j))
 | .str x,.str y=>if x.length+y.length<=sizeLine then some (.str (x++y)) else none
 | .list xs,.list ys=>if xs.length+ys.length<=sizeLine then some (.list (xs++ys)) else none
 | .tuple xs,.tuple ys=>if xs.length+ys.length<=sizeLine then some (.tuple (xs++ys)) else none
 | _,_=>none
def vG:R2:=fun x y H Q=>∃ G a b d,Same G H/\Rep G a x/\Rep G b y/\D3 a b=some d/\∀ v G' H',Grow G H G' H'->Rep G' d v->Q v H'
theorem Em {x y:Str} (hx:l7 x=true) (hy:l7 y=true):l7 (x++y)=true:=by
 unfold l7 at *;show (x.cps++y.cps).all _=true;rw [Array.all_append,hx,hy]; rfl
theorem Pc (x y:Str):(x++y).length=x.length+y.length:=by
 show (x.cps++y.cps).size=_;rw [Array.size_append]; rfl
noncomputable section
variable {X:Cx}
theorem fQ {pins:List (c6×Obj)} {Z:St} {H G:Hp} {s:zW} {Q:VK} {ds:List zS} {xs:List V} {its:List zV} {t':Nat} (I:Inv X pins Z H s) (hG:Same G H) (rv:Vals xs its) (rl:RepL G ds xs) (hz:xs.length<=sizeLine)
   (q:∀ v G' H',Grow G H G' H'->Rep G' (.tuple ds) v->Q v H'):EP X pins Z Q (.ref s.heap.objs.size) { s with heap:=s.heap.push { cls:=.type "tuple",data:=.seq its.toArray },toks:=t' }:=by
 refine ⟨.ref s.heap.objs.size,_,I.laid (t':=t') (o:=.tup xs) (fun b ob q=>a8 _ q) (f8 _) ⟨hz,its,rv,IsTup.new _ _⟩,rfl,q _ (upd G s.heap.objs.size (.tup xs)) _ (Grow.new hG I.fresh) ⟨_,xs,rfl,C3,rl.mono (Same.upd (hG.free I.fresh))⟩⟩
theorem Xl {pins:List (c6×Obj)} {Z:St} {H G:Hp} {s:zW} {Q:VK} {ds:List zS} {xs:List V} {its:List zV} {t':Nat} (I:Inv X pins Z H s) (hG:Same G H) (rv:Vals xs its) (rl:RepL G ds xs) (hz:xs.length<=sizeLine)
   (q:∀ v G' H',Grow G H G' H'->Rep G' (.list ds) v->Q v H'):EP X pins Z Q (.ref s.heap.objs.size) { s with heap:=s.heap.push { cls:=.type "list",data:=.seq its.toArray },toks:=t' }:=by
 refine ⟨.ref s.heap.objs.size,_,I.lnew (t':=t') rv hz,rfl,q _ (upd G s.heap.objs.size (.lst xs)) _ (Grow.new hG I.fresh) ⟨_,xs,rfl,.inl C3,rl.mono (Same.upd (hG.free I.fresh))⟩⟩
theorem sG:OpR X (IF .Add) vG:=by
 rintro pins s Z H x y v u Q I rx ry ⟨G,a,b,d,hG,ra,rb,e,q⟩;cases a with
 | int i=>cases b with
   | int j =>
     cases e;cases (show _=_ from ra); cases (show _=_ from rb);obtain ⟨t,rfl⟩:=rx; obtain ⟨t',rfl⟩:=ry; exact add_int ⟨.int _,H,I.tok _,⟨_,rfl⟩,q _ G H (Grow.refl hG) rfl⟩
   | _=>cases e
 | str i=>cases b with
   | str j =>
     replace e:(if _ then _ else _)=some d:=e;split at e
     . rename_i hz
       cases e; obtain ⟨e1,o1,_⟩:=ra; obtain ⟨e2,o2,_⟩:=rb;cases e1; cases e2;obtain ⟨t,rfl⟩:=rx; obtain ⟨t',rfl⟩:=ry; exact add_str (fun t' tk=>⟨.str (i++j),H,I.tok _,⟨_,rfl⟩,q _ G H (Grow.refl hG) ⟨rfl,Em o1 o2,by rw [Pc]; exact hz⟩⟩) hz
     . cases e
   | _=>cases e
 | list xs=>cases b with
   | list ys =>
     replace e:(if _ then _ else _)=some d:=e;split at e
     . rename_i hz
       cases e; obtain ⟨l,vs,rfl,h1,l1⟩:=ra; obtain ⟨l',ws,rfl,h2,l2⟩:=rb;cases rx; cases ry;obtain ⟨z1,its1,n1,v1,e1⟩:=Z5 I hG h1; obtain ⟨z2,its2,n2,v2,e2⟩:=Z5 I hG h2; have q1:=v1.length; have q2:=v2.length; have q3:=l1.length; have q4:=l2.length; refine PySem.P.add_list e1 e2 ?_ (by rw [i5,i5]; lia);have ea:its1.toArray++its2.toArray=(its1++its2).toArray:=by simp
       rw [ea]; exact Xl (t':=s.toks) I hG (v1.append v2) (l1.append l2) (by rw [l8]; lia) q
     . cases e
   | _=>cases e
 | tuple xs=>cases b with
   | tuple ys =>
     replace e:(if _ then _ else _)=some d:=e;split at e
     . rename_i hz
       cases e; obtain ⟨l,vs,rfl,h1,l1⟩:=ra; obtain ⟨l',ws,rfl,h2,l2⟩:=rb;cases rx; cases ry;obtain ⟨z1,its1,v1,p1⟩:=Lw I hG h1; obtain ⟨z2,its2,v2,p2⟩:=Lw I hG h2; have q1:=v1.length; have q2:=v2.length; have q3:=l1.length; have q4:=l2.length;by_cases hx:its1=[]
       . subst hx
         obtain ⟨⟨cls,dd,data,sl⟩,ho,hc,n,hd⟩:=id p1; obtain ⟨⟨cls2,dd2,data2,sl2⟩,ho2,hc2,n2,hd2⟩:=id p2; simp only at hc hd hc2 hd2; subst hc hd hc2 hd2; refine concat_meets ⟨_,ho,rfl⟩ ⟨_,ho2,rfl⟩ LU seq_tuple_add HG GV (GP _ _)
           (tuple_addW0 l l' _ _ n n2 dd dd2 sl sl2 (by simp)) ⟨ho,ho2,?_⟩
         have hxs:xs=[]:=by
           have:xs.length=0:=by rw [q3,q1]; rfl
           exact w8.mp this
         subst hxs; exact ⟨.ref l',H,I,rfl,q _ G H (Grow.refl hG) ⟨l',ws,rfl,h2,l2⟩⟩
       . refine HT.cat_tup p1 p2 hx (fun hy=>?_) (fun hy=>?_) (by lia)
         . subst hy
           have hys:ys=[]:=by
             have:ys.length=0:=by rw [q4,q2]; rfl
             exact w8.mp this
           subst hys; rw [m8] at q; exact ⟨.ref l,H,I,rfl,q _ G H (Grow.refl hG) ⟨l,vs,rfl,h1,l1⟩⟩
         . exact fQ (t':=s.toks) I hG (v1.append v2) (l1.append l2) (by rw [l8]; lia) q
     . cases e
   | _=>cases e
 | _=>cases e
theorem sK:OpD vG D3:=fun G H x y a b d Q hG ra rb e q=>⟨G,a,b,d,hG,ra,rb,e,q⟩
noncomputable def pA:zS->zS->Option zS
 | .int i,.int j=>some (.int (i - j))
 | _,_=>none
noncomputable def Tr:zS->zS->Option zS
 | .int i,.int j=>if 0 < j then some (.int (i % j)) else none
 | _,_=>none
noncomputable def Ng:zS->zS->Option zS
 | .int i,.int j=>if 0 < j/\j < 1073741824 then some (.int (i / j)) else none
 | _,_=>none
theorem Wy {r:R2} {op:zS->zS->Option zS} (h:∀ a b d,op a b=some d->∃ i j k,a=.int i/\b=.int j/\d=.int k/\∀ H Q,Q (V.int k) H->r (.int i) (.int j) H Q):OpD r op:=by
 intro G H x y a b d Q hG ra rb e q;obtain ⟨i,j,k,rfl,rfl,rfl,hr⟩:=h a b d e;cases (show _=_ from ra); cases (show _=_ from rb);exact hr H Q (q _ G H (Grow.refl hG) rfl)
theorem sH:OpD (rI0 fun i j=>.int (i - j)) pA:=Wy fun a b d e=>by
 unfold pA at e;split at e
 . cases e; exact ⟨_,_,_,rfl,rfl,rfl,fun H Q q=>⟨_,_,rfl,rfl,q⟩⟩
 . cases e
theorem sJ:OpD (rI (fun _ j=>0 < j) fun i j=>.int (i % j)) Tr:=Wy fun a b d e=>by
 unfold Tr at e;split at e
 . split at e
   . rename_i h; cases e; exact ⟨_,_,_,rfl,rfl,rfl,fun H Q q=>⟨_,_,rfl,rfl,h,q⟩⟩
   . cases e
 . cases e
theorem mZ:OpD (rI CDiv fun i j=>.int (i / j)) Ng:=Wy fun a b d e=>by
 unfold Ng at e;split at e
 . split at e
   . rename_i h; cases e; exact ⟨_,_,_,rfl,rfl,rfl,fun H Q q=>⟨_,_,rfl,rfl,h,q⟩⟩
   . cases e
 . cases e
end
end Sm
end
noncomputable section
namespace Sm
open PySem PySem.Spec PyProof.Rows L2
open PySem.AutoSeq1 (wpAny_loadPart')
noncomputable def L5 (n:Nat) (x:Str):Str:=⟨(i4 n x.cps).foldl (· ++ ·) #[]⟩
theorem jR (l:List (Array Nat)):∀ acc:Array Nat,(l.foldl (· ++ ·) acc).toList=acc.toList++(l.map MN).flatten:=by
 induction l with
 | nil=>intro acc; simp
 | cons a l ih=>intro acc; rw [KY,ih]; simp
theorem V1 (n:Nat) (x:Str):(L5 n x).cps.toList=(i4 n x.cps.toList).flatten:=by
 unfold L5;rw [jR]; simp
theorem gQ {x:Str} (h:l7 x=true) (n:Nat):l7 (L5 n x)=true:=by
 unfold l7 at *;rw [<- KH,BS] at *;rw [V1];intro c hc;obtain ⟨l,hl,hc⟩:=List.mem_flatten.mp hc;rw [List.eq_of_mem_replicate hl] at hc;exact h c hc
theorem Pd (n:Nat) (x:Str):(L5 n x).length=n*x.length:=by
 show (L5 n x).cps.size=n*x.cps.size;rw [<- n6,V1,fG,n6]
theorem Yz (x:Str):L5 0 x=Str.empty:=rfl
theorem bZ (x:Str):L5 1 x=x:=by
 have:(L5 1 x).cps=x.cps:=by
   apply KG.mp;rw [V1]; simp
 cases x; cases h:L5 1 _; rw [h] at this; cases this; rfl
theorem cA {x:Str} (n:Nat) (h:x.length=0):L5 n x=x:=by
 have hx:x.cps = #[]:=Array.size_eq_zero_iff.mp h;have:(L5 n x).cps=x.cps:=by
   apply KG.mp;rw [V1,hx]; simp
 cases x; cases h:L5 n _; rw [h] at this; cases this; rfl
noncomputable def P4:zS->zS->Option zS
 | .int i,.int j=>if (-(2 ^ 64) < i/\i < 2 ^ 64)\/(-(2 ^ 64) < j/\j < 2 ^ 64) then some (.int (i*j)) else none
 | .str x,.int n=>if -(2 ^ 63)<=n/\n < 2 ^ 63/\x.length*n.toNat<=sizeLine then some (.str (L5 n.toNat x)) else none
 | .list xs,.int n=>if -(2 ^ 63)<=n/\n < 2 ^ 63/\xs.length*n.toNat<=sizeLine then some (.list (i4 n.toNat xs).flatten) else none
 | _,_=>none
def vF:R2:=fun x y H Q=>∃ G a b d,Same G H/\Rep G a x/\Rep G b y/\P4 a b=some d/\∀ v G' H',Grow G H G' H'->Rep G' d v->Q v H'
theorem sI:OpD vF P4:=fun G H x y a b d Q hG ra rb e q=>⟨G,a,b,d,hG,ra,rb,e,q⟩
theorem iR:fillsNumberSlot (.type "tuple") "mul" = pure false:=by
 unfold fillsNumberSlot;first | rfl | kernel_rfl | decide +kernel
theorem rG:seqRepeat? (.type "tuple")=pure (some (.builtin "tuple.__mul__")):=by
 unfold seqRepeat?;first | rfl | kernel_rfl
theorem nY (a:Int) (t:Tok) (l:c6) (items:Array zV) (n:Nat) (dd:Option c6) (sl:Array (Option zV)) :
   Meets (AA.«int.__rmul__» ⟨[.int a t,.ref l],[]⟩) (fun _ R s=>s.heap.get? l=some { cls:=.type "tuple",dict:=dd,data:=.seq items n,slots:=sl }/\R (.ok (.ret IG)) s) :=
 .of_wp fun prog w A R s h=>by obtain ⟨hp,g,d,tk,os⟩:=s; obtain ⟨hl,h⟩:=h; wp_walk; exact ⟨_,rfl,h⟩
theorem kQ (l:c6) (items:Array zV) (n:Nat) (x:Int) (u:Tok) (dd:Option c6) (sl:Array (Option zV)) (h1:¬ (decide (x < -(2 ^ 63:Int))||decide (x≥2 ^ 63))=true) (h2:¬ (items.isEmpty||x==1)=true) (h3:¬ (decide (x<=0)||items.isEmpty)=true)
   (h4:¬ (items.size:Int)*x>(2 ^ 63 - 1) / 8) (h5:¬ Builtin.Tuple.tupleTooMany (items.size*x)=true) (h6:(JJ (fun x1 x2=>x1++x2) #[] (i4 x.toNat items)).size<=sizeLine) :
   Meets (AA.«tuple.__mul__» ⟨[.ref l,.int x u],[]⟩) (fun _ R s=>s.heap.get? l=some { cls:=.type "tuple",dict:=dd,data:=.seq items n,slots:=sl }/\R (.ok (.ret (u9 s.heap.objs.size))) { s with heap:=s.heap.push { cls:=CM "tuple",data:=Data.seq (JJ (fun x1 x2=>x1++x2) #[] (i4 x.toNat items)) },toks:=s.toks }) :=
 .of_wp fun prog w A R s h=>by
   obtain ⟨hp,g,d,tk,os⟩:=s; obtain ⟨hl,h⟩:=h;have f1:=NW
   wp_walk using AR hl
   rw [if_neg h1]
   wp_walk using AR hl
   rw [if_neg h4]
   wp_walk using AR hl
   exact ⟨_,rfl,h⟩
theorem kP (l:c6) (items:Array zV) (n:Nat) (x:Int) (u:Tok) (dd:Option c6) (sl:Array (Option zV)) (h1:¬ (decide (x < -(2 ^ 63:Int))||decide (x≥2 ^ 63))=true) (h2:(items.isEmpty||x==1)=true) :
   Meets (AA.«tuple.__mul__» ⟨[.ref l,.int x u],[]⟩) (fun _ R s=>s.heap.get? l=some { cls:=.type "tuple",dict:=dd,data:=.seq items n,slots:=sl }/\R (.ok (.ret (.ref l))) s) :=
 .of_wp fun prog w A R s h=>by
   obtain ⟨hp,g,d,tk,os⟩:=s; obtain ⟨hl,h⟩:=h;have f1:=NW
   wp_walk using AR hl
   rw [if_neg h1]
   wp_walk using AR hl
   exact ⟨_,rfl,h⟩
noncomputable section
variable {X:Cx}
theorem sE:OpR X (IF .Mult) vF:=by
 rintro pins s Z H x y v u Q I rx ry ⟨G,a,b,d,hG,ra,rb,e,q⟩;have h63:=Et;obtain ⟨k,rfl⟩:∃ k,b=.int k:=by unfold P4 at e; split at e <;> first | exact ⟨_,rfl⟩ | cases e
 cases (show _=_ from rb);obtain ⟨t',rfl⟩:=ry;cases a with
 | int i =>
   replace e:(if _ then _ else _)=some d:=e;split at e
   . rename_i hc
     cases e;cases (show _=_ from ra);obtain ⟨t,rfl⟩:=rx; exact mul_int ⟨.int _,H,I.tok _,⟨_,rfl⟩,q _ G H (Grow.refl hG) rfl⟩ (CMul.ok hc)
   . cases e
 | str z =>
   replace e:(if _ then _ else _)=some d:=e;split at e
   . rename_i hc
     obtain ⟨hc1,hc2,hc3⟩:=hc; cases e; obtain ⟨e1,o1,l1⟩:=ra; cases e1; obtain ⟨t,rfl⟩:=rx; have fin:∀ tk,Q (.str (L5 k.toNat z)) H/\Inv X pins Z H { s with toks:=tk }:=fun tk=>⟨q _ G H (Grow.refl hG) ⟨rfl,gQ o1 _,by rw [Pd,NF]; exact hc3⟩,I.tok _⟩;refine PySem.P.mul_str (by rw [decide_eq_false (by lia),decide_eq_false (by lia)]; rfl) (fun h1 _=>?_) (fun h1 _=>?_) ?_
     . intro hgt
       have hk:(0:Int) < k:=by lia
       have h2:(2 ^ 63 - 1) / k+1<=(z.length:Int):=by lia
       have h3:(2 ^ 63 - 1:Int) < ((2 ^ 63 - 1) / k+1)*k:=Int.lt_ediv_add_one_mul_self _ hk; have h4:((2 ^ 63 - 1) / k+1)*k<=(z.length:Int)*k:=Int.mul_le_mul_of_nonneg_right h2 (by lia);have h5:(z.length:Int)*k=((z.length*k.toNat:Nat):Int):=by
         rw [Int.natCast_mul,Int.toNat_of_nonneg (by lia)]
       lia
     . unfold Builtin.Str.tooLong
       exact decide_eq_false (by lia)
     . by_cases h1:k < 1
       . rw [if_pos h1]
         have:k.toNat=0:=by lia
         rw [this,Yz] at fin; exact ⟨by decide,⟨.str _,H,(fin _).2,⟨_,rfl⟩,(fin 0).1⟩⟩
       . rw [if_neg h1]
         by_cases h2:(k==1||z.length==0)=true
         . rw [if_pos h2]
           rw [GF] at h2; have ez:L5 k.toNat z=z:=by
             rcases h2 with h2 | h2
             . have:k=1:=CD h2
               subst this; exact bZ z
             . exact cA _ (CD h2)
           rw [ez] at fin; exact ⟨.str _,H,I,⟨_,rfl⟩,(fin 0).1⟩
         . rw [if_neg h2]
           exact ⟨by show (L5 k.toNat z).length<=_; rw [Pd,NF]; exact hc3,⟨.str _,H,(fin _).2,⟨_,rfl⟩,(fin 0).1⟩⟩
   . cases e
 | list xs =>
   replace e:(if _ then _ else _)=some d:=e;split at e
   . rename_i hc
     obtain ⟨hc1,hc2,hc3⟩:=hc; cases e; obtain ⟨l,vs,rfl,h1,l1⟩:=ra; cases rx; have q3:=l1.length; obtain ⟨z,its,n,r,e⟩:=Z5 I hG h1; have hl:=r.length; have hlen:its.toArray.size*k.toNat<=sizeLine:=by rw [i5,<- hl,<- q3]; exact hc3
     have hcap:¬ its.toArray.size*k.toNat>(2 ^ 63 - 1) / 8:=by
       have:(sizeLine:Nat)<=(2 ^ 63 - 1) / 8:=by decide
       lia
     have hfit:¬ (!Builtin.List.listFitsIndex k)=true:=by
       rw [fitsIndex_both hc1 hc2]; exact AW
     have hlong:¬ EB (its.toArray.size*k.toNat)=true:=by
       rw [aF hlen]; exact AW
     have hnew:JJ (fun x1 x2=>x1++x2) #[] (i4 (if its.toArray.isEmpty=true then 0 else k.toNat) its.toArray)=(i4 k.toNat its).flatten.toArray:=by
       have f0:∀ m:Nat,JJ (fun x1 x2=>x1++x2) #[] (i4 m its.toArray)=(i4 m its).flatten.toArray:=fun m=>by
         have:=jQ its m []; rw [l3] at this; exact this
       rw [f0];cases its with
       | nil=>simp
       | cons a r'=>rw [if_neg (by simp)]
     refine wpAny_binaryOp_repeat_ref (T := "list") (U := "int") (by decide) ⟨_,e,rfl⟩ (fun s'=>typeIs_int s' k t') noFill_list_mul F.fills_int_mul F.slot_int_rmul repeat_list F.slot_int_index.lookup
       (IM F.slot_int_rmul (typeIs_int s k t') F.entry_int_rmul (F.args_int_rmul_2 _ _) (int___rmul___int_list k t' l its.toArray n)
         ⟨e,rfl,⟨_,e,rfl⟩,IM F.slot_list_mul ⟨_,e,rfl⟩ F.entry_list_mul (F.args_list_mul_2 _ _) (AutoListH.list___mul___list_int_3 l its.toArray n k t' hfit hcap hlong) ⟨e,?_⟩⟩)
     rw [hnew]; exact Xl (t':=s.toks) I hG (r.rep k.toNat) (l1.rep k.toNat) (by rw [fG,NF,<- q3]; exact hc3) q
   . cases e
 | _=>cases e
end
end Sm
end
noncomputable section
namespace Sm
open PySem PySem.Spec PyProof.Rows L2
open PySem.AutoSeq1 (wpAny_loadPart')
open PySem.MeetsSeq PySem.MeetsSeq2 PySem.MeetsSeq3
noncomputable def jN:BZ->Int->Int->Bool
 | .Lt,i,j=>decide (i < j)
 | .LtE,i,j=>decide (i<=j)
 | .Gt,i,j=>decide (j < i)
 | _,i,j=>decide (j<=i)
noncomputable def Qj:BZ->Str->Str->Bool
 | .Lt,x,y=>decide (x.cps.toList < y.cps.toList)
 | .LtE,x,y => !decide (y.cps.toList < x.cps.toList)
 | .Gt,x,y=>decide (y.cps.toList < x.cps.toList)
 | _,x,y => !decide (x.cps.toList < y.cps.toList)
noncomputable def bL:BZ->Nat->Nat->Bool
 | .Lt,m,n=>decide (m < n)
 | .LtE,m,n=>decide (m<=n)
 | .Gt,m,n=>decide (m>n)
 | _,m,n=>decide (m≥n)
noncomputable def vI:BZ->Bool
 | .Lt=>true | .LtE=>true | .Gt=>true | .GtE=>true | _=>false
mutual
noncomputable def Rr (op:BZ):zS->zS->Option Bool
 | .int i,.int j=>some (jN op i j)
 | .str x,.str y=>some (Qj op x y)
 | .tuple xs,.tuple ys=>Dy op xs ys
 | _,_=>none
noncomputable def Dy (op:BZ):List zS->List zS->Option Bool
 | [],ys=>some (bL op 0 ys.length)
 | x::xs,[]=>some (bL op (xs.length+1) 0)
 | x::xs,y::ys=>if g9 x y=true then Dy op xs ys else Rr op x y
end
def pW (op:BZ) (A:u5) (s:zW) (u v:zV) (k:Bool):Prop:=∀ (prog:j5) (w:l9) (E:zV->zW->Prop) (Q:zV->zW->Prop),Q (.bool k) s->wpAny (i9 prog w) A (richCompare op u v) Q E s
theorem wV {op:BZ} (h:vI op=true) (A:u5) (s:zW) (i j:Int) (t u:Tok):pW op A s (.int i t) (.int j u) (jN op i j):=fun prog w E Q q=>by
 cases op with
 | Lt=>exact (lt_int q:wpAny (i9 prog w) A (x0 .Lt (.int i t) (.int j u)) Q E s)
 | LtE=>exact (le_int q:wpAny (i9 prog w) A (x0 .LtE (.int i t) (.int j u)) Q E s)
 | Gt=>exact (gt_int q:wpAny (i9 prog w) A (x0 .Gt (.int i t) (.int j u)) Q E s)
 | GtE=>exact (ge_int q:wpAny (i9 prog w) A (x0 .GtE (.int i t) (.int j u)) Q E s)
 | _=>cases h
theorem wU {op:BZ} (h:vI op=true) (A:u5) (s:zW) (x y:Str) (t u:Tok):pW op A s (.str x t) (.str y u) (Qj op x y):=fun prog w E Q q=>by
 cases op with
 | Lt=>exact (PySem.P.lt_str q:wpAny (i9 prog w) A (x0 .Lt (.str x t) (.str y u)) Q E s)
 | LtE=>exact (PySem.P.le_str (by simpa [Qj] using q):wpAny (i9 prog w) A (x0 .LtE (.str x t) (.str y u)) Q E s)
 | Gt=>exact (PySem.P.gt_str q:wpAny (i9 prog w) A (x0 .Gt (.str x t) (.str y u)) Q E s)
 | GtE=>exact (PySem.P.ge_str (by simpa [Qj] using q):wpAny (i9 prog w) A (x0 .GtE (.str x t) (.str y u)) Q E s)
 | _=>cases h
def Cz (op:BZ) (A:u5) (s:zW) (vs ws:List zV) (ds es:List zS):Prop :=
 ∀ (i:Nat) (v w:zV) (d e:zS),vs[i]? = some v->ws[i]? = some w->ds[i]? = some d->es[i]? = some e->SeqAt.EqAt A s v w (g9 d e)/\∀ k,Rr op d e=some k->pW op A s v w k
theorem Sg (l b:c6) (items items2:Array zV) (n n2:Nat) (dd dd2:Option c6) (sl sl2:Array (Option zV)) (ds es:List zS) (k:Bool) (hz1:items.toList.length=ds.length) (hz2:items2.toList.length=es.length) (hk:Dy .Lt ds es=some k) :
   Meets (AA.«tuple.__lt__» ⟨[.ref l,.ref b],[]⟩)
     (fun A R s=>s.heap.get? l=some { cls:=.type "tuple",dict:=dd,data:=.seq items n,slots:=sl }/\s.heap.get? b=some { cls:=.type "tuple",dict:=dd2,data:=.seq items2 n2,slots:=sl2 } /\
       Cz .Lt A.in1 s items.toList items2.toList ds es/\R (.ok (.ret (.bool k))) s) :=
 .of_wp fun prog w A R s h=>by
   obtain ⟨hp,g,d,tk,os⟩:=s; obtain ⟨hl,hb,hI,h⟩:=h;have f2:=LA; have z1:items.size=ds.length:=by rw [<- hz1]; simp
   have z2:items2.size=es.length:=by rw [<- hz2]; simp
   wp_walk using AR hl,AR hb,GG _ (fun I8 b s'=>b.1=none/\s'=⟨hp,g,d,tk,os⟩/\∃ (vs ws:List zV) (ds' es':List zS),I8=vs.zip ws /\
     vs.length=ds'.length/\ws.length=es'.length/\ds'.length+items2.size=es'.length+items.size/\Cz .Lt A.in1 ⟨hp,g,d,tk,os⟩ vs ws ds' es'/\Dy .Lt ds' es'=some k) _
   case turn =>
     rintro ⟨y,x⟩ I8 b s' ⟨hb',rfl,vs,ws,ds',es',hz,hv,hw,hlen,hI',hR⟩;cases vs with
     | nil=>rw [List.zip_nil_left] at hz; cases hz
     | cons v0 vs =>
       cases ws with
       | nil=>rw [List.zip_nil_right] at hz; cases hz
       | cons w0 ws =>
         cases ds' with
         | nil=>simp at hv
         | cons d0 ds' =>
           cases es' with
           | nil=>simp at hw
           | cons e0 es' =>
             rw [GM] at hz;injection hz with hyx hrest
             injection hyx with hy hx
             subst hy hx; simp only [i0] at hlen hv hw; obtain ⟨he,hc⟩:=hI' 0 y x d0 e0 rfl rfl rfl rfl; have hI2:Cz .Lt A.in1 ⟨hp,g,d,tk,os⟩ vs ws ds' es':=fun i v w d e h1 h2 h3 h4=>hI' (i+1) v w d e (by simpa using h1) (by simpa using h2) (by simpa using h3) (by simpa using h4);rw [Dy] at hR; refine zT (he prog w _ _ ?_);cases q:g9 d0 e0 with
             | true =>
               rw [q,if_pos rfl] at hR
               wp_walk
               exact ⟨rfl,rfl,_,_,_,_,hrest,by lia,by lia,by lia,hI2,hR⟩
             | false =>
               rw [q,if_neg (by decide)] at hR; have hri:=hc k hR prog w
               wp_walk using hri
               exact ⟨_,rfl,by simpa using h⟩
   case fin =>
     rintro ⟨b1,b2⟩ s' ⟨hb',rfl,vs,ws,ds',es',hz,hv,hw,hlen,hI',hR⟩;simp only at hb'; subst hb'; have hv':k=decide (items.size < items2.size):=by
       cases ds' with
       | nil =>
         rw [Dy] at hR; have:=u6 hR; rw [<- this]; simp only [p4] at hlen; simp only [bL]; exact decide_eq_decide.mpr (by lia)
       | cons d0 ds' =>
         cases es' with
         | nil =>
           rw [Dy] at hR; have:=u6 hR; rw [<- this]; simp only [p4,i0] at hlen; simp only [bL]; exact decide_eq_decide.mpr (by lia)
         | cons e0 es' =>
           cases vs with
           | nil=>simp at hv
           | cons v0 vs =>
             cases ws with
             | nil=>simp at hw
             | cons w0 ws=>rw [GM] at hz; cases hz
     rw [hv'] at h
     wp_walk
     exact ⟨_,rfl,by simpa [ID] using h⟩
   case h =>
     exact ⟨rfl,rfl,items.toList,items2.toList,ds,es,rfl,hz1,hz2,by lia,hI,hk⟩
theorem Sh (l b:c6) (items items2:Array zV) (n n2:Nat) (dd dd2:Option c6) (sl sl2:Array (Option zV)) (ds es:List zS) (k:Bool) (hz1:items.toList.length=ds.length) (hz2:items2.toList.length=es.length) (hk:Dy .LtE ds es=some k) :
   Meets (AA.«tuple.__le__» ⟨[.ref l,.ref b],[]⟩)
     (fun A R s=>s.heap.get? l=some { cls:=.type "tuple",dict:=dd,data:=.seq items n,slots:=sl }/\s.heap.get? b=some { cls:=.type "tuple",dict:=dd2,data:=.seq items2 n2,slots:=sl2 } /\
       Cz .LtE A.in1 s items.toList items2.toList ds es/\R (.ok (.ret (.bool k))) s) :=
 .of_wp fun prog w A R s h=>by
   obtain ⟨hp,g,d,tk,os⟩:=s; obtain ⟨hl,hb,hI,h⟩:=h;have f2:=LA; have z1:items.size=ds.length:=by rw [<- hz1]; simp
   have z2:items2.size=es.length:=by rw [<- hz2]; simp
   wp_walk using AR hl,AR hb,GG _ (fun I8 b s'=>b.1=none/\s'=⟨hp,g,d,tk,os⟩/\∃ (vs ws:List zV) (ds' es':List zS),I8=vs.zip ws /\
     vs.length=ds'.length/\ws.length=es'.length/\ds'.length+items2.size=es'.length+items.size/\Cz .LtE A.in1 ⟨hp,g,d,tk,os⟩ vs ws ds' es'/\Dy .LtE ds' es'=some k) _
   case turn =>
     rintro ⟨y,x⟩ I8 b s' ⟨hb',rfl,vs,ws,ds',es',hz,hv,hw,hlen,hI',hR⟩;cases vs with
     | nil=>rw [List.zip_nil_left] at hz; cases hz
     | cons v0 vs =>
       cases ws with
       | nil=>rw [List.zip_nil_right] at hz; cases hz
       | cons w0 ws =>
         cases ds' with
         | nil=>simp at hv
         | cons d0 ds' =>
           cases es' with
           | nil=>simp at hw
           | cons e0 es' =>
             rw [GM] at hz;injection hz with hyx hrest
             injection hyx with hy hx
             subst hy hx; simp only [i0] at hlen hv hw; obtain ⟨he,hc⟩:=hI' 0 y x d0 e0 rfl rfl rfl rfl; have hI2:Cz .LtE A.in1 ⟨hp,g,d,tk,os⟩ vs ws ds' es':=fun i v w d e h1 h2 h3 h4=>hI' (i+1) v w d e (by simpa using h1) (by simpa using h2) (by simpa using h3) (by simpa using h4);rw [Dy] at hR; refine zT (he prog w _ _ ?_);cases q:g9 d0 e0 with
             | true =>
               rw [q,if_pos rfl] at hR
               wp_walk
               exact ⟨rfl,rfl,_,_,_,_,hrest,by lia,by lia,by lia,hI2,hR⟩
             | false =>
               rw [q,if_neg (by decide)] at hR; have hri:=hc k hR prog w
               wp_walk using hri
               exact ⟨_,rfl,by simpa using h⟩
   case fin =>
     rintro ⟨b1,b2⟩ s' ⟨hb',rfl,vs,ws,ds',es',hz,hv,hw,hlen,hI',hR⟩;simp only at hb'; subst hb'; have hv':k=decide (items.size<=items2.size):=by
       cases ds' with
       | nil =>
         rw [Dy] at hR; have:=u6 hR; rw [<- this]; simp only [p4] at hlen; simp only [bL]; exact decide_eq_decide.mpr (by lia)
       | cons d0 ds' =>
         cases es' with
         | nil =>
           rw [Dy] at hR; have:=u6 hR; rw [<- this]; simp only [p4,i0] at hlen; simp only [bL]; exact decide_eq_decide.mpr (by lia)
         | cons e0 es' =>
           cases vs with
           | nil=>simp at hv
           | cons v0 vs =>
             cases ws with
             | nil=>simp at hw
             | cons w0 ws=>rw [GM] at hz; cases hz
     rw [hv'] at h
     wp_walk
     exact ⟨_,rfl,by simpa [ID] using h⟩
   case h =>
     exact ⟨rfl,rfl,items.toList,items2.toList,ds,es,rfl,hz1,hz2,by lia,hI,hk⟩
theorem mC {op:BZ} (ho:op=.Lt\/op=.LtE) {A:u5} {s:zW} {l b:c6} {items items2:Array zV} {ds es:List zS} {k:Bool} (hl:IX s.heap l items) (hb:IX s.heap b items2) (hz1:items.toList.length=ds.length) (hz2:items2.toList.length=es.length)
   (hI:Cz op A.in1 s items.toList items2.toList ds es) (hk:Dy op ds es=some k) (hu:A.units < BD):pW op A s (.ref l) (.ref b) k:=fun prog w E Q q=>by
 obtain ⟨⟨cls,dd,data,sl⟩,ho1,hc,n,hd⟩:=id hl;obtain ⟨⟨cls2,dd2,data2,sl2⟩,ho2,hc2,n2,hd2⟩:=id hb;simp only at hc hd hc2 hd2;subst hc hd hc2 hd2;rcases ho with rfl | rfl
 . exact richCompare_meets_room (op := .Lt) ⟨_, ho1, rfl⟩ ⟨_, ho2, rfl⟩ PySem.F.slot_tuple_lt PySem.F.entry_tuple_lt (PySem.F.args_tuple_lt_2 _ _) (Sg l b items items2 n n2 dd dd2 sl sl2 ds es k hz1 hz2 hk)
     ⟨ho1,ho2,hI,show FQ k≠IG/\Q (.bool k) s from ⟨(fun x=>nomatch x),q⟩⟩ hu
 . exact richCompare_meets_room (op := .LtE) ⟨_, ho1, rfl⟩ ⟨_, ho2, rfl⟩ PySem.F.slot_tuple_le PySem.F.entry_tuple_le (PySem.F.args_tuple_le_2 _ _) (Sh l b items items2 n n2 dd dd2 sl sl2 ds es k hz1 hz2 hk)
     ⟨ho1,ho2,hI,show FQ k≠IG/\Q (.bool k) s from ⟨(fun x=>nomatch x),q⟩⟩ hu
theorem zG {op:BZ} {i:Int} {b:zS} {k:Bool} (e:Rr op (.int i) b=some k):∃ j,b=.int j/\k=jN op i j:=by cases b <;> cases e; exact ⟨_,rfl,rfl⟩
theorem zF {op:BZ} {i:Str} {b:zS} {k:Bool} (e:Rr op (.str i) b=some k):∃ j,b=.str j/\k=Qj op i j:=by cases b <;> cases e; exact ⟨_,rfl,rfl⟩
theorem zE {op:BZ} {i:List zS} {b:zS} {k:Bool} (e:Rr op (.tuple i) b=some k):∃ j,b=.tuple j/\Dy op i j=some k:=by cases b with | tuple j=>exact ⟨j,rfl,e⟩ | _=>cases e
noncomputable def ordB:zS->Bool
 | .int _=>true | .str _=>true | .tuple _=>true | _=>false
theorem Xw {op:BZ} {a b:zS} {k:Bool} (h:ordB a=false) (e:Rr op a b=some k):False:=by cases a <;> first | (cases h; done) | cases e
mutual
theorem eU {op:BZ} (ho:op=.Lt\/op=.LtE):∀ (a b:zS) (A:u5) (s:zW) (u v:zV) (as bs:List c6) (k:Bool),Reads s.heap u a as->Reads s.heap v b bs->a.canLay0=true->b.canLay0=true->A.units+a.depth < BD->Rr op a b=some k->pW op A s u v k
 | .int i,b,A,s,_,_,_,_,k,ra,rb,_,_,_,e=>by
   obtain ⟨j,rfl,rfl⟩:=zG e;cases ra; cases rb; exact wV (by rcases ho with rfl | rfl <;> rfl) A s i j _ _
 | .str x,b,A,s,_,_,_,_,k,ra,rb,_,_,_,e=>by
   obtain ⟨j,rfl,rfl⟩:=zF e;cases ra; cases rb; exact wU (by rcases ho with rfl | rfl <;> rfl) A s x j _ _
 | .tuple xs,b,A,s,_,_,_,_,k,ra,rb,ha,hb,hu,e=>by
   obtain ⟨ys,rfl,e⟩:=zE e;cases ra with
   | tuple h1 h2 h3 h4 =>
     cases rb with
     | tuple k1 k2 k3 k4 =>
       have hu':A.units+(w5 xs+1) < BD:=hu; refine mC ho ⟨_,h1,h2,_,h3⟩ ⟨_,k1,k2,_,k3⟩ (KB _ _ _ h4) (KB _ _ _ k4) ?_ e (by lia);exact Zv ho xs ys A.in1 s _ _ _ _ h4 k4 ha hb (by show A.units+1+_ < _; lia)
 | .none,b,_,_,_,_,_,_,_,_,_,_,_,_,e=>(Xw (a:=.none) rfl e).elim
 | .bool c,b,_,_,_,_,_,_,_,_,_,_,_,_,e=>(Xw (a:=.bool c) rfl e).elim
 | .list c,b,_,_,_,_,_,_,_,_,_,_,_,_,e=>(Xw (a:=.list c) rfl e).elim
 | .dict c,b,_,_,_,_,_,_,_,_,_,_,_,_,e=>(Xw (a:=.dict c) rfl e).elim
theorem Zv {op:BZ} (ho:op=.Lt\/op=.LtE):∀ (xs ys:List zS) (A:u5) (s:zW) (vs ws:List zV) (as bs:List c6),ND s.heap vs xs as->ND s.heap ws ys bs->BB xs=true->BB ys=true->A.units+w5 xs < BD->Cz op A s vs ws xs ys
 | [],_,_,_,_,_,_,_,_,_,_,_,_=>fun i v w d e h1 h2 h3 h4=>by simp at h3
 | _::_,[],_,_,_,_,_,_,_,_,_,_,_=>fun i v w d e h1 h2 h3 h4=>by simp at h4
 | x::xs,y::ys,A,s,_,_,_,_,ra,rb,ha,hb,hu=>by
   have ha':x.canLay0=true/\BB xs=true:=by simpa [BB] using ha
   have hb':y.canLay0=true/\BB ys=true:=by simpa [BB] using hb
   have hu':A.units+max x.depth (w5 xs) < BD:=hu;cases ra with
   | cons r1 r2 =>
     cases rb with
     | cons q1 q2 =>
       intro i v w d e h1 h2 h3 h4;cases i with
       | zero =>
         simp at h1 h2 h3 h4;subst h1 h2 h3 h4; exact ⟨SeqAt.eqAt_reads _ _ _ _ _ _ _ _ r1 q1 ha'.1 hb'.1 (by lia),fun k hk=>eU ho _ _ A s _ _ _ _ k r1 q1 ha'.1 hb'.1 (by lia) hk⟩
       | succ i=>exact Zv ho xs ys A s _ _ _ _ r2 q2 ha'.2 hb'.2 (by lia) i v w d e (by simpa using h1) (by simpa using h2) (by simpa using h3) (by simpa using h4)
end
noncomputable def D9 (op:BZ) (a b:zS):Option zS:=if a.depth<=60 then (Rr op a b).map .bool else none
def Zx (op:BZ):R2:=fun x y H Q=>∃ G a b k,Same G H/\Rep G a x/\Rep G b y/\a.depth<=60/\Rr op a b=some k/\Q (.bl k) H
noncomputable section
variable {X:Cx}
theorem Ct {op:BZ} (ho:op=.Lt\/op=.LtE) (hu:X.A.units+64 < BD):OpR X (x0 op) (Zx op):=by
 rintro pins s Z H x y v u Q I rx ry ⟨G,a,b,k,hG,ra,rb,hd,e,q⟩;obtain ⟨as,r1⟩:=ra.reads I hG rx;obtain ⟨bs,r2⟩:=rb.reads I hG ry;have:=eU ho a b X.A s v u as bs k r1 r2 ra.lay rb.lay (by lia) e X.prog X.w X.xe (EP X pins Z Q) ⟨.bl k,H,I,rfl,q⟩;rcases ho with rfl | rfl
 . exact this
 . exact this
theorem fA {op:BZ} (ho:op=.Gt\/op=.GtE):OpR X (x0 op) (fun x y H Q=>∃ i j,x=.int i/\y=.int j/\Q (.bl (jN op i j)) H):=by
 rintro pins s Z H x y v u Q I rx ry ⟨i,j,e1,e2,q⟩;subst e1 e2;obtain ⟨t,rfl⟩:=rx;obtain ⟨t',rfl⟩:=ry;rcases ho with rfl | rfl
 . exact gt_int ⟨.bl _,H,I,rfl,q⟩
 . exact ge_int ⟨.bl _,H,I,rfl,q⟩
theorem Ba {op:BZ}:OpD (Zx op) (D9 op):=by
 intro G H x y a b d Q hG ra rb e q;unfold D9 at e;split at e
 . rename_i h
   cases e1:Rr op a b with
   | none=>rw [e1] at e; cases e
   | some k=>rw [e1] at e; cases e; exact ⟨G,a,b,k,hG,ra,rb,h,e1,q _ G H (Grow.refl hG) rfl⟩
 . cases e
noncomputable def Cv (op:BZ):zS->zS->Option zS
 | .int i,.int j=>some (.bool (jN op i j))
 | _,_=>none
theorem aE {op:BZ}:OpD (fun x y H Q=>∃ i j,x=.int i/\y=.int j/\Q (.bl (jN op i j)) H) (Cv op):=by
 intro G H x y a b d Q hG ra rb e q;cases a with
 | int i=>cases b with
   | int j=>cases e; cases (show _=_ from ra); cases (show _=_ from rb); exact ⟨i,j,rfl,rfl,q _ G H (Grow.refl hG) rfl⟩
   | _=>cases e
 | _=>cases e
end
end Sm
end
noncomputable section
namespace Sm
open PySem PySem.Spec PyProof.Rows L2
theorem Res.bind_assoc {α β γ:Type} (r:Res α) (f:α->Res β) (g:β->Res γ):(r.bind f).bind g=r.bind fun x=>(f x).bind g:=by cases r <;> rfl
structure Cxt (P:j5) (w:l9) (K:zX) (mg:Str->Option zV) (base:p9) (X:Cx) (N:List Str) (sc:Scope) (k:Nat) (df:Bool):Prop where
 hP:X.prog=P
 hw:X.w=w
 hK:X.K=K
 hmg:X.mg=mg
 hb:X.base=base
 hN:X.N=N
 hs:X.env.scope=sc
 calm:X.calm=true
 room:Room k X.A
 fn:df=true->∀ x,X.fn x=true
 own:PassesOwn (i9 X.prog X.w) X.A X.env X.xe
def Fi (scope sc:Scope):Scope :=
 { scope with names:=scope.names.map fun (n,k)=>if (k==.free&&sc.kind==.function&&sc.names.lookup n==some .cell) then (n,.cell) else (n,k) }
theorem eT {X:Cx} {scope sc:Scope} (h:X.env.scope=sc):CC scope X.env=Fi scope sc:=by subst h; rfl
noncomputable section
variable {P:j5} {w:l9} {K:zX} {mg:Str->Option zV} {base:p9} {X:Cx} {N:List Str} {sc:Scope} {k:Nat} {df:Bool} {E:EK} {pos:Pos}
theorem Cxt.blk (C:Cxt P w K mg base X N sc k df) {X':Cx} {N':List Str} {scope:Scope} (B:Blk X X' N' (CC scope X.env)):Cxt P w K mg base X' N' (Fi scope sc) k false :=
 ⟨B.prog.trans C.hP,B.w.trans C.hw,B.K.trans C.hK,B.mg.trans C.hmg,B.base.trans C.hb,B.N,B.sc.trans (eT C.hs),B.calm.trans C.calm,by rw [B.A]; exact C.room,(fun h=>by cases h),by rw [B.xe]; exact FR⟩
theorem Cxt.hu (C:Cxt P w K mg base X N sc k df):X.A.units+64 < BD:=C.room.units
noncomputable def okVar (N:List Str) (sc:Scope) (i:Nat) (x:Str):Bool :=
 (N[i]? == some x)&&(match sc.names.lookup x with | some .local=>true | some .cell=>true | some .free=>true | _=>false) && !(x==("__debug__" : Str)) && !(x==("__classdict__" : Str))
theorem A3 (C:Cxt P w K mg base X N sc k df) (i:Nat) {x:Str} (h:okVar N sc i x=true):DE X E (.Name x pos) (A1 i):=by
 unfold okVar at h;simp only [j9,GY] at h;obtain ⟨⟨⟨h1,h2⟩,h3⟩,h4⟩:=h;refine yZ (by rw [C.hN]; exact CD h1) ?_ h3 h4;rw [C.hs];unfold Vis;cases q:sc.names.lookup x with
 | none=>rw [q] at h2; cases h2
 | some z =>
   rw [q] at h2;cases z with
   | «local» => exact .inl rfl
   | cell=>exact .inr (.inl rfl)
   | free=>exact .inr (.inr rfl)
   | _=>cases h2
noncomputable def okGl (sc:Scope) (x:Str):Bool:=(sc.names.lookup x==some .globalImplicit) && !(x==("__debug__" : Str)) && !(x==("__name__" : Str))
theorem okGl.gl (C:Cxt P w K mg base X N sc k df) {x:Str} (h:okGl sc x=true):Gl X x/\(x==("__debug__" : Str))=false/\x ≠ "__name__" := by
 unfold okGl at h;simp only [j9,GY] at h;obtain ⟨⟨h1,h2⟩,h3⟩:=h;refine ⟨?_,h2,by simpa using h3⟩;unfold Gl;show X.env.scope.names.lookup x=_;rw [C.hs]; exact CD h1
theorem fR (C:Cxt P w K mg base X N sc k df) {x z:Str} (h:okGl sc x=true) (hm:∃ t,mg x=some (.str z t)) (hz:l7 z=true:=by decide +kernel) (hl:z.length<=sizeLine:=by decide +kernel):DE X E (.Name x pos) (vC (.str z)):=by
 obtain ⟨t,hm⟩:=hm;obtain ⟨h1,h2,h3⟩:=okGl.gl C h;exact PE.imp (eW (v:=.str z) h1 (by rw [C.hmg]; exact hm) ⟨t,rfl⟩ h2) fun Z H Q hZ3=>by obtain ⟨G,δ,S,a⟩:=hZ3; exact a _ G H (Grow.refl S.sub) ⟨rfl,hz,hl⟩
theorem Xp (C:Cxt P w K mg base X N sc k df) {x:Str} {i:Int} (h:okGl sc x=true) (hm:∃ t,mg x=some (.int i t)):DE X E (.Name x pos) (vC (.int i)):=by
 obtain ⟨t,hm⟩:=hm;obtain ⟨h1,h2,h3⟩:=okGl.gl C h;exact PE.imp (eW (v:=.int i) h1 (by rw [C.hmg]; exact hm) ⟨t,rfl⟩ h2) fun Z H Q hZ3=>by obtain ⟨G,δ,S,a⟩:=hZ3; exact a _ G H (Grow.refl S.sub) rfl
variable {a b c:Expr} {f g f':Dn->Res zS}
theorem E6 (ha:DE X E a f) (hb:DE X E b g):DE X E (.BinOp a .Add b pos) (b2 f g D3):=aY sG sK ha hb
theorem d_sub (ha:DE X E a f) (hb:DE X E b g):DE X E (.BinOp a .Sub b pos) (b2 f g pA):=aY xO sH ha hb
theorem Cu (ha:DE X E a f) (hb:DE X E b g):DE X E (.BinOp a .Mult b pos) (b2 f g P4):=aY sE sI ha hb
theorem Uz (ha:DE X E a f) (hb:DE X E b g):DE X E (.BinOp a .Mod b pos) (b2 f g Tr):=aY xQ sJ ha hb
theorem Xq (ha:DE X E a f) (hb:DE X E b g):DE X E (.BinOp a .FloorDiv b pos) (b2 f g Ng):=aY sF mZ ha hb
theorem Xr (C:Cxt P w K mg base X N sc k df) (ha:DE X E a f) (hb:DE X E b g):DE X E (.Compare a [.Eq] [b] pos) (b2 f g dEq):=fS (mY C.hu) nA ha hb (Gg _)
theorem zB (C:Cxt P w K mg base X N sc k df) (ha:DE X E a f) (hb:DE X E b g):DE X E (.Compare a [.Lt] [b] pos) (b2 f g (D9 .Lt)):=fS (Ct (.inl rfl) C.hu) Ba ha hb (Gg _)
theorem d_ge (C:Cxt P w K mg base X N sc k df) (ha:DE X E a f) (hb:DE X E b g):DE X E (.Compare a [.GtE] [b] pos) (b2 f g (Cv .GtE)):=fS (fA (.inr rfl)) aE ha hb (Gg _)
theorem d_in (C:Cxt P w K mg base X N sc k df) (ha:DE X E a f) (hb:DE X E b g) (hm:behindInMarks .In b=false:=by with_unfolding_all rfl):DE X E (.Compare a [.In] [b] pos) (b2 f g (dIn false)):=fS (mX C.hu) cZ ha hb hm
noncomputable def O1 (f g f':Dn->Res zS) (op op':zS->zS->Option zS):Dn->Res zS:=fun δ=>(f δ).bind fun x=>(g δ).bind fun y=>(ofO (op x y)).bind fun z=>match z with
 | .bool true=>(f' δ).bind fun u=>ofO (op' y u)
 | .bool false=>.ok (.bool false)
 | _=>.no
theorem oY {o o':BZ} {r r':R2} {op op':zS->zS->Option zS} (hr:OpR X (x0 o) r) (ho:OpD r op) (hr':OpR X (x0 o') r') (ho':OpD r' op') (ha:DE X E a f) (hb:DE X E b g) (hc:DE X E c f')
   (hm:JS [o,o'] [b,c]=false):DE X E (.Compare a [o,o'] [b,c] pos) (O1 f g f' op op'):=by
 refine PE.imp (mV hr hr' ha hb hc hm) fun Z H Q hZ3=>?_;obtain ⟨G,δ,S,aft⟩:=hZ3;refine I0 S aft fun d1 v1 G1 H1 g1 r1 S1 a1=>?_;refine I0 S1 a1 fun d2 v2 G2 H2 g2 r2 S2 a2=>?_;cases e:op d1 d2 with
 | none=>rw [e] at a2; exact a2.elim
 | some d =>
   rw [e] at a2; refine ho G2 H2 v1 v2 d1 d2 d _ S2.sub (r1.mono g2.g) r2 e fun v G3 H3 g3 r3=>?_;cases d with
   | bool kk =>
     refine ⟨kk,r3,?_⟩; have S3:=S2.grow g3;cases kk with
     | false=>rw [if_neg (by decide)]; exact a2 _ G3 H3 g3 rfl
     | true =>
       rw [if_pos rfl]; refine I0 S3 (Aft.grow g3 a2) fun d4 v4 G4 H4 g4 r4 S4 a4=>?_;cases e':op' d2 d4 with
       | none=>rw [e'] at a4; exact a4.elim
       | some d=>rw [e'] at a4; exact ho' G4 H4 v2 v4 d2 d4 d Q S4.sub (r2.mono (g3.g.trans g4.g)) r4 e' a4
   | _=>exact (show False from a2).elim
theorem jV (C:Cxt P w K mg base X N sc k df) (ha:DE X E a f) (hb:DE X E b g) (hc:DE X E c f') (hm:JS [.LtE,.LtE] [b,c]=false:=by with_unfolding_all rfl):DE X E (.Compare a [.LtE,.LtE] [b,c] pos) (O1 f g f' (D9 .LtE) (D9 .LtE)) :=
 oY (Ct (.inr rfl) C.hu) Ba (Ct (.inr rfl) C.hu) Ba ha hb hc hm
noncomputable def Av:zS->Bool
 | .none=>true
 | _=>false
noncomputable def b1 (f:Dn->Res zS) (op:zS->Option zS):Dn->Res zS:=fun δ=>(f δ).bind fun x=>ofO (op x)
theorem Rep.non {G:Hp} {d:zS} {v:V} (r:Rep G d v):decide (v=.non)=Av d:=by
 cases d with
 | none=>cases (show _=_ from r); rfl
 | bool _=>cases (show _=_ from r); rfl
 | int _=>cases (show _=_ from r); rfl
 | str _=>cases r.1; rfl
 | list _=>obtain ⟨a,xs,rfl,_⟩:=r; rfl
 | tuple _=>obtain ⟨a,xs,rfl,_⟩:=r; rfl
 | dict _=>exact (show False from r).elim
theorem d_isN {j:Nat} {p:Pos} (ha:DE X E a f):DE X E (.Compare a [.Is] [.Constant .none j p] pos) (b1 f fun d=>some (.bool (Av d))):=by
 refine PE.imp (cX (xN ha)) fun Z H Q hZ3=>?_;obtain ⟨G,δ,S,aft⟩:=hZ3;exact I0 S aft fun d1 v1 G1 H1 g1 r1 S1 a1=>by rw [r1.non]; exact a1 _ G1 H1 (Grow.refl S1.sub) rfl
noncomputable def Fk:zS->Option zS
 | .int i=>some (.int (-i))
 | _=>none
theorem Rk (ha:DE X E a f):DE X E (.UnaryOp .USub a pos) (b1 f Fk):=by
 refine PE.imp (pe_un vW ha) fun Z H Q hZ3=>?_;obtain ⟨G,δ,S,aft⟩:=hZ3;refine I0 S aft fun d1 v1 G1 H1 g1 r1 S1 a1=>?_;cases d1 with
 | int i=>cases (show _=_ from r1); exact ⟨i,rfl,a1 _ G1 H1 (Grow.refl S1.sub) rfl⟩
 | _=>exact (show False from a1).elim
noncomputable def X0 (f g:Dn->Res zS):Dn->Res zS:=fun δ=>(f δ).bind fun x=>match x with
 | .bool true=>g δ
 | .bool false=>.ok (.bool false)
 | _=>.no
noncomputable def vOr (f g:Dn->Res zS):Dn->Res zS:=fun δ=>(f δ).bind fun x=>match x with
 | .bool false=>g δ
 | .bool true=>.ok (.bool true)
 | _=>.no
noncomputable def dNot:zS->Option zS
 | .bool b=>some (.bool (!b))
 | _=>none
variable {I8:List Expr}
theorem Ck {op:BoolOp} (ha:DE X E a f):DE X E (.BoolOp op [a] pos) f:=xF ha
theorem U9 (ha:DE X E a f) (hb:DE X E (.BoolOp .And (b::I8) pos) g):DE X E (.BoolOp .And (a::b::I8) pos) (X0 f g):=by
 refine PE.imp (xL ha hb) fun Z H Q hZ3=>?_;obtain ⟨G,δ,S,aft⟩:=hZ3;refine I0 S aft fun d1 v1 G1 H1 g1 r1 S1 a1=>?_;cases d1 with
 | bool kk =>
   refine ⟨kk,r1,?_⟩;cases kk with
   | true=>rw [if_pos rfl]; exact ⟨G1,δ,S1,a1⟩
   | false=>rw [if_neg (by decide)]; exact a1 _ G1 H1 (Grow.refl S1.sub) rfl
 | _=>exact (show False from a1).elim
theorem d_or (ha:DE X E a f) (hb:DE X E (.BoolOp .Or (b::I8) pos) g):DE X E (.BoolOp .Or (a::b::I8) pos) (vOr f g):=by
 refine PE.imp (pe_or ha hb) fun Z H Q hZ3=>?_;obtain ⟨G,δ,S,aft⟩:=hZ3;refine I0 S aft fun d1 v1 G1 H1 g1 r1 S1 a1=>?_;cases d1 with
 | bool kk =>
   refine ⟨kk,r1,?_⟩;cases kk with
   | true=>rw [if_pos rfl]; exact a1 _ G1 H1 (Grow.refl S1.sub) rfl
   | false=>rw [if_neg (by decide)]; exact ⟨G1,δ,S1,a1⟩
 | _=>exact (show False from a1).elim
theorem d_not (ha:DE X E a f):DE X E (.UnaryOp .Not a pos) (b1 f dNot):=by
 refine PE.imp (xG ha) fun Z H Q hZ3=>?_;obtain ⟨G,δ,S,aft⟩:=hZ3;refine I0 S aft fun d1 v1 G1 H1 g1 r1 S1 a1=>?_;cases d1 with
 | bool kk=>exact ⟨kk,r1,a1 _ G1 H1 (Grow.refl S1.sub) rfl⟩
 | _=>exact (show False from a1).elim
def AftT (E:EK) (G H:Hp) (r:Res Bool) (Q:Bool->Hp->Prop):Prop:=match r with
 | .ok d=>∀ G' H',Grow G H G' H'->Q d H'
 | .exc c=>∀ G' H',Grow G H G' H'->E c H'
 | .no=>False
def tT (E:EK) (f:Dn->Res Bool):TT:=fun Z H Q=>∃ G δ,SR G H Z δ/\AftT E G H (f δ) Q
abbrev DT (X:Cx) (E:EK) (e:Expr) (f:Dn->Res Bool):Prop:=PT X e (tT E f)
abbrev DW (X:Cx) (E:EK) (e:Expr) (f:Dn->Res Bool):Prop:=PW X e (tT E f)
theorem AftT.grow {E:EK} {G H G' H':Hp} {r:Res Bool} {Q:Bool->Hp->Prop} (g:Grow G H G' H') (a:AftT E G H r Q):AftT E G' H' r Q:=by
 cases r with
 | ok d=>exact fun G2 H2 g2=>a G2 H2 (g.trans g2)
 | exc c=>exact fun G2 H2 g2=>a G2 H2 (g.trans g2)
 | no=>exact a
theorem PT.imp {X:Cx} {e:Expr} {t t':TT} (h:PT X e t) (i:∀ Z H Q,t' Z H Q->t Z H Q):PT X e t':=fun pins s Z H Q I q=>h pins s Z H Q I (i _ _ _ q)
theorem PW.imp {X:Cx} {e:Expr} {t t':TT} (h:PW X e t) (i:∀ Z H Q,t' Z H Q->t Z H Q):PW X e t':=fun wh pins s Z H Q I q=>h wh pins s Z H Q I (i _ _ _ q)
theorem Q3 {E:EK} {G H:Hp} {Z:St} {δ:Dn} {f:Dn->Res zS} {k:zS->Res Bool} {Q:Bool->Hp->Prop} {R:VK} (S:SR G H Z δ) (a:AftT E G H ((f δ).bind k) Q)
   (h:∀ d v G1 H1,Grow G H G1 H1->Rep G1 d v->SR G1 H1 Z δ->AftT E G1 H1 (k d) Q->R v H1):tD E f Z H R:=by
 refine ⟨G,δ,S,?_⟩;cases e:f δ with
 | ok d =>
   rw [e] at a; exact fun v G' H' g r=>h d v G' H' g r (S.grow g) (AftT.grow g a)
 | exc c=>rw [e] at a; exact a
 | no=>rw [e] at a; exact a
theorem Iy {E:EK} {G H:Hp} {Z:St} {δ:Dn} {f:Dn->Res Bool} {k:Bool->Res Bool} {Q R:Bool->Hp->Prop} (S:SR G H Z δ) (a:AftT E G H ((f δ).bind k) Q)
   (h:∀ d G1 H1,Grow G H G1 H1->SR G1 H1 Z δ->AftT E G1 H1 (k d) Q->R d H1):tT E f Z H R:=by
 refine ⟨G,δ,S,?_⟩;cases e:f δ with
 | ok d =>
   rw [e] at a; exact fun G' H' g=>h d G' H' g (S.grow g) (AftT.grow g a)
 | exc c=>rw [e] at a; exact a
 | no=>rw [e] at a; exact a
theorem eB {E:EK} {G H:Hp} {Z:St} {δ:Dn} {f:Dn->Res Bool} {k:Bool->Res zS} {Q:VK} {R:Bool->Hp->Prop} (S:SR G H Z δ) (a:Aft E G H ((f δ).bind k) Q)
   (h:∀ d G1 H1,Grow G H G1 H1->SR G1 H1 Z δ->Aft E G1 H1 (k d) Q->R d H1):tT E f Z H R:=by
 refine ⟨G,δ,S,?_⟩;cases e:f δ with
 | ok d =>
   rw [e] at a; exact fun G' H' g=>h d G' H' g (S.grow g) (Aft.grow g a)
 | exc c=>rw [e] at a; exact a
 | no=>rw [e] at a; exact a
noncomputable def Oy:zS->Option Bool
 | .none=>some false
 | .bool b=>some b
 | .int i=>some (i != 0)
 | .str x=>some (x.length != 0)
 | .list xs=>some (!xs.isEmpty)
 | .tuple xs=>some (!xs.isEmpty)
 | .dict _=>none
noncomputable def C1 (f:Dn->Res zS):Dn->Res Bool:=fun δ=>(f δ).bind fun d=>ofO (Oy d)
theorem RepL.isEmpty {G:Hp} {ds:List zS} {xs:List V} (r:RepL G ds xs):ds.isEmpty=xs.isEmpty:=by
 have:=r.length;cases ds <;> cases xs <;> simp at this ⊢
theorem Rep.truV {G H:Hp} (hG:Same G H) {d:zS} {v:V} (r:Rep G d v) {kk:Bool} (e:Oy d=some kk):zM K v H kk:=by
 cases d with
 | none=>cases (show _=_ from r); cases e; rfl
 | bool _=>cases (show _=_ from r); cases e; rfl
 | int _=>cases (show _=_ from r); cases e; rfl
 | str x =>
   cases r.1; cases e;refine ⟨r.2.2,?_⟩; show (x.length != 0)=((x.length:Int) != 0);rw [BM]; simp
 | list _=>obtain ⟨a,xs,rfl,h1,l1⟩:=r; cases e; exact .inl ⟨xs,.inl (Rd.mono hG h1),by rw [l1.isEmpty]⟩
 | tuple _=>obtain ⟨a,xs,rfl,h1,l1⟩:=r; cases e; exact .inr (.inl ⟨xs,.inl (.inl (hG _ _ h1)),by rw [l1.isEmpty]⟩)
 | dict _=>cases e
theorem Fs (ha:DE X E a f) (he:∀ whole,isTrue a X.env whole=(do let v <- whole; standAt a.pos; holding [v] (truthy v)):=by intro _; rfl):DT X E a (C1 f):=by
 refine PT.imp (Zz ha he) fun Z H Q hZ3=>?_;obtain ⟨G,δ,S,aft⟩:=hZ3;refine Q3 S aft fun d1 v1 G1 H1 g1 r1 S1 a1=>?_;cases e:Oy d1 with
 | none=>rw [e] at a1; exact a1.elim
 | some kk=>rw [e] at a1; exact ⟨kk,r1.truV S1.sub e,a1 G1 H1 (Grow.refl S1.sub)⟩
theorem Hv {o:BZ} {r:R2} {op:zS->zS->Option zS} (hr:OpR X (x0 o) r) (ho:OpD r op) (hbool:∀ x y d,op x y=some d->∃ kk,d=.bool kk) (ha:DE X E a f) (hb:DE X E b g) (hm:behindInMarks o b=false) :
   DT X E (.Compare a [o] [b] pos) (C1 (b2 f g op)):=by
 refine PT.imp (rS hr ha hb hm) fun Z H Q hZ3=>?_;obtain ⟨G,δ,S,aft⟩:=hZ3;have aft':AftT E G H ((f δ).bind fun x=>(g δ).bind fun y=>(ofO (op x y)).bind fun d=>ofO (Oy d)) Q:=by
   unfold C1 b2 at aft; simp only [Res.bind_assoc] at aft; exact aft
 refine Q3 S aft' fun d1 v1 G1 H1 g1 r1 S1 a1=>?_;refine Q3 S1 a1 fun d2 v2 G2 H2 g2 r2 S2 a2=>?_;cases e:op d1 d2 with
 | none=>rw [e] at a2; exact a2.elim
 | some d =>
   rw [e] at a2; obtain ⟨kk,rfl⟩:=hbool _ _ _ e; exact ho G2 H2 v1 v2 d1 d2 _ _ S2.sub (r1.mono g2.g) r2 e fun v G3 H3 g3 r3=>⟨kk,r3,a2 G3 H3 g3⟩
theorem uM (x y d:zS) (e:dEq x y=some d):∃ kk,d=.bool kk:=by unfold dEq at e; split at e <;> cases e; exact ⟨_,rfl⟩
theorem uL (x y d:zS) (e:dNe x y=some d):∃ kk,d=.bool kk:=by unfold dNe at e; split at e <;> cases e; exact ⟨_,rfl⟩
theorem Dz {op:BZ} (x y d:zS) (e:D9 op x y=some d):∃ kk,d=.bool kk:=by
 unfold D9 at e; split at e
 . obtain ⟨kk,_,rfl⟩:=p6.mp e; exact ⟨_,rfl⟩
 . cases e
theorem jZ {op:BZ} (x y d:zS) (e:Cv op x y=some d):∃ kk,d=.bool kk:=by
 unfold Cv at e; split at e
 . cases e; exact ⟨_,rfl⟩
 . cases e
theorem Dq (C:Cxt P w K mg base X N sc k df) (ha:DE X E a f) (hb:DE X E b g):DT X E (.Compare a [.Eq] [b] pos) (C1 (b2 f g dEq)):=Hv (mY C.hu) nA uM ha hb (Gg _)
theorem Ji (C:Cxt P w K mg base X N sc k df) (ha:DE X E a f) (hb:DE X E b g):DT X E (.Compare a [.NotEq] [b] pos) (C1 (b2 f g dNe)):=Hv (xP C.hu) xR uL ha hb (Gg _)
theorem bX (C:Cxt P w K mg base X N sc k df) (ha:DE X E a f) (hb:DE X E b g):DT X E (.Compare a [.Lt] [b] pos) (C1 (b2 f g (D9 .Lt))):=Hv (Ct (.inl rfl) C.hu) Ba Dz ha hb (Gg _)
theorem t_le (C:Cxt P w K mg base X N sc k df) (ha:DE X E a f) (hb:DE X E b g):DT X E (.Compare a [.LtE] [b] pos) (C1 (b2 f g (D9 .LtE))):=Hv (Ct (.inr rfl) C.hu) Ba Dz ha hb (Gg _)
theorem t_gt (C:Cxt P w K mg base X N sc k df) (ha:DE X E a f) (hb:DE X E b g):DT X E (.Compare a [.Gt] [b] pos) (C1 (b2 f g (Cv .Gt))):=Hv (fA (.inl rfl)) aE jZ ha hb (Gg _)
theorem wC (C:Cxt P w K mg base X N sc k df) (ha:DE X E a f) (hb:DE X E b g) (hm:behindInMarks .In b=false:=by with_unfolding_all rfl):DT X E (.Compare a [.In] [b] pos) (C1 (b2 f g (dIn false))):=Hv (mX C.hu) cZ (fun _ _ _ e=>Ro e) ha hb hm
theorem eJ (C:Cxt P w K mg base X N sc k df) (ha:DE X E a f) (hb:DE X E b g) (hm:behindInMarks .NotIn b=false:=by with_unfolding_all rfl):DT X E (.Compare a [.NotIn] [b] pos) (C1 (b2 f g (dIn true))):=Hv (iO C.hu) cZ (fun _ _ _ e=>Ro e) ha hb hm
theorem wB {j:Nat} {p:Pos} (ha:DE X E a f):DT X E (.Compare a [.IsNot] [.Constant .none j p] pos) (fun δ=>(f δ).bind fun d=>.ok (!Av d)):=by
 refine PT.imp (mI (sC ha)) fun Z H Q hZ3=>?_;obtain ⟨G,δ,S,aft⟩:=hZ3;exact Q3 S aft fun d1 v1 G1 H1 g1 r1 S1 a1=>by rw [r1.non]; exact ⟨_,rfl,a1 G1 H1 (Grow.refl S1.sub)⟩
variable {c1 c2:Dn->Res Bool}
noncomputable def X7 (c:Dn->Res Bool):Dn->Res Bool:=fun δ=>(c δ).bind fun b=>.ok (!b)
noncomputable def Ag (c c':Dn->Res Bool):Dn->Res Bool:=fun δ=>(c δ).bind fun b=>if b=true then c' δ else .ok false
noncomputable def cOr (c c':Dn->Res Bool):Dn->Res Bool:=fun δ=>(c δ).bind fun b=>if b=true then .ok true else c' δ
theorem Dm (ha:DT X E a c1):DT X E (.UnaryOp .Not a pos) (X7 c1):=by
 refine PT.imp (xB ha) fun Z H Q hZ3=>?_;obtain ⟨G,δ,S,aft⟩:=hZ3;exact Iy S aft fun d G1 H1 g1 S1 a1=>a1 G1 H1 (Grow.refl S1.sub)
theorem Ht (ha:DT X E a c1):DW X E (.BoolOp .And [a] pos) c1:=rM ha
theorem Jf (ha:DT X E a c1):DW X E (.BoolOp .Or [a] pos) c1:=wZ ha
theorem Ot (ha:DT X E a c1) (hb:DW X E (.BoolOp .And (b::I8) pos) c2):DW X E (.BoolOp .And (a::b::I8) pos) (Ag c1 c2):=by
 refine PW.imp (xA ha hb) fun Z H Q hZ3=>?_;obtain ⟨G,δ,S,aft⟩:=hZ3;refine Iy S aft fun d G1 H1 g1 S1 a1=>?_;cases d with
 | true=>rw [if_pos rfl]; exact ⟨G1,δ,S1,a1⟩
 | false=>rw [if_neg (by decide)]; exact a1 G1 H1 (Grow.refl S1.sub)
theorem Os (ha:DT X E a c1) (hb:DW X E (.BoolOp .Or (b::I8) pos) c2):DW X E (.BoolOp .Or (a::b::I8) pos) (cOr c1 c2):=by
 refine PW.imp (pw_or ha hb) fun Z H Q hZ3=>?_;obtain ⟨G,δ,S,aft⟩:=hZ3;refine Iy S aft fun d G1 H1 g1 S1 a1=>?_;cases d with
 | true=>rw [if_pos rfl]; exact a1 G1 H1 (Grow.refl S1.sub)
 | false=>rw [if_neg (by decide)]; exact ⟨G1,δ,S1,a1⟩
theorem w_t (h:DW X E a c1):DT X E a c1:=h.pt
noncomputable def vIf (c:Dn->Res Bool) (f g:Dn->Res zS):Dn->Res zS:=fun δ=>(c δ).bind fun b=>if b=true then f δ else g δ
theorem uE (hc:DT X E c c1) (ha:DE X E a f) (hb:DE X E b g):DE X E (.IfExp c a b pos) (vIf c1 f g):=by
 refine PE.imp (mS hc ha hb) fun Z H Q hZ3=>?_;obtain ⟨G,δ,S,aft⟩:=hZ3;refine eB S aft fun d G1 H1 g1 S1 a1=>?_;cases d with
 | true=>rw [if_pos rfl]; exact ⟨G1,δ,S1,a1⟩
 | false=>rw [if_neg (by decide)]; exact ⟨G1,δ,S1,a1⟩
end
end Sm
end
noncomputable section
namespace Sm
open PySem PySem.Spec PyProof.Rows L2
noncomputable section
variable {w:l9} {K:zX} {X:Cx} {k:Nat} {E:EK} {pos:Pos} {a b c e:Expr} {es:List Expr} {f g:Dn->Res zS} {fs:Dn->Res (List zS)}
def AftL (E:EK) (G H:Hp) (r:Res (List zS)) (Q:List V->Hp->Prop):Prop:=match r with
 | .ok ds=>∀ vs G' H',Grow G H G' H'->RepL G' ds vs->Q vs H'
 | .exc c=>∀ G' H',Grow G H G' H'->E c H'
 | .no=>False
def tA (E:EK) (fs:Dn->Res (List zS)):TA:=fun Z H Q=>∃ G δ,SR G H Z δ/\AftL E G H (fs δ) Q
structure DA (X:Cx) (E:EK) (es:List Expr) (n:Nat) (fs:Dn->Res (List zS)):Prop where
 pa:PA X es (tA E fs)
 len:∀ δ ds,fs δ=.ok ds->ds.length=n
theorem PA.imp {X:Cx} {es:List Expr} {t t':TA} (h:PA X es t) (i:∀ Z H Q,t' Z H Q->t Z H Q):PA X es t':=fun p pins s Z H Q I q=>h p pins s Z H Q I (i _ _ _ q)
theorem AftL.grow {E:EK} {G H G' H':Hp} {r:Res (List zS)} {Q:List V->Hp->Prop} (g:Grow G H G' H') (a:AftL E G H r Q):AftL E G' H' r Q:=by
 cases r with
 | ok d=>exact fun v G2 H2 g2 q=>a v G2 H2 (g.trans g2) q
 | exc c=>exact fun G2 H2 g2=>a G2 H2 (g.trans g2)
 | no=>exact a
theorem Op {α:Type} {E:EK} {G H:Hp} {Z:St} {δ:Dn} {f:Dn->Res zS} {k:zS->Res α} {R:VK} {W:Hp->Hp->Res α->Prop} (S:SR G H Z δ) (a:W G H ((f δ).bind k)) (hg:∀ {G H G' H':Hp} {r:Res α},Grow G H G' H'->W G H r->W G' H' r)
   (hx:∀ c,W G H (.exc c)->∀ G' H',Grow G H G' H'->E c H') (hn:W G H .no->False)
   (h:∀ d v G1 H1,Grow G H G1 H1->Rep G1 d v->SR G1 H1 Z δ->W G1 H1 (k d)->R v H1):tD E f Z H R:=by
 refine ⟨G,δ,S,?_⟩;cases e:f δ with
 | ok d=>rw [e] at a; exact fun v G' H' g r=>h d v G' H' g r (S.grow g) (hg g a)
 | exc c=>rw [e] at a; exact hx c a
 | no=>rw [e] at a; exact hn a
theorem Ai {α:Type} {E:EK} {G H:Hp} {Z:St} {δ:Dn} {fs:Dn->Res (List zS)} {k:List zS->Res α} {R:List V->Hp->Prop} {W:Hp->Hp->Res α->Prop} (S:SR G H Z δ) (a:W G H ((fs δ).bind k)) (hg:∀ {G H G' H':Hp} {r:Res α},Grow G H G' H'->W G H r->W G' H' r)
   (hx:∀ c,W G H (.exc c)->∀ G' H',Grow G H G' H'->E c H') (hn:W G H .no->False)
   (h:∀ ds vs G1 H1,fs δ=.ok ds->Grow G H G1 H1->RepL G1 ds vs->SR G1 H1 Z δ->W G1 H1 (k ds)->R vs H1):tA E fs Z H R:=by
 refine ⟨G,δ,S,?_⟩;cases e:fs δ with
 | ok d=>rw [e] at a; exact fun v G' H' g r=>h d v G' H' e g r (S.grow g) (hg g a)
 | exc c=>rw [e] at a; exact hx c a
 | no=>rw [e] at a; exact hn a
noncomputable def A7:Dn->Res (List zS):=fun _=>.ok []
noncomputable def A2 (f:Dn->Res zS) (fs:Dn->Res (List zS)):Dn->Res (List zS):=fun δ=>(f δ).bind fun d=>(fs δ).bind fun ds=>.ok (d::ds)
theorem A8:DA X E [] 0 A7:=⟨PA.imp X3 fun Z H Q hZ3=>by obtain ⟨G,δ,S,a⟩:=hZ3; exact a [] G H (Grow.refl S.sub) rfl,fun δ ds e=>by cases e; rfl⟩
noncomputable def Wz:Expr->Bool
 | .Starred .. => false
 | _=>true
theorem gR {a:Expr} {es:List Expr} {env:Env} (h:Wz a=true):e8 (a::es) env=(false,eval a env)::e8 es env:=by
 cases a <;> first | rfl | cases h
theorem A5 {n:Nat} (ha:DE X E a f) (hr:DA X E es n fs) (hs:Wz a=true:=by rfl):DA X E (a::es) (n+1) (A2 f fs):=by
 refine ⟨PA.imp (N4 ha hr.pa (gR hs)) fun Z H Q ⟨G,δ,S,aft⟩=>?_,fun δ ds e=>?_⟩
 . refine Op (W:=fun G H r=>AftL E G H r Q) S aft (fun g a=>AftL.grow g a) (fun c a=>a) (fun a=>a) fun d v G1 H1 g1 r1 S1 a1=>?_
   refine Ai (W:=fun G H r=>AftL E G H r Q) S1 a1 (fun g a=>AftL.grow g a) (fun c a=>a) (fun a=>a) fun ds vs G2 H2 e g2 r2 S2 a2=>?_;exact a2 _ G2 H2 (Grow.refl S2.sub) (RepL.cons (r1.mono g2.g) r2)
 . unfold A2 at e
   cases h1:f δ with
   | ok d =>
     rw [h1] at e;cases h2:fs δ with
     | ok ds' =>
       simp only [Res.bind,h2] at e; cases e; rw [i0,hr.len δ ds' h2]
     | exc c=>simp only [Res.bind,h2] at e; cases e
     | no=>simp only [Res.bind,h2] at e; cases e
   | exc c=>rw [h1] at e; cases e
   | no=>rw [h1] at e; cases e
noncomputable def I9 (fs:Dn->Res (List zS)):Dn->Res zS:=fun δ=>(fs δ).bind fun ds=>.ok (.tuple ds)
noncomputable def E8 (fs:Dn->Res (List zS)):Dn->Res zS:=fun δ=>(fs δ).bind fun ds=>.ok (.list ds)
theorem N3 {n x1:Nat} (h:DA X E es n fs) (hn:n<=sizeLine:=by decide):DE X E (.Tuple es x1 pos) (I9 fs):=by
 refine PE.imp (xE h.pa) fun Z H Q hZ3=>?_;obtain ⟨G,δ,S,aft⟩:=hZ3;refine Ai (W:=fun G H r=>Aft E G H r Q) S aft (fun g a=>Aft.grow g a) (fun c a=>a) (fun a=>a) fun ds vs G1 H1 e g1 r1 S1 a1=>?_;refine ⟨by rw [<- r1.length,h.len δ ds e]; exact hn,fun p hp=>?_⟩;exact a1 _ (upd G1 p (.tup vs)) _ (Grow.new S1.sub hp) ⟨p,vs,rfl,C3,r1.mono (Same.upd (S1.sub.free hp))⟩
def pY (E:EK) (G H:Hp) (r:Res (List zS)) (Q:VK):Prop:=match r with
 | .ok ds=>∀ p xs G' H',Grow G H G' H'->H p=none->G' p=none->H' p=some (.lst xs)->RepL G' ds xs->Q (.ref p) H'
 | .exc c=>∀ G' H',Grow G H G' H'->E c H'
 | .no=>False
def tF (E:EK) (f:Dn->Res (List zS)):TE:=fun Z H Q=>∃ G δ,SR G H Z δ/\pY E G H (f δ) Q
abbrev DF (X:Cx) (E:EK) (e:Expr) (f:Dn->Res (List zS)):Prop:=PE X e (tF E f)
theorem Grow.share {G H G' H':Hp} {p:c6} {o:HO} (g:Grow G H G' H') (hp:H p=none) (hg:G' p=none) (hH:H' p=some o):Grow G H (upd G' p o) H' :=
 ⟨g.g.trans (Same.upd hg),g.h,fun b u e=>by
   by_cases hb:b=p
   . subst hb; rw [C3] at e; cases e; exact hH
   . rw [C4 hb] at e; exact g.gh _ _ e,fun b u e=>by
   by_cases hb:b=p
   . subst hb; exact .inr (.inl hp)
   . rw [C4 hb] at e; exact g.fr _ _ e⟩
theorem F4 (h:DF X E e fs):DE X E e (E8 fs):=by
 refine PE.imp h fun Z H Q hY35=>?_;obtain ⟨G,δ,S,aft⟩:=hY35;refine ⟨G,δ,S,?_⟩;unfold E8 at aft;cases e:fs δ with
 | ok ds =>
   rw [e] at aft; exact fun p xs G' H' g hp hg hH r=>aft _ _ H' (g.share hp hg hH) ⟨p,xs,rfl,.inl C3,r.mono (Same.upd hg)⟩
 | exc c=>rw [e] at aft; exact aft
 | no=>rw [e] at aft; exact aft
theorem U8 {n:Nat} (h:DA X E es n fs) (hn:n<=sizeLine:=by decide):DF X E (.List es pos) fs:=by
 refine PE.imp (mR h.pa) fun Z H Q hY36=>?_;obtain ⟨G,δ,S,aft⟩:=hY36;refine ⟨G,δ,S,?_⟩;cases e:fs δ with
 | ok ds =>
   rw [e] at aft; refine fun vs G1 H1 g1 r1=>⟨by rw [<- r1.length,h.len δ ds e]; exact hn,fun p hp=>?_⟩;exact aft p vs G1 _ (g1.trans (Grow.own g1.gh hp)) (g1.h.free hp) (g1.gh.free hp) C3 r1
 | exc c=>rw [e] at aft; exact aft
 | no=>rw [e] at aft; exact aft
noncomputable def dIx:zS->zS->Option zS
 | .list ds,.int i=>atI ds i
 | .tuple ds,.int i=>atI ds i
 | .str x,.int i=>(atI x.cps.toList i).map fun c=>.str ⟨#[c]⟩
 | _,_=>none
theorem gC {G:Hp} {ds:List zS} {xs:List V} {i:Int} {d:zS} (r:RepL G ds xs) (e:atI ds i=some d):∃ x,atI xs i=some x/\Rep G d x:=by
 unfold atI at e ⊢;rw [<- r.length];cases q:ixN ds.length i with
 | none=>rw [q] at e; cases e
 | some j=>rw [q] at e; exact r.get e
theorem xS:OpD (rIx K) dIx:=by
 intro G H x y a b d Q hG ra rb e q;cases b with
 | int i =>
   cases (show _=_ from rb);cases a with
   | list ds =>
     obtain ⟨p,xs,rfl,h1,l1⟩:=ra; obtain ⟨v,e1,r1⟩:=gC l1 e; exact .inl ⟨p,xs,i,v,rfl,rfl,.inl (Rd.mono hG h1),e1,q _ G H (Grow.refl hG) r1⟩
   | tuple ds =>
     obtain ⟨p,xs,rfl,h1,l1⟩:=ra; obtain ⟨v,e1,r1⟩:=gC l1 e; exact .inr (.inl ⟨p,xs,i,v,rfl,rfl,.inl (.inl (hG _ _ h1)),e1,q _ G H (Grow.refl hG) r1⟩)
   | str z =>
     obtain ⟨e0,o1,l1⟩:=ra; subst e0; obtain ⟨cc,e1,rfl⟩:=p6.mp e; refine .inr (.inr ⟨z,i,cc,rfl,rfl,l1,e1,q _ G H (Grow.refl hG) ⟨rfl,?_,?_⟩⟩)
     . obtain ⟨j,_,h2,_⟩:=Oo e1
       have hm:cc∈z.cps.toList:=AY h2; unfold l7 at *;rw [<- KH,BS] at o1; have:=o1 cc hm;simpa using this
     . show 1<=sizeLine; decide
   | _=>cases e
 | _=>cases a <;> cases e
theorem C8 (ha:DE X E a f) (hb:DE X E b g) (hs:gG b:=by exact fun _ _=>rfl):DE X E (.Subscript a b pos) (b2 f g dIx) :=
 PE.imp (pe_ix yN ha hb hs) fun _ _ _ h=>kW xS h
noncomputable def Fo (xs:List zS) (lo hi:Option Int):List zS:=(xs.drop (HT.sIx xs.length 0 lo)).take (HT.sIx xs.length xs.length hi - HT.sIx xs.length 0 lo)
noncomputable def Xs (d:zS) (lo hi:Option Int):Option zS:=match d with
 | .list ds=>some (.list (Fo ds lo hi))
 | .tuple ds=>some (.tuple (Fo ds lo hi))
 | _=>none
theorem fV {G:Hp} {ds:List zS} {xs:List V} (r:RepL G ds xs) (lo hi:Option Int):RepL G (Fo ds lo hi) (jY xs lo hi):=by
 unfold Fo jY;rw [r.length];exact (r.drop _).take _
noncomputable def rSlD:V->Option Int->Option Int->Hp->VK->Prop:=fun x lo hi H Q=>∃ G a d,Same G H/\Rep G a x/\Xs a lo hi=some d/\∀ v G' H',Grow G H G' H'->Rep G' d v->Q v H'
theorem He {prog:j5} {w:l9} {A:u5} {E:zV->zW->Prop} {s:zW} {t sl:c6} {items:Array zV} {vl vu:zV} {lo hi:Option Int} {Q:zV->zW->Prop} (ht:IX s.heap t items) (hs:s.heap.IsSliceOf sl vl vu .none) (pl:JQ vl lo) (pu:JQ vu hi)
   (hw:HT.sIx items.size 0 lo=0/\HT.sIx items.size items.size hi=items.size) (h:Q (.ref t) s):wpAny (i9 prog w) A (GU (.ref t) (.ref sl)) Q E s:=by
 obtain ⟨os,hos,hcs,hds⟩:=id hs;have hTs:s.TypeIs (.ref sl) "slice" := ⟨os,hos,hcs⟩;unfold GU;try with_reducible refine s0 ?_
 first | refine zT (zU ?_) | skip
 refine zT (HN ht.typeIs (by decide) ?_);refine zT (t8 (name:=BH "__getitem__") ht.typeIs BA
   (p0 BA ht.typeIs entry_tuple_getitem ?_ (args_tuple_getitem _ _)))
 show wpAny _ _ (FU (.ref t)>>=_) _ _ s;refine zT (tupleItemsOf_ ht ?_);refine zT (GS hTs ?_);rw [if_pos (by decide)];refine zT (HT.sliceApplied_gen hs pl pu ?_);show wpAny _ _ (if (((HT.sIx items.size 0 lo:Nat):Int)==0&&(1:Int)==1&&(HT.sIx items.size items.size hi - HT.sIx items.size 0 lo)==items.size)=true then _ else _) _ _ s;rw [if_pos (by rw [hw.1,hw.2]; simp)];unfold Builtin.Tuple.tupleIsExact;refine zT (zT (GS ht.typeIs (zU ?_)));rw [if_pos (by decide)];first
   | exact zT (AI (zU ⟨_,rfl,zU h⟩))
   | exact zT (AI (zT (zU (zU ⟨_,rfl,zU h⟩))))
theorem sl_D:SlR X rSlD:=by
 rintro pins s Z H x v vl vu lo hi sl Q I rx hs pl pu ⟨G,a,d,hG,ra,e,q⟩;cases a with
 | list ds =>
   cases e; obtain ⟨p,xs,rfl,h1,l1⟩:=ra; cases rx; obtain ⟨z,its,n,r,e1⟩:=Z5 I hG h1; have hlen:=r.length; have hl:s.heap.IsList p its.toArray:=⟨_,e1,rfl,n,rfl⟩; refine ⟨"list",_,LB.lookup,hl.typeIs,?_⟩; refine wpAny_getItem_list_slice hl hs pl pu .none (by simp) ?_ (by rw [i5] <;> lia)
   rw [Hi,<- hlen]; exact Xl (t':=s.toks) I hG ((r.drop (HT.sIx xs.length 0 lo)).take (HT.sIx xs.length xs.length hi - HT.sIx xs.length 0 lo)) (fV l1 lo hi) (i6 (Gn xs lo hi) z) q
 | tuple ds =>
   cases e; obtain ⟨p,xs,rfl,h1,l1⟩:=ra; cases rx; obtain ⟨z,its,r,ht⟩:=Lw I hG h1; have hlen:its.toArray.size=xs.length:=by rw [i5]; exact r.length.symm
   refine ⟨"tuple",_,BA.lookup,ht.typeIs,?_⟩;by_cases hw:HT.sIx xs.length 0 lo=0/\HT.sIx xs.length xs.length hi=xs.length
   . refine He ht hs pl pu (by rw [hlen]; exact hw) ⟨.ref p,H,I,rfl,q _ G H (Grow.refl hG) ⟨p,xs,rfl,h1,?_⟩⟩
     have:Fo ds lo hi=ds:=by
       unfold Fo; rw [l1.length,hw.1,hw.2,GN,Nat.sub_zero,<- l1.length,List.take_length]
     rw [this]; exact l1
   . refine HT.getItem_tuple_cut ht hs pl pu (by rw [hlen]; exact hw) ?_ (by rw [hlen]; exact z)
     rw [hlen]; exact fQ (t':=s.toks) I hG ((r.drop (HT.sIx xs.length 0 lo)).take (HT.sIx xs.length xs.length hi - HT.sIx xs.length 0 lo)) (fV l1 lo hi) (i6 (Gn xs lo hi) z) q
 | _=>cases e
def AftO (E:EK) (G H:Hp) (r:Res (Option Int)) (Q:Option Int->Hp->Prop):Prop:=match r with
 | .ok ds=>∀ G' H',Grow G H G' H'->Q ds H'
 | .exc c=>∀ G' H',Grow G H G' H'->E c H'
 | .no=>False
def tO (E:EK) (f:Dn->Res (Option Int)):TO:=fun Z H Q=>∃ G δ,SR G H Z δ/\AftO E G H (f δ) Q
abbrev DO (X:Cx) (E:EK) (e:Option Expr) (f:Dn->Res (Option Int)):Prop:=PO X e (tO E f)
theorem PO.imp {X:Cx} {e:Option Expr} {t t':TO} (h:PO X e t) (i:∀ Z H Q,t' Z H Q->t Z H Q):PO X e t':=fun pins s Z H Q I q=>h pins s Z H Q I (i _ _ _ q)
noncomputable def Ax:Dn->Res (Option Int):=fun _=>.ok none
noncomputable def X9 (f:Dn->Res zS):Dn->Res (Option Int):=fun δ=>(f δ).bind fun d=>match d with
 | .int i=>.ok (some i)
 | _=>.no
theorem AftO.grow {E:EK} {G H G' H':Hp} {r:Res (Option Int)} {Q:Option Int->Hp->Prop} (g:Grow G H G' H') (a:AftO E G H r Q):AftO E G' H' r Q:=by
 cases r with
 | ok d=>exact fun G2 H2 g2=>a G2 H2 (g.trans g2)
 | exc c=>exact fun G2 H2 g2=>a G2 H2 (g.trans g2)
 | no=>exact a
theorem Ig:DO X E none Ax:=PO.imp rY fun Z H Q hZ3=>by obtain ⟨G,δ,S,a⟩:=hZ3; exact a G H (Grow.refl S.sub)
theorem Ie (h:DE X E e f):DO X E (some e) (X9 f):=by
 refine PO.imp (rW h) fun Z H Q hZ3=>?_;obtain ⟨G,δ,S,aft⟩:=hZ3;refine Op (W:=fun G H r=>AftO E G H r Q) S aft (fun g a=>AftO.grow g a) (fun c a=>a) (fun a=>a) fun d v G1 H1 g1 r1 S1 a1=>?_;cases d with
 | int i=>exact ⟨i,r1,a1 G1 H1 (Grow.refl S1.sub)⟩
 | _=>exact (show False from a1).elim
theorem bK {α:Type} {E:EK} {G H:Hp} {Z:St} {δ:Dn} {fs:Dn->Res (Option Int)} {k:Option Int->Res α} {R:Option Int->Hp->Prop} {W:Hp->Hp->Res α->Prop} (S:SR G H Z δ) (a:W G H ((fs δ).bind k)) (hg:∀ {G H G' H':Hp} {r:Res α},Grow G H G' H'->W G H r->W G' H' r)
   (hx:∀ c,W G H (.exc c)->∀ G' H',Grow G H G' H'->E c H') (hn:W G H .no->False)
   (h:∀ ds G1 H1,Grow G H G1 H1->SR G1 H1 Z δ->W G1 H1 (k ds)->R ds H1):tO E fs Z H R:=by
 refine ⟨G,δ,S,?_⟩;cases e:fs δ with
 | ok d=>rw [e] at a; exact fun G' H' g=>h d G' H' g (S.grow g) (hg g a)
 | exc c=>rw [e] at a; exact hx c a
 | no=>rw [e] at a; exact hn a
noncomputable def vSl (f:Dn->Res zS) (lo hi:Dn->Res (Option Int)):Dn->Res zS:=fun δ=>(f δ).bind fun x=>(lo δ).bind fun l=>(hi δ).bind fun u=>ofO (Xs x l u)
variable {lo hi:Option Expr} {fl fh:Dn->Res (Option Int)} {p2:Pos}
theorem Eu (he:DE X E e f) (hl:DO X E lo fl) (hu:DO X E hi fh):DE X E (.Subscript e (.Slice lo hi none p2) pos) (vSl f fl fh):=by
 refine PE.imp (mO sl_D he hl hu) fun Z H Q hZ3=>?_;obtain ⟨G,δ,S,aft⟩:=hZ3;refine I0 S aft fun d v G1 H1 g1 r1 S1 a1=>?_;refine bK (W:=fun G H r=>Aft E G H r Q) S1 a1 (fun g a=>Aft.grow g a) (fun c a=>a) (fun a=>a) fun l G2 H2 g2 S2 a2=>?_;refine bK (W:=fun G H r=>Aft E G H r Q) S2 a2 (fun g a=>Aft.grow g a) (fun c a=>a) (fun a=>a) fun u G3 H3 g3 S3 a3=>?_;cases e:Xs d l u with
 | none=>rw [e] at a3; exact a3.elim
 | some z=>rw [e] at a3; exact ⟨G3,d,z,S3.sub,r1.mono (g2.g.trans g3.g),e,a3⟩
end
end Sm
end
noncomputable section
namespace Sm
open PySem PySem.Spec PyProof.Rows L2
noncomputable section
variable {P:j5} {w:l9} {K:zX} {mg:Str->Option zV} {base:p9} {X:Cx} {N:List Str} {sc:Scope} {k:Nat} {df:Bool} {E:EK} {pos p:Pos} {a b c e:Expr} {es:List Expr} {f g:Dn->Res zS} {fs:Dn->Res (List zS)}
noncomputable def rCD (op:List zS->Option zS):List V->Hp->VK->Prop:=fun vs H Q=>∃ G ds d,Same G H/\RepL G ds vs/\op ds=some d/\∀ v G' H',Grow G H G' H'->Rep G' d v->Q v H'
noncomputable def vFn (fs:Dn->Res (List zS)) (op:List zS->Option zS):Dn->Res zS:=fun δ=>(fs δ).bind fun ds=>ofO (op ds)
theorem vA {op:List zS->Option zS} {Z:St} {H:Hp} {Q:VK} (h:tD E (vFn fs op) Z H Q):tCB (rCD op) (tA E fs) Z H Q:=by
 obtain ⟨G,δ,S,aft⟩:=h;refine Ai (W:=fun G H r=>Aft E G H r Q) S aft (fun g a=>Aft.grow g a) (fun c a=>a) (fun a=>a) fun ds vs G1 H1 e g1 r1 S1 a1=>?_;cases e:op ds with
 | none=>rw [e] at a1; exact a1.elim
 | some d=>rw [e] at a1; exact ⟨G1,ds,d,S1.sub,r1,e,a1⟩
theorem aX {x:Str} {id:String} {n:Nat} {op:List zS->Option zS} (C:Cxt P w K mg base X N sc k df) (hc:Y0 X (.builtin id) (rCD op)) (h:okGl sc x=true) (hm:mg x=none) (hv:CV x=some (.builtin id)) (ha:DA X E (e::es) n fs)
   (he:e8 (e::es) X.env=(false,eval e X.env)::e8 es X.env:=by rfl) (hpl:(AN pos (e8 es X.env)).any (·.1)=false:=by rfl):DE X E (.Call (.Name x p) (e::es) [] pos) (vFn fs op):=by
 obtain ⟨h1,h2,h3⟩:=okGl.gl C h;exact PE.imp (Ki hc h1 (by rw [C.hmg]; exact hm) hv ha.pa h3 h2 he hpl) fun _ _ _ q=>vA q
theorem Rm {x:Str} {T:String} {n:Nat} {op:List zS->Option zS} (C:Cxt P w K mg base X N sc k df) (hc:Y0 X (.type T) (rCD op)) (h:okGl sc x=true) (hm:mg x=none) (hv:CV x=some (.type T)) (ha:DA X E (e::es) n fs)
   (he:e8 (e::es) X.env=(false,eval e X.env)::e8 es X.env:=by rfl) (hpl:(AN pos (e8 es X.env)).any (·.1)=false:=by rfl):DE X E (.Call (.Name x p) (e::es) [] pos) (vFn fs op):=by
 obtain ⟨h1,h2,h3⟩:=okGl.gl C h;exact PE.imp (Ly hc h1 (by rw [C.hmg]; exact hm) hv ha.pa h3 h2 he hpl) fun _ _ _ q=>vA q
theorem Lv {G:Hp} {d:zS} {vs:List V} (r:RepL G [d] vs):∃ v,vs=[v]/\Rep G d v:=by
 obtain ⟨x,t,rfl,h,l⟩:=r; cases (show _=_ from l); exact ⟨x,rfl,h⟩
theorem wT {G:Hp} {d d':zS} {vs:List V} (r:RepL G [d,d'] vs):∃ v v',vs=[v,v']/\Rep G d v/\Rep G d' v':=by
 obtain ⟨x,t,rfl,h,l⟩:=r;obtain ⟨y,rfl,h'⟩:=Lv l;exact ⟨x,y,rfl,h,h'⟩
noncomputable def K7:List zS->Option zS
 | [.list ds]=>some (.int ds.length)
 | [.tuple ds]=>some (.int ds.length)
 | [.str x]=>some (.int x.length)
 | _=>none
theorem dR:Y0 X (.builtin "len") (rCD K7):=by
 rintro pins s Z H xs us Q I r ⟨G,ds,d,hG,rl,e,q⟩;unfold K7 at e;split at e
 . rename_i ys
   cases e; obtain ⟨v,rfl,a,vs,rfl,h1,l1⟩:=Lv rl; exact Rs pins s Z H _ us Q I r ⟨_,ys.length,rfl,.inl ⟨vs,.inl (Rd.mono hG h1),l1.length⟩,q _ G H (Grow.refl hG) rfl⟩
 . rename_i ys
   cases e; obtain ⟨v,rfl,a,vs,rfl,h1,l1⟩:=Lv rl; exact Rs pins s Z H _ us Q I r ⟨_,ys.length,rfl,.inr ⟨vs,.inl (.inl (hG _ _ h1)),l1.length⟩,q _ G H (Grow.refl hG) rfl⟩
 . rename_i x
   cases e; obtain ⟨v,rfl,r1⟩:=Lv rl;cases r1.1;exact Rs pins s Z H _ us Q I r ⟨_,x.length,rfl,⟨r1.2.2,rfl⟩,q _ G H (Grow.refl hG) rfl⟩
 . cases e
theorem N0 {n:Nat} (C:Cxt P w K mg base X N sc k df) (h:okGl sc "len" = true) (hm:mg "len" = none) (ha:DA X E (e::es) n fs)
   (he:e8 (e::es) X.env=(false,eval e X.env)::e8 es X.env:=by rfl) (hpl:(AN pos (e8 es X.env)).any (·.1)=false:=by rfl):DE X E (.Call (.Name "len" p) (e::es) [] pos) (vFn fs K7) :=
 aX C dR h hm PySem.boot_len ha he hpl
noncomputable def Ha:List zS->Option (List Bool)
 | []=>some []
 | .bool b::ds=>(Ha ds).map (b::·)
 | _::_=>none
noncomputable def Fm:List zS->Option zS
 | [.list ds]=>(Ha ds).map fun bs=>.bool (bs.all id)
 | _=>none
theorem Ve {G:Hp}:∀ {ds:List zS} {xs:List V} {us:List zV} {bs:List Bool},RepL G ds xs->Vals xs us->Ha ds=some bs->us=bs.map FQ
 | [],_,_,_,r,q,e=>by cases (show _=_ from r); cases q; cases e; rfl
 | .bool b::ds,_,_,_,r,q,e=>by
   obtain ⟨x,t,rfl,h,l⟩:=r;cases (show _=_ from h);cases q with
   | cons q qs =>
     cases q; obtain ⟨bs,e1,rfl⟩:=p6.mp e; rw [Ve l qs e1]; rfl
 | .none::_,_,_,_,_,_,e=>by cases e
 | .int _::_,_,_,_,_,_,e=>by cases e
 | .str _::_,_,_,_,_,_,e=>by cases e
 | .list _::_,_,_,_,_,_,e=>by cases e
 | .tuple _::_,_,_,_,_,_,e=>by cases e
 | .dict _::_,_,_,_,_,_,e=>by cases e
theorem sT {s:zW} {h':p9} {o:Obj} (hk:∀ b x,b∉[s.heap.objs.size]->(s.heap.push o).get? b=some x->h'.get? b=some x):∀ b x,s.heap.get? b=some x->h'.get? b=some x :=
 fun b x e=>hk b x (fun hm=>by rw [c8.mp hm] at e; exact BV _ (i8 e)) (a8 _ e)
theorem iG (bs:List Bool):((o9 bs.length).all fun i=>(bs[i]?).getD true)=bs.all id:=by
 rw [BM,BS,BS];constructor
 . intro h b hb
   obtain ⟨i,hi,rfl⟩:=IU hb; have:=h i (q9.mpr hi)
   rwa [l0 hi] at this
 . intro h i hi
   have hi':=q9.mp hi; rw [l0 hi']; exact h _ (CZ hi')
theorem dW (hc:X.calm=true):Y0 X (.builtin "all") (rCD Fm):=by
 rintro pins s Z H xs us Q I r ⟨G,ds,d,hG,rl,e,q⟩;unfold Fm at e;split at e
 . rename_i ys
   obtain ⟨bs,e1,rfl⟩:=p6.mp e; obtain ⟨v,rfl,a,vs,rfl,h1,l1⟩:=Lv rl; obtain ⟨u,rfl,ru⟩:=Ov r; cases ru; obtain ⟨z,its,n,rv,e2⟩:=Z5 I hG h1; have hb:=Ve l1 rv e1; have hl:s.heap.IsList a its.toArray:=⟨_,e2,rfl,n,rfl⟩; have hlt:a < s.heap.objs.size:=i8 e2; refine call_all_walk (HQ hl ?_); refine ⟨s.heap.objs.size,[s.heap.objs.size,a],[s.heap.objs.size],its.toArray.size,_,_,fun i=>(bs[i]?).getD true,rfl,Walks.list (A:=X.A.in1) (I.ok.hd hc) _ a (m6 hlt) its.toArray,
     ⟨⟨_,e9 _ rfl,rfl,rfl⟩,hl.push _⟩,fun i v s' Q' E' hP hQ=>?_,fun h' tk hk=>?_⟩
   . have hP':its[i]? = some v:=by simpa using hP
     rw [hb,j8] at hP'; obtain ⟨b,e3,rfl⟩:=p6.mp hP'; simp only [e3,Option.getD_some] at hQ; exact z8 hQ
   . have el:its.toArray.size=bs.length:=by rw [i5,hb,zZ]
     rw [el,iG]; exact ⟨.bl _,H,I.kept (sT hk),rfl,q _ G H (Grow.refl hG) rfl⟩
 . cases e
theorem Nf {n:Nat} (C:Cxt P w K mg base X N sc k df) (h:okGl sc "all" = true) (hm:mg "all" = none) (ha:DA X E (e::es) n fs)
   (he:e8 (e::es) X.env=(false,eval e X.env)::e8 es X.env:=by rfl) (hpl:(AN pos (e8 es X.env)).any (·.1)=false:=by rfl):DE X E (.Call (.Name "all" p) (e::es) [] pos) (vFn fs Fm) :=
 aX C (dW C.calm) h hm (by decide +kernel) ha he hpl
noncomputable def Mj:List zS->Option zS
 | [.list ds]=>some (.list ds)
 | [.tuple ds]=>some (.list ds)
 | _=>none
noncomputable def Gk:List zS->Option zS
 | [.list ds]=>some (.tuple ds)
 | [.tuple ds]=>some (.tuple ds)
 | _=>none
noncomputable def Va:List zS->Option zS
 | [.int i]=>some (.int i)
 | [.bool b]=>some (.int (if b then 1 else 0))
 | _=>none
theorem bC:Y0 X (.type "list") (rCD Mj):=by
 rintro pins s Z H xs us Q I r ⟨G,ds,d,hG,rl,e,q⟩;unfold Mj at e;split at e
 . rename_i ys
   cases e; obtain ⟨v,rfl,a,vs,rfl,h1,l1⟩:=Lv rl; exact Kv pins s Z H _ us Q I r ⟨a,vs,rfl,.inl (.inl (Rd.mono hG h1)),fun l hl=>q _ (upd G l (.lst vs)) _ (Grow.new hG hl) ⟨l,vs,rfl,.inl C3,l1.mono (Same.upd (hG.free hl))⟩⟩
 . rename_i ys
   cases e; obtain ⟨v,rfl,a,vs,rfl,h1,l1⟩:=Lv rl; exact Kv pins s Z H _ us Q I r ⟨a,vs,rfl,.inr (.inl (.inl (hG _ _ h1))),fun l hl=>q _ (upd G l (.lst vs)) _ (Grow.new hG hl) ⟨l,vs,rfl,.inl C3,l1.mono (Same.upd (hG.free hl))⟩⟩
 . cases e
theorem dP:Y0 X (.type "tuple") (rCD Gk):=by
 rintro pins s Z H xs us Q I r ⟨G,ds,d,hG,rl,e,q⟩;unfold Gk at e;split at e
 . rename_i ys
   cases e; obtain ⟨v,rfl,a,vs,rfl,h1,l1⟩:=Lv rl; exact Hs pins s Z H _ us Q I r ⟨a,vs,rfl,.inl ⟨.inl (Rd.mono hG h1),fun l hl=>q _ (upd G l (.tup vs)) _ (Grow.new hG hl) ⟨l,vs,rfl,C3,l1.mono (Same.upd (hG.free hl))⟩⟩⟩
 . rename_i ys
   cases e; obtain ⟨v,rfl,a,vs,rfl,h1,l1⟩:=Lv rl; exact Hs pins s Z H _ us Q I r ⟨a,vs,rfl,.inr ⟨.inl (.inl (hG _ _ h1)),q _ G H (Grow.refl hG) ⟨a,vs,rfl,h1,l1⟩⟩⟩
 . cases e
theorem dS:Y0 X (.type "int") (rCD Va):=by
 rintro pins s Z H xs us Q I r ⟨G,ds,d,hG,rl,e,q⟩;unfold Va at e;split at e
 . rename_i i
   cases e; obtain ⟨v,rfl,e1⟩:=Lv rl;cases (show _=_ from e1);exact Vd pins s Z H _ us Q I r (.inl ⟨i,rfl,q _ G H (Grow.refl hG) rfl⟩)
 . rename_i b
   cases e; obtain ⟨v,rfl,e1⟩:=Lv rl;cases (show _=_ from e1);refine Vd pins s Z H _ us Q I r (.inr ⟨b,rfl,?_⟩); have:=q (.int (if b then 1 else 0)) G H (Grow.refl hG) rfl;cases b <;> exact this
 . cases e
theorem uD {n:Nat} (C:Cxt P w K mg base X N sc k df) (h:okGl sc "list" = true) (hm:mg "list" = none) (ha:DA X E (e::es) n fs)
   (he:e8 (e::es) X.env=(false,eval e X.env)::e8 es X.env:=by rfl) (hpl:(AN pos (e8 es X.env)).any (·.1)=false:=by rfl):DE X E (.Call (.Name "list" p) (e::es) [] pos) (vFn fs Mj) :=
 Rm C bC h hm (by decide +kernel) ha he hpl
theorem dO {n:Nat} (C:Cxt P w K mg base X N sc k df) (h:okGl sc "tuple" = true) (hm:mg "tuple" = none) (ha:DA X E (e::es) n fs)
   (he:e8 (e::es) X.env=(false,eval e X.env)::e8 es X.env:=by rfl) (hpl:(AN pos (e8 es X.env)).any (·.1)=false:=by rfl):DE X E (.Call (.Name "tuple" p) (e::es) [] pos) (vFn fs Gk) :=
 Rm C dP h hm (by decide +kernel) ha he hpl
theorem zC {n:Nat} (C:Cxt P w K mg base X N sc k df) (h:okGl sc "int" = true) (hm:mg "int" = none) (ha:DA X E (e::es) n fs)
   (he:e8 (e::es) X.env=(false,eval e X.env)::e8 es X.env:=by rfl) (hpl:(AN pos (e8 es X.env)).any (·.1)=false:=by rfl):DE X E (.Call (.Name "int" p) (e::es) [] pos) (vFn fs Va) :=
 Rm C dS h hm (by decide +kernel) ha he hpl
noncomputable def Vt:zS->String
 | .none => "NoneType" | .bool _ => "bool" | .int _ => "int" | .str _ => "str" | .list _ => "list" | .tuple _ => "tuple" | .dict _ => "dict"
noncomputable def Km (T:String) (d:zS):Bool:=(Vt d==T)||(T == "int" && Vt d == "bool")
noncomputable def xT (T:String):Bool:=T == "int" || T == "bool" || T == "str" || T == "list" || T == "tuple"
theorem yF {K:zX} {T:String} (h:xT T=true) (d:zS) (hd:∀ kvs,d≠.dict kvs):PySem.W.kitOne K (.type (Vt d)) (.type T)=some (Km T d):=by
 unfold xT at h;simp only [GF,beq_iff_eq] at h;rcases h with (((h | h) | h) | h) | h <;> subst h <;> cases d <;> first | kernel_rfl | exact absurd rfl (hd _)
theorem Rep.tyOf {G H:Hp} (hG:Same G H) {d:zS} {v:V} (r:Rep G d v):TyOf K H v (.type (Vt d)):=by
 cases d with
 | none=>cases (show _=_ from r); exact .non
 | bool _=>cases (show _=_ from r); exact .bl _
 | int _=>cases (show _=_ from r); exact .int _
 | str x=>cases r.1; exact .str _
 | list _ =>
   obtain ⟨a,xs,rfl,h1,l1⟩:=r; rcases h1 with h1 | ⟨o,h1⟩
   . exact .lst (hG _ _ h1)
   . exact .frz (hG _ _ h1)
 | tuple _=>obtain ⟨a,xs,rfl,h1,l1⟩:=r; exact .tup (hG _ _ h1)
 | dict _=>exact (show False from r).elim
theorem Af {T:Str} {Tn:String} {p1:Pos} (C:Cxt P w K mg base X N sc k df) (h:okGl sc "isinstance" = true) (hm:mg "isinstance" = none) (hT:okGl sc T=true) (hmT:mg T=none) (hbT:CV T=some (.type Tn)) (hk:xT Tn=true) (ha:DE X E a f)
   (he:e8 (a::[.Name T p1]) X.env=(false,eval a X.env)::e8 [.Name T p1] X.env:=by rfl) (he2:e8 [.Name T p1] X.env=(false,eval (.Name T p1) X.env)::e8 [] X.env:=by rfl) (hpl:(AN pos (e8 [.Name T p1] X.env)).any (·.1)=false:=by rfl) :
   DE X E (.Call (.Name "isinstance" p) [a,.Name T p1] [] pos) (b1 f fun d=>some (.bool (Km Tn d))):=by
 obtain ⟨h1,h2,h3⟩:=okGl.gl C h;obtain ⟨t1,t2,t3⟩:=okGl.gl C hT;have hc:Y0 X (.builtin "isinstance") (fun vs H Q=>∃ G d v,Same G H/\Rep G d v/\vs=[v,.ty Tn]/\Q (.bl (Km Tn d)) H):=by
   rintro pins s Z H xs us Q I r ⟨G,d,v,hG,rd,e,q⟩;subst e; obtain ⟨u,u',rfl,r1,r2⟩:=vals2 r;cases (show u'=CM Tn from r2);refine jF I r1 (rd.tyOf hG) (yF hk d fun kvs z=>?_) fun tk=>⟨.bl _,H,I.tok _,rfl,q⟩;subst z; exact rd
 refine PE.imp (Ki hc h1 (by rw [C.hmg]; exact hm) (by decide +kernel) (N4 ha (N4 (sB (v:=.ty Tn) t1 (by rw [C.hmg]; exact hmT) hbT rfl t3 t2) X3 he2) he) h3 h2 he hpl) fun Z H Q hY53=>?_;obtain ⟨G,δ,S,aft⟩:=hY53;refine I0 S aft fun d v G1 H1 g1 r1 S1 a1=>?_;exact ⟨G1,d,v,S1.sub,r1,rfl,a1 _ G1 H1 (Grow.refl S1.sub) rfl⟩
noncomputable def De:List zS->Option (List Str)
 | []=>some []
 | .str b::ds=>(De ds).map (b::·)
 | _::_=>none
noncomputable def Rn (x:Str):zS->Option zS
 | .list ds=>(De ds).bind fun ys=>if (ys.map (·.length)).sum+ys.length*x.length<=16777216/\l7 (AG x ys)=true/\(AG x ys).length<=sizeLine then some (.str (AG x ys)) else none
 | _=>none
theorem Yy {G:Hp}:∀ {ds:List zS} {xs:List V} {us:List zV} {ys:List Str},RepL G ds xs->Vals xs us->De ds=some ys->HR us ys
 | [],_,_,_,r,q,e=>by cases (show _=_ from r); cases q; cases e; exact .nil
 | .str b::ds,_,_,_,r,q,e=>by
   obtain ⟨x,t,rfl,h,l⟩:=r;cases h.1;cases q with
   | cons q qs =>
     obtain ⟨tk,rfl⟩:=q; obtain ⟨bs,e1,rfl⟩:=p6.mp e; exact .cons _ _ (Yy l qs e1)
 | .none::_,_,_,_,_,_,e=>by cases e
 | .int _::_,_,_,_,_,_,e=>by cases e
 | .bool _::_,_,_,_,_,_,e=>by cases e
 | .list _::_,_,_,_,_,_,e=>by cases e
 | .tuple _::_,_,_,_,_,_,e=>by cases e
 | .dict _::_,_,_,_,_,_,e=>by cases e
theorem sP:MtR X "str.join" (fun x vs H Q=>∃ G z v d r,Same G H/\x=.str z/\vs=[v]/\Rep G d v/\Rn z d=some (.str r)/\Q (.str r) H):=by
 rintro pins s Z H x vs v us Q I rx rv ⟨G,z,y,d,r,hG,e1,e2,rd,e,q⟩;subst e1 e2;obtain ⟨t,rfl⟩:=rx;obtain ⟨u,rfl,ru⟩:=rv.one;cases d with
 | list ds =>
   obtain ⟨ys,e3,e4⟩:=HA.mp e;split at e4
   . rename_i hc
     cases e4; obtain ⟨l,xs,rfl,h1,l1⟩:=rd; cases ru; obtain ⟨zz,its,n,rv2,e5⟩:=Z5 I hG h1; refine join_list ⟨_,e5,rfl,n,rfl⟩ (by simpa using Yy l1 rv2 e3) hc.1 fun t' k=>⟨.str _,H,I.tok _,⟨t',?_⟩,q⟩;rw [CD (join_plain_closes z ys)]
   . cases e4
 | _=>cases e
noncomputable def Cp (x:Str) (f:Dn->Res zS):Dn->Res zS:=fun δ=>(f δ).bind fun d=>ofO (Rn x d)
theorem jW {z:Str} {d d':zS} (e:Rn z d=some d'):∃ r,d'=.str r/\l7 r=true/\r.length<=sizeLine:=by
 cases d with
 | list ds =>
   obtain ⟨ys,e3,e4⟩:=HA.mp e;split at e4
   . rename_i hc; cases e4; exact ⟨_,rfl,hc.2.1,hc.2.2⟩
   . cases e4
 | _=>cases e
theorem Rl {z:Str} {j:Nat} {p1 apos cpos:Pos} (ha:DE X E a f) (hbase:DC (.Constant (.str z) j p1) "join" X.env (eval (.Constant (.str z) j p1) X.env)=eval (.Constant (.str z) j p1) X.env:=by rfl)
   (hfew:((AN cpos (e8 [a] X.env)).all (fun x => !x.1)&&(JO cpos (GL [] X.env)).all (fun x=>x.1.isSome)
     && decide ([a].length+([]:List FK).length+(if ([]:List FK).isEmpty then 0 else 1) < 30))=true:=by rfl)
   (hline:(apos.endLine==cpos.line)=true:=by rfl) (hs:e8 [a] X.env=(false,eval a X.env)::e8 [] X.env:=by rfl) (hplain:(AN cpos (e8 [] X.env)).any (·.1)=false:=by rfl) :
   DE X E (.Call (.Attribute (.Constant (.str z) j p1) "join" apos) [a] [] cpos) (Cp z f):=by
 refine PE.imp (aC PySem.F.plainAttrs_str PySem.F.slot_str_join PySem.F.type_str_join sP mN (N4 ha X3 hs) hbase hfew hline hs hplain) fun Z H Q hY54=>?_;obtain ⟨G,δ,S,aft⟩:=hY54;refine ⟨rfl,?_⟩;refine I0 S aft fun d v G1 H1 g1 r1 S1 a1=>?_;cases e:Rn z d with
 | none=>rw [e] at a1; exact a1.elim
 | some d' =>
   obtain ⟨r,rfl,o1,o2⟩:=jW e; rw [e] at a1; exact ⟨G1,z,v,d,r,S1.sub,rfl,rfl,r1,e,a1 _ G1 H1 (Grow.refl S1.sub) ⟨rfl,o1,o2⟩⟩
def spD (n:Nat) (m:List zS->Res zS):Sp:=fun vs H Q _=>∃ G ds d,Same G H/\RepL G ds vs/\ds.length=n/\m ds=.ok d/\∀ v G' H',Grow G H G' H'->Rep G' d v->Q v H'
structure Fn (P:j5) (w:l9) (K:zX) (mg:Str->Option zV) (base:p9) (x:Str) (k n:Nat) (m:List zS->Res zS):Prop where
 ex:∃ f fd ps,ps.length=n/\FnOk P w K mg base CX0 k f fd ps (spD n m)/\mg x=some (.ref f)/\AJ K (.ref f)=true/\Binds K fd ps []
def E0k:EK:=fun _ _=>False
noncomputable def B6 (fs:Dn->Res (List zS)) (m:List zS->Res zS):Dn->Res zS:=fun δ=>(fs δ).bind m
theorem C0 {x:Str} {j n:Nat} {m:List zS->Res zS} (C:Cxt P w K mg base X N sc k df) (F:Fn P w K mg base x j n m) (hj:j<=k) (h:okGl sc x=true) (ha:DA X E0k (e::es) n fs)
   (he:e8 (e::es) X.env=(false,eval e X.env)::e8 es X.env:=by rfl) (hpl:(AN pos (e8 es X.env)).any (·.1)=false:=by rfl):DE X E0k (.Call (.Name x p) (e::es) [] pos) (B6 fs m):=by
 obtain ⟨f,fd,ps,hps,F,hm,hk,hb⟩:=F.ex;obtain ⟨h1,h2,h3⟩:=okGl.gl C h;have F':FnOk X.prog X.w X.K X.mg X.base CX0 j f fd ps (spD n m):=by rw [C.hP,C.hw,C.hK,C.hmg,C.hb]; exact F
 refine PE.imp (Oj F' (C.room.mono hj) h1 (by rw [C.hmg]; exact hm) (by rw [C.hK]; exact hk) (by rw [C.hK]; exact hb) .nil (eY (X:=X)) ha.pa h2 he hpl) fun Z H Q hY55=>?_;obtain ⟨G,δ,S,aft⟩:=hY55;refine Ai (W:=fun G H r=>Aft E0k G H r Q) S aft (fun g a=>Aft.grow g a) (fun c a=>a) (fun a=>a) fun ds vs G1 H1 e g1 r1 S1 a1=>?_;rw [m8];cases q:m ds with
 | ok d=>rw [q] at a1; exact ⟨G1,ds,d,S1.sub,r1,ha.len δ ds e,q,a1⟩
 | exc c=>rw [q] at a1; exact (a1 G1 H1 (Grow.refl S1.sub)).elim
 | no=>rw [q] at a1; exact a1.elim
end
end Sm
end
noncomputable section
namespace Sm
open PySem PySem.Spec PyProof.Rows L2
def Its (z:Str):It:=⟨fun i _=>i < z.cps.size,fun i H x H'=>H'=H/\∃ c,z.cps[i]? = some c/\x=.str ⟨#[c]⟩,fun i _=>z.cps.size<=i⟩
theorem bS {P:j5} {w:l9} {K:zX} {tg:Expr} (it:c6) (z:Str) (t:Tok):Turn P w K tg (Its z) [it] it (fun i h=>h.IsStrIter it "str_ascii_iterator" z t i) where
 mem:=by simp
 obj:=fun i h st b hb=>by
   have e:b=it:=by simpa using hb
   subst e; obtain ⟨o,e,c,d⟩:=st; exact ⟨o,e,fun v z=>by rw [d] at z; cases z⟩
 keep:=fun i h h' st k=>by
   obtain ⟨o,e,c,d⟩:=st; exact ⟨o,k it (by simp) o e,c,d⟩
 item:=by
   intro X hP hw hK hc i pins s Z H E I hf st hg; subst hP hw hK; obtain ⟨f0,f1,f2,f3,f4,f5⟩:=hf it (by simp);have hi:i < z.cps.size:=hg; refine wpAny_pyNext_ascii_item st (c:=z.cps[i]) (by simp [hi]) fun h' st' sb=>?_;have I1:Inv X pins Z H { s with heap:=h',toks:=s.toks+1 }:=I.turned (fun b o hb e=>(sb.2 b hb).trans e) f0 f1 f3 f4 f5;obtain ⟨o,e,c,d⟩:=id st'; exact ⟨_,rfl,Uy (s:={ s with heap:=h',toks:=s.toks+1 }) e c d (by decide) ⟨.str ⟨#[z.cps[i]]⟩,H,I1,⟨_,rfl⟩,⟨rfl,_,by simp [hi],rfl⟩,st',fun b hb=>(hf b hb).1⟩⟩
 done:=by
   intro X hP hw hK hc i pins s Z H E I hf st hg; subst hP hw hK; obtain ⟨f0,f1,f2,f3,f4,f5⟩:=hf it (by simp);have hi:z.cps.size<=i:=hg; exact wpAny_pyNext_ascii_end (I.ok.hd hc) st (by simpa using hi) fun h' eb=>⟨rfl,I.turned (t':=s.toks) (fun b o hb e=>eb b o hb e) f0 f1 f3 f4 f5⟩
 self:=fun _ _ _ _ _ st h=>wpAny_pyIter_striter_ascii st h
theorem gM {P:j5} {w:l9} {K:zX} {tg:Expr} (it:c6) (z:Str) (t:Tok):Turn P w K tg (Its z) [it] it (fun i h=>h.IsStrIter it "str_iterator" z t i) where
 mem:=by simp
 obj:=fun i h st b hb=>by
   have e:b=it:=by simpa using hb
   subst e; obtain ⟨o,e,c,d⟩:=st; exact ⟨o,e,fun v z=>by rw [d] at z; cases z⟩
 keep:=fun i h h' st k=>by
   obtain ⟨o,e,c,d⟩:=st; exact ⟨o,k it (by simp) o e,c,d⟩
 item:=by
   intro X hP hw hK hc i pins s Z H E I hf st hg; subst hP hw hK; obtain ⟨f0,f1,f2,f3,f4,f5⟩:=hf it (by simp);have hi:i < z.cps.size:=hg; refine wpAny_pyNext_wide_item st (c:=z.cps[i]) (by simp [hi]) fun h' st' sb=>?_;have I1:Inv X pins Z H { s with heap:=h',toks:=s.toks+1 }:=I.turned (fun b o hb e=>(sb.2 b hb).trans e) f0 f1 f3 f4 f5;obtain ⟨o,e,c,d⟩:=id st'; exact ⟨_,rfl,Uy (s:={ s with heap:=h',toks:=s.toks+1 }) e c d (by decide) ⟨.str ⟨#[z.cps[i]]⟩,H,I1,⟨_,rfl⟩,⟨rfl,_,by simp [hi],rfl⟩,st',fun b hb=>(hf b hb).1⟩⟩
 done:=by
   intro X hP hw hK hc i pins s Z H E I hf st hg; subst hP hw hK; obtain ⟨f0,f1,f2,f3,f4,f5⟩:=hf it (by simp);have hi:z.cps.size<=i:=hg; exact wpAny_pyNext_wide_end (I.ok.hd hc) st (by simpa using hi) fun h' eb=>⟨rfl,I.turned (t':=s.toks) (fun b o hb e=>eb b o hb e) f0 f1 f3 f4 f5⟩
 self:=fun _ _ _ _ _ st h=>wpAny_pyIter_striter_wide st h
def Ite (K:zX) (a:c6):It :=
 ⟨fun i H=>∃ xs x,SqL K H a xs/\xs[i]? = some x,fun i H x H'=>∃ p y,H p=none/\x=.ref p/\H'=upd H p (.tup [.int i,y])/\∀ xs,SqL K H a xs->xs[i]? = some y,fun i H=>∃ xs,SqL K H a xs/\xs.length<=i⟩
theorem gO {P:j5} {w:l9} {K:zX} {elts:List Expr} {x1:Nat} {tp:Pos} (a e it:c6) (hne:e≠it):Turn P w K (.Tuple elts x1 tp) (Ite K a) [e,it] e (fun i h=>(∃ old,IsEnum h e it (i:Int) old)/\h.IsListIter it a i) where
 mem:=by simp
 obj:=fun i h st b hb=>by
   obtain ⟨⟨old,h1⟩,o,h2,c,d⟩:=st; rcases a9.mp hb with rfl | hb
   . exact ⟨_,h1,fun v z=>by cases z⟩
   . have e':b=it:=by simpa using hb
     subst e'; exact ⟨o,h2,fun v z=>by rw [d] at z; cases z⟩
 keep:=fun i h h' st k=>by
   obtain ⟨⟨old,h1⟩,o,h2,c,d⟩:=st; exact ⟨⟨old,k e (by simp) _ h1⟩,o,k it (by simp) o h2,c,d⟩
 item:=by
   intro X hP hw hK hc i pins s Z H E I hf st hg; subst hP hw hK; obtain ⟨⟨old,he⟩,st⟩:=st; obtain ⟨xs,x,hq,hx⟩:=hg; obtain ⟨its,rv,p,hz⟩:=I.list hq; obtain ⟨u,hu,ru⟩:=rv.get hx; obtain ⟨f0,f1,f2,f3,f4,f5⟩:=hf e (by simp);obtain ⟨g0,g1,g2,g3,g4,g5⟩:=hf it (by simp);refine wpAny_pyNext_enum_item he st p.isList (x:=u) (by simpa using hu) hne fun h' he' st' ht' hsz kp=>?_;refine ⟨_,rfl,wpAny_letOwnedTupleGo_enum he' fun h2 he2 sb=>?_⟩;have hfr:H s.heap.objs.size=none:=I.fresh; have elt:e < s.heap.objs.size:=i8 he; have ilt:it < s.heap.objs.size:=by obtain ⟨o,h,_⟩:=st; exact i8 h
   have kp2:∀ b o,b≠e->b≠it->s.heap.get? b=some o->h2.get? b=some o:=fun b o h1 h3 q=>(sb.2 b h1).trans (kp b o h1 h3 q);have I1:Inv X pins Z H { s with heap:=h2,toks:=s.toks+1 }:=by
     refine I.step (g':=s.gens) (d':=s.drawn) (ch:=[e,it]) (fun b hb=>?_) (fun b o _ _ hcb q _=>kp2 b o (fun z=>hcb (by simp [z])) (fun z=>hcb (by simp [z])) q) (fun b o _ _ hcb q _=>⟨o.slots,kp2 b o (fun z=>hcb (by simp [z])) (fun z=>hcb (by simp [z])) q⟩) (fun _ _ _ _ n=>n)
       (fun b o hcb q=>⟨o,kp2 b o (fun z=>hcb (by simp [z])) (fun z=>hcb (by simp [z])) q⟩) (fun _ _ q=>q) (fun _ _ _ q=>q) (fun b ps q=>⟨#[],by rw [q]; simp⟩) (fun m hm=>?_) (fun b u' q=>?_) I.bare
     . rcases a9.mp hb with rfl | hb
       . exact ⟨f3,f1,f4,f5⟩
       . have e':b=it:=by simpa using hb
         subst e'; exact ⟨g3,g1,g4,g5⟩
     . obtain ⟨o,es,ep,ho,r⟩:=hm
       exact ⟨o,es,ep,kp2 _ o (Ne.symm f1) (Ne.symm g1) ho,r⟩
     . refine (I.hok b u' q).stay (fun c v hcc q'=>kp2 c v ?_ ?_ q') (fun _ q'=>q') fun _ _ q'=>q'
       . rintro rfl
         rcases hcc with z | z
         . subst z; rw [f0] at q; cases q
         . rw [f0] at z; cases z
       . rintro rfl
         rcases hcc with z | z
         . subst z; rw [g0] at q; cases q
         . rw [g0] at z; cases z
   have htt:h2.get? s.heap.objs.size=some { cls:=.type "tuple",data:=.seq #[.int i s.toks,u] }:=(sb.2 _ (DM elt)).trans ht'; have Hold:∀ b o,H b=some o->b≠s.heap.objs.size:=fun b o q z=>by subst z; rw [hfr] at q; cases q
   have I2:Inv X pins Z (upd H s.heap.objs.size (.tup [.int i,x])) { s with heap:=h2,toks:=s.toks+1 }:=by
     have nb:∀ b o,b≠s.heap.objs.size->s.heap.get? b=some o->True:=fun _ _ _ _=>trivial;have base':Un X.fs X.ex X.H₀ (upd H s.heap.objs.size (.tup [.int i,x])) X.s₀.heap h2:=by
       have B:=I1.base; have ne0:∀ b o,X.s₀.heap.get? b=some o->b≠s.heap.objs.size:=fun b o q=>m6 (m3 (i8 q) I.sz);exact ⟨B.keep,B.slot,fun b o q n hx=>by rw [C4 (ne0 b o q)]; exact B.free b o q n hx,B.there,
         fun b ys q=>by rw [C4 (Hold b _ (B.tups b ys q))]; exact B.tups b ys q,fun b o' u' q=>by rw [C4 (Hold b _ (B.frzs b o' u' q))]; exact B.frzs b o' u' q,
         fun b ps q=>by obtain ⟨m,q'⟩:=B.tbls b ps q; exact ⟨m,by rw [C4 (Hold b _ q')]; exact q'⟩⟩
     have hok':HOk X.prog X.w (upd H s.heap.objs.size (.tup [.int i,x])) h2:=fun b o q=>by
       by_cases hb:b=s.heap.objs.size
       . subst hb
         rw [C3] at q; cases q; refine ⟨by show 2<=sizeLine; decide,[.int i s.toks,u],.cons ⟨_,rfl⟩ (.cons ru .nil),⟨_,htt,rfl,0,rfl⟩⟩
       . rw [C4 hb] at q
         exact (I1.hok b o q).stay (fun _ _ _ q'=>q') (fun c q'=>by rw [C4 (Hold c _ q')]; exact q') fun c ys q'=>by rw [C4 (Hold c _ q')]; exact q'
     refine ⟨I1.ok,I1.os,I1.bare,base',I1.loc,I1.cell,?_,fun y c q=>?_,fun p hp=>?_,hok',I1.len⟩
     . rw [C4 (m6 I.lt)]; exact I1.free
     . obtain ⟨v,oc,hoc,_⟩:=I.cell y c q
       rw [C4 (m6 (i8 hoc))]; exact I1.freeC y c q
     . obtain ⟨q1,q2,q3,q4,q5⟩:=I1.pin p hp
       refine ⟨q1,?_,q3,q4,q5⟩; rw [C4 (m6 (i8 (I.pin p hp).1))]; exact q2
   refine ⟨.ref s.heap.objs.size,_,I2,rfl,⟨_,x,hfr,rfl,rfl,fun ys hy=>by rw [I.list_inj hy hq]; exact hx⟩,⟨⟨_,by push_cast; exact he2⟩,?_⟩,fun b hb=>?_⟩
   . obtain ⟨o,q,c,d⟩:=st'
     exact ⟨o,(sb.2 it (Ne.symm hne)).trans q,c,d⟩
   . rcases a9.mp hb with rfl | hb
     . rw [C4 (m6 elt)]; exact f0
     . have e':b=it:=by simpa using hb
       subst e'; rw [C4 (m6 ilt)]; exact g0
 done:=by
   intro X hP hw hK hc i pins s Z H E I hf st hg; subst hP hw hK; obtain ⟨⟨old,he⟩,st⟩:=st; obtain ⟨xs,hq,hx⟩:=hg; obtain ⟨its,rv,p,hz⟩:=I.list hq; obtain ⟨g0,g1,g2,g3,g4,g5⟩:=hf it (by simp);have hl:=rv.length; exact wpAny_pyNext_enum_end (I.ok.hd hc) he st p.isList (by simp; lia) fun h' eb=>⟨rfl,I.turned (t':=s.toks) (fun b o hb e=>eb b o hb e) g0 g1 g3 g4 g5⟩
 self:=fun _ _ _ _ _ st h=>by
   obtain ⟨⟨old,he⟩,_⟩:=st; exact wpAny_pyIter_enum he h
end Sm
end
noncomputable section
namespace Sm
open PySem PySem.Spec PyProof.Rows L2
structure Walk (J:It) (G:Hp) (ds:List zS):Prop where
 go:∀ (i:Nat) (H:Hp),i < ds.length->Same G H->J.go i H
 yld:∀ (i:Nat) (d:zS) (G2 H:Hp) (x:V) (H':Hp),ds[i]? = some d->Same G G2->Same G2 H->J.yld i H x H'->∃ G3,Grow G2 H G3 H'/\Rep G3 d x
 stop:∀ (i:Nat) (H:Hp),ds.length<=i->Same G H->J.stop i H
def AftI (E:EK) (G H:Hp) (r:Res (List zS)) (R:It->Hp->Prop):Prop:=match r with
 | .ok ds=>∀ J G' H',Grow G H G' H'->Walk J G' ds->R J H'
 | .exc c=>∀ G' H',Grow G H G' H'->E c H'
 | .no=>False
def tI (E:EK) (f:Dn->Res (List zS)):TI:=fun Z H R=>∃ G δ,SR G H Z δ/\AftI E G H (f δ) R
abbrev DI (X:Cx) (E:EK) (tg e:Expr) (f:Dn->Res (List zS)):Prop:=PI X tg e (tI E f)
theorem AftI.grow {E:EK} {G H G' H':Hp} {r:Res (List zS)} {Q:It->Hp->Prop} (g:Grow G H G' H') (a:AftI E G H r Q):AftI E G' H' r Q:=by
 cases r with
 | ok d=>exact fun v G2 H2 g2 q=>a v G2 H2 (g.trans g2) q
 | exc c=>exact fun G2 H2 g2=>a G2 H2 (g.trans g2)
 | no=>exact a
theorem PI.imp {X:Cx} {tg e:Expr} {t t':TI} (h:PI X tg e t) (i:∀ Z H Q,t' Z H Q->t Z H Q):PI X tg e t':=fun pins s Z H Q I q=>h pins s Z H Q I (i _ _ _ q)
noncomputable def Ia (x:Str):List zS:=x.cps.toList.map fun c=>.str ⟨#[c]⟩
noncomputable def D2:zS->Res (List zS)
 | .list ds=>.ok ds
 | .tuple ds=>.ok ds
 | .str x=>.ok (Ia x)
 | _=>.no
theorem gI {K:zX} {G:Hp} {a:c6} {xs:List V} {ds:List zS} (h:Rd G a (.lst xs)) (l:RepL G ds xs):Walk (Itl K a) G ds where
 go:=fun i H hi hG=>by
   have hi':i < xs.length:=by rw [<- l.length]; exact hi
   exact ⟨xs,xs[i],.inl (Rd.mono hG h),by simp [hi']⟩
 yld:=fun i d G2 H x H' e h1 h2 hy=>by
   obtain ⟨rfl,hy⟩:=hy; obtain ⟨y,e1,r⟩:=l.get e; have:=hy xs (.inl (Rd.mono (h1.trans h2) h)); rw [e1] at this; cases this; exact ⟨G2,Grow.refl h2,r.mono h1⟩
 stop:=fun i H hi hG=>⟨xs,.inl (Rd.mono hG h),by rw [<- l.length]; exact hi⟩
theorem kK {K:zX} {G:Hp} {a:c6} {xs:List V} {ds:List zS} (h:G a=some (.tup xs)) (l:RepL G ds xs):Walk (Itt K a) G ds where
 go:=fun i H hi hG=>by
   have hi':i < xs.length:=by rw [<- l.length]; exact hi
   exact ⟨xs,xs[i],.inl (.inl (hG _ _ h)),by simp [hi']⟩
 yld:=fun i d G2 H x H' e h1 h2 hy=>by
   obtain ⟨rfl,hy⟩:=hy; obtain ⟨y,e1,r⟩:=l.get e; have:=hy xs (.inl (.inl (h2 _ _ (h1 _ _ h)))); rw [e1] at this; cases this; exact ⟨G2,Grow.refl h2,r.mono h1⟩
 stop:=fun i H hi hG=>⟨xs,.inl (.inl (hG _ _ h)),by rw [<- l.length]; exact hi⟩
theorem Ym {G:Hp} {z:Str} (ho:l7 z=true):Walk (Its z) G (Ia z) where
 go:=fun i H hi hG=>by
   show i < z.cps.size;simpa [Ia] using hi
 yld:=fun i d G2 H x H' e h1 h2 hy=>by
   obtain ⟨rfl,c,hc,rfl⟩:=hy; have e':(z.cps.toList.map fun c=>AK ⟨#[c]⟩)[i]? = some d:=e;rw [j8,DQ,hc] at e';cases e'; refine ⟨G2,Grow.refl h2,rfl,?_,by show 1<=sizeLine; decide⟩;unfold l7 at ho ⊢;rw [<- KH,BS] at ho; have:=ho c (by rw [<- DQ] at hc; exact AY hc);simpa using this
 stop:=fun i H hi hG=>by
   show z.cps.size<=i;simpa [Ia] using hi
theorem bM {G:Hp} (lo:Int) (n:Nat):Walk (Itr lo n) G ((o9 n).map fun (i:Nat)=>p5 (lo+i)) where
 go:=fun i H hi hG=>by
   show i < n;simpa using hi
 yld:=fun i d G2 H x H' e h1 h2 hy=>by
   obtain ⟨rfl,rfl⟩:=hy; rw [j8] at e;by_cases hi:i < n
   . rw [List.getElem?_range hi] at e; cases e; exact ⟨G2,Grow.refl h2,rfl⟩
   . rw [BQ (by simpa using hi)] at e; cases e
 stop:=fun i H hi hG=>by
   show n<=i;simpa using hi
noncomputable def Hr (ds:List zS):List zS:=ds.mapIdx fun i d=>.tuple [.int i,d]
theorem gJ {K:zX} {G:Hp} {a:c6} {xs:List V} {ds:List zS} (h:Rd G a (.lst xs)) (l:RepL G ds xs):Walk (Ite K a) G (Hr ds) where
 go:=fun i H hi hG=>by
   have hi':i < xs.length:=by rw [<- l.length]; simpa [Hr] using hi
   exact ⟨xs,xs[i],.inl (Rd.mono hG h),by simp [hi']⟩
 yld:=fun i d G2 H x H' e h1 h2 hy=>by
   obtain ⟨p,y,hp,rfl,rfl,hy⟩:=hy; unfold Hr at e; rw [NV] at e; obtain ⟨d0,e0,rfl⟩:=p6.mp e; obtain ⟨y',e1,r⟩:=l.get e0; have:=hy xs (.inl (Rd.mono (h1.trans h2) h)); rw [e1] at this; cases this; refine ⟨upd G2 p (.tup [.int i,y]),Grow.new h2 hp,p,_,rfl,C3,RepL.cons rfl (RepL.cons (r.mono (h1.trans (Same.upd (h2.free hp)))) rfl)⟩
 stop:=fun i H hi hG=>⟨xs,.inl (Rd.mono hG h),by rw [<- l.length]; simpa [Hr] using hi⟩
noncomputable section
variable {P:j5} {w:l9} {K:zX} {mg:Str->Option zV} {base:p9} {X:Cx} {N:List Str} {sc:Scope} {k:Nat} {df:Bool} {E:EK} {pos p:Pos} {tg a b c e:Expr} {f g:Dn->Res zS} {fs src:Dn->Res (List zS)}
theorem K3 (ha:DE X E a f):DI X E tg a (fun δ=>(f δ).bind D2):=by
 rintro pins s Z H R I ⟨G,δ,S,aft⟩;have h:=Op (R:=fun v H1=>∃ G1 d,Same G1 H1/\Rep G1 d v/\AftI E G1 H1 (D2 d) R) (W:=fun G H r=>AftI E G H r R) S aft (fun g a=>AftI.grow g a) (fun c a=>a) (fun a=>a) fun d v G1 H1 g1 r1 S1 a1=>⟨G1,d,S1.sub,r1,a1⟩;refine thn (ha pins s Z H _ I h) fun v s1 hZ2=>?_;obtain ⟨x,H1,I1,rx,G1,d,hG,rd,a1⟩:=hZ2;cases d with
 | list ds =>
   obtain ⟨p,xs,rfl,h1,l1⟩:=rd; cases rx; obtain ⟨zz,its,n,rv,e1⟩:=Z5 I1 hG h1; refine HQ ⟨_,e1,rfl,n,rfl⟩ ?_; refine ⟨s1.heap.objs.size,[s1.heap.objs.size],_,_,H1,rfl,I1.kept (t':=s1.toks) fun b o e=>a8 _ e,gN p _,⟨_,e9 _ rfl,rfl,rfl⟩,fun b hb=>?_,a1 _ G1 H1 (Grow.refl hG) (gI h1 l1)⟩;have e:b=s1.heap.objs.size:=by simpa using hb
   subst e; exact I1.fpOk (f8 _) I1.fresh
 | tuple ds =>
   obtain ⟨p,xs,rfl,h1,l1⟩:=rd; cases rx; obtain ⟨zz,its,rv,pt⟩:=Lw I1 hG h1; refine wpAny_pyIter_tuple (show s1.heap.IsTuple p its.toArray from pt) ?_;refine ⟨s1.heap.objs.size,[s1.heap.objs.size],_,_,H1,rfl,I1.kept (t':=s1.toks) fun b o e=>a8 _ e,bQ p _,⟨_,e9 _ rfl,rfl,rfl⟩,fun b hb=>?_,a1 _ G1 H1 (Grow.refl hG) (kK h1 l1)⟩;have e:b=s1.heap.objs.size:=by simpa using hb
   subst e; exact I1.fpOk (f8 _) I1.fresh
 | str z =>
   obtain ⟨e0,o1,l1⟩:=rd; subst e0; obtain ⟨t,rfl⟩:=rx;cases ha:z.cps.all (· < 128)
   . refine wpAny_pyIter_wide ha ?_
     refine ⟨s1.heap.objs.size,[s1.heap.objs.size],_,_,H1,rfl,I1.kept (t':=s1.toks) fun b o e=>a8 _ e,gM _ z t,⟨_,e9 _ rfl,rfl,rfl⟩,fun b hb=>?_,a1 _ G1 H1 (Grow.refl hG) (Ym o1)⟩;have e:b=s1.heap.objs.size:=by simpa using hb
     subst e; exact I1.fpOk (f8 _) I1.fresh
   . refine wpAny_pyIter_ascii ha ?_
     refine ⟨s1.heap.objs.size,[s1.heap.objs.size],_,_,H1,rfl,I1.kept (t':=s1.toks) fun b o e=>a8 _ e,bS _ z t,⟨_,e9 _ rfl,rfl,rfl⟩,fun b hb=>?_,a1 _ G1 H1 (Grow.refl hG) (Ym o1)⟩;have e:b=s1.heap.objs.size:=by simpa using hb
     subst e; exact I1.fpOk (f8 _) I1.fresh
 | _=>exact (show False from a1).elim
noncomputable def Ab (lo hi:Int):List zS:=(o9 (hi - lo).toNat).map fun (i:Nat)=>p5 (lo+i)
noncomputable def Dj:List zS->Res (List zS)
 | [.int j]=>if -(2 ^ 62)<=j/\j < 2 ^ 62 then .ok (Ab 0 j) else .no
 | _=>.no
theorem X6 {n:Nat} (C:Cxt P w K mg base X N sc k df) (h:okGl sc "range" = true) (hm:mg "range" = none) (ha:DA X E [a] n fs) (hs:e8 [a] X.env=[(false,eval a X.env)]:=by rfl) :
   DI X E tg (.Call (.Name "range" p) [a] [] pos) (fun δ=>(fs δ).bind Dj):=by
 refine PI.imp (iJ (okGl.gl C h).1 (by rw [C.hmg]; exact hm) ha.pa hs) fun Z H Q hY56=>?_;obtain ⟨G,δ,S,aft⟩:=hY56;refine Ai (W:=fun G H r=>AftI E G H r Q) S aft (fun g a=>AftI.grow g a) (fun c a=>a) (fun a=>a) fun ds vs G1 H1 e g1 r1 S1 a1=>?_;unfold Dj at a1;split at a1
 . rename_i j
   split at a1
   . rename_i hc
     obtain ⟨v,rfl,e1⟩:=Lv r1;cases (show _=_ from e1);refine ⟨j,rfl,hc.1,hc.2,a1 _ G1 H1 (Grow.refl S1.sub) ?_⟩; have:=bM (G:=G1) 0 j.toNat; unfold Ab; rw [Int.sub_zero]; exact this
   . exact a1.elim
 . exact a1.elim
noncomputable def Re:List zS->Res (List zS)
 | [.list ds]=>.ok (Hr ds)
 | _=>.no
theorem yQ {n x1:Nat} {elts:List Expr} {tp:Pos} (C:Cxt P w K mg base X N sc k df) (h:okGl sc "enumerate" = true) (hm:mg "enumerate" = none) (ha:DA X E [a] n fs) (he:e8 [a] X.env=(false,eval a X.env)::e8 [] X.env:=by rfl) (hpl:(AN pos (e8 [] X.env)).any (·.1)=false:=by rfl) :
   DI X E (.Tuple elts x1 tp) (.Call (.Name "enumerate" p) [a] [] pos) (fun δ=>(fs δ).bind Re):=by
 rintro pins s Z H R I ⟨G,δ,S,aft⟩;obtain ⟨h1,h2,h3⟩:=okGl.gl C h;have hh:=Ai (R:=fun vs H1=>∃ G1 ds,Same G1 H1/\RepL G1 ds vs/\AftI E G1 H1 (Re ds) R) (W:=fun G H r=>AftI E G H r R) S aft (fun g a=>AftI.grow g a) (fun c a=>a) (fun a=>a) fun ds vs G1 H1 e g1 r1 S1 a1=>⟨G1,ds,S1.sub,r1,a1⟩;refine FN (Me I h1 (by rw [C.hmg]; exact hm) boot_enumerate ?_ h3 h2);refine DD (thn (ha.pa pos pins s Z H _ I hh) fun us s1 hY58=>?_) he hpl;obtain ⟨vs,H1,I1,rv,G1,ds,hG,rl,a1⟩:=hY58;unfold Re at a1;split at a1
 . rename_i ys
   obtain ⟨v,rfl,l,xs,rfl,q1,l1⟩:=Lv rl; obtain ⟨u,rfl,ru⟩:=Ov rv; cases ru; obtain ⟨zz,its,nn,rw',e1⟩:=Z5 I1 hG q1; refine call_enumerate_list ⟨_,e1,rfl,nn,rfl⟩ fun h' he' hit hsz kp=>?_;have I2:Inv X pins Z H1 { s1 with heap:=h' }:=I1.kept (t':=s1.toks) kp; refine wpAny_pyIter_enum he' ?_; refine ⟨s1.heap.objs.size+1,[s1.heap.objs.size+1,s1.heap.objs.size],_,_,H1,rfl,I2,gO l _ _ (DM (FY _)),⟨⟨_,he'⟩,hit⟩,fun b hb=>?_,a1 _ G1 H1 (Grow.refl hG) (gJ q1 l1)⟩;rcases a9.mp hb with rfl | hb
   . exact I1.fpOk (FD _) (I1.hok.fresh (FD _))
   . have e:b=s1.heap.objs.size:=by simpa using hb
     subst e; exact I1.fpOk (f8 _) I1.fresh
 . exact a1.elim
noncomputable def C6 (d:zS):Res (List Sl):=.ok [.sh d]
noncomputable def Ay:zS->Res (List Sl)
 | .tuple [a,b]=>.ok [.sh a,.sh b]
 | _=>.no
noncomputable def C7 (bnd:zS->Res (List Sl)) (δc:Dn) (tt:Dn->Res Bool) (el:Dn->Res zS):List zS->Res (List zS)
 | []=>.ok []
 | d::ds=>match bnd d with
   | .ok sl=>match tt (sl++δc) with
     | .ok true=>match el (sl++δc) with
       | .ok y=>match C7 bnd δc tt el ds with
         | .ok r=>.ok (y::r)
         | _=>.no
       | _=>.no
     | .ok false=>C7 bnd δc tt el ds
     | _=>.no
   | _=>.no
noncomputable def Dl (δ:Dn) (cap:List Nat):Dn:=cap.map fun j=>δ[j]?.getD .un
noncomputable def D7 (src:Dn->Res (List zS)) (bnd:zS->Res (List Sl)) (cap:List Nat) (tt:Dn->Res Bool) (el:Dn->Res zS):Dn->Res (List zS):=fun δ=>(src δ).bind fun ds=>if ds.length<=sizeLine then C7 bnd (Dl δ cap) tt el ds else .no
def GOk (g:TG) (m:Nat) (bnd:zS->Res (List Sl)):Prop:=∀ (G H:Hp) (d:zS) (x:V) (sl:List Sl) (τ:St) (Q:St->Hp->Prop),Same G H->Rep G d x->bnd d=.ok sl->(∀ vs:List V,vs.length=m->sl.length=m->(∀ (i:Nat) s,sl[i]? = some s->SlOk G H (vs[i]?) s/\∃ d,s=.sh d)->Q (vs.map some++τ) H)->g x (i4 m none++τ) H Q
theorem yT:GOk (V3 0) 1 C6:=by
 intro G H d x sl τ Q hG r e h;cases e;exact h [x] rfl rfl fun i s hs=>by
   cases i with
   | zero=>cases hs; exact ⟨⟨x,rfl,r⟩,d,rfl⟩
   | succ i=>simp at hs
theorem gok2:GOk (oG K 2 (Hq (V3 0) (Hq (V3 1) oH))) 2 Ay:=by
 intro G H d x sl τ Q hG r e h;cases d with
 | tuple ds =>
   match ds,e with
   | [a,b],e =>
     cases e; obtain ⟨p,xs,rfl,h1,l1⟩:=r; obtain ⟨v,v',rfl,r1,r2⟩:=wT l1; refine ⟨p,_,rfl,.inl (.inl (hG _ _ h1)),rfl,v,[v'],rfl,v',[],rfl,rfl,?_⟩; exact h [v,v'] rfl rfl fun i s hs=>by
       match i with
       | 0=>cases hs; exact ⟨⟨v,rfl,r1⟩,a,rfl⟩
       | 1=>cases hs; exact ⟨⟨v',rfl,r2⟩,b,rfl⟩
       | i+2=>simp at hs
 | _=>cases e
theorem SR.cap {G H:Hp} {Z:St} {δ:Dn} (S:SR G H Z δ) (cap:List Nat) (hnd:cap.Nodup) {vs:List V} {sl:List Sl} (hv:vs.length=sl.length) (h:∀ (i:Nat) s,sl[i]? = some s->SlOk G H (vs[i]?) s/\∃ d,s=.sh d):SR G H (vs.map some++Fp Z cap) (sl++Dl δ cap):=by
 have hlt:∀ i,i < sl.length->(vs.map some++Fp Z cap)[i]? = (vs[i]?).map some:=fun i hi=>by
   rw [o8 (by rw [zZ,hv]; exact hi),j8]
 have hge:∀ i,¬ i < sl.length->(vs.map some++Fp Z cap)[i]? = (cap[i - sl.length]?).map fun j=>Z[j]?.join:=fun i hi=>by
   rw [p7 (by rw [zZ,hv]; lia)];unfold Fp; rw [j8,zZ,hv]
 have hd:∀ i,¬ i < sl.length->(sl++Dl δ cap)[i]? = (cap[i - sl.length]?).map fun j=>δ[j]?.getD .un:=fun i hi=>by
   rw [p7 (by lia)]; unfold Dl; rw [j8]
 refine ⟨S.sub,by simp [hv,Fp,Dl],fun i s e=>?_,fun i j a d d' ei ej hi hj=>?_⟩
 . by_cases hi:i < sl.length
   . rw [o8 hi] at e
     rw [hlt i hi]; have:=(h i s e).1;cases q:vs[i]? with
     | none=>rw [q] at this; exact this
     | some v=>rw [q] at this; exact this
   . rw [hd i hi] at e
     rw [hge i hi];cases q:cap[i - sl.length]? with
     | none=>rw [q] at e; cases e
     | some j =>
       rw [q] at e; simp only [GB,IH] at e; subst e; show SlOk G H (some (Z[j]?.join)).join _;cases q2:δ[j]? with
       | none=>trivial
       | some s=>exact S.sl j s q2
 . have key : ∀ i d, (sl ++ Dl δ cap)[i]? = some (.ow d) -> ¬ i < sl.length /\ ∃ j, cap[i - sl.length]? = some j /\ δ[j]? = some (.ow d) := fun i d e => by
     have hi:¬ i < sl.length:=fun hi=>by
       rw [o8 hi] at e; obtain ⟨_,d',z⟩:=h i _ e; cases z
     refine ⟨hi,?_⟩; rw [hd i hi] at e;cases q:cap[i - sl.length]? with
     | none=>rw [q] at e; cases e
     | some j =>
       rw [q] at e; simp only [GB,IH] at e; refine ⟨j,rfl,?_⟩;cases q2:δ[j]? with
       | none=>rw [q2] at e; cases e
       | some s=>rw [q2] at e; cases e; rfl
   obtain ⟨n1,j1,c1,o1⟩:=key i d ei; obtain ⟨n2,j2,c2,o2⟩:=key j d' ej; rw [hge i n1,c1] at hi; rw [hge j n2,c2] at hj; have hi':Z[j1]?.join=some (.ref a):=hi; have hj':Z[j2]?.join=some (.ref a):=hj; have:=S.ap j1 j2 a d d' o1 o2 hi' hj'; subst this; have:=(List.getElem?_inj (j6.mp c1).1 hnd).mp (c1.trans c2.symm);lia
theorem nM (xs:List Str):xs.map (fun _=>(none:Option V))=i4 xs.length none:=by
 induction xs with
 | nil=>rfl
 | cons a t ih=>rw [c7,ih]; rfl
theorem Jj {xs:List Str} {cap:List Nat} {g:TG} {m:Nat} {bnd:zS->Res (List Sl)} {tt:Dn->Res Bool} {el:Dn->Res zS} (hx:xs.length=m) (hnd:cap.Nodup) (hg:GOk g m bnd) {Z:St} {H:Hp} {Q:VK} (h:tF E (D7 src bnd cap tt el) Z H Q) :
   eK (tI E src) (fun Z=>xs.map (fun _=>none)++Fp Z cap) g (tT E0k tt) (tD E0k el) Z H Q:=by
 obtain ⟨G,δ,S,aft⟩:=h;refine ⟨G,δ,S,?_⟩;unfold D7 at aft;cases e:src δ with
 | exc c=>rw [e] at aft; exact aft
 | no=>rw [e] at aft; exact aft
 | ok ds =>
   rw [e] at aft; intro J G1 H1 g1 W D hD; have aft1:pY E G H (if ds.length<=sizeLine then C7 bnd (Dl δ cap) tt el ds else .no) Q:=aft;by_cases hz:ds.length<=sizeLine
   . rw [if_pos hz] at aft1
     have S1:=S.grow g1; have hmap:xs.map (fun _=>(none:Option V))=i4 m none:=by rw [<- hx]; exact nM xs
     refine ⟨fun i n H'=>n=ds.length - i/\i<=ds.length/\∃ G' acc yd,Grow G1 H1 G' H'/\G' D=none/\H' D=some (.lst acc)/\RepL G' yd acc/\yd.length<=i /\
       pY E G H (match C7 bnd (Dl δ cap) tt el (ds.drop i) with | .ok r=>.ok (yd++r) | _=>.no) Q,⟨_,rfl,BY _,G1,[],[],Grow.own g1.gh hD,g1.gh.free hD,C3,rfl,f8 _,?_⟩,?_⟩
     . rw [GN]
       cases q:C7 bnd (Dl δ cap) tt el ds with
       | ok r=>rw [q] at aft1; exact aft1
       | exc c =>
         exfalso;have:∀ l c,C7 bnd (Dl δ cap) tt el l≠.exc c:=by
           intro l c;induction l with
           | nil=>intro z; cases z
           | cons d l ih =>
             unfold C7; intro z;split at z
             . split at z
               . split at z
                 . split at z <;> cases z
                 . cases z
               . exact ih z
               . cases z
             . cases z
         exact this ds c q
       | no=>rw [q] at aft1; exact aft1
     . rintro i n H' ⟨rfl,hi,G',acc,yd,g2,nD,hDa,ry,hyl,aft2⟩
       by_cases hlt:i < ds.length
       . refine .inr ⟨W.go i H' hlt (g2.g.trans g2.gh), fun H'' => ∃ n', n' < ds.length - i /\ (n' = ds.length - (i + 1) /\ i + 1 <= ds.length /\ ∃ G' acc yd, Grow G1 H1 G' H'' /\ G' D = none /\ H'' D = some (.lst acc) /\ RepL G' yd acc /\ yd.length <= i + 1 /\
           pY E G H (match C7 bnd (Dl δ cap) tt el (ds.drop (i+1)) with | .ok r=>.ok (yd++r) | _=>.no) Q),fun H'' q=>?_,fun x H'' hy=>?_⟩
         . obtain ⟨n',h1,h2⟩:=q
           exact ⟨n',h1,h2⟩
         . have hd:ds[i]? = some ds[i]:=l0 hlt
           have hdrop:ds.drop i=ds[i]::ds.drop (i+1):=BP hlt; obtain ⟨G3,g3,r3⟩:=W.yld i _ G' H' x H'' hd g2.g g2.gh hy; have g13:=g2.trans g3; have nD3:G3 D=none:=by
             cases q:G3 D with
             | none=>rfl
             | some u => rcases g3.fr D u q with z | z | ⟨xs, rfl⟩
                         . rw [nD] at z; cases z
                         . rw [hDa] at z; cases z
                         . have:=g3.gh _ _ q; rw [g3.h _ _ hDa] at this; cases this
           rw [hdrop] at aft2; unfold C7 at aft2; rw [hmap];cases eb:bnd ds[i] with
           | exc c=>rw [eb] at aft2; exact aft2.elim
           | no=>rw [eb] at aft2; exact aft2.elim
           | ok sl =>
             rw [eb] at aft2; refine hg G3 H'' _ x sl _ _ g3.gh r3 eb fun vs hv hs hsl=>⟨⟨by rw [l8,l8,DV,zZ,hv],fun j v z=>?_⟩,?_⟩
             . by_cases hj:j < m
               . rw [o8 (by rw [DV]; exact hj),CA] at z
                 split at z <;> cases z
               . rw [p7 (by rw [DV]; exact BI.mp hj),DV] at z
                 rw [p7 (by rw [zZ,hv]; exact BI.mp hj),zZ,hv];exact z
             . have Sb:SR G3 H'' (vs.map some++Fp Z cap) (sl++Dl δ cap):=(S1.grow g13).cap cap hnd (hv.trans hs.symm) hsl
               refine ⟨G3,_,Sb,?_⟩; simp only at aft2;cases et:tt (sl++Dl δ cap) with
               | exc c=>rw [et] at aft2; exact aft2.elim
               | no=>rw [et] at aft2; exact aft2.elim
               | ok kk =>
                 rw [et] at aft2; intro G4 H4 g4; have nD4:G4 D=none:=by
                   cases q:G4 D with
                   | none=>rfl
                   | some u => rcases g4.fr D u q with z | z | ⟨xs, rfl⟩
                               . rw [nD3] at z; cases z
                               . rw [g3.h _ _ hDa] at z; cases z
                               . have:=g4.gh _ _ q; rw [g4.h _ _ (g3.h _ _ hDa)] at this; cases this
                 have hD4:H4 D=some (.lst acc):=g4.h _ _ (g3.h _ _ hDa);cases kk with
                 | false =>
                   rw [if_neg (by decide)]; exact ⟨_,by lia,rfl,hlt,G4,acc,yd,g13.trans g4,nD4,hD4,ry.mono (g3.g.trans g4.g),by lia,aft2⟩
                 | true =>
                   rw [if_pos rfl]; refine ⟨G4,_,Sb.grow g4,?_⟩; simp only at aft2;cases ee:el (sl++Dl δ cap) with
                   | exc c=>rw [ee] at aft2; exact aft2.elim
                   | no=>rw [ee] at aft2; exact aft2.elim
                   | ok y =>
                     rw [ee] at aft2; intro v G5 H5 g5 r5; have nD5:G5 D=none:=by
                       cases q:G5 D with
                       | none=>rfl
                       | some u => rcases g5.fr D u q with z | z | ⟨xs, rfl⟩
                                   . rw [nD4] at z; cases z
                                   . rw [hD4] at z; cases z
                                   . have:=g5.gh _ _ q; rw [g5.h _ _ hD4] at this; cases this
                     have hD5:H5 D=some (.lst acc):=g5.h _ _ hD4; have hal:acc.length<=i:=by rw [<- ry.length]; exact hyl
                     refine ⟨acc,hD5,by lia,_,by lia,rfl,hlt,G5,acc++[v],yd++[y],?_,nD5,C3,?_,by rw [l8,NI]; lia,?_⟩
                     . have g15:=(g13.trans g4).trans g5
                       refine ⟨g15.g,fun b o q=>?_,fun b o q=>?_,g15.fr⟩
                       . rw [C4 (E3 q hD)]; exact g15.h _ _ q
                       . rw [C4 (E3 q nD5)]; exact g15.gh _ _ q
                     . exact (ry.mono (g3.g.trans (g4.g.trans g5.g))).append (RepL.cons r5 rfl)
                     . simp only at aft2
                       cases er:C7 bnd (Dl δ cap) tt el (ds.drop (i+1)) with
                       | ok r =>
                         rw [er] at aft2; simp only [z4,NH]; exact aft2
                       | exc c=>rw [er] at aft2; exact aft2
                       | no=>rw [er] at aft2; exact aft2
       . refine .inl ⟨W.stop i H' (BI.mp hlt) (g2.g.trans g2.gh),?_⟩
         have:ds.drop i=[]:=FJ (BI.mp hlt); rw [this] at aft2; unfold C7 at aft2; have aft3:pY E G H (.ok (yd++[])) Q:=aft2; rw [m8] at aft3; exact aft3 D acc G' H' (g1.trans g2) (g1.h.free hD) nD hDa ry
   . rw [if_neg hz] at aft1; exact aft1.elim
end
end Sm
end
noncomputable section
namespace Sm
open PySem PySem.Spec PyProof.Rows L2
noncomputable def Ev (cells:List (Str×c6)):List (Str×HH)->List (Str×c6)->List (Str×c6)
 | [],cs=>cs
 | (n,kd)::r,cs=>if kd==.free then Ev cells r ((n,(cells.lookup n).getD 0)::cs) else Ev cells r cs
theorem bA {env:Env}:∀ (names:List (Str×HH)) (cs:List (Str×c6)),(∀ y∈names,y.2=.free->∃ c,env.cells.lookup y.1=some c) ->
   (forIn names cs fun (x:Str×HH) (r:List (Str×c6))=>if (x.2==DG)=true then do let c <- cellOf env x.1; pure (CJ ((x.1,c)::r)) else pure (CJ r))=(pure (Ev env.cells names cs):Sem (List (Str×c6)))
 | [],cs,_=>rfl
 | (n,kd)::r,cs,h=>by
   rw [KW]; have ih:=fun cs=>bA r cs fun y hy=>h y (z7 _ hy);unfold Ev;by_cases hk:(kd==DG)=true
   . obtain ⟨c,hc⟩:=h (n,kd) x6 (CD hk)
     have hc':cellOf env n=pure c:=by unfold cellOf; rw [show env.cells.lookup n=some c from hc]
     simp only [hk,if_true,hc',pure_bind]; rw [show env.cells.lookup n=some c from hc]; exact ih _
   . simp only [hk,if_false,pure_bind]
     exact ih _
theorem Iq {cells:List (Str×c6)}:∀ {names:List (Str×HH)} {cs:List (Str×c6)} {y:Str×c6},y∈Ev cells names cs->y∈cs\/((y.1,DG)∈names/\y.2=(cells.lookup y.1).getD 0)
 | [],cs,y,h=>.inl h
 | (n,kd)::r,cs,y,h=>by
   unfold Ev at h;by_cases hk:(kd==DG)=true
   . rw [if_pos hk] at h
     have hk':=CD hk; subst hk'; rcases Iq h with z | ⟨z1,z2⟩
     . rcases a9.mp z with rfl | z
       . exact .inr ⟨x6,rfl⟩
       . exact .inl z
     . exact .inr ⟨z7 _ z1,z2⟩
   . rw [if_neg hk] at h
     rcases Iq h with z | ⟨z1,z2⟩
     . exact .inl z
     . exact .inr ⟨z7 _ z1,z2⟩
theorem Ir {cells:List (Str×c6)} {x:Str}:∀ {names:List (Str×HH)} {cs:List (Str×c6)},((x,DG)∈names\/∃ c,(x,c)∈cs)->∃ c,(x,c)∈Ev cells names cs
 | [],cs,h=>by
   rcases h with h | h
   . cases h
   . exact h
 | (n,kd)::r,cs,h=>by
   unfold Ev;by_cases hk:(kd==DG)=true
   . rw [if_pos hk]
     refine Ir ?_; rcases h with h | ⟨c,h⟩
     . rcases a9.mp h with q | q
       . cases q; exact .inr ⟨_,x6⟩
       . exact .inl q
     . exact .inr ⟨c,z7 _ h⟩
   . rw [if_neg hk]
     refine Ir ?_; rcases h with h | ⟨c,h⟩
     . rcases a9.mp h with q | q
       . cases q; exact absurd rfl hk
       . exact .inl q
     . exact .inr ⟨c,h⟩
theorem Ff {α:Type} {x:Str} {c:α} {l:List (Str×α)} (h:l.lookup x=some c):(x,c)∈l:=CS h
theorem Hn {α:Type} {x:Str}:∀ {l:List (Str×α)} {c:α},(x,c)∈l->∃ c',l.lookup x=some c'
 | [],_,h=>by cases h
 | (n,d)::r,c,h=>by
   rw [List.lookup_cons];cases q:x==n with
   | true=>exact ⟨d,rfl⟩
   | false =>
     rcases a9.mp h with z | z
     . cases z; simp at q
     . exact Hn z
theorem uI {X:Cx} (ok:X.Ok) {scope:Scope} (hnc:∀ y∈scope.names,y.2≠.cell) (hfree:∀ y∈scope.names,y.2=.free->X.env.scope.names.lookup y.1=some .cell\/X.env.scope.names.lookup y.1=some .free):∃ cl,Clos X scope cl:=by
 have hc:∀ y∈scope.names,y.2=.free->∃ c,X.env.cells.lookup y.1=some c:=fun y hy hf=>ok.has y.1 (hfree y hy hf);refine ⟨Ev X.env.cells scope.names [],⟨?_,fun x c h=>?_,fun x h=>?_⟩⟩
 . have:=bA (env:=X.env) scope.names [] hc
   unfold closureFor; simp only;rw [this]; rfl
 . rcases Iq (Ff h) with z | ⟨z1,z2⟩
   . cases z
   . obtain ⟨c',e⟩:=hc _ z1 rfl
     have e':X.env.cells.lookup x=some c':=e; have z2':c=(X.env.cells.lookup x).getD 0:=z2; rw [e'] at z2' ⊢;rw [z2']; rfl
 . have hm : (x, DG) ∈ scope.names := by
     have key:∀ kd,(CC scope X.env).names.lookup x=some kd->(kd=.cell\/kd=.free)->(x,DG)∈scope.names:=fun kd hl hkd=>by
       have hm:=Ff hl; unfold CC at hm; simp only [j7] at hm; obtain ⟨⟨n,k0⟩,hy,e⟩:=hm; simp only at e;split at e
       . rename_i hc'
         cases e; have:k0=.free:=by
           rw [j9,j9] at hc'; exact CD hc'.1.1
         subst this; exact hy
       . cases e
         rcases hkd with rfl | rfl
         . exact absurd rfl (hnc _ hy)
         . exact hy
     rcases h with h | h
     . exact key _ h (.inl rfl)
     . exact key _ h (.inr rfl)
   obtain ⟨c,hc'⟩:=Ir (cells:=X.env.cells) (names:=scope.names) (cs:=[]) (x:=x) (.inl hm); exact Hn hc'
noncomputable def okComp (N:List Str) (sc scope:Scope) (xs capN:List Str) (cap:List Nat):Bool :=
 decide (scope.kind=.function)&&scope.names.all (fun y=>decide (y.2≠.cell))&&scope.names.all (fun y=>decide (y.2=.local->scope.names.lookup y.1=some .local)) &&
 scope.names.all (fun y=>decide (y.2=.free->sc.names.lookup y.1=some .cell\/sc.names.lookup y.1=some .free))&&decide (cap.map (fun j=>N[j]?)=capN.map some) &&
 capN.all (fun x=>decide ((Fi scope sc).names.lookup x=some .cell\/(Fi scope sc).names.lookup x=some .free))&&capN.all (fun x=>decide (sc.names.lookup x=some .cell\/sc.names.lookup x=some .free)) &&
 decide ((xs++capN).Nodup)&&xs.all (fun x=>decide ((Fi scope sc).names.lookup x=some .local))&&decide (cap.Nodup)
noncomputable section
variable {P:j5} {w:l9} {K:zX} {mg:Str->Option zV} {base:p9} {X:Cx} {N:List Str} {sc:Scope} {k:Nat} {df:Bool} {E:EK} {pos px py tp:Pos} {a c elt iter:Expr} {ifs:List Expr} {f g el:Dn->Res zS} {src:Dn->Res (List zS)} {tt:Dn->Res Bool} {scope:Scope} {capN:List Str} {cap:List Nat}
structure CompOk (N:List Str) (sc scope:Scope) (xs capN:List Str) (cap:List Nat):Prop where
 h1:scope.kind=.function
 h2:∀ y∈scope.names,y.2≠.cell
 h3:∀ y∈scope.names,y.2=.local->scope.names.lookup y.1=some .local
 h4:∀ y∈scope.names,y.2=.free->sc.names.lookup y.1=some .cell\/sc.names.lookup y.1=some .free
 h5:cap.map (fun j=>N[j]?)=capN.map some
 h6:∀ x∈capN,(Fi scope sc).names.lookup x=some .cell\/(Fi scope sc).names.lookup x=some .free
 h7:∀ x∈capN,sc.names.lookup x=some .cell\/sc.names.lookup x=some .free
 h8:(xs++capN).Nodup
 h9:∀ x∈xs,(Fi scope sc).names.lookup x=some .local
 h10:cap.Nodup
theorem okComp.ok {xs:List Str} (h:okComp N sc scope xs capN cap=true):CompOk N sc scope xs capN cap:=by
 unfold okComp at h;simp only [j9,BS,decide_eq_true_eq] at h;obtain ⟨⟨⟨⟨⟨⟨⟨⟨⟨h1,h2⟩,h3⟩,h4⟩,h5⟩,h6⟩,h7⟩,h8⟩,h9⟩,h10⟩:=h;exact ⟨h1,h2,h3,h4,h5,h6,h7,h8,h9,h10⟩
theorem Cm {xs:List Str} (C:Cxt P w K mg base X N sc k df) (h:CompOk N sc scope xs capN cap) (ok:X.Ok):CompFacts X scope xs capN cap:=by
 refine ⟨h.h1,h.h2,h.h3,uI ok h.h2 fun y hy hf=>?_,by rw [C.hN]; exact h.h5,fun x hx=>?_,fun x hx=>?_⟩
 . rw [C.hs]; exact h.h4 y hy hf
 . rw [eT C.hs]; exact h.h6 x hx
 . rw [C.hs]; exact h.h7 x hx
abbrev DTs (X:Cx) (E:EK) (ifs:List Expr) (f:Dn->Res Bool):Prop:=PTs X ifs (tT E f)
noncomputable def E5:Dn->Res Bool:=fun _=>.ok true
theorem L9:DTs X E [] E5:=fun pins s Z H Q I hZ6=>by obtain ⟨G,δ,S,a⟩:=hZ6; exact rR pins s Z H Q I (a G H (Grow.refl S.sub))
theorem Bm (h:DT X E c tt):DTs X E [c] tt:=rQ h
theorem F2 {x:Str} (C:Cxt P w K mg base X N sc k df) (cap:List Nat) (capN:List Str) (ho:okComp N sc scope [x] capN cap=true) (hi:DI X E (.Name x px) iter src)
   (ht:∀ X',Cxt P w K mg base X' ([x]++capN) (Fi scope sc) k false->DTs X' E0k ifs tt) (he:∀ X',Cxt P w K mg base X' ([x]++capN) (Fi scope sc) k false->DE X' E0k elt el)
   (hs:∀ x,x8 iter X.env x=pure x:=by intro _; rfl):DF X E (.ListComp elt [⟨.Name x px,iter,ifs,0⟩] scope pos) (D7 src C6 cap tt el):=by
 have o:=okComp.ok ho;refine PE.imp (eX (g:=V3 0) C.calm (Cm C o) hi (fun X' B=>?_) (fun X' B=>ht X' (C.blk B)) (fun X' B=>he X' (C.blk B)) hs) fun Z H Q h=>Jj (m:=1) rfl o.h10 yT h;have C':=C.blk B;have hl:X'.env.scope.names.lookup x=some .local:=by rw [C'.hs]; exact o.h9 x (by simp)
 exact V8 (by rw [C'.hN]; exact o.h8) (by rw [C'.hN]; rfl) (.inl hl) (.inr hl)
theorem Xm {x y:Str} {x1:Nat} (C:Cxt P w K mg base X N sc k df) (cap:List Nat) (capN:List Str) (ho:okComp N sc scope [x,y] capN cap=true) (hi:DI X E (.Tuple [.Name x px,.Name y py] x1 tp) iter src)
   (ht:∀ X',Cxt P w K mg base X' ([x,y]++capN) (Fi scope sc) k false->DTs X' E0k ifs tt) (he:∀ X',Cxt P w K mg base X' ([x,y]++capN) (Fi scope sc) k false->DE X' E0k elt el)
   (hs:∀ x,x8 iter X.env x=pure x:=by intro _; rfl):DF X E (.ListComp elt [⟨.Tuple [.Name x px,.Name y py] x1 tp,iter,ifs,0⟩] scope pos) (D7 src Ay cap tt el):=by
 have o:=okComp.ok ho;refine PE.imp (eX (g:=oG K 2 (Hq (V3 0) (Hq (V3 1) oH))) C.calm (Cm C o) hi (fun X' B=>?_) (fun X' B=>ht X' (C.blk B)) (fun X' B=>he X' (C.blk B)) hs) fun Z H Q h=>Jj (m:=2) rfl o.h10 gok2 h;have C':=C.blk B;have hl:X'.env.scope.names.lookup x=some .local:=by rw [C'.hs]; exact o.h9 x (by simp)
 have hl2:X'.env.scope.names.lookup y=some .local:=by rw [C'.hs]; exact o.h9 y (by simp)
 have nd:X'.N.Nodup:=by rw [C'.hN]; exact o.h8
 have p1:PG X' (.Name x px) (V3 0):=V8 nd (by rw [C'.hN]; rfl) (.inl hl) (.inr hl);have p2:PG X' (.Name y py) (V3 1):=V8 nd (by rw [C'.hN]; rfl) (.inl hl2) (.inr hl2);have:=cU (n:=2) (k:=x1) (pos:=tp) C'.calm (Ci p1 (Ci p2 Ww));rw [C'.hK] at this;exact this
end
end Sm
end
noncomputable section
namespace Sm
open PySem PySem.Spec PyProof.Rows L2
inductive Out where
 | nx (δ:Dn)
 | rt (d:zS)
 | bk (δ:Dn)
 | ct (δ:Dn)
 | exc (c:Str)
 | no
structure SSt (G0 H0 G H:Hp) (Z:St) (δ:Dn):Prop where
 gr:Grow G0 H0 G H
 sr:SR G H Z δ
 fr:∀ (i:Nat) (d:zS) (a:c6),δ[i]? = some (.ow d)->Z[i]?.join=some (.ref a)->H0 a=none
theorem SSt.grow {G0 H0 G H G' H':Hp} {Z:St} {δ:Dn} (S:SSt G0 H0 G H Z δ) (g:Grow G H G' H'):SSt G0 H0 G' H' Z δ:=⟨S.gr.trans g,S.sr.grow g,S.fr⟩
def Mv (E:EK) (G0 H0:Hp) (o:Out) (D:Ends):Prop:=match o with
 | .nx δ=>∀ Z G H,SSt G0 H0 G H Z δ->D.nx Z H
 | .rt d=>∀ v G H,Grow G0 H0 G H->Rep G d v->D.rt v H
 | .bk δ=>∀ Z G H,SSt G0 H0 G H Z δ->D.bk Z H
 | .ct δ=>∀ Z G H,SSt G0 H0 G H Z δ->D.ct Z H
 | .exc c=>∀ G H,Grow G0 H0 G H->E c H
 | .no=>False
def tS (E:EK) (G0 H0:Hp) (g:Dn->Out):TS:=fun D Z H=>∃ G δ,SSt G0 H0 G H Z δ/\Mv E G0 H0 (g δ) D
def DS (X:Cx) (E:EK) (st:CN) (g:Dn->Out):Prop:=∀ G0 H0,PS X st (tS E G0 H0 g)
def DSs (X:Cx) (E:EK) (st:List CN) (g:Dn->Out):Prop:=∀ G0 H0,PSs X st (tS E G0 H0 g)
theorem PS.imp {X:Cx} {st:CN} {t t':TS} (h:PS X st t) (i:∀ D Z H,t' D Z H->t D Z H):PS X st t':=fun pins s Z H D I q=>h pins s Z H D I (i _ _ _ q)
theorem PSs.imp {X:Cx} {st:List CN} {t t':TS} (h:PSs X st t) (i:∀ D Z H,t' D Z H->t D Z H):PSs X st t':=fun pins s Z H D I q=>h pins s Z H D I (i _ _ _ q)
noncomputable def M1 {α:Type} (r:Res α) (k:α->Out):Out:=match r with
 | .ok a=>k a
 | .exc c=>.exc c
 | .no=>.no
theorem Iz {E:EK} {G0 H0 G H:Hp} {Z:St} {δ:Dn} {f:Dn->Res zS} {k:zS->Out} {D:Ends} {R:VK} (S:SSt G0 H0 G H Z δ) (a:Mv E G0 H0 (M1 (f δ) k) D)
   (h:∀ d v G1 H1,Grow G H G1 H1->Rep G1 d v->SSt G0 H0 G1 H1 Z δ->Mv E G0 H0 (k d) D->R v H1):tD E f Z H R:=by
 refine ⟨G,δ,S.sr,?_⟩;cases e:f δ with
 | ok d=>rw [e] at a; exact fun v G' H' g r=>h d v G' H' g r (S.grow g) a
 | exc c=>rw [e] at a; exact fun G' H' g=>a G' H' (S.gr.trans g)
 | no=>rw [e] at a; exact a
theorem eC {E:EK} {G0 H0 G H:Hp} {Z:St} {δ:Dn} {f:Dn->Res (List zS)} {k:List zS->Out} {D:Ends} {R:VK} (S:SSt G0 H0 G H Z δ) (a:Mv E G0 H0 (M1 (f δ) k) D)
   (h:∀ ds p xs G1 H1,Grow G H G1 H1->H p=none->G1 p=none->H1 p=some (.lst xs)->RepL G1 ds xs->SSt G0 H0 G1 H1 Z δ->Mv E G0 H0 (k ds) D->R (.ref p) H1):tF E f Z H R:=by
 refine ⟨G,δ,S.sr,?_⟩;cases e:f δ with
 | ok d=>rw [e] at a; exact fun p xs G' H' g q1 q2 q3 q4=>h d p xs G' H' g q1 q2 q3 q4 (S.grow g) a
 | exc c=>rw [e] at a; exact fun G' H' g=>a G' H' (S.gr.trans g)
 | no=>rw [e] at a; exact a
theorem pP {E:EK} {G0 H0 G H:Hp} {Z:St} {δ:Dn} {f:Dn->Res Bool} {k:Bool->Out} {D:Ends} {R:Bool->Hp->Prop} (S:SSt G0 H0 G H Z δ) (a:Mv E G0 H0 (M1 (f δ) k) D)
   (h:∀ d G1 H1,Grow G H G1 H1->SSt G0 H0 G1 H1 Z δ->Mv E G0 H0 (k d) D->R d H1):tT E f Z H R:=by
 refine ⟨G,δ,S.sr,?_⟩;cases e:f δ with
 | ok d=>rw [e] at a; exact fun G' H' g=>h d G' H' g (S.grow g) a
 | exc c=>rw [e] at a; exact fun G' H' g=>a G' H' (S.gr.trans g)
 | no=>rw [e] at a; exact a
theorem pQ {E:EK} {G0 H0 G H:Hp} {Z:St} {δ:Dn} {f:Dn->Res (List zS)} {k:List zS->Out} {D:Ends} {R:It->Hp->Prop} (S:SSt G0 H0 G H Z δ) (a:Mv E G0 H0 (M1 (f δ) k) D)
   (h:∀ ds J G1 H1,Grow G H G1 H1->Walk J G1 ds->SSt G0 H0 G1 H1 Z δ->Mv E G0 H0 (k ds) D->R J H1):tI E f Z H R:=by
 refine ⟨G,δ,S.sr,?_⟩;cases e:f δ with
 | ok d=>rw [e] at a; exact fun J G' H' g q=>h d J G' H' g q (S.grow g) a
 | exc c=>rw [e] at a; exact fun G' H' g=>a G' H' (S.gr.trans g)
 | no=>rw [e] at a; exact a
theorem F1 {α:Type} {l:List α} {i j:Nat} {v:α}:(l.set i v)[j]? = if i=j/\i < l.length then some v else l[j]? := by
 rw [List.getElem?_set];by_cases h:i=j
 . subst h
   by_cases hl:i < l.length
   . simp [hl]
   . simp [hl,BQ (BI.mp hl)]
 . simp [h]
theorem SSt.set_sh {G0 H0 G H:Hp} {Z:St} {δ:Dn} (S:SSt G0 H0 G H Z δ) {i:Nat} {v:V} {d:zS} (r:Rep G d v):SSt G0 H0 G H (Z.set i (some v)) (δ.set i (.sh d)):=by
 have hl:=S.sr.len;have key:∀ (j:Nat) (d':zS),(δ.set i (.sh d))[j]? = some (.ow d')->(Z.set i (some v))[j]? = Z[j]? /\ δ[j]? = some (.ow d'):=fun j d' e=>by
   rw [F1] at e;split at e
   . cases e
   . rename_i hn
     refine ⟨?_,e⟩; rw [F1,if_neg (by rw [hl]; exact hn)]
 refine ⟨S.gr,⟨S.sr.sub,by simp [hl],fun j s e=>?_,fun j1 j2 a d1 d2 e1 e2 h1 h2=>?_⟩,fun j d' a e h=>?_⟩
 . rw [F1] at e ⊢
   rw [hl];split at e
   . rename_i hc; cases e; rw [if_pos hc]; exact ⟨v,rfl,r⟩
   . rename_i hc; rw [if_neg hc]; exact S.sr.sl j s e
 . obtain ⟨k1,o1⟩:=key j1 d1 e1
   obtain ⟨k2,o2⟩:=key j2 d2 e2; rw [k1] at h1; rw [k2] at h2; exact S.sr.ap j1 j2 a d1 d2 o1 o2 h1 h2
 . obtain ⟨k1,o1⟩:=key j d' e
   rw [k1] at h; exact S.fr j d' a o1 h
theorem SSt.set_ow {G0 H0 G H:Hp} {Z:St} {δ:Dn} (S:SSt G0 H0 G H Z δ) {i:Nat} {p:c6} {d:zS} (h0:H0 p=none) (hg:G p=none) (ho:OwnOk G H p d) (hf:∀ (j:Nat) d',δ[j]? = some (.ow d')->Z[j]?.join≠some (.ref p)):SSt G0 H0 G H (Z.set i (some (.ref p))) (δ.set i (.ow d)):=by
 have hl:=S.sr.len;have key:∀ (j:Nat) (d':zS),(δ.set i (.ow d))[j]? = some (.ow d')->(i=j/\i < δ.length/\d'=d/\(Z.set i (some (.ref p)))[j]? = some (some (.ref p)))\/((Z.set i (some (.ref p)))[j]? = Z[j]? /\ δ[j]? = some (.ow d')):=fun j d' e=>by
   rw [F1] at e;split at e
   . rename_i hc; cases e; exact .inl ⟨hc.1,hc.2,rfl,by rw [F1,if_pos (by rw [hl]; exact hc)]⟩
   . rename_i hn
     refine .inr ⟨?_,e⟩; rw [F1,if_neg (by rw [hl]; exact hn)]
 refine ⟨S.gr,⟨S.sr.sub,by simp [hl],fun j s e=>?_,fun j1 j2 a d1 d2 e1 e2 h1 h2=>?_⟩,fun j d' a e h=>?_⟩
 . rw [F1] at e ⊢
   rw [hl];split at e
   . rename_i hc; cases e; rw [if_pos hc]; exact ⟨p,rfl,hg,ho⟩
   . rename_i hc; rw [if_neg hc]; exact S.sr.sl j s e
 . rcases key j1 d1 e1 with ⟨a1,b1,_,c1⟩ | ⟨k1,o1⟩
   . rcases key j2 d2 e2 with ⟨a2,b2,_,c2⟩ | ⟨k2,o2⟩
     . exact a1.symm.trans a2
     . rw [c1] at h1; cases h1
       rw [k2] at h2; exact absurd h2 (hf j2 d2 o2)
   . rcases key j2 d2 e2 with ⟨a2,b2,_,c2⟩ | ⟨k2,o2⟩
     . rw [c2] at h2; cases h2
       rw [k1] at h1; exact absurd h1 (hf j1 d1 o1)
     . rw [k1] at h1; rw [k2] at h2
       exact S.sr.ap j1 j2 a d1 d2 o1 o2 h1 h2
 . rcases key j d' e with ⟨a1,b1,_,c1⟩ | ⟨k1,o1⟩
   . rw [c1] at h; cases h; exact h0
   . rw [k1] at h; exact S.fr j d' a o1 h
theorem SSt.write {G0 H0 G H:Hp} {Z:St} {δ:Dn} (S:SSt G0 H0 G H Z δ) {i:Nat} {p:c6} {d d':zS} {o:HO} (hi:δ[i]? = some (.ow d)) (hp:Z[i]?.join=some (.ref p)) (hg:G p=none) (ho:OwnOk G (upd H p o) p d'):SSt G0 H0 G (upd H p o) Z (δ.set i (.ow d')):=by
 have h0:=S.fr i d p hi hp;have hil:i < δ.length:=(j6.mp hi).1;have hsub:Same G (upd H p o):=fun b u e=>by rw [C4 (E3 e hg)]; exact S.sr.sub _ _ e
 have key:∀ (j:Nat) (e:zS),(δ.set i (.ow d'))[j]? = some (.ow e)->∃ e',δ[j]? = some (.ow e'):=fun j e h=>by
   rw [F1] at h;split at h
   . rename_i hc; rw [<- hc.1]; exact ⟨d,hi⟩
   . exact ⟨e,h⟩
 refine ⟨⟨S.gr.g,fun b u e=>by rw [C4 (E3 e h0)]; exact S.gr.h _ _ e,hsub,S.gr.fr⟩,⟨hsub,by simp [S.sr.len],fun j s e=>?_,fun j1 j2 a d1 d2 e1 e2 h1 h2=>?_⟩,fun j e a h1 h2=>?_⟩
 . rw [F1] at e
   split at e
   . rename_i hc; cases e; rw [<- hc.1]; exact ⟨p,hp,hg,ho⟩
   . rename_i hc
     have hs:=S.sr.sl j s e;cases s with
     | un=>trivial
     | sh d=>exact hs
     | fd _=>exact hs
     | ow d2 =>
       obtain ⟨a,e1,n1,ok⟩:=hs; refine ⟨a,e1,n1,?_⟩; have hne:a≠p:=by
         rintro rfl;exact hc ⟨S.sr.ap i j a d d2 hi e hp e1,hil⟩
       cases d2 with
       | list ds=>obtain ⟨xs,q,r⟩:=ok; exact ⟨xs,by rw [C4 hne]; exact q,r⟩
       | dict kvs=>obtain ⟨xs,q,r⟩:=ok; exact ⟨xs,by rw [C4 hne]; exact q,r⟩
       | tuple xs=>exact OwnK.keep (Same.refl _) (fun o q=>by rw [C4 hne]; exact q) ok
       | _=>exact (show False from ok).elim
 . obtain ⟨e1',o1⟩:=key j1 d1 e1
   obtain ⟨e2',o2⟩:=key j2 d2 e2; exact S.sr.ap j1 j2 a _ _ o1 o2 h1 h2
 . obtain ⟨e',o1⟩:=key j e h1
   exact S.fr j e' a o1 h2
noncomputable def fz (i:Nat) (δ:Dn):Dn:=match δ[i]? with
 | some (.ow (.list ds))=>δ.set i (.sh (.list ds))
 | _=>δ
theorem SSt.fz {G0 H0 G H:Hp} {Z:St} {δ:Dn} (S:SSt G0 H0 G H Z δ) (i:Nat):∃ G',SSt G0 H0 G' H Z (fz i δ):=by
 unfold Sm.fz;split
 . rename_i ds hi
   obtain ⟨p,hp,hg,xs,hx,r⟩:=S.sr.sl i _ hi; have h0:=S.fr i _ p hi hp; have g:Grow G0 H0 (upd G p (.lst xs)) H:=S.gr.share h0 hg hx; have hv:Z[i]? = some (some (.ref p)):=by
     cases q:Z[i]? with
     | none=>rw [q] at hp; cases hp
     | some z=>rw [q] at hp; cases z with
       | none=>cases hp
       | some z=>cases hp; rfl
   have key:∀ (j:Nat) (d':zS),(δ.set i (.sh (.list ds)))[j]? = some (.ow d')->δ[j]? = some (.ow d')/\j≠i:=fun j d' e=>by
     rw [F1] at e;split at e
     . cases e
     . rename_i hn
       refine ⟨e,fun z=>?_⟩;subst z; exact hn ⟨rfl,(j6.mp hi).1⟩
   refine ⟨_,g,⟨g.gh,by simp [S.sr.len],fun j s e=>?_,fun j1 j2 a d1 d2 e1 e2 h1 h2=>S.sr.ap j1 j2 a d1 d2 (key j1 d1 e1).1 (key j2 d2 e2).1 h1 h2⟩,fun j d' a e h=>S.fr j d' a (key j d' e).1 h⟩;have sm:Same G (upd G p (.lst xs)):=Same.upd hg;by_cases hj:i=j/\i < δ.length
   . rw [F1,if_pos hj] at e
     cases e; rw [<- hj.1,hv]; exact ⟨_,rfl,p,xs,rfl,.inl C3,r.mono sm⟩
   . have e2:=e
     rw [F1,if_neg hj] at e2; have hs:=S.sr.sl j s e2;cases s with
     | un=>trivial
     | sh d=>obtain ⟨v,e1,r1⟩:=hs; exact ⟨v,e1,r1.mono sm⟩
     | fd _=>exact FdOk.mono sm hs
     | ow d2 =>
       obtain ⟨a,e1,n1,ok⟩:=hs; have hne:a≠p:=by
         rintro rfl;exact (key j d2 e).2 (S.sr.ap j i a d2 _ e2 hi e1 hp)
       refine ⟨a,e1,by rw [C4 hne]; exact n1,?_⟩;cases d2 with
       | list ds=>obtain ⟨xs,q,r⟩:=ok; exact ⟨xs,q,r.mono sm⟩
       | dict kvs=>obtain ⟨xs,q,k,r⟩:=ok; exact ⟨xs,q,k,r.mono sm⟩
       | tuple xs=>exact OwnK.keep sm (fun o q=>q) ok
       | _=>exact (show False from ok).elim
 . exact ⟨G,S⟩
noncomputable section
variable {P:j5} {w:l9} {K:zX} {mg:Str->Option zV} {base:p9} {X:Cx} {N:List Str} {sc:Scope} {k:Nat} {df:Bool} {E:EK} {pos p px py:Pos} {a b c e elt iter:Expr} {ifs:List Expr} {f g el:Dn->Res zS} {fs src:Dn->Res (List zS)} {tt:Dn->Res Bool} {scope:Scope} {capN:List Str} {cap:List Nat} {st:CN} {sts sts':List CN} {g1 g2:Dn->Out}
noncomputable def E4:Dn->Out:=fun δ=>.nx δ
noncomputable def C5 (g1 g2:Dn->Out):Dn->Out:=fun δ=>match g1 δ with
 | .nx δ'=>g2 δ'
 | o=>o
theorem F7:DSs X E [] E4:=fun G0 H0=>PSs.imp eV fun D Z H hZ3=>by obtain ⟨G,δ,S,a⟩:=hZ3; exact a Z G H S
theorem B1 (h1:DS X E st g1) (h2:DSs X E sts g2):DSs X E (st::sts) (C5 g1 g2):=fun G0 H0=>by
 refine PSs.imp (aB (h1 G0 H0) (h2 G0 H0)) fun D Z H hY59=>?_;obtain ⟨G,δ,S,a⟩:=hY59;refine ⟨G,δ,S,?_⟩;unfold C5 at a;cases e:g1 δ with
 | nx δ'=>rw [e] at a; exact fun Z' G' H' S'=>⟨G',δ',S',a⟩
 | rt d=>rw [e] at a; exact a
 | bk d=>rw [e] at a; exact a
 | ct d=>rw [e] at a; exact a
 | exc d=>rw [e] at a; exact a
 | no=>rw [e] at a; exact a
theorem B7 (h1:DS X E st g1):DSs X E [st] g1:=fun G0 H0=>Kh (h1 G0 H0)
noncomputable def sFz (i:Nat) (g:Dn->Out):Dn->Out:=fun δ=>g (fz i δ)
theorem lW (i:Nat) (h:DS X E st g1):DS X E st (sFz i g1):=fun G0 H0=>PS.imp (h G0 H0) fun D Z H hZ3=>by
 obtain ⟨G,δ,S,a⟩:=hZ3;obtain ⟨G',S'⟩:=S.fz i;exact ⟨G',_,S',a⟩
noncomputable def E2 (f:Dn->Res zS):Dn->Out:=fun δ=>M1 (f δ) .rt
theorem D1 (h:DE X E e f):DS X E (.Return (some e) pos) (E2 f):=fun G0 H0=>PS.imp (cS h) fun D Z H ⟨G,δ,S,a⟩ =>
 Iz S a fun d v G1 H1 g1 r1 S1 a1=>a1 v G1 H1 S1.gr r1
noncomputable def sIf (c:Dn->Res Bool) (g1 g2:Dn->Out):Dn->Out:=fun δ=>M1 (c δ) fun b=>if b=true then g1 δ else g2 δ
theorem Q7 (hc:DT X E c tt) (h1:DSs X E sts g1) (h2:DSs X E sts' g2):DS X E (.If c sts sts' pos) (sIf tt g1 g2):=fun G0 H0=>PS.imp (vH hc (h1 G0 H0) (h2 G0 H0)) fun D Z H ⟨G,δ,S,a⟩ =>
 pP S a fun d G1 H1 g1 S1 a1=>by
   cases d with
   | true=>rw [if_pos rfl]; exact ⟨G1,δ,S1,a1⟩
   | false=>rw [if_neg (by decide)]; exact ⟨G1,δ,S1,a1⟩
noncomputable def okSet (N:List Str) (sc:Scope) (df:Bool) (i:Nat) (x:Str):Bool:=decide (N.Nodup)&&decide (N[i]? = some x)&&(decide (sc.names.lookup x=some .local)||(decide (sc.names.lookup x=some .cell)&&df))
theorem okSet.ok (C:Cxt P w K mg base X N sc k df) {i:Nat} {x:Str} (h:okSet N sc df i x=true):X.N.Nodup/\X.N[i]? = some x/\Loc X.env.scope x/\(X.fn x=true\/X.env.scope.names.lookup x=some .local):=by
 unfold okSet at h;simp only [j9,GF,decide_eq_true_eq] at h;obtain ⟨⟨h1,h2⟩,h3⟩:=h;rw [C.hN];refine ⟨h1,h2,?_⟩;unfold L2.Loc;rw [C.hs];rcases h3 with h3 | ⟨h3,h4⟩
 . exact ⟨.inl h3,.inr h3⟩
 . exact ⟨.inr h3,.inl (C.fn h4 x)⟩
noncomputable def G6 (i:Nat) (f:Dn->Res zS):Dn->Out:=fun δ=>M1 (f δ) fun d=>.nx (δ.set i (.sh d))
theorem K8 {x:Str} (C:Cxt P w K mg base X N sc k df) (i:Nat) (ho:okSet N sc df i x=true) (h:DE X E e f) (hs:BX e (some (.Name x p)) pos.line X.env=pure false:=by rfl):DS X E (.Assign [.Name x p] e pos) (G6 i f):=fun G0 H0=>by
 obtain ⟨h1,h2,h3,h4⟩:=okSet.ok C ho;exact PS.imp (Qo h1 h2 h3 h hs h4) fun D Z H hZ3=>by obtain ⟨G,δ,S,a⟩:=hZ3; exact Iz S a fun d v G1 H1 g1 r1 S1 a1=>a1 _ G1 H1 (S1.set_sh r1)
theorem Im {G0 H0 G H:Hp} {Z:St} {δ:Dn} (S:SSt G0 H0 G H Z δ) {p:c6} (hp:H p=none) (j:Nat) (d':zS) (e:δ[j]? = some (.ow d')):Z[j]?.join≠some (.ref p):=fun z=>by
 obtain ⟨a,e1,_,ok⟩:=S.sr.sl j _ e;rw [e1] at z; cases z;obtain ⟨o,q⟩:=ok.some;rw [hp] at q; cases q
noncomputable def Nt (i:Nat) (f:Dn->Res (List zS)):Dn->Out:=fun δ=>M1 (f δ) fun ds=>.nx (δ.set i (.ow (.list ds)))
theorem eZ {G0 H0:Hp} {D:Ends} {Z:St} {H:Hp} {i:Nat} (h:tS E G0 H0 (Nt i fs) D Z H):tF E fs Z H fun v H1=>D.nx (Z.set i (some v)) H1:=by
 obtain ⟨G,δ,S,a⟩:=h;refine eC S a fun ds p xs G1 H1 g1 q1 q2 q3 q4 S1 a1=>?_;exact a1 _ G1 H1 (S1.set_ow (S.gr.h.free q1) q2 ⟨xs,q3,q4⟩ (Im S q1))
theorem Zq {x:Str} (C:Cxt P w K mg base X N sc k df) (i:Nat) (ho:okSet N sc df i x=true) (h:DF X E e fs) (hs:BX e (some (.Name x p)) pos.line X.env=pure false:=by rfl):DS X E (.Assign [.Name x p] e pos) (Nt i fs):=fun G0 H0=>by
 obtain ⟨h1,h2,h3,h4⟩:=okSet.ok C ho;exact PS.imp (Qo h1 h2 h3 h hs h4) fun D Z H q=>eZ q
noncomputable def Gf (sc scope:Scope) (x:Str) (l1 l2:Nat):Bool:=decide (sc.kind=.function)&&decide (sc.names.lookup x=some .local)&&decide (l1=l2) && !(scope.names.any fun (n,kd)=>n==x&&(kd==.local||kd==.cell))
theorem Lg {x:Str} {elt:Expr} {gens:List Comprehension} {ln:Nat} (C:Cxt P w K mg base X N sc k df) (h:Gf sc scope x p.line pos.line=true):BX (.ListComp elt gens scope pos) (some (.Name x p)) ln X.env=pure true:=by
 unfold Gf at h;simp only [j9,decide_eq_true_eq] at h;obtain ⟨⟨⟨h1,h2⟩,h3⟩,h4⟩:=h;unfold BX;show pure (X.env.blockKind==.function&&X.env.kindOf x==some .local&&p.line==pos.line && !(scope.names.any fun (n,kd)=>n==x&&(kd==.local||kd==.cell)))=_;have e1:X.env.blockKind=.function:=by unfold Env.blockKind; rw [C.hs,h1]; rfl
 have e2:X.env.kindOf x=some .local:=by show X.env.scope.names.lookup x=_; rw [C.hs]; exact h2
 rw [e1,e2,h3,h4];simp
noncomputable def nC (sc scope:Scope) (x:Str) (l1 l2:Nat):Bool:=decide (sc.names.lookup x≠some .local)||decide (l1≠l2)||(scope.names.any fun (n,kd)=>n==x&&(kd==.local||kd==.cell))
theorem bY {x:Str} {elt:Expr} {gens:List Comprehension} {ln:Nat} (C:Cxt P w K mg base X N sc k df) (h:nC sc scope x p.line pos.line=true):BX (.ListComp elt gens scope pos) (some (.Name x p)) ln X.env=pure false:=by
 unfold nC at h;unfold BX;show pure (X.env.blockKind==.function&&X.env.kindOf x==some .local&&p.line==pos.line && !(scope.names.any fun (n,kd)=>n==x&&(kd==.local||kd==.cell)))=_;have e2:X.env.kindOf x=sc.names.lookup x:=by show X.env.scope.names.lookup x=_; rw [C.hs]
 rw [e2];rw [GF,GF,decide_eq_true_eq,decide_eq_true_eq] at h;congr 1;rcases h with (h | h) | h
 . have:(sc.names.lookup x==some NameKind.local)=false:=by simpa using h
   rw [this]; simp
 . have:(p.line==pos.line)=false:=by simpa using h
   rw [this]; simp
 . rw [h]; simp
noncomputable section
variable {x y:Str} {i:Nat} {py spos:Pos}
theorem cM (C:Cxt P w K mg base X N sc k df) (i:Nat) (hset:okSet N sc df i y=true) (hsw:Gf sc scope y py.line pos.line=true) (cap:List Nat) (capN:List Str) (ho:okComp N sc scope [x] capN cap=true) (hi:DI X E (.Name x px) iter src)
   (ht:∀ X',Cxt P w K mg base X' ([x]++capN) (Fi scope sc) k false->DTs X' E0k ifs tt) (he:∀ X',Cxt P w K mg base X' ([x]++capN) (Fi scope sc) k false->DE X' E0k elt el)
   (hs:∀ x,x8 iter X.env x=pure x:=by intro _; rfl):DS X E (.Assign [.Name y py] (.ListComp elt [⟨.Name x px,iter,ifs,0⟩] scope pos) spos) (Nt i (D7 src C6 cap tt el)):=fun G0 H0=>by
 obtain ⟨h1,h2,h3,h4⟩:=okSet.ok C hset;have o:=okComp.ok ho;have hl:X.env.scope.names.lookup y=some .local:=by
   rw [C.hs]; unfold Gf at hsw; simp only [j9,decide_eq_true_eq] at hsw; exact hsw.1.1.2
 refine PS.imp (Ic (g:=V3 0) C.calm (Cm C o) hi (fun X' B=>?_) (fun X' B=>ht X' (C.blk B)) (fun X' B=>he X' (C.blk B)) h1 h2 hl (Lg C hsw) hs) fun D Z H h=>Jj (m:=1) rfl o.h10 yT (eZ h);have C':=C.blk B;have hl:X'.env.scope.names.lookup x=some .local:=by rw [C'.hs]; exact o.h9 x (by simp)
 exact V8 (by rw [C'.hN]; exact o.h8) (by rw [C'.hN]; rfl) (.inl hl) (.inr hl)
noncomputable def Zs (i:Nat) (f:Dn->Res (List zS)):Dn->Out:=fun δ=>M1 (f δ) fun ds=>.nx (δ.set i (.sh (.list ds)))
theorem fC {G0 H0:Hp} {D:Ends} {Z:St} {H:Hp} {i:Nat} (h:tS E G0 H0 (Zs i fs) D Z H):tF E fs Z H fun v H1=>D.nx (Z.set i (some v)) H1:=by
 obtain ⟨G,δ,S,a⟩:=h;refine eC S a fun ds p xs G1 H1 g1 q1 q2 q3 q4 S1 a1=>?_;exact a1 _ _ H1 ((S.grow (g1.share q1 q2 q3)).set_sh ⟨p,xs,rfl,.inl C3,q4.mono (Same.upd q2)⟩)
end
end
end Sm
end
noncomputable section
namespace Sm
open PySem PySem.Spec PyProof.Rows L2
noncomputable section
variable {P:j5} {w:l9} {K:zX} {mg:Str->Option zV} {base:p9} {X:Cx} {N:List Str} {sc:Scope} {k:Nat} {df:Bool} {E:EK} {pos p px py tp spos:Pos} {tg a b c e elt iter:Expr} {ifs:List Expr} {es:List Expr} {f g el:Dn->Res zS} {src:Dn->Res (List zS)} {tt:Dn->Res Bool} {scope:Scope} {capN:List Str} {cap:List Nat} {st:CN} {sts:List CN} {g1:Dn->Out} {x y:Str} {i:Nat}
theorem cO (C:Cxt P w K mg base X N sc k df) (i:Nat) (hset:okSet N sc df i y=true) (hsw:Gf sc scope y py.line pos.line=true) (cap:List Nat) (capN:List Str) (ho:okComp N sc scope [x] capN cap=true) (hi:DI X E (.Name x px) iter src)
   (ht:∀ X',Cxt P w K mg base X' ([x]++capN) (Fi scope sc) k false->DTs X' E0k ifs tt) (he:∀ X',Cxt P w K mg base X' ([x]++capN) (Fi scope sc) k false->DE X' E0k elt el)
   (hs:∀ x,x8 iter X.env x=pure x:=by intro _; rfl):DS X E (.Assign [.Name y py] (.ListComp elt [⟨.Name x px,iter,ifs,0⟩] scope pos) spos) (Zs i (D7 src C6 cap tt el)):=fun G0 H0=>by
 obtain ⟨h1,h2,h3,h4⟩:=okSet.ok C hset;have o:=okComp.ok ho;have hl:X.env.scope.names.lookup y=some .local:=by
   rw [C.hs]; unfold Gf at hsw; simp only [j9,decide_eq_true_eq] at hsw; exact hsw.1.1.2
 refine PS.imp (Ic (g:=V3 0) C.calm (Cm C o) hi (fun X' B=>?_) (fun X' B=>ht X' (C.blk B)) (fun X' B=>he X' (C.blk B)) h1 h2 hl (Lg C hsw) hs) fun D Z H h=>Jj (m:=1) rfl o.h10 yT (fC h);have C':=C.blk B;have hl:X'.env.scope.names.lookup x=some .local:=by rw [C'.hs]; exact o.h9 x (by simp)
 exact V8 (by rw [C'.hN]; exact o.h8) (by rw [C'.hN]; rfl) (.inl hl) (.inr hl)
theorem cN {x1:Nat} {x2:Str} (C:Cxt P w K mg base X N sc k df) (i:Nat) (hset:okSet N sc df i y=true) (hsw:Gf sc scope y py.line pos.line=true) (cap:List Nat) (capN:List Str) (ho:okComp N sc scope [x,x2] capN cap=true) (hi:DI X E (.Tuple [.Name x px,.Name x2 p] x1 tp) iter src)
   (ht:∀ X',Cxt P w K mg base X' ([x,x2]++capN) (Fi scope sc) k false->DTs X' E0k ifs tt) (he:∀ X',Cxt P w K mg base X' ([x,x2]++capN) (Fi scope sc) k false->DE X' E0k elt el)
   (hs:∀ x,x8 iter X.env x=pure x:=by intro _; rfl):DS X E (.Assign [.Name y py] (.ListComp elt [⟨.Tuple [.Name x px,.Name x2 p] x1 tp,iter,ifs,0⟩] scope pos) spos) (Zs i (D7 src Ay cap tt el)):=fun G0 H0=>by
 obtain ⟨h1,h2,h3,h4⟩:=okSet.ok C hset;have o:=okComp.ok ho;have hl:X.env.scope.names.lookup y=some .local:=by
   rw [C.hs]; unfold Gf at hsw; simp only [j9,decide_eq_true_eq] at hsw; exact hsw.1.1.2
 refine PS.imp (Ic (g:=oG K 2 (Hq (V3 0) (Hq (V3 1) oH))) C.calm (Cm C o) hi (fun X' B=>?_) (fun X' B=>ht X' (C.blk B)) (fun X' B=>he X' (C.blk B)) h1 h2 hl (Lg C hsw) hs) fun D Z H h=>Jj (m:=2) rfl o.h10 gok2 (fC h);have C':=C.blk B;have hl:X'.env.scope.names.lookup x=some .local:=by rw [C'.hs]; exact o.h9 x (by simp)
 have hl2:X'.env.scope.names.lookup x2=some .local:=by rw [C'.hs]; exact o.h9 x2 (by simp)
 have nd:X'.N.Nodup:=by rw [C'.hN]; exact o.h8
 have p1:PG X' (.Name x px) (V3 0):=V8 nd (by rw [C'.hN]; rfl) (.inl hl) (.inr hl);have p2:PG X' (.Name x2 p) (V3 1):=V8 nd (by rw [C'.hN]; rfl) (.inl hl2) (.inr hl2);have:=cU (n:=2) (k:=x1) (pos:=tp) C'.calm (Ci p1 (Ci p2 Ww));rw [C'.hK] at this;exact this
noncomputable def Cn (i:Nat) (f:Dn->Res zS):Dn->Out:=fun δ=>match δ[i]? with
 | some (.ow (.list ds))=>M1 (f δ) fun d=>if ds.length < sizeLine then .nx (δ.set i (.ow (.list (ds++[d])))) else .no
 | _=>.no
theorem Qh {cpos apos:Pos} (C:Cxt P w K mg base X N sc k df) (i:Nat) (h:okVar N sc i x=true) (ha:DE X E a f)
   (hbase:DC (.Name x p) "append" X.env (eval (.Name x p) X.env)=eval (.Name x p) X.env:=by rfl)
   (hfew:((AN cpos (e8 [a] X.env)).all (fun x => !x.1)&&(JO cpos (GL [] X.env)).all (fun x=>x.1.isSome)
     && decide ([a].length+([]:List FK).length+(if ([]:List FK).isEmpty then 0 else 1) < 30))=true:=by rfl)
   (hline:(apos.endLine==cpos.line)=true:=by rfl) (hs:e8 [a] X.env=(false,eval a X.env)::e8 [] X.env:=by rfl) (hplain:(AN cpos (e8 [] X.env)).any (·.1)=false:=by rfl)
   (hsw:BX (.Call (.Attribute (.Name x p) "append" apos) [a] [] cpos) none pos.line X.env=pure false:=by rfl) :
   DS X E (.Expr (.Call (.Attribute (.Name x p) "append" apos) [a] [] cpos) pos) (Cn i f):=fun G0 H0=>by
 have hv:PE X (.Name x p) (qK i):=by
   unfold okVar at h; simp only [j9,GY] at h; obtain ⟨⟨⟨h1,h2⟩,h3⟩,h4⟩:=h; refine cV (by rw [C.hN]; exact CD h1) ?_ h3 h4;rw [C.hs]; unfold Vis;cases q:sc.names.lookup x with
   | none=>rw [q] at h2; cases h2
   | some z =>
     rw [q] at h2;cases z with
     | «local» => exact .inl rfl
     | cell=>exact .inr (.inl rfl)
     | free=>exact .inr (.inr rfl)
     | _=>cases h2
 refine PS.imp (Wv (aC CP LL LK Mc hv (N4 ha X3 hs) hbase hfew hline hs hplain) hsw) fun D Z H hZ3=>?_;obtain ⟨G,δ,S,aft⟩:=hZ3;unfold Cn at aft;split at aft
 . rename_i ds hi
   obtain ⟨q,hq,hg,xs,hx,rl⟩:=S.sr.sl i _ hi; have hσ:Z[i]? = some (some (.ref q)):=by
     cases z:Z[i]? with
     | none=>rw [z] at hq; cases hq
     | some z'=>rw [z] at hq; cases z' with
       | none=>cases hq
       | some z''=>cases hq; rfl
   refine ⟨.ref q,hσ,.inl ⟨rfl,xs,.inl (.inl hx)⟩,?_⟩; refine Iz S aft fun d v G1 H1 g1 r1 S1 a1=>?_;split at a1
   . rename_i hz
     have hx1:H1 q=some (.lst xs):=g1.h _ _ hx; obtain ⟨q',hq',hg',_⟩:=S1.sr.sl i _ hi; rw [hq] at hq'; cases hq'; refine ⟨q,xs,v,rfl,rfl,hx1,by rw [<- rl.length]; exact hz,?_⟩;exact a1 Z G1 _ (S1.write hi hq hg' ⟨xs++[v],C3,(rl.mono g1.g).append (RepL.cons r1 rfl)⟩)
   . exact a1.elim
 . exact aft.elim
noncomputable def F9 (st:zS->Dn->Option Dn) (body:Dn->Out):List zS->Dn->Out
 | [],δ=>.nx δ
 | d::ds,δ=>match st d δ with
   | some δ1=>match body δ1 with
     | .nx δ'=>F9 st body ds δ'
     | .ct δ'=>F9 st body ds δ'
     | .bk δ'=>.nx δ'
     | o=>o
   | none=>.no
noncomputable def O3 (src:Dn->Res (List zS)) (st:zS->Dn->Option Dn) (body:Dn->Out):Dn->Out:=fun δ=>M1 (src δ) fun ds=>F9 st body ds δ
noncomputable def st1 (i:Nat):zS->Dn->Option Dn:=fun d δ=>some (δ.set i (.sh d))
noncomputable def st2 (i j:Nat):zS->Dn->Option Dn:=fun d δ=>match d with
 | .tuple [a,b]=>some ((δ.set i (.sh a)).set j (.sh b))
 | _=>none
def zN (K:zX) (g:TG) (st:zS->Dn->Option Dn):Prop:=∀ (G0 H0 G H:Hp) (Z:St) (δ δ1:Dn) (d:zS) (x:V) (Q:St->Hp->Prop),SSt G0 H0 G H Z δ->Rep G d x->st d δ=some δ1->(∀ Z',SSt G0 H0 G H Z' δ1->Q Z' H)->g x Z H Q
theorem tg1 (i:Nat):zN K (V3 i) (st1 i):=fun G0 H0 G H Z δ δ1 d x Q S r e h=>by cases e; exact h _ (S.set_sh r)
theorem SSt.rebase {G0 H0 G1 H1 G H:Hp} {Z:St} {δ:Dn} (g:Grow G0 H0 G1 H1) (S:SSt G0 H0 G H Z δ) (h:Same G1 G):SSt G1 H0 G H Z δ :=
 ⟨⟨h,S.gr.h,S.gr.gh,fun b o e=>(S.gr.fr b o e).imp (fun z=>g.g _ _ z) id⟩,S.sr,S.fr⟩
theorem Grow.unbase {G0 H0 G1 H1 G H:Hp} (g:Grow G0 H0 G1 H1) (h:Grow G1 H0 G H):Grow G0 H0 G H :=
 ⟨g.g.trans h.g,h.h,h.gh,fun b o e=>(h.fr b o e).elim (fun z=>g.fr b o z) .inr⟩
theorem SSt.unbase {G0 H0 G1 H1 G H:Hp} {Z:St} {δ:Dn} (g:Grow G0 H0 G1 H1) (S:SSt G1 H0 G H Z δ):SSt G0 H0 G H Z δ:=⟨g.unbase S.gr,S.sr,S.fr⟩
theorem lX {gt:TG} {st:zS->Dn->Option Dn} (C:Cxt P w K mg base X N sc k df) (hi:DI X E tg iter src) (hg:PG X tg gt) (ht:zN K gt st) (hb:DSs X E sts g1) (hs:∀ x,x8 iter X.env x=pure x):DS X E (.For tg iter sts [] pos) (O3 src st g1):=fun G0 H0=>by
 have hb':PSs X sts (fun D Z H=>∃ Gb,tS E Gb H0 g1 D Z H):=fun pins s Z H D I hZ6=>by obtain ⟨Gb,q⟩:=hZ6; exact hb Gb H0 pins s Z H D I q
 refine PS.imp (mK C.own C.calm hi hg hb' hs) fun D Z H hZ3=>?_;obtain ⟨G,δ,S,aft⟩:=hZ3;refine pQ S aft fun ds J G1 H1 gr W S1 a1=>?_;have g01:=S1.gr;refine ⟨fun i n Z' H'=>n=ds.length - i/\i<=ds.length/\∃ G' δ',SSt G1 H0 G' H' Z' δ'/\Mv E G0 H0 (F9 st g1 (ds.drop i) δ') D,⟨_,rfl,BY _,G1,δ,S1.rebase g01 (Same.refl _),by rw [GN]; exact a1⟩,?_⟩;rintro i n Z' H' ⟨rfl,hi,G',δ',S',a'⟩;by_cases hlt:i < ds.length
 . have hd:ds[i]? = some ds[i]:=l0 hlt
   have hdrop:ds.drop i=ds[i]::ds.drop (i+1):=BP hlt; rw [hdrop] at a'; unfold F9 at a'; refine .inr ⟨W.go i H' hlt (S'.gr.g.trans S'.sr.sub),fun Z2 H2=>∃ G' δ',SSt G1 H0 G' H2 Z2 δ'/\Mv E G0 H0 (F9 st g1 (ds.drop (i+1)) δ') D,fun Z2 H2 q=>⟨_,by omega,rfl,hlt,q⟩,fun x H'' hy=>?_⟩;obtain ⟨G3,g3,r3⟩:=W.yld i _ G' H' x H'' hd S'.gr.g S'.sr.sub hy; have S3:=S'.grow g3;cases es:st ds[i] δ' with
   | none=>rw [es] at a'; exact a'.elim
   | some δ1 =>
     rw [es] at a'; refine ht G1 H0 G3 H'' Z' δ' δ1 _ x _ S3 r3 es fun Z2 S4=>⟨G1,G3,δ1,S4,?_⟩;simp only at a';cases eo:g1 δ1 with
     | nx δ2=>rw [eo] at a'; exact fun Z3 G4 H4 S5=>⟨G4,δ2,S5,a'⟩
     | ct δ2=>rw [eo] at a'; exact fun Z3 G4 H4 S5=>⟨G4,δ2,S5,a'⟩
     | bk δ2=>rw [eo] at a'; exact fun Z3 G4 H4 S5=>a' Z3 G4 H4 (S5.unbase g01)
     | rt d=>rw [eo] at a'; exact fun v G4 H4 g r=>a' v G4 H4 (g01.unbase g) r
     | exc c=>rw [eo] at a'; exact fun G4 H4 g=>a' G4 H4 (g01.unbase g)
     | no=>rw [eo] at a'; exact a'
 . refine .inl ⟨W.stop i H' (BI.mp hlt) (S'.gr.g.trans S'.sr.sub),?_⟩
   have:ds.drop i=[]:=FJ (BI.mp hlt); rw [this] at a'; exact a' Z' G' H' (S'.unbase g01)
theorem Y3 (C:Cxt P w K mg base X N sc k df) (i:Nat) (ho:okSet N sc df i x=true) (hi:DI X E (.Name x p) iter src) (hb:DSs X E sts g1) (hs:∀ x,x8 iter X.env x=pure x:=by intro _; rfl):DS X E (.For (.Name x p) iter sts [] pos) (O3 src (st1 i) g1):=by
 obtain ⟨h1,h2,h3,h4⟩:=okSet.ok C ho;exact lX C hi (V8 h1 h2 h3 h4) (tg1 i) hb hs
end
end Sm
end
noncomputable section
namespace Sm
open PySem PySem.Spec PyProof.Rows L2
noncomputable section
variable {P:j5} {w:l9} {K:zX} {mg:Str->Option zV} {base:p9} {X:Cx} {N:List Str} {sc:Scope} {k:Nat} {df:Bool} {E:EK} {p:Pos} {a c e:Expr} {f g:Dn->Res zS} {x:Str} {i:Nat}
theorem okVar.pe (C:Cxt P w K mg base X N sc k df) (h:okVar N sc i x=true):PE X (.Name x p) (qK i):=by
 unfold okVar at h;simp only [j9,GY] at h;obtain ⟨⟨⟨h1,h2⟩,h3⟩,h4⟩:=h;refine cV (by rw [C.hN]; exact CD h1) ?_ h3 h4;rw [C.hs];unfold Vis;cases q:sc.names.lookup x with
 | none=>rw [q] at h2; cases h2
 | some z =>
   rw [q] at h2;cases z with
   | «local» => exact .inl rfl
   | cell=>exact .inr (.inl rfl)
   | free=>exact .inr (.inr rfl)
   | _=>cases h2
theorem SR.own {G H:Hp} {Z:St} {δ:Dn} (S:SR G H Z δ) {d:zS} (hi:δ[i]? = some (.ow d)):∃ q,Z[i]? = some (some (.ref q))/\G q=none/\OwnOk G H q d:=by
 obtain ⟨q,hq,hg,ok⟩:=S.sl i _ hi;refine ⟨q,?_,hg,ok⟩;cases z:Z[i]? with
 | none=>rw [z] at hq; cases hq
 | some z'=>rw [z] at hq; cases z' with
   | none=>cases hq
   | some z''=>cases hq; rfl
noncomputable def E9 (N:List Str) (ds:List zS):Dn:=ds.map .sh++i4 (N.length - ds.length) .un
noncomputable def fnD (N:List Str) (g:Dn->Out):List zS->Res zS:=fun ds=>match g (E9 N ds) with
 | .rt d=>.ok d
 | .nx _=>.ok .none
 | .exc c=>.exc c
 | _=>.no
theorem Ze {G H:Hp} (hG:Same G H) {ds:List zS} {vs:List V} (r:RepL G ds vs) (N:List Str):SSt G H G H (Cq N vs) (E9 N ds):=by
 have hl:=r.length;have noow:∀ (i:Nat) (d:zS),(E9 N ds)[i]? ≠ some (.ow d):=fun i d e=>by
   unfold E9 at e;by_cases hi:i < ds.length
   . rw [o8 (by simpa using hi),j8] at e
     cases q:ds[i]? with
     | none=>rw [q] at e; cases e
     | some z=>rw [q] at e; cases e
   . rw [p7 (by simpa using BI.mp hi),CA] at e
     split at e <;> cases e
 refine ⟨Grow.refl hG,⟨hG,by unfold L2.Cq E9; simp [hl],fun i s e=>?_,fun i j a d d' e _ _ _=>absurd e (noow i d)⟩,fun i d a e _=>absurd e (noow i d)⟩;unfold E9 at e;by_cases hi:i < ds.length
 . rw [o8 (by simpa using hi),j8] at e
   cases q:ds[i]? with
   | none=>rw [q] at e; cases e
   | some z =>
     rw [q] at e; cases e;obtain ⟨v,e1,rv⟩:=r.get q; unfold L2.Cq; rw [o8 (by rw [zZ,<- hl]; exact hi),j8,e1];exact ⟨v,rfl,rv⟩
 . rw [p7 (by simpa using BI.mp hi),CA] at e
   split at e <;> cases e
   trivial
structure Def (K:zX) (mg:Str->Option zV) (x:Str) (st:CN) (ps:List Str):Prop where
 ex:∃ f fd,L2.Fun K x x st f fd/\mg x=some (.ref f)/\Binds K fd ps []
theorem oJ {x:Str} {st:CN} {ps:List Str} {n:Nat} {go:Dn->Out} {m:List zS->Res zS} {f:c6} {fd:FZ} (F:L2.Fun K x x st f fd) (S:FnScope N ps (A4 st)) (hn:ps.length=n)
   (body:∀ X,Cxt P w K mg base X N (A4 st) k true->DSs X E0k (B3 st) go) (hm:m=fnD N go):FnOk P w K mg base CX0 (k+1) f fd ps (spD n m):=by
 subst hm;refine F.ok S (fun vs H Q E h=>?_) (fun cdv A outer s H vs Q E hr h=>?_)
 . obtain ⟨G,ds,d,_,r,hl,_⟩:=h
   rw [<- r.length,hl,hn]
 . obtain ⟨G,ds,d,hG,r,hl,em,q⟩:=h
   refine ⟨_,body _ ⟨rfl,rfl,rfl,rfl,rfl,rfl,rfl,rfl,hr,fun _ _=>rfl,FR⟩ G H,G,_,Ze hG r N,?_⟩;unfold fnD at em;cases eg:go (E9 N ds) with
   | rt d'=>rw [eg] at em; cases em; exact fun v G' H' g r'=>q v G' H' g r'
   | nx δ=>rw [eg] at em; cases em; exact fun Z G' H' S'=>q _ G' H' S'.gr rfl
   | bk _=>rw [eg] at em; cases em
   | ct _=>rw [eg] at em; cases em
   | exc _=>rw [eg] at em; cases em
   | no=>rw [eg] at em; cases em
theorem O4 {x:Str} {st:CN} {ps:List Str} {n:Nat} {go:Dn->Out} {m:List zS->Res zS} (F:Def K mg x st ps) (S:FnScope N ps (A4 st)) (hn:ps.length=n)
   (body:∀ X,Cxt P w K mg base X N (A4 st) k true->DSs X E0k (B3 st) go) (hm:m=fnD N go):Fn P w K mg base x (k+1) n m:=by
 obtain ⟨f,fd,F,hmg,hb⟩:=F.ex;exact ⟨f,fd,ps,hn,oJ F S hn body hm,hmg,F.kp,hb⟩
end
end Sm
end
noncomputable section
namespace Sm
open PySem PySem.Spec PyProof.Rows L2
end Sm
end
noncomputable section
namespace Sm
open PySem PySem.Spec PyProof.Rows L2
end Sm
end
noncomputable section
namespace Sm
open PySem PySem.Spec PyProof.Rows L2
noncomputable section
variable {X:Cx} {k:Nat} {E:EK} {p:Pos} {a b c e:Expr} {g:Dn->Res zS} {i:Nat} {tt:Dn->Res Bool}
noncomputable def cFz (i:Nat) (c:Dn->Res Bool):Dn->Res Bool:=fun δ=>c (fz i δ)
theorem SR.fz {G H:Hp} {Z:St} {δ:Dn} (S:SR G H Z δ) (i:Nat):∃ G',SR G' H Z (fz i δ):=by
 unfold Sm.fz;split
 . rename_i ds hi
   obtain ⟨p,hp,hg,xs,hx,r⟩:=S.sl i _ hi; have hv:Z[i]? = some (some (.ref p)):=by
     cases q:Z[i]? with
     | none=>rw [q] at hp; cases hp
     | some z=>rw [q] at hp; cases z with
       | none=>cases hp
       | some z=>cases hp; rfl
   have key:∀ (j:Nat) (d':zS),(δ.set i (.sh (.list ds)))[j]? = some (.ow d')->δ[j]? = some (.ow d')/\j≠i:=fun j d' e=>by
     rw [F1] at e;split at e
     . cases e
     . rename_i hn
       refine ⟨e,fun z=>?_⟩;subst z; exact hn ⟨rfl,(j6.mp hi).1⟩
   have sm:Same G (upd G p (.lst xs)):=Same.upd hg; have sub:Same (upd G p (.lst xs)) H:=fun b u e=>by
     by_cases hb:b=p
     . subst hb; rw [C3] at e; rw [hx]; exact e
     . rw [C4 hb] at e; exact S.sub _ _ e
   refine ⟨_,sub,by simp [S.len],fun j s e=>?_,fun j1 j2 a d1 d2 e1 e2 h1 h2=>S.ap j1 j2 a d1 d2 (key j1 d1 e1).1 (key j2 d2 e2).1 h1 h2⟩;by_cases hj:i=j/\i < δ.length
   . rw [F1,if_pos hj] at e
     cases e; rw [<- hj.1,hv]; exact ⟨_,rfl,p,xs,rfl,.inl C3,r.mono sm⟩
   . have e2:=e
     rw [F1,if_neg hj] at e2; have hs:=S.sl j s e2;cases s with
     | un=>trivial
     | sh d=>obtain ⟨v,e1,r1⟩:=hs; exact ⟨v,e1,r1.mono sm⟩
     | fd _=>exact FdOk.mono sm hs
     | ow d2 =>
       obtain ⟨a,e1,n1,ok⟩:=hs; have hne:a≠p:=by
         rintro rfl;exact (key j d2 e).2 (S.ap j i a d2 _ e2 hi e1 hp)
       refine ⟨a,e1,by rw [C4 hne]; exact n1,?_⟩;cases d2 with
       | list ds=>obtain ⟨xs,q,r⟩:=ok; exact ⟨xs,q,r.mono sm⟩
       | dict kvs=>obtain ⟨xs,q,k,r⟩:=ok; exact ⟨xs,q,k,r.mono sm⟩
       | tuple xs=>exact OwnK.keep sm (fun o q=>q) ok
       | _=>exact (show False from ok).elim
 . exact ⟨G,S⟩
theorem kU (i:Nat) (h:DT X E c tt):DT X E c (cFz i tt):=PT.imp h fun Z H Q hZ3=>by
 obtain ⟨G,δ,S,a⟩:=hZ3;obtain ⟨G',S'⟩:=S.fz i;refine ⟨G',_,S',?_⟩;unfold cFz at a;cases e:tt (fz i δ) with
 | ok d=>rw [e] at a; exact fun G2 H2 g=>a G H2 ⟨Same.refl _,g.h,S.sub.trans g.h,fun _ _ z=>.inl z⟩
 | exc c=>rw [e] at a; exact fun G2 H2 g=>a G H2 ⟨Same.refl _,g.h,S.sub.trans g.h,fun _ _ z=>.inl z⟩
 | no=>rw [e] at a; exact a
end
end Sm
end
noncomputable section
namespace Sm
open PySem PySem.Spec
theorem Xe:KN (.type "list") "keys" = pure none:=by
 rw [CQ,AV]; kernel_rfl
theorem Xf:KN (.type "list") "__getattr__" = pure none:=by
 rw [CQ,AV]; kernel_rfl
noncomputable section
variable {prog:j5} {w:l9} {A:u5} {E:zV->zW->Prop} {h:p9} {g:Array NM} {d:Drawn} {t:Nat} {os:OsState} {a:c6} {vs:Array zV} {n:Nat}
theorem jD {tk:Tok} {Q:Fin->zW->Prop} (hA:A.handled=none) (hx:h.get? a=some { cls:=.type "list",data:=.seq vs n })
   (hq:∀ h' tk' e,Heap.NewAttrErr h h' e (.ref a) "keys" -> E (.ref e) ⟨h',g,d,tk',os⟩) :
   wpAny (i9 prog w) A (AA.«object.__getattribute__» ⟨[.ref a,.str "keys" tk],[]⟩) Q E ⟨h,g,d,t,os⟩:=by
 have hT:(⟨h,g,d,t,os⟩:zW).TypeIs (.ref a) "list" := ⟨_,hx,rfl⟩;have f4:=Xe;unfold AA.«object.__getattribute__»
 repeat (any_goals (first | assumption | wp_step))
 exact wpAny_raiseAttrError hA hq (attrMsg_fits (by decide +kernel) (by decide))
theorem jC {Q:Option zV->zW->Prop} (hA:A.handled=none) (hx:h.get? a=some { cls:=.type "list",data:=.seq vs n })
   (hq:∀ h' tk',(∀ b o,h.get? b=some o->h'.get? b=some o)->Q none ⟨h',g,d,tk',os⟩):wpAny (i9 prog w) A (getAttr? (.ref a) "keys") Q E ⟨h,g,d,t,os⟩:=by
 have hT:∀ s':zW,s'.heap=h->s'.TypeIs (.ref a) "list" := fun s' e=>⟨_,by rw [e]; exact hx,rfl⟩;have f1:=sub_AttributeError;have f2:=F.slot_list_getattribute.lookup;have f3:=F.slot_list_getattribute.bind (.ref a);have f5:=Xf;unfold getAttr? getAttrBy? getAttrBy;refine zT (wpAny_mkText (zT (CL ?_)));have hT1:=hT ⟨h,g,d,t+1,os⟩ rfl
 repeat (any_goals (first | assumption | wp_step))
 refine codeAny_call_builtin F.slot_list_getattribute.plain F.entry_list_ga
   (F.slot_list_getattribute.check _ _ _ _ _ _ _ _ hT1 (F.args_list_getattribute_2 _ _)
     (jD hA hx fun h' tk' e hx'=>?_))
 obtain ⟨t',u',he⟩:=hx'.there;have kp:=hx'.keeps;show wpAny _ _ (getattributeRaised _ _ _ _ _ _ _) _ _ _;unfold getattributeRaised
 repeat (any_goals (first | assumption | wp_step))
 exact hq _ _ kp
end
end Sm
end
noncomputable section
namespace Sm
open PySem PySem.Spec PyProof.Rows L2
theorem Fg:LG table "dict.update.loop" = some AA.«dict.update.loop» := LV ⋯
theorem Fe:plainId "dict.update.loop" = true:=by decide +kernel
end Sm
end
noncomputable section
namespace Sm
open PySem PySem.Spec PySem.Calls PyProof.Rows PySem.W Builtin Builtin.ObjectAttr Builtin.Getset_descriptor
end Sm
end
noncomputable section
namespace Sm
open PySem PySem.Spec PyProof.Rows L2
end Sm
end
noncomputable section
namespace Sm
open PySem PySem.SetTable
theorem Dx {xs:Array Nat} (hr:xs.toList.Pairwise (· < ·)) {a b d:Nat} (h:a < b) (hb:b < xs.size):xs.getD a d < xs.getD b d:=by
 have ha:a < xs.size:=by lia
 have:=(MB.mp hr) a b (by simpa using ha) (by simpa using hb) h;simpa [HM,ha,hb] using this
theorem pM (xs:Array Nat) (j:Nat) (hr:xs.toList.Pairwise (· < ·)) :
   ∀ (fuel lo hi:Nat),lo<=hi->hi<=xs.size->hi - lo<=fuel->(∀ i,i < lo->xs.getD i j < j)->(∀ i,hi<=i->i < xs.size->j<=xs.getD i j) ->
     below.go xs j fuel lo hi<=hi/\(∀ i,i < below.go xs j fuel lo hi->xs.getD i j < j)/\(∀ i,below.go xs j fuel lo hi<=i->i < xs.size->j<=xs.getD i j):=by
 intro iN; induction iN with
 | zero =>
   intro lo hi h1 h2 h3 h4 h5; have:lo=hi:=by lia
   subst this; exact ⟨f8 _,h4,h5⟩
 | succ fuel ih =>
   intro lo hi h1 h2 h3 h4 h5; unfold below.go;by_cases hl:lo < hi
   . rw [if_pos hl]
     by_cases hm:xs.getD ((lo+hi) / 2) j < j
     . simp only [hm,if_true]
       refine ih _ hi (by lia) h2 (by lia) ?_ h5;intro i hi';by_cases he:i=(lo+hi) / 2
       . subst he; exact hm
       . exact KD (Dx hr (by lia) (by lia)) hm
     . simp only [hm,if_false]
       have r:=ih lo ((lo+hi) / 2) (by lia) (by lia) (by lia) h4 (by
         intro i hi' hs;by_cases he:i=(lo+hi) / 2
         . subst he; lia
         . have:=Dx hr (d:=j) (show (lo+hi) / 2 < i by lia) hs
           lia)
       exact ⟨by lia,r.2⟩
   . rw [if_neg hl]
     have:lo=hi:=by lia
     subst this; exact ⟨f8 _,h4,h5⟩
theorem Ix (xs:Array Nat) (j:Nat) (hr:xs.toList.Pairwise (· < ·)) :
   below xs j<=xs.size/\(∀ i,i < below xs j->xs.getD i j < j)/\(∀ i,below xs j<=i->i < xs.size->j<=xs.getD i j) :=
 pM xs j hr xs.size 0 xs.size (BY _) (f8 _) (by lia) (fun _ h=>absurd h (Nat.not_lt_zero _)) (fun _ h h'=>absurd h' (by lia))
theorem pN {xs:Array Nat} (hr:xs.toList.Pairwise (· < ·)) {i j:Nat} (h:xs[i]? = some j):below xs j=i:=by
 obtain ⟨h1,h2,h3⟩:=Ix xs j hr;have hi:i < xs.size:=by
   rcases HW i xs.size with h' | h'
   . exact h'
   . rw [FG h'] at h; exact nomatch h
 have e:xs.getD i j=j:=by simp only [HM,hi,dif_pos]; rw [o7 hi] at h; simpa using h
 rcases Nat.lt_trichotomy (below xs j) i with hl | hl | hl
 . have a:=h3 _ (f8 _) (by lia)
   have b:=Dx hr (d:=j) hl hi;lia
 . exact hl
 . have:=h2 i hl; lia
theorem fM (j:Nat):has #[] j=false:=rfl
theorem hE {t:BO} (hr:t.place.toList.Pairwise (· < ·)) {i j:Nat} (h:t.place[i]? = some j):t.slot j=.live i:=by
 unfold slot;simp only [pN hr h,h,beq_self_eq_true,if_true]
theorem few:∀ (n:Nat) (L:List Nat),(∀ e,e < n->e∈L)->n<=L.length:=by
 intro iN; induction iN with
 | zero=>intro _ _; exact BY _
 | succ n ih =>
   intro L h; have a:=h n (by lia);have b:=ih (L.erase n) (fun e he=>(List.mem_erase_of_ne (by lia)).mpr (h e (by lia)));have c:=List.length_erase_of_mem a; have d:=List.length_pos_of_mem a;lia
theorem room {L:List Nat} {mask:Nat} (h:L.length<=mask):∃ e,e<=mask/\e∉L:=by
 by_cases c:∃ e,e<=mask/\e∉L
 . exact c
 . have:=few (mask+1) L (fun e he=>EA fun hn=>c ⟨e,by lia,hn⟩)
   lia
end Sm
end
noncomputable section
namespace Sm
open PySem PySem.SetTable
theorem iW {t:BO} {j:Nat} (h:j∈t.place.toList):∃ i:Nat,t.place[i]? = some j:=by
 rw [<- Array.mem_def] at h;obtain ⟨i,hi,e⟩:=Array.getElem_of_mem h;exact ⟨i,by rw [o7 hi,e]⟩
theorem Tl {xs:Array Nat} (hr:xs.toList.Pairwise (· < ·)) {j:Nat} (hj:j∉xs.toList):(insertAt xs (below xs j) j).toList.Pairwise (· < ·):=by
 obtain ⟨h1,h2,h3⟩:=Ix xs j hr;rw [SetTable.toList_insertAt,BW];have ht:∀ a,a∈xs.toList.take (below xs j)->a < j:=by
   intro a ha; obtain ⟨i,hi,e⟩:=IU ha; have hi':i < below xs j:=by simp at hi; lia
   have:=h2 i hi'; have hs:i < xs.size:=by lia
   simp only [List.getElem_take,NN] at e;simpa [HM,hs,e] using this
 have hd:∀ a,a∈xs.toList.drop (below xs j)->j < a:=by
   intro a ha; have hm:=NT ha; obtain ⟨i,hi,e⟩:=IU ha; simp only [List.getElem_drop,NN] at e; simp at hi;have:=h3 (below xs j+i) (by lia) (by lia);have hs:below xs j+i < xs.size:=by lia
   simp [HM,hs,e] at this;rcases HW j a with c | c
   . exact c
   . have:j=a:=by lia
     subst this; exact absurd hm hj
 refine ⟨hr.sublist (JU _ _),?_,?_⟩
 . rw [n0]
   exact ⟨hd,hr.sublist (List.drop_sublist _ _)⟩
 . intro a ha b hb
   rw [a9] at hb; rcases hb with hb | hb
   . subst hb; exact ht a ha
   . exact KD (ht a ha) (hd b hb)
end Sm
end
noncomputable section
namespace Sm
open PySem PySem.SetTable
end Sm
end
noncomputable section
namespace Sm
open PySem PySem.SetTable
noncomputable def dF (mask:Nat) (ow:Array (Option Nat)):List (Nat×Nat):=(o9 (mask+1)).filterMap fun j=>(ow.getD j none).map (j,·)
theorem nP (mask:Nat) (ow:Array (Option Nat)):(dF mask ow).Pairwise (fun a b=>a.1 < b.1):=by
 unfold dF;rw [List.pairwise_filterMap];refine HS.imp ?_;intro a b hab x hx y hy;rw [p6] at hx hy;obtain ⟨_,_,rfl⟩:=hx;obtain ⟨_,_,rfl⟩:=hy;exact hab
end Sm
end
noncomputable section
namespace Sm
open PySem PySem.SetTable
structure Elems (prog:j5) (w:l9) (A:u5) (E:zV->zW->Prop) (a:c6) where
 D:Type
 dec:DecidableEq D
 I:zW->Prop
 R:zV->D->Prop
 hash:D->Int
 heap:∀ {s:zW} {h':p9},I s->CF a s.heap h'->I { s with heap:=h' }
 toks:∀ {s:zW} (tk:Nat),I s->I { s with toks:=tk }
 ref:∀ {v:zV} {d:D},R v d->∃ b,v=.ref b
 eqB:∀ {s:zW} {y x:zV} {d d':D} {Q:Bool->zW->Prop},I s->R y d->R x d'->Q (@decide (d=d') (dec d d')) s->wpAny (i9 prog w) A (eqBool y x) Q E s
 byV:∀ {s:zW} {x:zV} {d:D} {Q:Bool->zW->Prop},I s->R x d->(∀ b,Q b s)->wpAny (i9 prog w) A (hashByValue 8 x) Q E s
 seen:∀ {s:zW} {x:zV} {d:D} {ys:List zV} {Q:Bool->zW->Prop},I s->R x d->(∀ y,y∈ys->∃ d',R y d')->Q false s->wpAny (i9 prog w) A (searchCouldBeSeen x ys) Q E s
end Sm
end
noncomputable section
namespace Sm
open PySem PySem.SetTable
end Sm
end
noncomputable section
namespace Sm
open PySem PySem.SetTable
open L2 (isK Hd aR Gy)
mutual
theorem eqvK:∀ (a b:zS),isK a=true->isK b=true->(g9 a b=true↔a=b)
 | .int i,.int j,_,_=>by simp [g9]
 | .str x,.str y,_,_=>by simp [g9]
 | .tuple xs,.tuple ys,ha,hb=>by
   simp only [g9,CO]; exact vP xs ys (by simpa [isK] using ha) (by simpa [isK] using hb)
 | .int _,.str _,_,_ | .int _,.tuple _,_,_ | .str _,.int _,_,_ | .str _,.tuple _,_,_ | .tuple _,.int _,_,_ | .tuple _,.str _,_,_=>by simp [g9]
 | .none,_,h,_ | .bool _,_,h,_ | .list _,_,h,_ | .dict _,_,h,_=>by simp [isK] at h
 | .int _,.none,_,h | .int _,.bool _,_,h | .int _,.list _,_,h | .int _,.dict _,_,h=>by simp [isK] at h
 | .str _,.none,_,h | .str _,.bool _,_,h | .str _,.list _,_,h | .str _,.dict _,_,h=>by simp [isK] at h
 | .tuple _,.none,_,h | .tuple _,.bool _,_,h | .tuple _,.list _,_,h | .tuple _,.dict _,_,h=>by simp [isK] at h
theorem vP:∀ (a b:List zS),Hd a=true->Hd b=true->(EN a b=true↔a=b)
 | [],[],_,_=>by simp [EN]
 | [],_::_,_,_=>by simp [EN]
 | _::_,[],_,_=>by simp [EN]
 | x::xs,y::ys,ha,hb=>by
   simp only [Hd,j9] at ha hb; simp only [EN,j9,BC]; rw [eqvK x y ha.1 hb.1,vP xs ys ha.2 hb.2]
end
noncomputable section
variable {prog:j5} {w:l9} {E:zV->zW->Prop}
mutual
theorem Qz:∀ (k:zS) (v:zV) (as:List c6) (A:u5) (s:zW) (Q:Int->zW->Prop),isK k=true->Reads s.heap v k as->A.units+k.depth < BD ->
   (∀ tk,s.toks<=tk->Q (aR w k) { s with toks:=tk })->wpAny (i9 prog w) A (pyHash v) Q E s
 | .int i,_,_,A,s,Q,_,x,_,h=>by cases x; exact wpAny_pyHash_int (h _ (FD _))
 | .str y,_,_,A,s,Q,_,x,_,h=>by cases x; exact wpAny_pyHash_str (h _ (FD _))
 | .tuple xs,_,_,A,s,Q,hk,x,hu,h=>by
   cases x with
   | tuple hg hc hd hr =>
     rename_i _ a o vs n;refine PySem.W.pyHash_slot (T := "tuple") ⟨_,hg,hc⟩ F.slot_tuple_hash F.entry_tuple_hash (F.args_tuple_hash_1 _) (LX _) (.inr (by lia)) ?_;show wpAny _ _ (FU (.ref a)>>=_) _ _ s;refine zT (wpAny_tupleItemsOf hg hd ?_); refine zT ?_; rw [<- Array.forIn_toList]; refine Ux xs _ _ A.in1 s #[] _ (by simpa [isK] using hk) hr (by simp only [x4,Around.in1_units] at hu ⊢; lia) fun tk b ht hb=>?_;show wpAny _ _ (retInt (JN b.toList)) _ _ _;rw [hb]; exact zT (wpAny_mkInt (zU ⟨_,_,rfl,h _ (HC ht)⟩))
 | .none,_,_,_,_,_,hk,_,_,_ | .bool _,_,_,_,_,_,hk,_,_,_ | .list _,_,_,_,_,_,hk,_,_,_ | .dict _,_,_,_,_,_,hk,_,_,_=>by simp [isK] at hk
theorem Ux:∀ (xs:List zS) (vs:List zV) (as:List c6) (A:u5) (s:zW) (b:Array Int) (Q:Array Int->zW->Prop),Hd xs=true->ND s.heap vs xs as ->
   A.units+w5 xs < BD->(∀ tk b',s.toks<=tk->b'.toList=b.toList++Gy w xs->Q b' { s with toks:=tk }) ->
   wpAny (i9 prog w) A (forIn vs b fun x r=>do let h <- pyHash x; pure PUnit.unit; pure (CJ (r.push h))) Q E s
 | [],_,_,A,s,b,Q,_,x,_,h=>by cases x; exact zU (h s.toks b (f8 _) (by simp [Gy]))
 | k::xs,_,_,A,s,b,Q,hk,x,hu,h=>by
   cases x with
   | cons x1 x2 =>
     simp only [Hd,j9,w5] at hk hu; rw [KW]; refine zT (zT (Qz k _ _ A s _ hk.1 x1 (by lia) fun tk ht=>?_));refine zT (zU (zU ?_)); exact Ux xs _ _ A _ _ Q hk.2 x2 (by lia) fun tk' b' ht' hb=>h tk' b' (i6 ht ht') (by simp [hb,Gy])
end
end
noncomputable section
variable {prog:j5} {w:l9} {A:u5} {E:zV->zW->Prop}
mutual
theorem Nd:∀ (fuel:Nat) (k:zS) (v:zV) (as:List c6) (s:zW) (Q:Bool->zW->Prop),isK k=true->k.depth<=fuel->Reads s.heap v k as->Q true s ->
   wpAny (i9 prog w) A (eqIsQuiet fuel v) Q E s
 | fuel,.int _,_,_,s,Q,_,_,x,h=>by cases x; rw [eqIsQuiet_byValue _ rfl]; exact zU h
 | fuel,.str _,_,_,s,Q,_,_,x,h=>by cases x; rw [eqIsQuiet_byValue _ rfl]; exact zU h
 | 0,.tuple _,_,_,s,Q,_,hd,x,h=>by simp [x4] at hd
 | fuel+1,.tuple xs,_,_,s,Q,hk,hdp,x,h=>by
   cases x with
   | tuple hg hc hd hr =>
     rename_i _ a o vs n;have hT:s.TypeIs (.ref a) "tuple" := ⟨_,hg,hc⟩; unfold eqIsQuiet; refine zT (CG hT F.slot_tuple_eq.lookup ?_); show wpAny _ _ (isInstance (.ref a) (.type "tuple")>>=_) _ _ s;refine zT (ER hT isSubtype_tuple_tuple ?_); simp only [HD,n8,if_false]; refine zT (MS hg hd ?_); refine zT ?_; show wpAny _ _ (forIn vs _ _) _ _ s;rw [<- Array.forIn_toList]; refine Ql fuel xs _ _ s _ (by simpa [isK] using hk) (by simp only [x4] at hdp; lia) hr ?_;exact zU h
 | _,.none,_,_,_,_,hk,_,_,_ | _,.bool _,_,_,_,_,hk,_,_,_ | _,.list _,_,_,_,_,hk,_,_,_ | _,.dict _,_,_,_,_,hk,_,_,_=>by simp [isK] at hk
theorem Ql:∀ (fuel:Nat) (xs:List zS) (vs:List zV) (as:List c6) (s:zW) (Q:Option Bool×Unit->zW->Prop),Hd xs=true->w5 xs<=fuel->ND s.heap vs xs as ->
   Q (none,()) s ->
   wpAny (i9 prog w) A (forIn vs ((none,()):Option Bool×Unit) fun x r=>do
     let b <- eqIsQuiet fuel x
     if (!b)=true then pure (ForInStep.done (some false,())) else do
       pure PUnit.unit
       pure (CJ (none,()))) Q E s
 | _,[],_,_,s,Q,_,_,x,h1=>by cases x; exact zU h1
 | fuel,k::xs,_,_,s,Q,hk,hdp,x,h1=>by
   cases x with
   | cons x1 x2 =>
     simp only [Hd,j9,w5] at hk hdp; rw [KW]; refine zT (zT (Nd fuel k _ _ s _ hk.1 (by lia) x1 ?_));simp only [HD,n8,if_false]; exact zU (Ql fuel xs _ _ s Q hk.2 (by lia) x2 h1)
end
end
end Sm
end
noncomputable section
namespace Sm
open PySem PySem.Spec PyProof.Rows L2
noncomputable section
variable {P:j5} {w:l9} {K:zX} {mg:Str->Option zV} {base:p9} {X:Cx} {N:List Str} {sc:Scope} {k:Nat} {df:Bool} {E:EK} {pos p p2:Pos} {a b c e:Expr} {f g:Dn->Res zS} {x:Str} {i:Nat}
noncomputable def Il:zS->Bool
 | .none=>true
 | .bool _=>true
 | .int _=>true
 | .str _=>true
 | _=>false
theorem Rep.atom {G G':Hp} {d:zS} {v:V} (r:Rep G d v) (h:Il d=true):Rep G' d v:=by
 cases d with
 | none=>exact r
 | bool _=>exact r
 | int _=>exact r
 | str _=>exact r
 | _=>cases h
noncomputable def vFz (i:Nat) (f:Dn->Res zS):Dn->Res zS:=fun δ=>(f (fz i δ)).bind fun d=>if Il d=true then .ok d else .no
theorem zA (i:Nat) (h:DE X E e f):DE X E e (vFz i f):=PE.imp h fun Z H Q hZ3=>by
 obtain ⟨G,δ,S,a⟩:=hZ3;obtain ⟨G',S'⟩:=S.fz i;refine ⟨G',_,S',?_⟩;unfold vFz at a;cases q:f (fz i δ) with
 | ok d =>
   rw [q] at a; simp only [Res.bind] at a;split at a
   . rename_i hd
     exact fun v G2 H2 g r=>a v G H2 ⟨Same.refl _,g.h,S.sub.trans g.h,fun _ _ z=>.inl z⟩ (r.atom hd)
   . exact (show False from a).elim
 | exc c=>rw [q] at a; exact fun G2 H2 g=>a G H2 ⟨Same.refl _,g.h,S.sub.trans g.h,fun _ _ z=>.inl z⟩
 | no=>rw [q] at a; exact a
noncomputable def Uh (i:Nat) (fk fv:Dn->Res zS):Dn->Out:=fun δ=>match δ[i]? with
 | some (.ow (.list ds))=>M1 (fv δ) fun v=>M1 (fk δ) fun kd=>match kd with
   | .int k=>(match ixN ds.length k with
     | some j=>.nx (δ.set i (.ow (.list (ds.set j v))))
     | none=>.no)
   | _=>.no
 | _=>.no
theorem RepL.set {G:Hp} {d:zS} {v:V} (r:Rep G d v):∀ {ds:List zS} {vs:List V} (j:Nat),RepL G ds vs->RepL G (ds.set j d) (vs.set j v)
 | [],_,_,h=>by cases (show _=_ from h); rfl
 | _::_,_,0,h=>by
   obtain ⟨v0,r0,rfl,h1,h2⟩:=h; exact ⟨v,r0,rfl,r,h2⟩
 | _::_,_,j+1,h=>by
   obtain ⟨v0,r0,rfl,h1,h2⟩:=h; exact ⟨v0,_,rfl,h1,RepL.set r j h2⟩
theorem wM (C:Cxt P w K mg base X N sc k df) (i:Nat) (h:okVar N sc i x=true) (hk:DE X E a f) (hv:DE X E b g)
   (hs:swapsWithSole [.Subscript (.Name x p) a p2] b pos.line X.env=pure false:=by rfl) (hw:swappedStores [.Subscript (.Name x p) a p2] b X.env=pure none:=by rfl)
   (h1:(HF [.Subscript (.Name x p) a p2] X.env).map (·.2)=[JP (.Subscript (.Name x p) a p2) X.env]:=by rfl)
   (ha:∀ v,JP (.Subscript (.Name x p) a p2) X.env v=(do
     let ov <- holding [v] (eval (.Name x p) X.env)
     let iv <- holding [v,ov] (eval a X.env)
     standAt p2
     holding [v,ov,iv] (setItem ov iv v)
     release [v,ov,iv] []):=by intro _; rfl):DS X E (.Assign [.Subscript (.Name x p) a p2] b pos) (Uh i f g):=fun G0 H0=>by
 refine PS.imp (xC hv (xD (okVar.pe C h) hk lP ha) hs hw h1) fun D Z H hZ3=>?_;obtain ⟨G,δ,S,aft⟩:=hZ3;unfold Uh at aft;split at aft
 . rename_i ds hi
   refine Iz S aft fun v x1 G1 H1 g1 r1 S1 a1=>?_;obtain ⟨q,hσ,hg,xs,hx,hvals⟩:=S1.sr.own hi; refine ⟨.ref q,hσ,?_⟩; refine Iz S1 a1 fun kd x2 G2 H2 g2 r2 S2 a2=>?_;obtain ⟨q',hσ',hg',xs',hx',hvals'⟩:=S2.sr.own hi; rw [hσ] at hσ'; cases hσ';cases kd with
   | int kk =>
     cases (show _=_ from r2);simp only at a2;cases ej:ixN ds.length kk with
     | none=>rw [ej] at a2; exact (show False from a2).elim
     | some j =>
       rw [ej] at a2; refine ⟨q,xs',kk,j,rfl,rfl,hx',by rw [<- hvals'.length]; exact ej,?_⟩;exact a2 Z G2 _ (S2.write hi (by rw [hσ]; rfl) hg' ⟨_,C3,RepL.set (r1.mono g2.g) j hvals'⟩)
   | _=>exact (show False from a2).elim
 . exact aft.elim
end
end Sm
end
noncomputable section
namespace Sm
open PySem PySem.Spec PyProof.Rows L2 PySem.Builtin.Str
end Sm
end
noncomputable section
namespace Sm
open PySem PySem.Spec PyProof.Rows L2
end Sm
end
noncomputable section
namespace Sm
open PySem PySem.Spec PyProof.Rows L2
end Sm
end
noncomputable section
namespace Sm
open PySem PySem.Spec PyProof.Rows L2
end Sm
end
noncomputable section
namespace Sm
open PySem PySem.Spec PyProof.Rows L2
open AutoSeq1 (wpAny_loadPart')
end Sm
end
noncomputable section
namespace Sm
open PySem PySem.Spec PyProof.Rows L2
end Sm
end
noncomputable section
namespace Sm
open PySem PySem.W PyProof.Rows
noncomputable section
variable {prog:j5} {w:l9} {A:u5} {E:zV->zW->Prop} {s:zW}
theorem Xv {T:String} {r d:c6} {n:Nat} {P:Nat->zV->Prop} {OK:p9->Prop} {Q:List zV->zW->Prop} (K:KdlSrc prog w T r d n P OK) (hh:A.handled=none) (hok:OK s.heap) (hn:n<=sizeLine)
   (hQ:∀ (h':p9) tk acc,(∀ b o,s.heap.get? b=some o->h'.get? b=some o)->ItemsOf P acc n->Q acc.toList { s with heap:=h',toks:=tk }):wpAny (i9 prog w) A (collect (.ref r)) Q E s:=by
 have hlt:=K.there _ hok;have hS:(s.heap.push { cls:=.type "list",data:=.seq ([]:List zV).toArray }).get? s.heap.objs.size=some { cls:=.type "list",data:=.seq #[] 0 }:=e9 _ rfl;unfold collect;refine zT (MT (AZ F.entry_proto_collect ?_));rw [z5 F.plain_proto_collect _];refine zT (o0 (zU ⟨FE F.plain_list_iadd _,AZ F.entry_list_iadd ?_⟩));rw [z5 F.plain_list_iadd _];refine z9 (kdl_extend (A:=A) (s:={ s with heap:=s.heap.push { cls:=.type "list",data:=.seq ([]:List zV).toArray } })
   (R:=fun res s'=>∃ h' tk acc c,res=.ok (.ret (.ref s.heap.objs.size))/\s'={ s with heap:=h',toks:=tk }/\(∀ b o,s.heap.get? b=some o->h'.get? b=some o) /\
     h'.get? s.heap.objs.size=some { cls:=.type "list",dict:=none,data:=.seq acc c,slots := #[] }/\ItemsOf P acc n)
   K hh (K.keep _ _ hok fun b _ o e=>a8 _ e) s.heap.objs.size (DM hlt.1) (DM hlt.2) (.ref s.heap.objs.size) 0 hS
   (fun h' tk acc c hk hS' hacc=>⟨h',tk,acc,c,rfl,rfl,fun b o e=>hk b o (m6 (i8 e)) (a8 _ e),hS',hacc⟩) hn) (fun fin s' h=>?_) (fun e s' h=>?_)
 . cases fin with
   | done f =>
     obtain ⟨h',tk,acc,c,e,rfl,hk,hS',hacc⟩:=h; cases e; exact zT (MU hS' (zU (hQ h' tk acc hk hacc)))
   | again c' =>
     refine ⟨h.1,ET h.2 fun r s'' hr=>?_⟩;obtain ⟨h',tk,acc,c,rfl,rfl,hk,hS',hacc⟩:=hr; exact zT (MU hS' (zU (hQ h' tk acc hk hacc)))
 . obtain ⟨_,_,_,_,e,_⟩:=h
   cases e
end
end Sm
end
noncomputable section
namespace Sm
open PySem PySem.Spec PyProof.Rows L2
end Sm
end
noncomputable section
namespace Sm
open PySem PySem.Spec PyProof.Rows L2
end Sm
end
noncomputable section
namespace Sm
open PySem PySem.Spec PyProof.Rows L2
abbrev Kvs:=List (zS×zS)
noncomputable def Ou (g1:Dn->Out) (g2:Dn->Res Kvs):Dn->Res Kvs:=fun δ=>match g1 δ with
 | .nx δ'=>g2 δ'
 | .exc c=>.exc c
 | _=>.no
noncomputable def fnW (N:List Str) (g:Dn->Res Kvs):List zS->Res Kvs:=fun ds=>g (E9 N ds)
noncomputable def Fq (fs:Dn->Res (List zS)) (m:List zS->Res Kvs):Dn->Res Kvs:=fun δ=>(fs δ).bind m
noncomputable section
variable {X:Cx} {E:EK} {a:Expr} {st:CN}
noncomputable def sNo:Dn->Out:=fun _=>.no
theorem s_no:DS X E st sNo:=fun G0 H0 pins s Z H D I hZ8=>by obtain ⟨G,δ,S,a⟩:=hZ8; exact a.elim
end
end Sm
end
noncomputable section
namespace Sm
open PySem PySem.Spec PyProof.Rows L2
theorem Wr:Slot "reversed" "__init__" "object.__init__" :=
 .of (owner := "object") (n := "__init__") (by rw [CQ,AV]; kernel_rfl) (by decide +kernel) (by decide +kernel) (by decide +kernel) (by first | exact .inl (by decide +kernel) | exact .inr (by decide +kernel)) (by rw [EO]; kernel_rfl)
theorem Lr:TypeCalled "reversed" "reversed.__new__" "object.__init__" :=
 ⟨by decide +kernel,by decide +kernel,⟨_,_,F.mro_reversed⟩,F.made_reversed,by decide +kernel,F.sub_reversed_self,Wr⟩
theorem X2:Slot "reversed" "__next__" "reversed.__next__" :=
 .of (owner := "reversed") (n := "__next__") (by rw [CQ,AV]; kernel_rfl) (by decide +kernel) (by decide +kernel) (by decide +kernel) (by first | exact .inl (by decide +kernel) | exact .inr (by decide +kernel)) (by rw [EO]; kernel_rfl)
theorem Kc:Slot "reversed" "__iter__" "reversed.__iter__" :=
 .of (owner := "reversed") (n := "__iter__") (by rw [CQ,AV]; kernel_rfl) (by decide +kernel) (by decide +kernel) (by decide +kernel) (by first | exact .inl (by decide +kernel) | exact .inr (by decide +kernel)) (by rw [EO]; kernel_rfl)
theorem Hm:LG table "reversed.__next__" = some AA.«reversed.__next__» := LV ⋯
theorem Tj:LG table "reversed.__iter__" = some AA.«dict_keyiterator.__iter__» := by
 exact MZ (id' := "dict_keyiterator.__iter__") ⋯ (by decide +kernel) (by decide +kernel) ⋯
theorem Ke (a:zV):LY "reversed.__next__" ⟨[a],[]⟩:=by unfold LY; kernel_rfl
theorem Ws (a:zV):LY "reversed.__iter__" ⟨[a],[]⟩:=by unfold LY; kernel_rfl
theorem qZ:KN (.type "tuple") "__reversed__" = pure none:=by rw [CQ,AV]; kernel_rfl
theorem rB:isSubtype (.type "tuple") (.type "dict")=pure false:=by rw [EO]; kernel_rfl
def IsRvT (h:p9) (a l:c6) (i:Int):Prop:=∃ o,h.get? a=some o/\o.cls=.type "reversed" /\ o.data=.fields #[.ref l,DX i]
noncomputable section
variable {prog:j5} {w:l9} {A:u5} {E:zV->zW->Prop} {s:zW}
theorem IsRvT.typeIs {a l:c6} {i:Int} (x:IsRvT s.heap a l i):s.TypeIs (.ref a) "reversed" := let ⟨o,ho,hc,_⟩:=x; ⟨o,ho,hc⟩
theorem rC {l:c6} {items:Array zV} {Q₁:zV->zW->Prop} (hl:IX s.heap l items) (hz:items.size<=sizeLine)
   (h:∀ tk,Q₁ (.ref s.heap.objs.size) { s with heap:=s.heap.push { cls:=.type "reversed",data:=.fields #[.ref l,DX ((items.size:Int) - 1)] },toks:=tk }) :
   GJ (i9 prog w) A (.call (.builtin "reversed.__new__") ⟨[.type "reversed",.ref l],[]⟩) (wants Q₁ E) s:=by
 refine MI (zT (CK (F.newCall_reversed_1 _) (zU ⟨FE F.plain_reversed_new _,AZ F.entry_reversed_new ?_⟩)));rw [z5 F.plain_reversed_new _];unfold AA.«reversed.__new__»;refine zT (CK (newClass_reversed _) (zT (CK (a:=()) (by first | rfl | kernel_rfl) (zT (CK (a:=()) (by first | rfl | kernel_rfl) ?_)))));refine zT (CG hl.typeIs qZ ?_);try dsimp only
 refine zT (zT (ER hl.typeIs rB ?_));simp only [n8,if_false];refine zT (CG hl.typeIs KO.lookup ?_);dsimp only;rw [if_pos (by decide +kernel)];refine zU ?_;simp only [HD,n8,if_false];have hn:=Et;refine zT (len_tuple hl (by lia) (zT (CK (a:=some (items.size:Int)) rfl ?_)));refine zT ?_;show wpAny _ _ (newObj (CM "reversed") (.fields #[.ref l,DX ((items.size:Int) - 1)])) _ _ _;exact o0 (zU (h _))
theorem rE {l:c6} {items:Array zV} {Q:zV->zW->Prop} (hl:IX s.heap l items) (hz:items.size<=sizeLine)
   (h:∀ tk,Q (.ref s.heap.objs.size) { s with heap:=s.heap.push { cls:=.type "reversed",data:=.fields #[.ref l,DX ((items.size:Int) - 1)] },toks:=tk }):wpAny (i9 prog w) A (call (.type "reversed") [.ref l]) Q E s:=by
 refine callType_codes (Q₁:=fun obj t=>t.TypeIs obj "reversed" /\ Q obj t) Lr (F.typeCall_reversed_1 _) F.entry_object_init (rC hl hz fun tk=>⟨⟨_,e9 _ rfl,rfl⟩,h tk⟩) fun obj t ht=>?_;exact ⟨ht.1,F.args_object_init_2 obj _,object_init_meets Lr.init.lookup Lr.made (by decide) prog w A.in1 _ t ⟨ht.1,rfl,ht.2⟩⟩
theorem rA {it l:c6} {i:Nat} {items:Array zV} {x:zV} {Q:Option zV->zW->Prop} (hit:IsRvT s.heap it l (i:Int)) (hl:IX s.heap l items) (hz:items.size<=sizeLine) (hx:items[i]? = some x)
   (hQ:∀ h' tk,IsRvT h' it l ((i:Int) - 1)->CF it s.heap h'->Q (some x) { s with heap:=h',toks:=tk }):wpAny (i9 prog w) A (pyNext (.ref it)) Q E s:=by
 obtain ⟨o,ho,hc,hd⟩:=id hit;have hi:i < items.size:=by
   rcases HW i items.size with h | h
   . exact h
   . simp [h] at hx
 have hn:=Et;unfold pyNext;refine zT (CL ?_);refine t8 (name:=BH "__next__") hit.typeIs X2 ?_;refine p0 X2 hit.typeIs Hm ?_ (Ke _);unfold AA.«reversed.__next__»;refine zT (CK (a:=(u9 it,[])) rfl ?_);try dsimp only
 refine zT (FP ho hd (x:=.ref l) rfl (zT (FP ho hd (x:=DX (i:Int)) rfl ?_)));show wpAny _ _ (if (i:Int) < 0 then _ else _) _ _ s;rw [if_neg (by lia)];refine zT (CG hl.typeIs KO.lookup ?_);rw [if_neg (by simp)];refine zT (wpAny_mkInt (zT (CL ?_)));refine getItem_tuple (s:={ s with toks:=s.toks+1 }) (j:=i) hl (by lia) (by lia) ?_ hx ?_
 . unfold seqIndex?
   first | (simp; lia) | (rw [if_neg (by lia),if_pos (by lia)]; simp) | (split <;> simp_all <;> lia)
 . try dsimp only
   refine zT (FP (s:={ s with toks:=s.toks+1 }) ho hd (x:=DX (i:Int)) rfl ?_); show wpAny _ _ (LC (.ref it) 1 (DX ((i:Int) - 1))>>=_) _ _ _;refine zT (HE (s:={ s with toks:=s.toks+1 }) ho hd (by simp) ?_);refine zU ⟨x,rfl,zU (hQ _ _ ?_ (AX ..))⟩; exact ⟨_,y3 _ ho (II (DL hd _)),(Obj.cls_mapFields ..).trans hc,by rw [DL hd]; simp⟩
theorem wQ {it l:c6} {j:Int} {Q:Option zV->zW->Prop} (hj:j < 0) (hh:A.handled=none) (hit:IsRvT s.heap it l j)
   (hQ:∀ h',GX it s.heap h'->Q none { s with heap:=h' }):wpAny (i9 prog w) A (pyNext (.ref it)) Q E s:=by
 obtain ⟨o,ho,hc,hd⟩:=id hit;unfold pyNext;refine zT (CL ?_);refine t8 (name:=BH "__next__") hit.typeIs X2 ?_;refine p0 X2 hit.typeIs Hm ?_ (Ke _);unfold AA.«reversed.__next__»;refine zT (CK (a:=(u9 it,[])) rfl ?_);try dsimp only
 refine zT (FP ho hd (x:=.ref l) rfl (zT (FP ho hd (x:=DX j) rfl ?_)));show wpAny _ _ (if j < 0 then _ else _) _ _ s;rw [if_pos hj];refine zT (AI ?_);have ho1:=y3 (MJ (·.setIfInBounds 1 (DX (-1)))) ho (II (DL hd _));have hd1:=DL hd (fun a=>a.setIfInBounds 1 (DX (-1)));refine zT ?_;show wpAny _ _ (LC (.ref it) 1 (DX (-1))>>=fun _=>LC (.ref it) 0 .none) _ _ _;refine zT (HE ho hd (by simp) (HE ho1 hd1 (by simp) (zT ?_)))
 show wpAny _ _ (newExc (.type "StopIteration") []>>=_) _ _ _;refine zT ?_;simp only [newExc,newTuple];refine zT (o0 ?_ (by size_fits));refine zT (m:=FX _ _) (CK (a:=AL) (by first | rfl | (simp only [FX]; rfl)) (o0 ?_ (by size_fits)));simp only [raiseNew];refine zT (wpAny_handled ?_);rw [show A.in1.handled=none from hh];refine zT (zU (wpAny_throw (zT ?_)));refine ER (T := "StopIteration") (b:=true) ⟨_,e9 _ rfl,rfl⟩ MY ?_;refine zU (hQ _ (MM (MM ?_ _) _))
 intro b ob hb eb;exact ((AX ..).extBut b ob hb ((AX ..).extBut b ob hb eb))
theorem eQ {it l:c6} {i:Int} {Q:zV->zW->Prop} (hit:IsRvT s.heap it l i) (h:Q (.ref it) s):wpAny (i9 prog w) A (LS (.ref it)) Q E s:=by
 refine HP hit.typeIs Kc (p0 Kc hit.typeIs Tj ?_ (Ws _));show wpAny _ _ (ret (.ref it)) _ _ s;exact zU ⟨_,rfl, "reversed",_,hit.typeIs,X2.lookup,h⟩
end
def ItV (K:zX) (a:c6) (n:Nat):It :=
 ⟨fun i H=>i < n/\∃ xs x,SqT K H a xs/\xs.length=n/\xs[n - 1 - i]? = some x,fun i H x H'=>H'=H/\∀ xs,SqT K H a xs->xs[n - 1 - i]? = some x,fun i H=>n<=i⟩
theorem kO {P:j5} {w:l9} {K:zX} {tg:Expr} (a it:c6) (n:Nat):Turn P w K tg (ItV K a n) [it] it (fun i h=>IsRvT h it a ((n:Int) - 1 - i)) where
 mem:=by simp
 obj:=fun i h st b hb=>by
   have e:b=it:=by simpa using hb
   subst e; obtain ⟨o,e,c,d⟩:=st; exact ⟨o,e,fun v z=>by rw [d] at z; cases z⟩
 keep:=fun i h h' st k=>by
   obtain ⟨o,e,r⟩:=st; exact ⟨o,k it (by simp) o e,r⟩
 item:=by
   intro X hP hw hK hc i pins s Z H E I hf st hg; subst hP hw hK; obtain ⟨hi,xs,x,hq,hn,hx⟩:=hg; obtain ⟨its,rv,p,hz⟩:=I.tuple hq; obtain ⟨u,hu,ru⟩:=rv.get hx; have hl:=rv.length; obtain ⟨f0,f1,f2,f3,f4,f5⟩:=hf it (by simp);have e1:(n:Int) - 1 - (i:Int)=((n - 1 - i:Nat):Int):=by lia
   rw [e1] at st; refine rA st (show IX s.heap a its.toArray from p) (by simp only [i5]; lia) (x:=u) (by simpa using hu) fun h' tk st' sb=>?_;have I1:Inv X pins Z H { s with heap:=h',toks:=tk }:=I.turned (t':=tk) (fun b o hb e=>(sb.2 b hb).trans e) f0 f1 f3 f4 f5;obtain ⟨o,e,c,d⟩:=id st'; refine ⟨u,rfl,Uy (s:={ s with heap:=h',toks:=tk }) e c d (by decide) ⟨x,H,I1,ru,⟨rfl,fun ys hy=>by rw [I.tuple_inj hy hq]; exact hx⟩,?_,fun b hb=>(hf b hb).1⟩⟩;have e2:((n - 1 - i:Nat):Int) - 1=(n:Int) - 1 - ((i+1:Nat):Int):=by lia
   rw [e2] at st'; exact st'
 done:=by
   intro X hP hw hK hc i pins s Z H E I hf st hg; subst hP hw hK; have hi:n<=i:=hg; obtain ⟨f0,f1,f2,f3,f4,f5⟩:=hf it (by simp);exact wQ (by lia) (I.ok.hd hc) st fun h' eb=>⟨rfl,I.turned (t':=s.toks) (fun b o hb e=>eb b o hb e) f0 f1 f3 f4 f5⟩
 self:=fun _ _ _ _ _ st h=>eQ st h
theorem kL {K:zX} {G:Hp} {a:c6} {xs:List V} {ds:List zS} (h:G a=some (.tup xs)) (l:RepL G ds xs):Walk (ItV K a xs.length) G ds.reverse where
 go:=fun i H hi hG=>by
   have hi':i < xs.length:=by rw [<- l.length]; simpa using hi
   exact ⟨hi',xs,xs[xs.length - 1 - i],.inl (.inl (hG _ _ h)),rfl,by simp⟩
 yld:=fun i d G2 H x H' e h1 h2 hy=>by
   obtain ⟨rfl,hy⟩:=hy; have hlen:=l.length; have hi:i < ds.length:=by
     rcases HW i ds.length with z | z
     . exact z
     . rw [BQ (by simpa using z)] at e; cases e
   rw [List.getElem?_reverse hi] at e; obtain ⟨y,e1,r⟩:=l.get e; have:=hy xs (.inl (.inl (h2 _ _ (h1 _ _ h)))); rw [hlen] at e1; rw [e1] at this; cases this; exact ⟨G2,Grow.refl h2,r.mono h1⟩
 stop:=fun i H hi hG=>by
   show xs.length<=i;rw [<- l.length]; simpa using hi
noncomputable def Zt:zS->Res (List zS)
 | .tuple ds=>.ok ds.reverse
 | _=>.no
noncomputable section
variable {P:j5} {w:l9} {K:zX} {mg:Str->Option zV} {base:p9} {X:Cx} {N:List Str} {sc:Scope} {k:Nat} {df:Bool} {E:EK} {pos p:Pos} {tg a:Expr} {f:Dn->Res zS}
theorem i_rev (C:Cxt P w K mg base X N sc k df) (h:okGl sc "reversed" = true) (hm:mg "reversed" = none) (ha:DE X E a f) (he:e8 [a] X.env=(false,eval a X.env)::e8 [] X.env:=by rfl) (hpl:(AN pos (e8 [] X.env)).any (·.1)=false:=by rfl) :
   DI X E tg (.Call (.Name "reversed" p) [a] [] pos) (fun δ=>(f δ).bind Zt):=by
 rintro pins s Z H R I ⟨G,δ,S,aft⟩;obtain ⟨h1,h2,h3⟩:=okGl.gl C h;have hh:=Op (R:=fun v H1=>∃ v0 G1 d,[v]=[v0]/\Same G1 H1/\Rep G1 d v0/\AftI E G1 H1 (Zt d) R) (W:=fun G H r=>AftI E G H r R) S aft (fun g a=>AftI.grow g a) (fun c a=>a) (fun a=>a) fun d v G1 H1 g1 r1 S1 a1=>⟨v,G1,d,rfl,S1.sub,r1,a1⟩;refine FN (Me I h1 (by rw [C.hmg]; exact hm) (show CV "reversed" = some (.type "reversed") by decide +kernel) ?_ h3 h2);refine DD (thn ((N4 ha X3 he) pos pins s Z H (fun vs H1=>∃ v G1 d,vs=[v]/\Same G1 H1/\Rep G1 d v/\AftI E G1 H1 (Zt d) R) I ?_) fun us s1 ⟨vs,H1,I1,rx,v,G1,d,ev,hG,rd,a1⟩=>?_) he hpl
 . exact hh
 . subst ev
   obtain ⟨u,rfl,ru⟩:=Vals.one rx;cases d with
   | tuple ds =>
     obtain ⟨q,xs,rfl,hq,l1⟩:=rd; cases ru; obtain ⟨zz,its,rv,e1⟩:=Lw I1 hG hq; have hl:=rv.length; refine rE (show IX s1.heap q its.toArray from e1) (by simp only [i5]; lia) fun tk=>?_;have I2:Inv X pins Z H1 { s1 with heap:=s1.heap.push { cls:=.type "reversed",data:=.fields #[.ref q,DX ((its.toArray.size:Int) - 1)] },toks:=tk }:=I1.kept (t':=tk) fun b o e=>a8 _ e;have st:IsRvT (s1.heap.push { cls:=.type "reversed",data:=.fields #[.ref q,DX ((its.toArray.size:Int) - 1)] }) s1.heap.objs.size q ((xs.length:Int) - 1 - ((0:Nat):Int)):=⟨_,e9 _ rfl,rfl,by simp [hl]⟩
     refine eQ (s:={ s1 with heap:=s1.heap.push { cls:=.type "reversed",data:=.fields #[.ref q,DX ((its.toArray.size:Int) - 1)] },toks:=tk }) st ?_; refine ⟨s1.heap.objs.size,[s1.heap.objs.size],_,_,H1,rfl,I2,kO q _ xs.length,st,fun b hb=>?_,a1 _ G1 H1 (Grow.refl hG) (kL hq l1)⟩;have e:b=s1.heap.objs.size:=by simpa using hb
     subst e; exact I1.fpOk (f8 _) (I1.hok.fresh (f8 _))
   | _=>exact (show False from a1).elim
end
end Sm
end
noncomputable section
namespace Sm
open PySem PySem.Spec PyProof.Rows L2
end Sm
end
noncomputable section
namespace Sm
open PySem PySem.Spec PySem.W PyProof.Rows
end Sm
end
noncomputable section
namespace Sm
open PySem PySem.Spec PySem.W PyProof.Rows L2
end Sm
end
noncomputable section
namespace Sm
open PySem PySem.Spec PyProof.Rows L2
noncomputable section
variable {prog:j5} {w:l9} {A:u5} {E:zV->zW->Prop} {s:zW}
theorem nV {d:c6} {od:Obj} {es:Array u8} {ep:Nat} {Q:zV->zW->Prop} (hd:(d==CH)=false) (hT:s.TypeIs (.ref d) "dict") (ho:s.heap.get? d=some od) (hdat:od.data=.dict es ep)
   (hQ:Q (.ref s.heap.objs.size) { s with heap:=s.heap.push { cls:=.type "dict_keyiterator",data:=.fields #[.ref d,.int 0 0,.int es.size 0,.int ep 0] } }) :
   wpAny (i9 prog w) A (LS (.ref d)) Q E s:=by
 refine HP hT F.slot_dict_iter (p0 F.slot_dict_iter hT F.entry_dict_iter ?_ (F.args_dict_iter_1 _));unfold AA.«dict.__iter__» Builtin.Dict.dictSlotNone;refine zT (zT (GE hT (zU ?_)));have hz:∀ (R:zV->zW->Prop),wpAny (i9 prog w) A.in1 (KS d) (fun _ t=>t=s) R s:=fun R=>by
   unfold KS; rw [hd]; exact zU rfl
 refine zT (CK (a:=d) rfl (zT (z9 (hz E) (fun _ t e=>?_) fun _ _ e=>e)));subst e;refine zT (EI ho hdat (zT (AF ho hdat ?_)));refine zT (o0 (zU ⟨_,rfl, "dict_keyiterator",_,⟨_,e9 _ rfl,rfl⟩,F.slot_dict_keyiterator_next.lookup,?_⟩));simpa [DX] using hQ
theorem nE {it d:c6} {i ep:Nat} {od:Obj} {es:Array u8} {Q:Option zV->zW->Prop} (hit:s.heap.IsKeyIter it d i es.size ep) (hod:s.heap.get? d=some od) (hdd:od.data=.dict es ep) (hlt:i < es.size)
   (hQ:∀ h',h'.IsKeyIter it d (i+1) es.size ep->CF it s.heap h'->Q (some es[i].key) { s with heap:=h' }):wpAny (i9 prog w) A (pyNext (.ref it)) Q E s:=by
 obtain ⟨o,ho,hc,hd⟩:=id hit;have hnew:(s.heap.update it (MJ (·.setIfInBounds 1 (DX ((i:Int)+1))))).IsKeyIter it d (i+1) es.size ep:=by
   refine ⟨_,y3 _ ho (II (DL hd _)),(Obj.cls_mapFields ..).trans hc,?_⟩; rw [DL hd]; simp [DX]
 have hty:LN { s with heap:=s.heap.update it (MJ (·.setIfInBounds 1 (DX ((i:Int)+1)))) } (.ref it) "dict_keyiterator" := hnew.typeIs;unfold pyNext;refine zT (CL ?_);refine t8 (name:=BH "__next__") hit.typeIs F.slot_dict_keyiterator_next ?_;refine p0 F.slot_dict_keyiterator_next hit.typeIs F.entry_dict_keyiterator_next ?_ (F.args_dict_keyiterator_next_1 _);refine zT (zU (zT (zT ?_)));refine zT (DR hit.typeIs (zU ?_));refine zT (FW ho hd ?_)
 simp only [show HU "dict_keyiterator" = false by decide,n8,if_false];show wpAny _ _ (if (u9 d==AL)=true then _ else _) _ _ s;rw [if_neg (by exact AW)];refine zT (zU (zT (EI hod hdd ?_)));rw [if_neg (by simp)];refine zT (zU (zT (AF hod hdd ?_)));rw [if_neg (by simp)];refine zU ?_;simp only [show ¬ ((i:Int) < 0) from by lia,if_false,CB,o7 hlt];refine zT (zT (DR hit.typeIs (zU ?_)))
 refine zT (IZ hit.typeIs ?_);show wpAny _ _ (LC (.ref it) 1 (DX ((i:Int)+1))>>=_) _ _ s;refine zT (HE ho hd (by simp) (zT (s0 ?_)));refine zT (IZ hty ?_);first
   | exact zU (zU ⟨_,rfl,zU (hQ _ hnew (AX ..))⟩)
   | (refine zT (IZ hty ?_); exact zU (zU ⟨_,rfl,zU (hQ _ hnew (AX ..))⟩))
theorem tQ {it d:c6} {i ep:Nat} {od:Obj} {es:Array u8} {Q:Option zV->zW->Prop} (hh:A.handled=none) (hi:es.size<=i) (hit:s.heap.IsKeyIter it d i es.size ep) (hod:s.heap.get? d=some od) (hdd:od.data=.dict es ep)
   (hQ:∀ h',GX it s.heap h'->Q none { s with heap:=h' }):wpAny (i9 prog w) A (pyNext (.ref it)) Q E s:=by
 obtain ⟨o,ho,hc,hd⟩:=id hit;unfold pyNext;refine zT (CL ?_);refine t8 (name:=BH "__next__") hit.typeIs F.slot_dict_keyiterator_next ?_;refine p0 F.slot_dict_keyiterator_next hit.typeIs F.entry_dict_keyiterator_next ?_ (F.args_dict_keyiterator_next_1 _);refine zT (zU (zT (zT ?_)));refine zT (DR hit.typeIs (zU ?_));refine zT (FW ho hd ?_);simp only [show HU "dict_keyiterator" = false by decide,n8,if_false]
 show wpAny _ _ (if (u9 d==AL)=true then _ else _) _ _ s;rw [if_neg (by exact AW)];refine zT (zU (zT (EI hod hdd ?_)));rw [if_neg (by simp)];refine zT (zU (zT (AF hod hdd ?_)));rw [if_neg (by simp)];refine zU ?_;simp only [show ¬ ((i:Int) < 0) from by lia,if_false,CB,FG hi];refine zT (zT (DR hit.typeIs (zU ?_)));show wpAny _ _ (LC (.ref it) 0 .none>>=_) _ _ s;refine zT (HE ho hd (by simp) ?_)
 show wpAny _ _ (newExc (.type "StopIteration") []>>=_) _ _ _;refine zT ?_;simp only [newExc,newTuple];refine zT (o0 ?_ (by size_fits));refine zT (m:=FX _ _) (CK (a:=AL) (by first | rfl | (simp only [FX]; rfl)) (o0 ?_ (by size_fits)));simp only [raiseNew];refine zT (wpAny_handled ?_);rw [show A.in1.handled=none from hh];refine zT (zU (wpAny_throw (zT ?_)));refine ER (T := "StopIteration") (b:=true) ⟨_,e9 _ rfl,rfl⟩ MY ?_;exact zU (hQ _ (((AX ..).extBut.push _).push _))
end
end Sm
end
noncomputable section
namespace Sm
open PySem PySem.Spec PyProof.Rows L2
end Sm
end
noncomputable section
namespace Sm
open PySem PySem.Spec PyProof.Rows L2
noncomputable section
variable {P:j5} {w:l9} {K:zX} {mg:Str->Option zV} {base:p9} {X:Cx} {N:List Str} {sc:Scope} {k:Nat} {df:Bool} {E:EK} {pos:Pos} {a b c e:Expr} {f g f':Dn->Res zS} {x:Str}
theorem Lb (C:Cxt P w K mg base X N sc k df) (ha:DE X E a f) (hb:DE X E b g) (hc:DE X E c f') (hm:JS [.LtE,.LtE] [b,c]=false:=by with_unfolding_all rfl) :
   DT X E (.Compare a [.LtE,.LtE] [b,c] pos) (C1 (O1 f g f' (D9 .LtE) (D9 .LtE))):=by
 have hr:OpR X (x0 .LtE) (Zx .LtE):=Ct (.inr rfl) C.hu;refine PT.imp (aA hr hr ha hb hc hm) fun Z H Q hZ3=>?_;obtain ⟨G,δ,S,aft⟩:=hZ3;have aft':AftT E G H ((f δ).bind fun x=>(g δ).bind fun y=>(ofO (D9 .LtE x y)).bind fun z=>(match z with
   | .bool true=>(f' δ).bind fun u=>ofO (D9 .LtE y u)
   | .bool false=>.ok (.bool false)
   | _=>.no).bind fun d=>ofO (Oy d)) Q:=by
   unfold C1 O1 at aft; simp only [Res.bind_assoc] at aft; exact aft
 refine Q3 S aft' fun d1 v1 G1 H1 g1 r1 S1 a1=>?_;refine Q3 S1 a1 fun d2 v2 G2 H2 g2 r2 S2 a2=>?_;cases e:D9 .LtE d1 d2 with
 | none=>rw [e] at a2; exact a2.elim
 | some d =>
   rw [e] at a2; obtain ⟨kk,rfl⟩:=Dz _ _ _ e; refine Ba G2 H2 v1 v2 d1 d2 _ _ S2.sub (r1.mono g2.g) r2 e fun v G3 H3 g3 r3=>⟨kk,r3,?_⟩;have S3:=S2.grow g3;cases kk with
   | false=>rw [if_neg (by decide)]; exact ⟨false,rfl,a2 G3 H3 g3⟩
   | true =>
     rw [if_pos rfl]; have a3:AftT E G3 H3 ((f' δ).bind fun u=>(ofO (D9 .LtE d2 u)).bind fun d=>ofO (Oy d)) Q:=by
       have h0:AftT E G3 H3 (((f' δ).bind fun u=>ofO (D9 .LtE d2 u)).bind fun d=>ofO (Oy d)) Q:=AftT.grow g3 a2;rw [Res.bind_assoc] at h0; exact h0
     refine Q3 S3 a3 fun d4 v4 G4 H4 g4 r4 S4 a4=>?_;cases e':D9 .LtE d2 d4 with
     | none=>rw [e'] at a4; exact a4.elim
     | some d =>
       rw [e'] at a4; obtain ⟨k2,rfl⟩:=Dz _ _ _ e'; exact Ba G4 H4 v2 v4 d2 d4 _ _ S4.sub (r2.mono (g3.g.trans g4.g)) r4 e' fun v G5 H5 g5 r5=>⟨k2,r5,a4 G5 H5 g5⟩
end
end Sm
end
noncomputable section
namespace Sm
open PySem PySem.Spec PyProof.Rows PySem.W L2
structure NAt (h:p9) (v:zV) (d:zS):Prop where
 rd:∃ as,Reads h v d as
 nk:d=.none\/(isK d=true/\((∃ xs,d=.tuple xs)\/∃ z,d=.str z))
 lay:d.canLay0=true
 dp:d.depth<=8
theorem Mg {a b:zS} (ha:a=.none\/(isK a=true/\((∃ xs,a=.tuple xs)\/∃ z,a=.str z))) (hb:b=.none\/(isK b=true/\((∃ xs,b=.tuple xs)\/∃ z,b=.str z))):g9 a b=true↔a=b:=by
 rcases ha with rfl | ⟨ha,ha'⟩
 . rcases hb with rfl | ⟨_,⟨ys,rfl⟩ | ⟨z,rfl⟩⟩
   . exact ⟨fun _=>rfl,fun _=>rfl⟩
   . exact ⟨fun h=>(by simp [g9] at h),fun h=>nomatch h⟩
   . exact ⟨fun h=>(by simp [g9] at h),fun h=>nomatch h⟩
 . rcases hb with rfl | ⟨hb,_⟩
   . rcases ha' with ⟨xs,rfl⟩ | ⟨z,rfl⟩
     . exact ⟨fun h=>(by simp [g9] at h),fun h=>nomatch h⟩
     . exact ⟨fun h=>(by simp [g9] at h),fun h=>nomatch h⟩
   . exact eqvK _ _ ha hb
noncomputable section
variable {prog:j5} {w:l9} {A:u5} {E:zV->zW->Prop} {s:zW}
theorem NAt.val {h:p9} {v:zV} {d:zS} (x:NAt h v d):(d=.none/\v=.none)\/(∃ z t,d=.str z/\v=.str z t)\/∃ b,v=.ref b:=by
 obtain ⟨as,r⟩:=x.rd;rcases x.nk with rfl | ⟨_,⟨xs,rfl⟩ | ⟨z,rfl⟩⟩
 . cases r; exact .inl ⟨rfl,rfl⟩
 . cases r; exact .inr (.inr ⟨_,rfl⟩)
 . cases r; exact .inr (.inl ⟨_,_,rfl,rfl⟩)
theorem NAt.hash {v:zV} {d:zS} {Q:Int->zW->Prop} (x:NAt s.heap v d) (hu:A.units+8 < BD) (q:∀ tk,Q (W7 w d) { s with toks:=tk }):wpAny (i9 prog w) A (pyHash v) Q E s:=by
 obtain ⟨as,r⟩:=x.rd;rcases x.nk with rfl | ⟨hk,hk'⟩
 . cases r
   unfold pyHash; have hv:[AL].any Value.onHeap=false:=rfl; have hT:s.TypeIs AL "NoneType" := rfl; refine zT ?_; rw [cRoomFor,if_neg (by rw [hv]; decide)];refine zU (zT (CG hT F.slot_NoneType_hash.lookup ?_)); show wpAny _ _ (if (some (Value.builtin "NoneType.__hash__")==some AL)=true then _ else _) Q E s;rw [if_neg (by rw [LX]; decide)];refine zT (CG hT F.slot_NoneType_hash.lookup ?_); show wpAny _ _ (callSpecialIfBoundUnlessNone? AL "__hash__" _>>=_) Q E s;refine zT (wpAny_callSpecialIfBoundUnlessNone?_slot hT F.slot_NoneType_hash (p0 F.slot_NoneType_hash hT F.entry_NoneType_hash (show wpAny _ _ (do ret (<- mkInt 0xFCA86420)) _ _ s from wpAny_ret_mkInt ?_) (F.args_NoneType_hash_1 _)))
   show wpAny _ _ (if (decide (-(2:Int) ^ 63<=0xFCA86420)&&decide ((0xFCA86420:Int) < 2 ^ 63))=true then _ else _) Q E _;rw [if_pos (by decide)]; exact zU (q _)
 . have e:W7 w d=aR w d:=by rcases hk' with ⟨_,rfl⟩ | ⟨_,rfl⟩ <;> rfl
   rw [e] at q; exact Qz _ _ as A s Q hk r (by have:=x.dp; lia) fun tk _=>q tk
theorem NAt.quiet {v:zV} {d:zS} {Q:Bool->zW->Prop} (x:NAt s.heap v d) (q:Q true s):wpAny (i9 prog w) A (eqIsQuiet 8 v) Q E s:=by
 obtain ⟨as,r⟩:=x.rd;rcases x.nk with rfl | ⟨hk,hk'⟩
 . cases r; exact zU q
 . exact Nd 8 _ _ as s Q hk x.dp r q
theorem NAt.eq {v u:zV} {a b:zS} {Q:Bool->zW->Prop} (x:NAt s.heap v a) (y:NAt s.heap u b) (hu:A.units+8 < BD) (q:Q (g9 a b) s):wpAny (i9 prog w) A (eqBool v u) Q E s:=by
 obtain ⟨as,r⟩:=x.rd;obtain ⟨bs,r'⟩:=y.rd;exact SeqAt.eqBoolOverData prog w A E s v u a b as bs Q r r' x.lay y.lay (by have:=x.dp; lia) q
structure EsN (w:l9) (h:p9) (es:Array u8) (ks:List zS):Prop where
 len:es.size=ks.length
 ent:∀ (i:Nat) e,es[i]? = some e->∃ k,ks[i]? = some k/\NAt h e.key k/\e.hash=W7 w k
 nd:ks.Nodup
theorem dH {d:c6} {o:Obj} {es:Array u8} {ep:Nat} {ks:List zS} {key:zV} {k:zS} {Q:Option Nat->zW->Prop} (hu:A.units+8 < BD) (ho:s.heap.get? d=some o) (hd:o.data=.dict es ep) (N:EsN w s.heap es ks) (x:NAt s.heap key k)
   (q1:∀ i,ks[i]? = some k->Q (some i) s) (q0:k∉ks->Q none s):wpAny (i9 prog w) A (dictFind d key (W7 w k)) Q E s:=by
 have same:∀ i j a,ks[i]? = some a->ks[j]? = some a->i=j:=fun i j a h1 h2=>by
   have hi:=(j6.mp h1).1; have hj:=(j6.mp h2).1; have e1:=(j6.mp h1).2; have e2:=(j6.mp h2).2; exact (List.getElem_inj (h₀:=hi) (h₁:=hj) N.nd).mp (e1.trans e2.symm)
 unfold dictFind;try with_reducible refine s0 ?_
 refine zT (EI ho hd ?_);dsimp only;have hin:∀ i∈placesWithHash es.size (fun i=>es[i]?.map (·.hash)) (W7 w k),∃ e,es[i]? = some e/\(e.hash==W7 w k)=true:=fun i hi=>by
   unfold placesWithHash at hi; have:=(o6.mp hi).2; simp only at this;cases he:es[i]? with
   | none=>rw [he] at this; cases this
   | some e=>rw [he] at this; exact ⟨e,rfl,by simpa using this⟩
 have hat:∀ i,ks[i]? = some k->i∈placesWithHash es.size (fun i=>es[i]?.map (·.hash)) (W7 w k):=fun i hi=>by
   have hlt:i < es.size:=by rw [N.len]; exact (j6.mp hi).1
   have he:es[i]? = some es[i]:=o7 hlt; obtain ⟨k',e1,_,e3⟩:=N.ent i _ he; rw [hi] at e1; cases e1; unfold placesWithHash; refine o6.mpr ⟨q9.mpr hlt,?_⟩; show (es[i]?.map (·.hash)==some (W7 w k))=true;rw [he]; simp [e3]
 have hnd:(placesWithHash es.size (fun i=>es[i]?.map (·.hash)) (W7 w k)).Nodup:=KR _ List.nodup_range;generalize placesWithHash es.size (fun i=>es[i]?.map (·.hash)) (W7 w k)=places at *;have lst:∀ i,(ks[i]? = some k->i∈([]:List Nat))->ks[i]? ≠ some k:=fun i h z=>nomatch h z;have no:(∀ i,ks[i]? = some k->i∈([]:List Nat))->k∉ks:=fun h z=>by
   obtain ⟨i,hi⟩:=IB.mp z; exact nomatch h i hi
 have plain:wpAny (i9 prog w) A (dictWalkPlain d key (W7 w k) es places) Q E s:=by
   unfold dictWalkPlain; refine zT ?_; refine GG _ (fun I8 r s'=>s'=s/\r=(none,())/\(∀ i∈I8,i∈places)/\∀ i,ks[i]? = some k->i∈I8) _ ?_ ?_ _ _ ⟨rfl,rfl,fun _ h=>h,hat⟩
   . rintro i more r s' ⟨rfl,rfl,hsub,hall⟩
     obtain ⟨e,he,hh⟩:=hin i (hsub i (.head _)); obtain ⟨k',e1,y,_⟩:=N.ent i e he; rw [he]; dsimp only; rw [if_pos hh]; refine zT (AF ho hd ?_); refine zT (y.eq x hu ?_); refine zT (AF ho hd ?_); rw [if_neg (by simp)];by_cases c:k'=k
     . subst c
       rw [if_pos ((Mg y.nk x.nk).mpr rfl)]; refine zT (AI (zU ?_)); exact zU (q1 i e1)
     . rw [if_neg (fun z=>c ((Mg y.nk x.nk).mp z))]
       refine zT (AI (zU ?_)); refine ⟨rfl,rfl,fun j hj=>hsub j (.tail _ hj),fun j hj=>?_⟩;rcases a9.mp (hall j hj) with rfl | z
       . rw [e1] at hj; cases hj; exact absurd rfl c
       . exact z
   . rintro r s' ⟨rfl,rfl,_,hall⟩
     exact zU (q0 (no hall))
 have hwalk : ∀ (f : Nat -> Option (Option Nat) × Option Nat -> Sem (ForInStep (Option (Option Nat) × Option Nat))), (∀ i e k' r2 (Q' : ForInStep (Option (Option Nat) × Option Nat) -> zW -> Prop), es[i]? = some e -> (e.hash == W7 w k) = true -> NAt s.heap e.key k' ->
     (k'=k->r2=none/\Q' (.done (some (some i),none)) s/\Q' (.yield (none,some i)) s)->(k'≠k->Q' (.yield (none,r2)) s)->wpAny (i9 prog w) A (f i (none,r2)) Q' E s) ->
     wpAny (i9 prog w) A (forIn places (none,none) f) (fun r s'=>s'=s/\((r.1=none/\((r.2=none/\k∉ks)\/∃ i,r.2=some i/\ks[i]? = some k))\/∃ i,r.1=some (some i)/\ks[i]? = some k)) E s:=fun f hf=>by
   refine GG _ (fun I8 r s'=>s'=s/\r.1=none/\(∀ i∈I8,i∈places)/\I8.Nodup/\((r.2=none/\∀ i,ks[i]? = some k->i∈I8)\/∃ i,r.2=some i/\ks[i]? = some k/\i∉I8)) _ ?_ ?_ _ _ ⟨rfl,rfl,fun _ h=>h,hnd,.inl ⟨rfl,hat⟩⟩
   . rintro i more ⟨r1,r2⟩ s' ⟨rfl,rfl,hsub,hn,hr⟩
     obtain ⟨e,he,hh⟩:=hin i (hsub i (.head _)); obtain ⟨k',e1,y,_⟩:=N.ent i e he; rw [AU] at hn; refine hf i e k' r2 _ he hh y (fun c=>?_) fun c=>?_
     . subst c
       have h2:r2=none:=by
         rcases hr with ⟨z,_⟩ | ⟨j,_,z2,z3⟩
         . exact z
         . exact absurd (same i j _ e1 z2▸x6) z3
       exact ⟨h2,⟨rfl,.inr ⟨i,rfl,e1⟩⟩,rfl,rfl,fun j hj=>hsub j (.tail _ hj),hn.2,.inr ⟨i,rfl,e1,hn.1⟩⟩
     . refine ⟨rfl,rfl,fun j hj=>hsub j (.tail _ hj),hn.2,?_⟩
       rcases hr with ⟨z,hall⟩ | ⟨j,z1,z2,z3⟩
       . refine .inl ⟨z,fun j hj=>?_⟩
         rcases a9.mp (hall j hj) with rfl | z'
         . rw [e1] at hj; cases hj; exact absurd rfl c
         . exact z'
       . exact .inr ⟨j,z1,z2,fun z=>z3 (.tail _ z)⟩
   . rintro ⟨r1,r2⟩ s' ⟨rfl,rfl,_,_,hr⟩
     rcases hr with ⟨rfl,hall⟩ | ⟨j,rfl,z2,_⟩
     . exact ⟨rfl,.inl ⟨rfl,.inl ⟨rfl,no hall⟩⟩⟩
     . exact ⟨rfl,.inl ⟨rfl,.inr ⟨j,rfl,z2⟩⟩⟩
 have tell:∀ (Q':Bool->zW->Prop),Q' false s->wpAny (i9 prog w) A (tableMayTell key (places.filterMap fun i=>es[i]?.map (·.key))) Q' E s:=fun Q' q'=>by
   unfold tableMayTell;split
   . exact zU q'
   . refine zT (x.quiet ?_)
     rw [if_neg (by decide)]; refine zT ?_; refine GG _ (fun I8 r s'=>s'=s/\r=(none,())/\∀ v∈I8,∃ k',NAt s.heap v k') _ ?_ ?_ _ _ ⟨rfl,rfl,fun v hv=>?_⟩
     . rintro v more r s' ⟨rfl,rfl,hr⟩
       obtain ⟨k',y⟩:=hr v (.head _); refine zT (y.quiet ?_); rw [if_neg (by decide)]; exact zU ⟨rfl,rfl,fun v hv=>hr v (.tail _ hv)⟩
     . rintro r s' ⟨rfl,rfl,_⟩
       exact zU q'
     . obtain ⟨i,_,hi⟩:=JH.mp hv
       cases he:es[i]? with
       | none=>rw [he] at hi; cases hi
       | some e =>
         rw [he] at hi; have hk:e.key=v:=by simpa using hi
         obtain ⟨k',_,y,_⟩:=N.ent i e he; exact ⟨k',hk▸y⟩
 have fork:∀ (m:Bool->Sem (Option Nat)),wpAny (i9 prog w) A (m false) Q E s->wpAny (i9 prog w) A (if ((places.filterMap fun i=>es[i]?.map (·.key))==[key])=true then (pure false>>=m) else (tableMayTell key (places.filterMap fun i=>es[i]?.map (·.key))>>=m)) Q E s:=fun m h=>by
   split
   . exact zT (zU h)
   . exact zT (tell _ h)
 rcases x.val with ⟨_,rfl⟩ | ⟨z,t,rfl,rfl⟩ | ⟨b,rfl⟩
 . dsimp only
   by_cases hc:(AL::places.filterMap fun i=>es[i]?.map (·.key)).all NA=true
   . rw [if_pos hc]; exact plain
   . rw [if_neg hc]
     refine fork _ ?_; rw [if_neg (by simp)]; refine zT (z9 (hwalk _ fun i e k' r2 Q' he hh y c1 c0=>?_) (fun r s' z=>?_) fun _ _ z=>z)
     . dsimp only
       rw [he]; dsimp only; rw [if_pos hh]; refine zT (AF ho hd (zT (y.eq x hu (zT (AF ho hd ?_))))); rw [if_neg (by simp)];by_cases c:k'=k
       . obtain ⟨rfl,d1,d2⟩:=c1 c
         rw [if_pos ((Mg y.nk x.nk).mpr c),if_neg (by simp)]; refine zT (AI ?_);split
         . exact zU d1
         . exact zU d2
       . rw [if_neg (fun z=>c ((Mg y.nk x.nk).mp z))]
         refine zT (AI ?_); rw [if_neg (by simp)]; exact zU (c0 c)
     . obtain ⟨r1,r2⟩:=r
       obtain ⟨rfl,z⟩:=z; rcases z with ⟨rfl,z⟩ | ⟨i,rfl,z⟩
       . rcases z with ⟨rfl,z⟩ | ⟨i,rfl,z⟩
         . exact zU (q0 z)
         . exact zU (q1 i z)
       . exact zU (q1 i z)
 . by_cases hall:(es.all fun e=>isExactStrKey e.key)=true
   . dsimp only
     rw [if_pos hall]; have isk:∀ (i:Nat) e,es[i]? = some e->(e.key.isStr z=true↔ks[i]? = some (.str z)):=fun i e he=>by
       obtain ⟨k',e1,y,_⟩:=N.ent i e he; rw [e1]; rcases y.val with ⟨rfl,hv⟩ | ⟨z',t',rfl,hv⟩ | ⟨b,hv⟩
       . rw [hv]; exact ⟨fun h=>(by cases h),fun h=>absurd h (by simp)⟩
       . rw [hv]
         show (z'==z)=true↔_;rw [beq_iff_eq]; exact ⟨fun h=>(by rw [h]),fun h=>(by cases h; rfl)⟩
       . rw [hv]
         have:=Array.all_eq_true'.mp hall e (Array.mem_of_getElem? he); rw [hv] at this; cases this
     unfold foundByValue;cases hf:es.findIdx? (·.key.isStr z) with
     | none =>
       refine zU (q0 fun hm=>?_);obtain ⟨i,hi⟩:=IB.mp hm; have hlt:i < es.size:=by rw [N.len]; exact (j6.mp hi).1
       have:=Array.findIdx?_eq_none_iff.mp hf es[i] (Array.getElem_mem hlt); rw [(isk i _ (o7 hlt)).mpr hi] at this; cases this
     | some i =>
       obtain ⟨hlt,hp,_⟩:=Array.findIdx?_eq_some_iff_getElem.mp hf; have he:es[i]? = some es[i]:=o7 hlt; have hi:=(isk i _ he).mp hp; obtain ⟨k',e1,y,_⟩:=N.ent i _ he; rw [hi] at e1; cases e1; dsimp only; rw [he]; dsimp only; refine zT (AF ho hd (zT (y.eq x hu (zT (AF ho hd ?_))))); rw [if_neg (by simp),if_pos ((Mg y.nk x.nk).mpr rfl)]; exact zT (AI (zU (q1 i hi)))
   . dsimp only
     rw [if_neg hall];by_cases hc:(ME z t::places.filterMap fun i=>es[i]?.map (·.key)).all NA=true
     . rw [if_pos hc]; exact plain
     . rw [if_neg hc]
       refine fork _ ?_; rw [if_neg (by simp)]; refine zT (z9 (hwalk _ fun i e k' r2 Q' he hh y c1 c0=>?_) (fun r s' z=>?_) fun _ _ z=>z)
       . dsimp only
         rw [he]; dsimp only; rw [if_pos hh]; refine zT (AF ho hd (zT (y.eq x hu (zT (AF ho hd ?_))))); rw [if_neg (by simp)];by_cases c:k'=.str z
         . obtain ⟨rfl,d1,d2⟩:=c1 c
           rw [if_pos ((Mg y.nk x.nk).mpr c),if_neg (by simp)]; refine zT (AI ?_);split
           . exact zU d1
           . exact zU d2
         . rw [if_neg (fun z=>c ((Mg y.nk x.nk).mp z))]
           refine zT (AI ?_); rw [if_neg (by simp)]; exact zU (c0 c)
       . obtain ⟨r1,r2⟩:=r
         obtain ⟨rfl,z⟩:=z; rcases z with ⟨rfl,z⟩ | ⟨i,rfl,z⟩
         . rcases z with ⟨rfl,z⟩ | ⟨i,rfl,z⟩
           . exact zU (q0 z)
           . exact zU (q1 i z)
         . exact zU (q1 i z)
 . dsimp only
   by_cases hc:(u9 b::places.filterMap fun i=>es[i]?.map (·.key)).all NA=true
   . rw [if_pos hc]; exact plain
   . have hno : (es.any fun e => e.key == .ref b && e.hash != W7 w k) = false := by
       rw [Array.any_eq_false]; intro i hi; obtain ⟨k',e1,y,e3⟩:=N.ent i es[i] (o7 hi);by_cases c:es[i].key=.ref b
       . have : k' = k := by
           rw [c] at y; obtain ⟨as,r1⟩:=x.rd; obtain ⟨bs,r2⟩:=y.rd; exact SeqAt.Reads.unique k' k _ _ _ y.lay r2 r1
         rw [e3,this]; simp
       . intro z
         rw [j9] at z; exact c (CD z.1)
     rw [if_neg hc,if_neg (by rw [hno]; decide)];refine fork _ ?_; rw [if_neg (by simp)]; refine zT (z9 (hwalk _ fun i e k' r2 Q' he hh y c1 c0=>?_) (fun r s' z=>?_) fun _ _ z=>z)
     . dsimp only
       rw [he]; dsimp only; rw [if_pos hh]; refine zT (AF ho hd (zT (y.eq x hu (zT (AF ho hd ?_))))); rw [if_neg (by simp)];by_cases c:k'=k
       . obtain ⟨rfl,d1,d2⟩:=c1 c
         rw [if_pos ((Mg y.nk x.nk).mpr c),if_neg (by simp)]; refine zT (AI ?_);split
         . exact zU d1
         . exact zU d2
       . rw [if_neg (fun z=>c ((Mg y.nk x.nk).mp z))]
         refine zT (AI ?_); rw [if_neg (by simp)]; exact zU (c0 c)
     . obtain ⟨r1,r2⟩:=r
       obtain ⟨rfl,z⟩:=z; rcases z with ⟨rfl,z⟩ | ⟨i,rfl,z⟩
       . rcases z with ⟨rfl,z⟩ | ⟨i,rfl,z⟩
         . exact zU (q0 z)
         . exact zU (q1 i z)
       . exact zU (q1 i z)
end
end Sm
end
noncomputable section
namespace Sm
open PySem PySem.Spec PyProof.Rows PySem.W L2
noncomputable section
variable {prog:j5} {w:l9} {A:u5} {E:zV->zW->Prop} {s:zW}
theorem hu8 {A:u5} (h:A.units+16 < BD):A.in1.units+8 < BD:=by simp only [Around.in1_units]; lia
theorem EsN.get {h:p9} {es:Array u8} {ks:List zS} (N:EsN w h es ks) {i:Nat} {k:zS} (hi:ks[i]? = some k):∃ e,es[i]? = some e:=by
 have hlt:i < es.size:=by rw [N.len]; exact (j6.mp hi).1
 exact ⟨_,o7 hlt⟩
theorem Mh {d:c6} {o:Obj} {es:Array u8} {ep:Nat} {ks:List zS} {key:zV} {k:zS} {Q:Option zV->zW->Prop} (hu:A.units+8 < BD) (ho:s.heap.get? d=some o) (hd:o.data=.dict es ep) (N:EsN w s.heap es ks) (x:NAt s.heap key k)
   (q1:∀ (i:Nat) (e:u8) tk,ks[i]? = some k->es[i]? = some e->Q (some e.val) { s with toks:=tk }) (q0:∀ tk,k∉ks->Q none { s with toks:=tk }):wpAny (i9 prog w) A (dictGet d key) Q E s:=by
 unfold dictGet;try with_reducible refine s0 ?_
 refine zT (x.hash hu fun tk=>?_);refine zT (dH (s:={ s with toks:=tk }) hu ho hd N x (fun i hi=>?_) fun hn=>zU (q0 tk hn));obtain ⟨e,he⟩:=N.get hi;refine zT (EI (s:={ s with toks:=tk }) ho hd (zU ?_));rw [he];exact q1 i e tk hi he
theorem dC (d:c6) (key dflt:zV) (hd:(d==CH)=false):MeetsIn prog w (AA.«dict.get» ⟨[.ref d,key,dflt],[]⟩) (fun A R s=>∃ (o:Obj) (es:Array u8) (ep:Nat) (ks:List zS) (k:zS),A.units+16 < BD/\s.heap.get? d=some o/\o.data=.dict es ep/\EsN w s.heap es ks/\NAt s.heap key k /\
   (∀ (i:Nat) (e:u8) tk,ks[i]? = some k->es[i]? = some e->R (.ok (.ret e.val)) { s with toks:=tk })/\∀ tk,k∉ks->R (.ok (.ret dflt)) { s with toks:=tk }) :=
 .of_wp fun A R s hZ3=>by
   obtain ⟨o,es,ep,ks,k,hu,ho,hD,N,x,h1,h0⟩:=hZ3; show wpAny _ _ (dictGet d key>>=_) _ _ s;refine zT (Mh (hu8 hu) ho hD N x (fun i e tk hi he=>zU ⟨_,rfl,h1 i e tk hi he⟩) fun tk hn=>?_);show wpAny _ _ (Builtin.Dict.missed d key>>=_) _ _ _;exact zT (wpAny_missed_other hd (zU ⟨dflt,rfl,h0 tk hn⟩))
theorem iX (d:c6) (key:zV) (hd:(d==CH)=false):MeetsIn prog w (AA.«dict.__contains__» ⟨[.ref d,key],[]⟩) (fun A R s=>∃ (o:Obj) (es:Array u8) (ep:Nat) (ks:List zS) (k:zS),A.units+16 < BD/\s.heap.get? d=some o/\o.data=.dict es ep/\EsN w s.heap es ks/\NAt s.heap key k /\
   (∀ tk,k∈ks->R (.ok (.ret (.bool true))) { s with toks:=tk })/\∀ tk,k∉ks->R (.ok (.ret (.bool false))) { s with toks:=tk }) :=
 .of_wp fun A R s hZ3=>by
   obtain ⟨o,es,ep,ks,k,hu,ho,hD,N,x,h1,h0⟩:=hZ3; show wpAny _ _ (dictGet d key>>=_) _ _ s;refine zT (Mh (hu8 hu) ho hD N x (fun i e tk hi he=>zU ⟨_,rfl,h1 tk (AY hi)⟩) fun tk hn=>?_);show wpAny _ _ (Builtin.Dict.pendingKey? d key>>=_) _ _ _;exact zT (wpAny_pendingKey_other hd (zU ⟨_,rfl,h0 tk hn⟩))
theorem aL (d:c6) (key:zV):MeetsIn prog w (AA.«dict.__getitem__» ⟨[.ref d,key],[]⟩) (fun A R s=>∃ (o:Obj) (es:Array u8) (ep:Nat) (ks:List zS) (k:zS),A.units+16 < BD/\s.heap.get? d=some o/\o.data=.dict es ep/\EsN w s.heap es ks/\NAt s.heap key k/\k∈ks /\
   (∀ (i:Nat) (e:u8) tk,ks[i]? = some k->es[i]? = some e->R (.ok (.ret e.val)) { s with toks:=tk })) :=
 .of_wp fun A R s hZ3=>by
   obtain ⟨o,es,ep,ks,k,hu,ho,hD,N,x,hm,h1⟩:=hZ3; show wpAny _ _ (dictGet d key>>=_) _ _ s;exact zT (Mh (hu8 hu) ho hD N x (fun i e tk hi he=>zU ⟨_,rfl,h1 i e tk hi he⟩) fun tk hn=>absurd hm hn)
theorem Tm (d:c6) (key dflt:zV) (hd:(d==CH)=false):MeetsIn prog w (AA.«dict.setdefault» ⟨[.ref d,key,dflt],[]⟩) (fun A R s=>∃ (L:List u8) (ep:Nat) (ks:List zS) (k:zS),A.units+16 < BD/\s.heap.get? d=some { cls:=.type "dict",data:=.dict (MP L) ep }/\L.length<=sizeLine/\EsN w s.heap L.toArray ks/\NAt s.heap key k /\
   (∀ (i:Nat) (e:u8) tk,ks[i]? = some k->L[i]? = some e->R (.ok (.ret e.val)) { s with toks:=tk }) /\
   ∀ (h':p9) (tk:Nat),k∉ks->(∀ b o,b≠d->s.heap.get? b=some o->h'.get? b=some o)->h'.get? d=some { cls:=.type "dict",data:=.dict (L++[DictEntry.mk (W7 w k) key dflt]).toArray (ep+1) }->R (.ok (.ret dflt)) { s with heap:=h',toks:=tk }) :=
 .of_wp fun A R s hZ3=>by
   obtain ⟨L,ep,ks,k,hu,ho,hz,N,x,h1,h0⟩:=hZ3; unfold AA.«dict.setdefault»;refine zT ?_; unfold Builtin.Dict.keyAndDefault; refine zT (GE ⟨_,ho,rfl⟩ ?_); show wpAny _ _ (pure (d,key,some dflt)) _ _ s;refine zU ?_; show wpAny _ _ (if (d==CH)=true then _ else (dictSetDefault d key dflt>>=_)) _ _ s;rw [if_neg (by rw [hd]; exact AW)];refine zT ?_; unfold dictSetDefault;try with_reducible refine s0 ?_
   refine zT (x.hash (hu8 hu) fun tk=>?_);refine zT (dH (s:={ s with toks:=tk }) (hu8 hu) ho rfl N x (fun i hi=>?_) fun hn=>?_)
   . obtain ⟨e,he⟩:=N.get hi
     refine zT (EI (s:={ s with toks:=tk }) ho rfl ?_); rw [he]; exact zT (AI (zU (zU ⟨_,rfl,h1 i e tk hi (by simpa using he)⟩)))
   . refine zT (AI (zT (wpAny_updateDictKeys (hz:=by simpa using hz) (s:={ s with toks:=tk }) ho rfl (zU (zU ⟨dflt,rfl,h0 _ tk hn (fun b o hb e=>?_) ?_⟩)))))
     . exact (IY _ _ _ _ hb).trans e
     . have:=y3 (HZ fun x=>x.push ⟨W7 w k,key,dflt⟩) ho (JB (Obj.data_mapDictKeys rfl _))
       rw [this]; simp [HZ]
end
end Sm
end
noncomputable section
namespace Sm
open PySem PySem.Spec PyProof.Rows PySem.W L2
mutual
theorem aN {H:Hp}:∀ {d:zS} {v:V},KRep H d v->Rep H d v
 | .none,_,r=>r
 | .int _,_,r=>r
 | .str _,_,r=>r
 | .tuple _,_,r=>by obtain ⟨b,xs,e,q,l⟩:=r; exact ⟨b,xs,e,q,Up l⟩
 | .bool _,_,r=>(show False from r).elim
 | .list _,_,r=>(show False from r).elim
 | .dict _,_,r=>(show False from r).elim
theorem Up {H:Hp}:∀ {ds:List zS} {xs:List V},KRepL H ds xs->RepL H ds xs
 | [],_,r=>r
 | _::_,_,r=>by obtain ⟨x,t,e,q,l⟩:=r; exact ⟨x,t,e,aN q,Up l⟩
end
mutual
theorem Zu {G H:Hp} (hG:Same G H):∀ {d:zS} {v:V},isK d=true->Rep G d v->KRep H d v
 | .int _,_,_,r=>r
 | .str _,_,_,r=>r
 | .tuple _,_,k,r=>by obtain ⟨b,xs,e,q,l⟩:=r; exact ⟨b,xs,e,hG _ _ q,Uj hG (by simpa [isK] using k) l⟩
 | .none,_,k,_=>by simp [isK] at k
 | .bool _,_,k,_=>by simp [isK] at k
 | .list _,_,k,_=>by simp [isK] at k
 | .dict _,_,k,_=>by simp [isK] at k
theorem Uj {G H:Hp} (hG:Same G H):∀ {ds:List zS} {xs:List V},Hd ds=true->RepL G ds xs->KRepL H ds xs
 | [],_,_,r=>r
 | _::_,_,k,r=>by
   simp only [Hd,j9] at k; obtain ⟨x,t,e,q,l⟩:=r; exact ⟨x,t,e,Zu hG k.1 q,Uj hG k.2 l⟩
end
theorem T0 {d:zS} (hn:nkD d=true):(d=.none\/(isK d=true/\((∃ xs,d=.tuple xs)\/∃ z,d=.str z)))/\d.depth<=8:=by
 unfold nkD at hn;split at hn
 . exact ⟨.inl rfl,by simp [x4]⟩
 . exact ⟨.inr ⟨by simp [isK],.inr ⟨_,rfl⟩⟩,by simp [x4]⟩
 . rw [j9] at hn
   exact ⟨.inr ⟨by simpa [isK] using hn.1,.inl ⟨_,rfl⟩⟩,of_decide_eq_true hn.2⟩
 . cases hn
theorem Lu {G H:Hp} (hG:Same G H) {d:zS} {v:V} (hn:nkD d=true) (r:Rep G d v):KRep H d v:=by
 rcases (T0 hn).1 with rfl | ⟨k,_⟩
 . exact r
 . exact Zu hG k r
noncomputable def N9 (kvs:List (zS×V)) (k:zS):Option V:=(kvs.find? fun p=>g9 p.1 k).map (·.2)
noncomputable def Q8 (kvs:List (zS×zS)) (k:zS):Option zS:=(kvs.find? fun p=>g9 p.1 k).map (·.2)
theorem Kq {G:Hp} {k:zS}:∀ {kvs:List (zS×zS)} {kk:List (zS×V)},kvs.map (·.1)=kk.map (·.1)->RepL G (kvs.map (·.2)) (kk.map (·.2)) ->
   (Q8 kvs k=none/\N9 kk k=none)\/∃ d v,Q8 kvs k=some d/\N9 kk k=some v/\Rep G d v
 | [],[],_,_=>.inl ⟨rfl,rfl⟩
 | [],_::_,e,_=>by cases e
 | _::_,[],e,_=>by cases e
 | p::kvs,q::kk,e,r=>by
   simp only [c7,BC] at e; obtain ⟨x,t,ex,rx,l⟩:=r; simp only [c7,BC] at ex; unfold Q8 N9; rw [m7,m7,e.1];cases hq:g9 q.1 k with
   | true=>exact .inr ⟨p.2,q.2,rfl,rfl,by rw [ex.1]; exact rx⟩
   | false=>exact Kq (k:=k) e.2 (by rw [ex.2]; exact l)
theorem Gi {k:zS} (hk:nkD k=true):∀ {kk:List (zS×V)} {i:Nat} {v:V},(∀ p∈kk,nkD p.1=true)->(kk.map (·.1)).Nodup->kk[i]? = some (k,v)->N9 kk k=some v
 | [],_,_,_,_,h=>by simp at h
 | p::kk,i,v,hn,nd,h=>by
   unfold N9; rw [m7]; have hp:=Mg (T0 (hn p (.head _))).1 (T0 hk).1;cases i with
   | zero =>
     simp at h;subst h; rw [hp.mpr rfl]; rfl
   | succ i =>
     rw [c7,AU] at nd; have hm:(k,v)∈kk:=AY (by simpa using h);cases hq:g9 p.1 k with
     | true=>exact absurd (by rw [hp.mp hq]; exact y4 hm) nd.1
     | false=>exact Gi hk (fun q hq=>hn q (.tail _ hq)) nd.2 (by simpa using h)
theorem Kr {k:zS} (hk:nkD k=true) {kk:List (zS×V)} (hn:∀ p∈kk,nkD p.1=true) (h:k∉kk.map (·.1)):N9 kk k=none:=by
 unfold N9;rw [JK.mpr]; · rfl
 intro p hp z;exact h (by rw [<- (Mg (T0 (hn p hp)).1 (T0 hk).1).mp z]; exact y4 hp)
theorem Paired.at' {α β:Type} {F:α->β->Prop}:∀ {l₁:List α} {l₂:List β} {i:Nat} {a:α},z6 F l₁ l₂->l₁[i]? = some a->∃ b,l₂[i]? = some b/\F a b
 | _,_,i,_,.nil,h=>by simp at h
 | _,_,0,_,.cons r _,h=>by simp at h; subst h; exact ⟨_,rfl,r⟩
 | _,_,i+1,_,.cons _ t,h=>Paired.at' (i:=i) t (by simpa using h)
noncomputable section
variable {X:Cx} {pins:List (c6×Obj)} {Z:St} {H:Hp} {s:zW} {a:c6} {A:u5} {E:zV->zW->Prop}
theorem Ma (I:Inv X pins Z H s) {d:zS} {v:V} {u:zV} (r:KRep H d v) (hv:RelV v u) (hn:nkD d=true):NAt s.heap u d:=by
 have rr:=aN r;exact ⟨rr.reads I (Same.refl _) hv,(T0 hn).1,rr.lay,(T0 hn).2⟩
abbrev PrN (H:Hp):zS×V->zV×zV->Prop:=fun p q=>(∃ v,KRep H p.1 v/\RelV v q.1)/\RelV p.2 q.2
theorem Om {w:l9} {kvs:List (zS×V)} {xs:List (zV×zV)} (r:z6 (PrN H) kvs xs) {i:Nat} {e:u8} (he:(T5 w kvs xs)[i]? = some e) :
   ∃ p q,kvs[i]? = some p/\xs[i]? = some q/\PrN H p q/\e=⟨W7 w p.1,q.1,q.2⟩:=by
 unfold T5 at he;rw [List.getElem?_zipWith] at he;cases hp:kvs[i]? with
 | none=>rw [hp] at he; simp at he
 | some p =>
   obtain ⟨q,hq,hF⟩:=Paired.at' r hp; rw [hp,hq] at he; simp at he;exact ⟨p,q,rfl,hq,hF,he.symm⟩
theorem Paired.len' {α β:Type} {F:α->β->Prop}:∀ {l₁:List α} {l₂:List β},z6 F l₁ l₂->l₁.length=l₂.length
 | _,_,.nil=>rfl
 | _,_,.cons _ t=>by simp [Paired.len' t]
theorem Rc (I:Inv X pins Z H s) {kvs:List (zS×V)} {xs:List (zV×zV)} (r:z6 (PrN H) kvs xs) (nk:∀ p∈kvs,nkD p.1=true) (nd:(kvs.map (·.1)).Nodup):EsN X.w s.heap (T5 X.w kvs xs).toArray (kvs.map (·.1)) where
 len:=by
   have:=Paired.len' r; simp [T5,this]
 ent:=fun i e he=>by
   obtain ⟨p,q,h1,h2,⟨⟨v,h3,h4⟩,h5⟩,rfl⟩:=Om r (by simpa using he);exact ⟨p.1,by rw [j8,h1]; rfl,Ma I h3 h4 (nk p (AY h1)),rfl⟩
 nd:=nd
theorem xX {kvs:List (zS×V)} {kd:zS} {y d:V} {u r:zV} {Q:zV->zW->Prop} (hu:A.units+16 < BD) (I:Inv X pins Z H s) (e:Rd H a (.dN kvs)) (rk:KRep H kd y) (hk:nkD kd=true) (ry:RelV y u) (rd:RelV d r)
   (h:∀ w' s',Inv X pins Z H s'->RelV ((N9 kvs kd).getD d) w'->Q w' s'):wpAny (i9 X.prog X.w) A (call (.builtin "dict.get") [.ref a,u,r]) Q E s:=by
 obtain ⟨z,hd,nd,nk,xs,rel,ep,e1⟩:=e.ok I.hok;refine LI F.slot_dict_get ⟨_,e1,rfl⟩ F.entry_dict_get (F.args_dict_get_3 _ _ _) (dC a u r hd) ⟨_,_,ep,kvs.map (·.1),kd,hu,e1,rfl,Rc I rel nk nd,Ma I rk ry hk,fun i e tk hi he=>h _ _ (I.tok _) ?_,fun tk hn=>h _ _ (I.tok _) ?_⟩
 . obtain ⟨p,q,h1,h2,⟨_,h5⟩,rfl⟩:=Om rel (by simpa using he)
   rw [j8,h1] at hi; have hp:p=(kd,p.2):=by
     have:p.1=kd:=by simpa using hi
     rw [<- this]
   rw [hp] at h1; rw [Gi hk nk nd h1]; exact h5
 . rw [Kr hk nk hn]
   exact rd
end
def wG (td ty tx:TE):TE:=fun Z H Q=>td Z H fun x H1=>∃ a kvs,x=.ref a/\Rd H1 a (.dN kvs)/\ty Z H1 fun y H2=>tx Z H2 fun z H3=>∃ kvs kd,Rd H3 a (.dN kvs)/\KRep H3 kd y/\nkD kd=true/\Q ((N9 kvs kd).getD z) H3
noncomputable section
variable {X:Cx} {o e f:Expr} {apos cpos:Pos} {td ty tx:TE}
theorem mQ (hu:X.A.units+16 < BD) (ho:PE X o td) (he:PE X e ty) (hf:PE X f tx) (m:M2 X o "get" apos e f cpos):PE X (.Call (.Attribute o "get" apos) [e,f] [] cpos) (wG td ty tx):=by
 intro pins s Z H Q I h;refine wpAny_Call_method m.base m.few m.line LO PySem.F.slot_dict_get PySem.F.type_dict_get (thn (ho pins s Z H _ I h) fun u s1 hZ2=>?_);obtain ⟨x,H1,I1,rx,a,kvs,ex,d,q1⟩:=hZ2;subst ex;obtain rfl:u=u9 a:=rx;obtain ⟨_,_,_,_,_,_,ep,e1⟩:=d.ok I1.hok;refine ⟨⟨_,e1,rfl⟩,fun b q=>by cases q; exact ⟨_,e1,rfl⟩,?_⟩;rw [m.trees];refine FF rfl (IJ (EU (thn (he pins s1 Z H1 _ I1 q1) fun iv s2 hY79=>?_)));obtain ⟨y,H2,I2,ry,q2⟩:=hY79;refine EU (thn (hf pins s2 Z H2 _ I2 q2) fun fv s3 hY80=>?_)
 obtain ⟨z,H3,I3,rz,kvs,kd,g,rk,hk,q3⟩:=hY80;refine JR ?_;exact xX hu I3 g rk hk ry rz fun w' s4 I4 rw'=>⟨_,H3,I4,rw',q3⟩
end
noncomputable def kvN (δ:Dn) (i:Nat):Option Kvs:=match δ[i]? with
 | some (.ow (.tuple [.dict kvs,.none]))=>some kvs
 | some (.fd ((.dict [],.none)::kvs))=>some kvs
 | _=>none
theorem SR.kvN {G H:Hp} {Z:St} {δ:Dn} {i:Nat} {kvs:Kvs} (S:SR G H Z δ) (h:kvN δ i=some kvs):∃ q,∃ kk:List (zS×V),Z[i]? = some (some (.ref q))/\Rd H q (.dN kk)/\kvs.map (·.1)=kk.map (·.1)/\RepL G (kvs.map (·.2)) (kk.map (·.2)):=by
 unfold Sm.kvN at h;split at h
 . rename_i kvs' hi
   cases h; obtain ⟨q,hσ,hq,ho⟩:=S.own hi; obtain ⟨kk,hx,hk,hv⟩:=(show OwnK G H q [.dict kvs,.none] from ho);exact ⟨q,kk,hσ,.inl hx,hk,hv⟩
 . rename_i kvs' hi
   cases h; obtain ⟨q,kk,hp,hx,hk,hv⟩:=(show FdOk G (Z[i]?.join) ((.dict [],.none)::kvs) from S.sl i _ hi);refine ⟨q,kk,?_,Rd.mono S.sub hx,hk,hv⟩;cases e:Z[i]? with
   | none=>rw [e] at hp; cases hp
   | some z =>
     rw [e] at hp;cases z with
     | none=>cases hp
     | some z=>cases hp; rfl
 . cases h
noncomputable def Ow (i:Nat) (f g:Dn->Res zS):Dn->Res zS:=fun δ=>match kvN δ i with
 | some kvs=>(f δ).bind fun kd=>(g δ).bind fun dd=>if nkD kd=true then .ok ((Q8 kvs kd).getD dd) else .no
 | none=>.no
noncomputable section
variable {P:j5} {w:l9} {K:zX} {mg:Str->Option zV} {base:p9} {X:Cx} {N:List Str} {sc:Scope} {k:Nat} {df:Bool} {E:EK} {p apos cpos:Pos} {a b:Expr} {f g:Dn->Res zS} {x:Str}
theorem oW (C:Cxt P w K mg base X N sc k df) (i:Nat) (h:okVar N sc i x=true) (hk:DE X E a f) (hg:DE X E b g) (m:M2 X (.Name x p) "get" apos a b cpos:=by exact ⟨rfl,rfl,rfl,rfl⟩):DE X E (.Call (.Attribute (.Name x p) "get" apos) [a,b] [] cpos) (Ow i f g):=by
 refine PE.imp (mQ (by have:=C.hu; lia) (okVar.pe C h) hk hg m) fun Z H Q hY81=>?_;obtain ⟨G,δ,S,aft⟩:=hY81;unfold Ow at aft;split at aft
 . rename_i kvs hi
   obtain ⟨q,kk,hσ,hx,hkeys,hvals⟩:=S.kvN hi; refine ⟨.ref q,hσ,q,kk,rfl,hx,?_⟩; refine I0 S aft fun kd v G1 H1 g1 r1 S1 a1=>?_;refine I0 S1 a1 fun dd v2 G2 H2 g2 r2 S2 a2=>?_;split at a2
   . rename_i hn
     refine ⟨kk,kd,Rd.mono g2.h (Rd.mono g1.h hx),Lu S2.sub hn (r1.mono g2.g),hn,?_⟩; rcases Kq (k:=kd) hkeys hvals with ⟨n1,n2⟩ | ⟨d0,v0,n1,n2,rd⟩
     . rw [n1] at a2; rw [n2]
       exact a2 _ G2 H2 (Grow.refl S2.sub) r2
     . rw [n1] at a2; rw [n2]
       exact a2 _ G2 H2 (Grow.refl S2.sub) (rd.mono (g1.g.trans g2.g))
   . exact a2.elim
 . exact aft.elim
end
end Sm
end
noncomputable section
namespace Sm
open PySem PySem.Spec PyProof.Rows PySem.W L2
theorem aT {w:l9} {kvs:List (zS×V)} {xs:List (zV×zV)} {p:zS×V} {q:zV×zV} (h:kvs.length=xs.length):T5 w (kvs++[p]) (xs++[q])=T5 w kvs xs++[⟨W7 w p.1,q.1,q.2⟩]:=by
 unfold T5;rw [List.zipWith_append h]; rfl
theorem Paired.app' {α β:Type} {F:α->β->Prop} {a:α} {b:β} (h:F a b):∀ {l₁:List α} {l₂:List β},z6 F l₁ l₂->z6 F (l₁++[a]) (l₂++[b])
 | _,_,.nil=>.cons h .nil
 | _,_,.cons r t=>.cons r (Paired.app' h t)
noncomputable section
variable {X:Cx} {pins:List (c6×Obj)} {Z:St} {H:Hp} {s:zW} {a:c6} {A:u5} {E:zV->zW->Prop}
theorem xV {kvs:List (zS×V)} {kd:zS} {y d:V} {u r:zV} {Q:zV->zW->Prop} (hu:A.units+16 < BD) (I:Inv X pins Z H s) (e:H a=some (.dN kvs)) (rk:KRep H kd y) (hk:nkD kd=true) (hz:kvs.length < sizeLine) (ry:RelV y u) (rd:RelV d r)
   (h1:∀ v w' s',N9 kvs kd=some v->Inv X pins Z H s'->RelV v w'->Q w' s') (h0:∀ s',N9 kvs kd=none->Inv X pins Z (upd H a (.dN (kvs++[(kd,d)]))) s'->Q r s'):wpAny (i9 X.prog X.w) A (call (.builtin "dict.setdefault") [.ref a,u,r]) Q E s:=by
 obtain ⟨z,hd,nd,nk,xs,rel,ep,e1⟩:=I.hok a _ e;have hl:=Paired.len' rel;have hlen:(T5 X.w kvs xs).length<=sizeLine:=by
   unfold T5; rw [List.length_zipWith]; lia
 refine LI F.slot_dict_setdefault ⟨_,e1,rfl⟩ F.entry_dict_setdefault (F.args_dict_setdefault_3 _ _ _) (Tm a u r hd) ⟨_,ep,kvs.map (·.1),kd,hu,e1,hlen,Rc I rel nk nd,Ma I rk ry hk,fun i e tk hi he=>?_,fun h' tk hn hkeep hnew=>?_⟩
 . obtain ⟨p,q,g1,g2,⟨_,g5⟩,rfl⟩:=Om rel he
   rw [j8,g1] at hi; have hp:p=(kd,p.2):=by
     have:p.1=kd:=by simpa using hi
     rw [<- this]
   rw [hp] at g1; exact h1 p.2 _ _ (Gi hk nk nd g1) (I.tok _) g5
 . refine h0 _ (Kr hk nk hn) ?_
   have ht:∀ b ys,H b=some (.tup ys)->(upd H a (.dN (kvs++[(kd,d)]))) b=some (.tup ys):=fun b ys z=>by
     rw [C4 (Qs z e (fun z=>by cases z))]; exact z
   refine I.write (x:=a) (e:=a) (t':=tk) (by rw [e]; exact trivial) (.inl rfl) (fun b o hb q=>hkeep b o hb q) ⟨_,hnew⟩ ⟨by rw [l8]; show _+1<=_; lia,hd,?_,?_,xs++[(u,r)],?_,ep+1,?_⟩
   . rw [m4,FH]
     refine ⟨nd,by simp,fun x hx y hy=>?_⟩;have:y=kd:=by simpa using hy
     subst this; exact fun z=>hn (z▸hx)
   . intro p hp
     rcases i7.mp hp with hp | hp
     . exact nk p hp
     . rw [c8.mp hp]; exact hk
   . exact Paired.app' ⟨⟨y,rk.mono ht,ry⟩,rd⟩ (Paired.mapP rel fun p q hZ2=>by obtain ⟨⟨v,z1,z2⟩,z3⟩:=hZ2; exact ⟨⟨v,z1.mono ht,z2⟩,z3⟩)
   . rw [aT hl]; exact hnew
end
def wE (td ty tx:TE):TE:=fun Z H Q=>td Z H fun x H1=>∃ a kvs,x=.ref a/\H1 a=some (.dN kvs)/\ty Z H1 fun y H2=>tx Z H2 fun z H3=>∃ kvs kd,H3 a=some (.dN kvs)/\KRep H3 kd y/\nkD kd=true/\kvs.length < sizeLine /\
 (∀ v,N9 kvs kd=some v->Q v H3)/\(N9 kvs kd=none->Q z (upd H3 a (.dN (kvs++[(kd,z)]))))
noncomputable section
variable {X:Cx} {o e f:Expr} {apos cpos:Pos} {td ty tx:TE}
theorem mP (hu:X.A.units+16 < BD) (ho:PE X o td) (he:PE X e ty) (hf:PE X f tx) (m:M2 X o "setdefault" apos e f cpos):PE X (.Call (.Attribute o "setdefault" apos) [e,f] [] cpos) (wE td ty tx):=by
 intro pins s Z H Q I h;refine wpAny_Call_method m.base m.few m.line LO PySem.F.slot_dict_setdefault PySem.F.type_dict_setdefault (thn (ho pins s Z H _ I h) fun u s1 hZ2=>?_);obtain ⟨x,H1,I1,rx,a,kvs,ex,d,q1⟩:=hZ2;subst ex;obtain rfl:u=u9 a:=rx;obtain ⟨_,_,_,_,_,_,ep,e1⟩:=I1.hok a _ d;refine ⟨⟨_,e1,rfl⟩,fun b q=>by cases q; exact ⟨_,e1,rfl⟩,?_⟩;rw [m.trees];refine FF rfl (IJ (EU (thn (he pins s1 Z H1 _ I1 q1) fun iv s2 hY82=>?_)));obtain ⟨y,H2,I2,ry,q2⟩:=hY82;refine EU (thn (hf pins s2 Z H2 _ I2 q2) fun fv s3 hY83=>?_)
 obtain ⟨z,H3,I3,rz,kvs,kd,g,rk,hk,hz,q3,q4⟩:=hY83;refine JR ?_;exact xV hu I3 g rk hk hz ry rz (fun v w' s4 hv I4 rw'=>⟨v,H3,I4,rw',q3 v hv⟩) fun s4 hv I4=>⟨z,_,I4,rz,q4 hv⟩
end
noncomputable def Hf:List (zS×zS)->zS->zS->List (zS×zS)
 | [],k,v=>[(k,.list [v])]
 | p::r,k,v=>if g9 p.1 k=true then (match p.2 with | .list ds=>(p.1,.list (ds++[v])) | d=>(p.1,d))::r else p::Hf r k v
end Sm
end
noncomputable section
namespace Sm
open PySem PySem.Spec PyProof.Rows PySem.W L2
noncomputable def NL (G H H1:Hp):List (zS×zS)->List (zS×c6×List V)->Prop
 | [],[]=>True
 | p::kvs,r::kk=>p.1=r.1/\(∃ ds,p.2=.list ds/\RepL G ds r.2.2)/\(H r.2.1=some (.lst r.2.2)/\G r.2.1=none/\H1 r.2.1=none)/\NL G H H1 kvs kk
 | _,_=>False
abbrev prs (kk:List (zS×c6×List V)):List (zS×V):=kk.map fun r=>(r.1,.ref r.2.1)
noncomputable section
variable {G G' H H' H1:Hp}
theorem NL.keep (g:Same G G'):∀ {kvs:List (zS×zS)} {kk:List (zS×c6×List V)},(∀ r∈kk,H r.2.1=some (.lst r.2.2)->G r.2.1=none->H1 r.2.1=none->H' r.2.1=some (.lst r.2.2)/\G' r.2.1=none)->NL G H H1 kvs kk->NL G' H' H1 kvs kk
 | [],[],_,h=>h
 | [],_::_,_,h=>h
 | _::_,[],_,h=>h
 | _::_,r::_,k,⟨h1,⟨ds,h2,h3⟩,⟨h4,h5,h6⟩,h7⟩=>⟨h1,⟨ds,h2,h3.mono g⟩,⟨(k r (.head _) h4 h5 h6).1,(k r (.head _) h4 h5 h6).2,h6⟩,NL.keep g (fun r hr=>k r (.tail _ hr)) h7⟩
theorem NL.grow (g:Grow G H G' H') {kvs:List (zS×zS)} {kk:List (zS×c6×List V)} (h:NL G H H1 kvs kk):NL G' H' H1 kvs kk:=by
 refine h.keep g.g fun r _ e n _=>⟨g.h _ _ e,?_⟩;cases q:G' r.2.1 with
 | none=>rfl
 | some u =>
   rcases g.fr _ u q with y | y | ⟨ys,rfl⟩
   . rw [n] at y; cases y
   . rw [e] at y; cases y
   . have:=g.gh _ _ q; rw [g.h _ _ e] at this; cases this
theorem NL.mem:∀ {kvs:List (zS×zS)} {kk:List (zS×c6×List V)},NL G H H1 kvs kk->∀ r∈kk,H r.2.1=some (.lst r.2.2)/\G r.2.1=none/\H1 r.2.1=none
 | [],[],_,_,m=>nomatch m
 | [],_::_,h,_,_=>h.elim
 | _::_,[],h,_,_=>h.elim
 | _::_,r::_,⟨_,_,h4,h7⟩,x,m=>by
   rcases a9.mp m with rfl | m
   . exact h4
   . exact NL.mem h7 x m
theorem NL.keys:∀ {kvs:List (zS×zS)} {kk:List (zS×c6×List V)},NL G H H1 kvs kk->kvs.map (·.1)=(prs kk).map (·.1)
 | [],[],_=>rfl
 | [],_::_,h=>h.elim
 | _::_,[],h=>h.elim
 | _::_,_::_,⟨h1,_,_,h7⟩=>by
   simp only [c7,h1]; rw [NL.keys h7]
theorem NL.new {p:c6} {y:V} {kd vd:zS} (rv:Rep G vd y) (hp:H p=some (.lst [y])/\G p=none/\H1 p=none):∀ {kvs:List (zS×zS)} {kk:List (zS×c6×List V)},NL G H H1 kvs kk->N9 (prs kk) kd=none->NL G H H1 (Hf kvs kd vd) (kk++[(kd,p,[y])])
 | [],[],_,_=>⟨rfl,⟨[vd],rfl,RepL.cons rv rfl⟩,hp,trivial⟩
 | [],_::_,h,_=>h.elim
 | _::_,[],h,_=>h.elim
 | q::kvs,r::kk,⟨h1,h2,h4,h7⟩,e=>by
   unfold N9 at e; rw [show prs (r::kk)=(r.1,.ref r.2.1)::prs kk from rfl,m7] at e;cases z:g9 r.1 kd with
   | true=>rw [z] at e; cases e
   | false =>
     rw [z] at e; unfold Hf; rw [h1,z,if_neg (by decide)]; exact ⟨h1,h2,h4,NL.new rv hp h7 e⟩
theorem NL.put {kd:zS} {v:V}:∀ {kvs:List (zS×zS)} {kk:List (zS×c6×List V)},NL G H H1 kvs kk->(kk.map (·.2.1)).Nodup->N9 (prs kk) kd=some v ->
   ∃ l xs,v=.ref l/\(∃ r∈kk,r.2=(l,xs))/\∀ (y:V) (vd:zS),Rep G vd y->∃ kk',prs kk'=prs kk/\kk'.map (·.2.1)=kk.map (·.2.1)/\(∀ r∈kk',r.2.2.length<=xs.length+1\/r∈kk)/\NL G (upd H l (.lst (xs++[y]))) H1 (Hf kvs kd vd) kk'
 | [],[],_,_,e=>by cases e
 | [],_::_,h,_,_=>h.elim
 | _::_,[],h,_,_=>h.elim
 | q::kvs,r::kk,⟨h1,⟨ds,h2,h3⟩,⟨h4,h5,h6⟩,h7⟩,nd,e=>by
   rw [c7,AU] at nd; unfold N9 at e; rw [show prs (r::kk)=(r.1,.ref r.2.1)::prs kk from rfl,m7] at e;cases z:g9 r.1 kd with
   | true =>
     rw [z] at e; cases e; refine ⟨r.2.1,r.2.2,rfl,⟨r,.head _,rfl⟩,fun y vd rv=>⟨(r.1,r.2.1,r.2.2++[y])::kk,rfl,rfl,fun x hx=>?_,?_⟩⟩
     . rcases a9.mp hx with rfl | hx
       . left; simp
       . exact .inr (.tail _ hx)
     . unfold Hf
       rw [h1,z,if_pos rfl,h2]; refine ⟨rfl,⟨ds++[vd],rfl,h3.append (RepL.cons rv rfl)⟩,⟨C3,h5,h6⟩,h7.keep (Same.refl _) fun x hx e n _=>⟨?_,n⟩⟩;rw [C4 (fun w=>nd.1 (by rw [<- w]; exact y4 hx))]; exact e
   | false =>
     rw [z] at e; obtain ⟨l,xs,e1,⟨r0,m0,e0⟩,k⟩:=NL.put h7 nd.2 e; have hl:l∈kk.map (·.2.1):=j7.mpr ⟨r0,m0,by rw [e0]⟩;refine ⟨l,xs,e1,⟨r0,.tail _ m0,e0⟩,fun y vd rv=>?_⟩;obtain ⟨kk',k1,k2,k3,k4⟩:=k y vd rv; refine ⟨r::kk',congrArg (List.cons (r.1,V.ref r.2.1)) k1,congrArg (List.cons r.2.1) k2,fun x hx=>?_,?_⟩
     . rcases a9.mp hx with rfl | hx
       . exact .inr (.head _)
       . rcases k3 x hx with w | w
         . exact .inl w
         . exact .inr (.tail _ w)
     . unfold Hf
       rw [h1,z,if_neg (by decide)]; exact ⟨h1,⟨ds,h2,h3⟩,⟨by rw [C4 (fun w=>nd.1 (by rw [w]; exact hl))]; exact h4,h5,h6⟩,k4⟩
noncomputable def shG (as:List c6) (G H:Hp):Hp:=fun b=>open Classical in if b∈as then H b else G b
theorem lN {as:List c6} {b:c6} (h:b∈as):shG as G H b=H b:=by unfold shG; rw [if_pos h]
theorem Jx {as:List c6} {b:c6} (h:b∉as):shG as G H b=G b:=by unfold shG; rw [if_neg h]
theorem NL.same {kvs:List (zS×zS)} {kk:List (zS×c6×List V)} (h:NL G H H1 kvs kk):Same G (shG (kk.map (·.2.1)) G H):=fun b u e=>by
 by_cases m:b∈kk.map (·.2.1)
 . obtain ⟨r,hr,rfl⟩:=j7.mp m
   rw [(h.mem r hr).2.1] at e; cases e
 . rw [Jx m]; exact e
theorem NL.vals {as:List c6} (s:Same G (shG as G H)):∀ {kvs:List (zS×zS)} {kk:List (zS×c6×List V)},NL G H H1 kvs kk->(∀ r∈kk,r.2.1∈as)->RepL (shG as G H) (kvs.map (·.2)) ((prs kk).map (·.2))
 | [],[],_,_=>rfl
 | [],_::_,h,_=>h.elim
 | _::_,[],h,_=>h.elim
 | q::kvs,r::kk,⟨_,⟨ds,h2,h3⟩,⟨h4,_,_⟩,h7⟩,m=>by
   rw [c7,h2]; exact RepL.cons ⟨r.2.1,r.2.2,rfl,.inl (by rw [lN (m r (.head _))]; exact h4),h3.mono s⟩ (NL.vals s h7 fun x hx=>m x (.tail _ hx))
end
theorem SR.forget {G H:Hp} {Z:St} {δ:Dn} (S:SR G H Z δ) (i:Nat):SR G H Z (δ.set i .un):=by
 have key:∀ (j:Nat) (s:Sl),(δ.set i .un)[j]? = some s->s=.un\/δ[j]? = some s:=fun j s e=>by
   rw [F1] at e;split at e
   . cases e; exact .inl rfl
   . exact .inr e
 refine ⟨S.sub,by simp [S.len],fun j s e=>?_,fun j1 j2 a d1 d2 e1 e2 h1 h2=>?_⟩
 . rcases key j s e with rfl | e
   . trivial
   . exact S.sl j s e
 . rcases key j1 _ e1 with z | e1
   . cases z
   . rcases key j2 _ e2 with z | e2
     . cases z
     . exact S.ap j1 j2 a d1 d2 e1 e2 h1 h2
theorem SSt.forget {G0 H0 G H:Hp} {Z:St} {δ:Dn} (S:SSt G0 H0 G H Z δ) (i:Nat):SSt G0 H0 G H Z (δ.set i .un) :=
 ⟨S.gr,S.sr.forget i,fun j d a e h=>by
   rw [F1] at e;split at e
   . cases e
   . exact S.fr j d a e h⟩
theorem OwnOk.off {G H H':Hp} {a:c6} {d:zS} (e:H' a=H a) (h:OwnOk G H a d):OwnOk G H' a d:=by
 cases d with
 | list ds=>obtain ⟨xs,q,r⟩:=h; exact ⟨xs,e.trans q,r⟩
 | dict kvs=>obtain ⟨xs,q,r⟩:=h; exact ⟨xs,e.trans q,r⟩
 | tuple xs=>exact OwnK.keep (Same.refl _) (fun o q=>e.trans q) h
 | _=>exact (show False from h).elim
theorem SSt.off {G0 H0 G H H':Hp} {Z:St} {δ:Dn} (S:SSt G0 H0 G H Z δ) (h0:Same H0 H') (hg:Same G H') (k:∀ (j:Nat) (d:zS) (a:c6),δ[j]? = some (.ow d)->Z[j]?.join=some (.ref a)->H' a=H a):SSt G0 H0 G H' Z δ:=by
 refine ⟨⟨S.gr.g,h0,hg,S.gr.fr⟩,⟨hg,S.sr.len,fun j s e=>?_,S.sr.ap⟩,S.fr⟩;have hs:=S.sr.sl j s e;cases s with
 | un=>trivial
 | sh d=>exact hs
 | fd _=>exact hs
 | ow d =>
   obtain ⟨a,e1,n1,ok⟩:=hs; exact ⟨a,e1,n1,ok.off (k j d a e e1)⟩
end Sm
end
noncomputable section
namespace Sm
open PySem PySem.Spec PyProof.Rows PySem.W L2
noncomputable def Ko (δ:Dn) (t:Nat) (c:Dn->Res Bool) (fk fv:Dn->Res zS):List zS->List (zS×zS)->Res Kvs
 | [],kvs=>.ok kvs
 | d::ds,kvs=>match c (δ.set t (.sh d)) with
   | .ok true=>match fk (δ.set t (.sh d)) with
     | .ok kd=>match fv (δ.set t (.sh d)) with
       | .ok vd=>if nkD kd=true then Ko δ t c fk fv ds (Hf kvs kd vd) else .no
       | _=>.no
     | _=>.no
   | .ok false=>Ko δ t c fk fv ds kvs
   | _=>.no
noncomputable def iC (i t:Nat) (src:Dn->Res (List zS)) (c:Dn->Res Bool) (fk fv:Dn->Res zS):Dn->Out:=fun δ=>match δ[i]? with
 | some (.ow (.tuple [.dict [],.none]))=>M1 (src (δ.set i .un)) fun ds=>if ds.length < 1000/\i≠t then (match Ko ((δ.set i .un).set t .un) t c fk fv ds [] with
   | .ok kvs=>.nx ((δ.set i (.ow (.tuple [.dict kvs,.none]))).set t .un)
   | _=>.no) else .no
 | _=>.no
structure GrpAt (G1 H0 H1:Hp) (i:Nat) (q:c6) (δv:Dn) (n:Nat) (τ:St) (Hc:Hp) (kvs:List (zS×zS)):Prop where
 ex:∃ Gc kk,SSt G1 H0 Gc Hc τ δv/\Gc q=none/\Hc q=some (.dN (prs kk))/\NL Gc Hc H1 kvs kk/\(kk.map (·.2.1)).Nodup/\kk.length<=n/\∀ r∈kk,r.2.2.length<=n
 hi:τ[i]? = some (some (.ref q))
 ap:∀ (j:Nat) (d:zS) (a:c6),δv[j]? = some (.ow d)->τ[j]?.join=some (.ref a)->a≠q/\∃ o,H1 a=some o
 kp:∀ b o,H1 b=some o->∃ o',Hc b=some o'
theorem Pv {H1 H:Hp} {p:c6} {o:HO} (h:∀ b o,H1 b=some o->∃ o',H b=some o'):∀ b u,H1 b=some u->∃ o',(upd H p o) b=some o':=fun b u e=>by
 by_cases z:b=p
 . subst z; exact ⟨_,C3⟩
 . rw [C4 z]; exact h b u e
theorem U2 {H1 H H':Hp} (s:Same H H') (h:∀ b o,H1 b=some o->∃ o',H b=some o'):∀ b u,H1 b=some u->∃ o',H' b=some o':=fun b u e=>by
 obtain ⟨o',z⟩:=h b u e;exact ⟨o',s _ _ z⟩
theorem Grow.stay {G H G' H':Hp} (g:Grow G H G' H') {q:c6} {o:HO} (n:G q=none) (e:H q=some o) (h:∀ ys,o≠.tup ys):G' q=none:=by
 cases z:G' q with
 | none=>rfl
 | some u =>
   rcases g.fr q u z with y | y | ⟨ys,rfl⟩
   . rw [n] at y; cases y
   . rw [e] at y; cases y
   . have:=g.gh _ _ z; rw [g.h _ _ e] at this; cases this; exact absurd rfl (h ys)
theorem Du {H0 H:Hp} {p:c6} {o:HO} (s:Same H0 H) (h:H0 p=none):Same H0 (upd H p o):=fun b u e=>by
 rw [C4 (E3 e h)]; exact s _ _ e
theorem OwnOk.monoG {G G' H:Hp} {a:c6} {d:zS} (g:Same G G') (h:OwnOk G H a d):OwnOk G' H a d:=by
 cases d with
 | list ds=>obtain ⟨xs,q,r⟩:=h; exact ⟨xs,q,r.mono g⟩
 | dict kvs=>obtain ⟨xs,q,k,r⟩:=h; exact ⟨xs,q,k,r.mono g⟩
 | tuple xs=>exact OwnK.keep g (fun o q=>q) h
 | _=>exact (show False from h).elim
noncomputable section
variable {P:j5} {w:l9} {K:zX} {mg:Str->Option zV} {base:p9} {X:Cx} {N:List Str} {sc:Scope} {k:Nat} {df:Bool} {E:EK} {p px pl ap1 cp1 ap2 cp2 ep ip pos:Pos} {ke ve ce iter:Expr} {fk fv:Dn->Res zS} {c:Dn->Res Bool} {src:Dn->Res (List zS)} {x y:Str}
theorem vD (C:Cxt P w K mg base X N sc k df) (i t:Nat) (ht:okSet N sc df t y=true) (h:okVar N sc i x=true) (hi:DI X E (.Name y px) iter src) (hc:DT X E ce c) (hk:DE X E ke fk) (hv:DE X E ve fv)
   (m2:M2 X (.Name x p) "setdefault" ap1 ke (.List [] pl) cp1) (hs:∀ x,x8 iter X.env x=pure x)
   (hbase:DC (.Call (.Attribute (.Name x p) "setdefault" ap1) [ke,.List [] pl] [] cp1) "append" X.env (eval (.Call (.Attribute (.Name x p) "setdefault" ap1) [ke,.List [] pl] [] cp1) X.env)=eval (.Call (.Attribute (.Name x p) "setdefault" ap1) [ke,.List [] pl] [] cp1) X.env)
   (hfew:((AN cp2 (e8 [ve] X.env)).all (fun x => !x.1)&&(JO cp2 (GL [] X.env)).all (fun x=>x.1.isSome)&&decide ([ve].length+([]:List FK).length+(if ([]:List FK).isEmpty then 0 else 1) < 30))=true)
   (hline:(ap2.endLine==cp2.line)=true) (hst:e8 [ve] X.env=(false,eval ve X.env)::e8 [] X.env) (hplain:(AN cp2 (e8 [] X.env)).any (·.1)=false)
   (hsw:BX (.Call (.Attribute (.Call (.Attribute (.Name x p) "setdefault" ap1) [ke,.List [] pl] [] cp1) "append" ap2) [ve] [] cp2) none ep.line X.env=pure false) :
   DS X E (.For (.Name y px) iter [.If ce [.Expr (.Call (.Attribute (.Call (.Attribute (.Name x p) "setdefault" ap1) [ke,.List [] pl] [] cp1) "append" ap2) [ve] [] cp2) ep] [] ip] [] pos) (iC i t src c fk fv):=fun G0 H0=>by
 obtain ⟨d1,d2,d3,d4⟩:=okSet.ok C ht;have app:=Wv (pos:=ep) (aC CP LL LK Mc (mP (by have:=C.hu; lia) (okVar.pe C h (p:=p)) hk (mR (pos:=pl) X3) m2) (N4 hv X3 hst) hbase hfew hline hst hplain) hsw;refine PS.imp (mK (pos:=pos) C.own C.calm hi (V8 d1 d2 d3 d4) (Kh (vH (pos:=ip) hc (Kh app) eV)) hs) fun D Z H hh=>?_;obtain ⟨G,δ,S,aft⟩:=hh;unfold iC at aft;split at aft
 . rename_i hsl
   obtain ⟨q,hσ,hgq,ho⟩:=S.sr.own hsl; obtain ⟨kk0,hx,hkeys,_⟩:=(show OwnK G H q [.dict [],.none] from ho);have hk0:kk0=[]:=by
     cases kk0 with
     | nil=>rfl
     | cons _ _=>cases hkeys
   subst hk0; have hil:i < δ.length:=(j6.mp hsl).1; have hq0:H0 q=none:=S.fr i _ q hsl (by rw [hσ]; rfl);refine pQ (S.forget i) aft fun ds J G1 H1 gr W S1 a1=>?_;split at a1
   . rename_i hcond
     obtain ⟨hlen,hit⟩:=hcond; have g01:=S1.gr;cases eout:Ko ((δ.set i .un).set t .un) t c fk fv ds [] with
     | ok out =>
       rw [eout] at a1; have S2:=(S1.forget t).rebase g01 (Same.refl _);generalize hδv:(δ.set i .un).set t .un=δv at *;have apv:∀ (j:Nat) (d:zS) (a:c6),δv[j]? = some (.ow d)->δ[j]? = some (.ow d)/\j≠i:=fun j d a e=>by
         rw [<- hδv,F1] at e;split at e
         . cases e
         . rw [F1] at e
           split at e
           . cases e
           . rename_i hn
             exact ⟨e,fun z=>by subst z; exact hn ⟨rfl,hil⟩⟩
       have hG1q:G1 q=none:=by
         cases z:G1 q with
         | none=>rfl
         | some u =>
           rcases gr.fr q u z with y | y | ⟨ys,rfl⟩
           . rw [hgq] at y; cases y
           . rw [hx] at y; cases y
           . have:=gr.gh _ _ z; rw [gr.h _ _ hx] at this; cases this
       refine ⟨fun n m τ Hc=>m=ds.length - n/\n<=ds.length/\∃ kvs,GrpAt G1 H0 H1 i q δv n τ Hc kvs/\Ko δv t c fk fv (ds.drop n) kvs=.ok out,⟨_,rfl,BY _,[],⟨⟨G1,[],S2,hG1q,gr.h _ _ hx,trivial,.nil,f8 _,fun _ h=>nomatch h⟩,hσ,fun j d a e1 e2=>?_,fun b o e=>⟨o,e⟩⟩,by rw [GN]; exact eout⟩,?_⟩
       . obtain ⟨e3,hne⟩:=apv j d a e1
         refine ⟨fun z=>hne (S.sr.ap j i q d _ e3 hsl (z▸e2) (by rw [hσ]; rfl)),?_⟩;obtain ⟨a',h1,_,h3⟩:=S.sr.sl j _ e3; rw [e2] at h1; cases h1; obtain ⟨o,z⟩:=h3.some; exact ⟨o,gr.h _ _ z⟩
       rintro n m τ Hc ⟨rfl,hn,kvs,⟨⟨Gc,kk,Sc,gq,dq,nl,nd,kl,rl⟩,hτ,ap,kp⟩,eg⟩;by_cases hlt:n < ds.length
       . have hd:ds[n]? = some ds[n]:=l0 hlt
         rw [BP hlt] at eg; unfold Ko at eg; refine .inr ⟨W.go n Hc hlt (Sc.gr.g.trans Sc.sr.sub),fun τ2 H2=>∃ kvs,GrpAt G1 H0 H1 i q δv (n+1) τ2 H2 kvs/\Ko δv t c fk fv (ds.drop (n+1)) kvs=.ok out,fun τ2 H2 z=>⟨_,by lia,rfl,hlt,z⟩,fun v H'' hy=>?_⟩;obtain ⟨G3,g3,r3⟩:=W.yld n _ Gc Hc v H'' hd Sc.gr.g Sc.sr.sub hy; have S3:=(Sc.grow g3).set_sh (i:=t) r3; have nl3:=nl.grow g3; have dq3:=g3.h _ _ dq; have gq3:G3 q=none:=g3.stay gq dq fun ys z=>by cases z
         have h01:Same H0 H1:=S1.gr.h; have hback:((δv.set t (.sh ds[n])).set t .un)=δv:=by rw [<- hδv]; simp
         have hτ':(τ.set t (some v))[i]? = some (some (.ref q)):=by rw [GC (Ne.symm hit)]; exact hτ
         have htv:∀ (j:Nat) (d:zS),δv[j]? = some (.ow d)->j≠t:=fun j d e z=>by
           subst z; rw [<- hδv,F1] at e;split at e
           . cases e
           . rename_i hn
             have:=(j6.mp e).1; rw [KU] at this; exact hn ⟨rfl,by rw [KU]; exact this⟩
         have ap':∀ (j:Nat) (d:zS) (a:c6),δv[j]? = some (.ow d)->(τ.set t (some v))[j]?.join=some (.ref a)->a≠q/\∃ o,H1 a=some o:=fun j d a e1 e2=>by
           rw [GC (Ne.symm (htv j d e1))] at e2; exact ap j d a e1 e2
         have apb:∀ (j:Nat) (d:zS) (a:c6),(δv.set t (.sh ds[n]))[j]? = some (.ow d)->(τ.set t (some v))[j]?.join=some (.ref a)->a≠q/\∃ o,H1 a=some o:=fun j d a e1 e2=>by
           rw [F1] at e1;split at e1
           . cases e1
           . exact ap' j d a e1 e2
         show tIfS _ _ _ _ (τ.set t (some v)) H'';generalize hδb:δv.set t (.sh ds[n])=δb at *;generalize τ.set t (some v)=τ' at *;have fin:∀ (Gz Hz:Hp) (kz:List (zS×zS)) (kkz:List (zS×c6×List V)),SSt G1 H0 Gz Hz τ' δb->Gz q=none->Hz q=some (.dN (prs kkz))->NL Gz Hz H1 kz kkz->(kkz.map (·.2.1)).Nodup->kkz.length<=n+1->(∀ r∈kkz,r.2.2.length<=n+1)->(∀ b o,H1 b=some o->∃ o',Hz b=some o')->GrpAt G1 H0 H1 i q δv (n+1) τ' Hz kz:=fun Gz Hz kz kkz s1 s2 s3 s4 s5 s6 s7 s8=>by
           have:=s1.forget t; rw [hback] at this; exact ⟨⟨Gz,kkz,this,s2,s3,s4,s5,s6,s7⟩,hτ',ap',s8⟩
         refine ⟨G3,δb,S3.sr,?_⟩;cases ec:c δb with
         | exc _=>rw [ec] at eg; cases eg
         | no=>rw [ec] at eg; cases eg
         | ok bb =>
           rw [ec] at eg; intro G4 H4 g4; have S4:=S3.grow g4; have nl4:=nl3.grow g4; have dq4:=g4.h _ _ dq3; have kp4:=U2 g4.h (U2 g3.h kp); have gq4:G4 q=none:=g4.stay gq3 dq3 fun ys z=>by cases z
           cases bb with
           | false =>
             rw [if_neg (by decide)]; exact ⟨kvs,fin G4 H4 kvs kk S4 gq4 dq4 nl4 nd (by lia) (fun r hr=>HC (rl r hr)) kp4,eg⟩
           | true =>
             rw [if_pos rfl]; dsimp only at eg;cases efk:fk δb with
             | exc _=>rw [efk] at eg; cases eg
             | no=>rw [efk] at eg; cases eg
             | ok kd =>
               rw [efk] at eg; dsimp only at eg;cases efv:fv δb with
               | exc _=>rw [efv] at eg; cases eg
               | no=>rw [efv] at eg; cases eg
               | ok vd =>
                 rw [efv] at eg; dsimp only at eg;split at eg
                 . rename_i hnk
                   refine ⟨.ref q,hτ',q,prs kk,rfl,dq4,G4,δb,S4.sr,?_⟩; rw [efk]; intro y5 G5 H5 g5 r5; have S5:=S4.grow g5; refine ⟨BY _,fun p hp=>?_⟩;have g6:Grow G5 H5 G5 (upd H5 p (.lst [])):=Grow.own S5.sr.sub hp; have S6:=S5.grow g6; have nl6:=(nl4.grow g5).grow g6; have dq5:=g5.h _ _ dq4; have hpq:q≠p:=E3 dq5 hp; have dq6:(upd H5 p (.lst [])) q=some (.dN (prs kk)):=g6.h _ _ dq5; have gq5:G5 q=none:=g5.stay gq4 dq4 fun ys z=>by cases z
                   have hz:(prs kk).length < sizeLine:=by
                     have:(1000:Nat)<=sizeLine:=by decide
                     rw [zZ]; lia
                   refine ⟨prs kk,kd,dq6,Lu S6.sr.sub hnk r5,hnk,hz,fun v0 hv0=>?_,fun hn0=>?_⟩
                   . obtain ⟨l,xs,e1,⟨r0,m0,e0⟩,_⟩:=NL.put nl6 nd hv0
                     subst e1; have hm6:=nl6.mem r0 m0; rw [e0] at hm6; refine ⟨.inl ⟨rfl,xs,.inl (.inl hm6.1)⟩,G5,δb,S6.sr,?_⟩; rw [efv]; intro y7 G7 H7 g7 r7; have S7:=S6.grow g7; have nl7:=nl6.grow g7; have dq7:=g7.h _ _ dq6; have gq7:G7 q=none:=g7.stay gq5 dq6 fun ys z=>by cases z
                     have hm7:=nl7.mem r0 m0; rw [e0] at hm7; have hxs:xs.length<=n:=by have:=rl r0 m0; rw [e0] at this; exact this
                     have hql:q≠l:=Qs dq7 hm7.1 fun z=>by cases z
                     obtain ⟨l',xs',e1',⟨r1,m1,e1r⟩,kp⟩:=NL.put nl7 nd hv0;cases e1'; have hm1:=nl7.mem r1 m1; rw [e1r] at hm1; have exs:xs'=xs:=by have:=hm1.1.symm.trans hm7.1; cases this; rfl
                     subst exs; obtain ⟨kk',k1,k2,k3,k4⟩:=kp y7 vd r7; refine ⟨l,xs',y7,rfl,rfl,hm7.1,EZ hxs (m3 (show n < 1000 by lia) (by decide)),Hf kvs kd vd,fin G7 _ _ kk' (S7.off (Du S7.gr.h (h01.free hm7.2.2)) (Du S7.sr.sub hm7.2.1) fun j d a z1 z2=>?_) gq7 (by rw [C4 hql,k1]; exact dq7) k4 (by rw [k2]; exact nd) ?_ (fun r hr=>?_) (Pv (U2 g7.h (U2 g6.h (U2 g5.h kp4)))),eg⟩
                     . obtain ⟨_,o,ho⟩:=apb j d a z1 z2
                       rw [C4 (E3 ho hm7.2.2)]
                     . have:=congrArg IK k2
                       rw [zZ,zZ] at this;lia
                     . rcases k3 r hr with z | z
                       . lia
                       . exact HC (rl r z)
                   . have hH1p : H1 p = none := by
                       cases z:H1 p with
                       | none=>rfl
                       | some u =>
                         obtain ⟨o',w⟩:=U2 g5.h kp4 p u z; rw [hp] at w; cases w
                     have hG5p:G5 p=none:=S5.sr.sub.free hp; have hp6:(upd H5 p (.lst [])) p=some (.lst []):=C3; have S7:SSt G1 H0 G5 (upd (upd H5 p (.lst [])) q (.dN (prs kk++[(kd,.ref p)]))) τ' δb:=S6.off (Du S6.gr.h hq0) (Du S6.sr.sub gq5) fun j d a z1 z2=>by rw [C4 (apb j d a z1 z2).1]
                     have hp7:(upd (upd H5 p (.lst [])) q (.dN (prs kk++[(kd,.ref p)]))) p=some (.lst []):=by rw [C4 (Ne.symm hpq)]; exact hp6
                     refine ⟨.inl ⟨rfl,[],.inl (.inl hp7)⟩,G5,δb,S7.sr,?_⟩; rw [efv]; intro y8 G8 H8 g8 r8; have S8:=S7.grow g8; have hp8:=g8.h _ _ hp7; have gp8:G8 p=none:=g8.stay hG5p hp7 fun ys z=>by cases z
                     have dq7:(upd (upd H5 p (.lst [])) q (.dN (prs kk++[(kd,.ref p)]))) q=some (.dN (prs kk++[(kd,.ref p)])):=C3; have dq8:=g8.h _ _ dq7; have gq8:G8 q=none:=g8.stay gq5 dq7 fun ys z=>by cases z
                     have nl7:NL G5 (upd (upd H5 p (.lst [])) q (.dN (prs kk++[(kd,.ref p)]))) H1 kvs kk:=nl6.keep (Same.refl _) fun r _ e n _=>⟨by rw [C4 (Qs e dq6 fun z=>by cases z)]; exact e,n⟩;have hne:∀ r∈kk,r.2.1≠p:=fun r hr=>E3 ((nl4.grow g5).mem r hr).1 hp;have nl9:NL G8 (upd H8 p (.lst [y8])) H1 kvs kk:=(nl7.grow g8).keep (Same.refl _) fun r hr e n _=>⟨by rw [C4 (hne r hr)]; exact e,n⟩;refine ⟨p,[],y8,rfl,rfl,hp8,by show 0 < sizeLine; decide,Hf kvs kd vd,fin G8 _ _ (kk++[(kd,p,[y8])]) (S8.off (Du S8.gr.h (h01.free hH1p)) (Du S8.sr.sub gp8) fun j d a z1 z2=>?_) gq8 ?_ (NL.new r8 ⟨C3,gp8,hH1p⟩ nl9 hn0) ?_ (by rw [l8]; show _+1<=_; lia) (fun r hr=>?_) (Pv (U2 g8.h (Pv (U2 g6.h (U2 g5.h kp4))))),eg⟩
                     . obtain ⟨_,o,ho⟩:=apb j d a z1 z2
                       show (upd H8 p (.lst ([]++[y8]))) a=H8 a;rw [C4 (E3 ho hH1p)]
                     . show (upd H8 p (.lst ([]++[y8]))) q=_
                       rw [C4 hpq,dq8]; unfold prs; rw [m4]; rfl
                     . rw [m4,FH]
                       refine ⟨nd,by simp,fun a ha b hb=>?_⟩;obtain ⟨r,hr,rfl⟩:=j7.mp ha; have:b=p:=by simpa using hb
                       subst this; exact hne r hr
                     . rcases i7.mp hr with hr | hr
                       . exact HC (rl r hr)
                       . rw [c8.mp hr]; show 1<=n+1; lia
                 . cases eg
       . refine .inl ⟨W.stop n Hc (BI.mp hlt) (Sc.gr.g.trans Sc.sr.sub),?_⟩
         rw [FJ (BI.mp hlt)] at eg; cases eg; have hq':q∉kk.map (·.2.1):=fun z=>by
           obtain ⟨r,hr,e⟩:=j7.mp z; have:=(nl.mem r hr).1; rw [e,dq] at this; cases this
         have Su:=Sc.unbase g01; have sm:=nl.same; have gh:Same (shG (kk.map (·.2.1)) Gc Hc) Hc:=fun b u e=>by
           by_cases m:b∈kk.map (·.2.1)
           . rw [lN m] at e; exact e
           . rw [Jx m] at e; exact Sc.sr.sub _ _ e
         refine a1 τ (shG (kk.map (·.2.1)) Gc Hc) Hc ⟨⟨Su.gr.g.trans sm,Su.gr.h,gh,fun b o e=>?_⟩,⟨gh,?_,fun j s e=>?_,fun j1 j2 a e1' e2' z1 z2 h1 h2=>?_⟩,fun j d a e h=>?_⟩
         . by_cases m:b∈kk.map (·.2.1)
           . obtain ⟨r,hr,rfl⟩:=j7.mp m
             exact .inr (.inl (S1.gr.h.free (nl.mem r hr).2.2))
           . rw [Jx m] at e; exact Su.gr.fr b o e
         . have:=Sc.sr.len
           rw [<- hδv] at this;simpa using this
         . rw [F1] at e
           split at e
           . cases e; trivial
           . rename_i hjt
             rw [F1] at e;split at e
             . rename_i hji
               cases e; rw [<- hji.1,hτ]; exact ⟨q,rfl,by rw [Jx hq']; exact gq,prs kk,dq,nl.keys,nl.vals sm fun r hr=>y4 hr⟩
             . rename_i hji
               have ev:δv[j]? = some s:=by
                 rw [<- hδv,F1,if_neg (by simpa using hjt),F1,if_neg hji]; exact e
               have hs:=Sc.sr.sl j s ev;cases s with
               | un=>trivial
               | sh d=>obtain ⟨v,e1,r1⟩:=hs; exact ⟨v,e1,r1.mono sm⟩
               | fd _=>exact FdOk.mono sm hs
               | ow d =>
                 obtain ⟨a,e1,n1,ok⟩:=hs; have hna:a∉kk.map (·.2.1):=fun z=>by
                   obtain ⟨r,hr,er⟩:=j7.mp z; obtain ⟨_,o,ho⟩:=ap j d a ev e1; have:=(nl.mem r hr).2.2; rw [er,ho] at this; cases this
                 exact ⟨a,e1,by rw [Jx hna]; exact n1,ok.monoG sm⟩
         . have key : ∀ (j : Nat) (d : zS), ((δ.set i (.ow (.tuple [.dict out, .none]))).set t .un)[j]? = some (.ow d) -> j = i \/ δv[j]? = some (.ow d) := fun j d e => by
             rw [F1] at e;split at e
             . cases e
             . rename_i hjt
               rw [F1] at e;split at e
               . rename_i hji; exact .inl hji.1.symm
               . rename_i hji
                 exact .inr (by rw [<- hδv,F1,if_neg (by simpa using hjt),F1,if_neg hji]; exact e)
           rcases key j1 _ z1 with rfl | y1
           . rcases key j2 _ z2 with rfl | y2
             . rfl
             . rw [hτ] at h1; cases h1
               exact absurd rfl (ap j2 _ _ y2 h2).1
           . rcases key j2 _ z2 with rfl | y2
             . rw [hτ] at h2; cases h2
               exact absurd rfl (ap j1 _ _ y1 h1).1
             . exact Sc.sr.ap j1 j2 a _ _ y1 y2 h1 h2
         . rw [F1] at e
           split at e
           . cases e
           . rename_i hjt
             rw [F1] at e;split at e
             . rename_i hji
               rw [<- hji.1,hτ] at h; cases h;exact hq0
             . rename_i hji
               exact Sc.fr j d a (by rw [<- hδv,F1,if_neg (by simpa using hjt),F1,if_neg hji]; exact e) h
     | exc _=>rw [eout] at a1; exact (show False from a1).elim
     | no=>rw [eout] at a1; exact (show False from a1).elim
   . exact (show False from a1).elim
 . exact (show False from aft).elim
end
end Sm
end
noncomputable section
namespace Sm
open PySem PySem.Spec PyProof.Rows PySem.W L2
theorem mU {X:Cx} {pos:Pos}:PE X (.Dict [] [] pos) (fun Z H Q=>∀ q,H q=none->Q (.ref q) (upd H q (.dN []))):=by
 intro pins s Z H Q I h;refine z9 (mT (X:=X) (pos:=pos) pins s Z H (fun v H1=>∃ q,v=.ref q/\H q=none/\H1=upd H q (.dT [])) I fun q hq=>⟨q,rfl,hq,rfl⟩) (fun v s1 hh=>?_) fun _ _ e=>e;obtain ⟨x,H1,I1,rx,q,rfl,hq,rfl⟩:=hh;have hx:(upd H q (.dT [])) q=some (.dT []):=C3;obtain ⟨z,hs,xs,rel,o,es,ep,e1,hex,hdat,hes,hnd⟩:=I1.hok q _ hx;have hxs:xs=[]:=by
   cases rel; rfl
 subst hxs;have hes':es = #[]:=by
   have:es.toList=[]:=hes; exact Array.toList_eq_nil_iff.mp this
 subst hes';obtain ⟨oc,od,odt,osl⟩:=o;obtain ⟨c1,c2,c3⟩:=hex;simp only at c1 c2 c3 hdat;subst c1 c2 c3 hdat;refine ⟨.ref q,upd H q (.dN []),?_,rx,h q hq⟩;have:=I1.write (x:=q) (e:=q) (o:=.dN []) (t':=s1.toks) (h':=s1.heap) (by rw [hx]; exact trivial) (.inl rfl) (fun b u _ w=>w) ⟨_,e1⟩ ⟨BY _,hs,.nil,(fun _ h=>nomatch h),[],.nil,ep,e1⟩;rw [Vs] at this;exact this
noncomputable def Ga (i:Nat):Dn->Out:=fun δ=>.nx (δ.set i (.ow (.tuple [.dict [],.none])))
noncomputable section
variable {P:j5} {w:l9} {K:zX} {mg:Str->Option zV} {base:p9} {X:Cx} {N:List Str} {sc:Scope} {k:Nat} {df:Bool} {E:EK} {pos p p2:Pos} {a:Expr} {x:Str}
theorem Oi (C:Cxt P w K mg base X N sc k df) (i:Nat) (ho:okSet N sc df i x=true) (hs:BX (.Dict [] [] p2) (some (.Name x p)) pos.line X.env=pure false:=by rfl):DS X E (.Assign [.Name x p] (.Dict [] [] p2) pos) (Ga i):=fun G0 H0=>by
 obtain ⟨h1,h2,h3,h4⟩:=okSet.ok C ho;refine PS.imp (Qo h1 h2 h3 mU hs h4) fun D Z H hh q hq=>?_;obtain ⟨G,δ,S,a⟩:=hh;have S1:=S.grow (Grow.own (o:=.dN []) S.sr.sub hq);exact a _ G _ (S1.set_ow (S.gr.h.free hq) (S.sr.sub.free hq) (show OwnK G _ q [.dict [],.none] from ⟨[],C3,rfl,rfl⟩) (Im S hq))
end
def AftN (E:EK) (G H:Hp) (r:Res Kvs) (Q:VK):Prop:=match r with
 | .ok kvs=>∀ p G' H',Grow G H G' H'->H p=none->G' p=none->OwnOk G' H' p (.tuple [.dict kvs,.none])->Q (.ref p) H'
 | .exc c=>∀ G' H',Grow G H G' H'->E c H'
 | .no=>False
def tN (E:EK) (f:Dn->Res Kvs):TE:=fun Z H Q=>∃ G δ,SR G H Z δ/\AftN E G H (f δ) Q
abbrev DN (X:Cx) (E:EK) (e:Expr) (f:Dn->Res Kvs):Prop:=PE X e (tN E f)
def DSN (X:Cx) (E:EK) (sts:List CN) (g:Dn->Res Kvs):Prop:=∀ G0 H0,PSs X sts (fun D Z H=>∃ G δ,SSt G0 H0 G H Z δ/\AftN E G0 H0 (g δ) D.rt)
noncomputable def aI (i:Nat):Dn->Res Kvs:=fun δ=>match δ[i]? with
 | some (.ow (.tuple [.dict kvs,.none]))=>.ok kvs
 | _=>.no
def spN (n:Nat) (m:List zS->Res Kvs):Sp:=fun vs H Q _=>∃ G ds kvs,Same G H/\RepL G ds vs/\ds.length=n/\m ds=.ok kvs/\∀ p G' H',Grow G H G' H'->H p=none->G' p=none->OwnOk G' H' p (.tuple [.dict kvs,.none])->Q (.ref p) H'
structure FnN (P:j5) (w:l9) (K:zX) (mg:Str->Option zV) (base:p9) (x:Str) (k n:Nat) (m:List zS->Res Kvs):Prop where
 ex:∃ f fd ps,ps.length=n/\FnOk P w K mg base CX0 k f fd ps (spN n m)/\mg x=some (.ref f)/\AJ K (.ref f)=true/\Binds K fd ps []
noncomputable def X8 (i:Nat) (f:Dn->Res Kvs):Dn->Out:=fun δ=>M1 (f δ) fun kvs=>.nx (δ.set i (.ow (.tuple [.dict kvs,.none])))
noncomputable section
variable {P:j5} {w:l9} {K:zX} {mg:Str->Option zV} {base:p9} {X:Cx} {N:List Str} {sc:Scope} {k:Nat} {df:Bool} {E:EK} {pos p:Pos} {e:Expr} {es:List Expr} {fs:Dn->Res (List zS)} {fx:Dn->Res Kvs} {x:Str} {st:CN} {sts:List CN} {g1:Dn->Out} {g2:Dn->Res Kvs}
theorem nH (C:Cxt P w K mg base X N sc k df) (i:Nat) (h:okVar N sc i x=true):DSN X E [.Return (some (.Name x p)) pos] (aI i):=fun G0 H0=>by
 refine PSs.imp (Kh (cS (okVar.pe C h))) fun D Z H hh=>?_;obtain ⟨G,δ,S,a⟩:=hh;unfold aI at a;split at a
 . rename_i kvs hi
   obtain ⟨q,hσ,hg,ho⟩:=S.sr.own hi; exact ⟨.ref q,hσ,a q G H S.gr (S.fr i _ q hi (by rw [hσ]; rfl)) hg ho⟩
 . exact (show False from a).elim
theorem Mb (h1:DS X E st g1) (h2:DSN X E sts g2):DSN X E (st::sts) (Ou g1 g2):=fun G0 H0=>by
 refine PSs.imp (aB (h1 G0 H0) (h2 G0 H0)) fun D Z H hh=>?_;obtain ⟨G,δ,S,a⟩:=hh;refine ⟨G,δ,S,?_⟩;unfold Ou at a;cases e:g1 δ with
 | nx δ'=>rw [e] at a; exact fun Z' G' H' S'=>⟨G',δ',S',a⟩
 | exc d=>rw [e] at a; exact a
 | rt d=>rw [e] at a; exact (show False from a).elim
 | bk d=>rw [e] at a; exact (show False from a).elim
 | ct d=>rw [e] at a; exact (show False from a).elim
 | no=>rw [e] at a; exact (show False from a).elim
theorem yU {x:Str} {st:CN} {ps:List Str} {n:Nat} {go:Dn->Res Kvs} {m:List zS->Res Kvs} (F:Def K mg x st ps) (S:FnScope N ps (A4 st)) (hn:ps.length=n)
   (body:∀ X,Cxt P w K mg base X N (A4 st) k true->DSN X E0k (B3 st) go) (hm:m=fnW N go):FnN P w K mg base x (k+1) n m:=by
 obtain ⟨f,fd,F,hmg,hb⟩:=F.ex;refine ⟨f,fd,ps,hn,?_,hmg,F.kp,hb⟩;subst hm;refine F.ok S (fun vs H Q E h=>?_) (fun cdv A outer s H vs Q E hr h=>?_)
 . obtain ⟨G,ds,d,_,r,hl,_⟩:=h
   rw [<- r.length,hl,hn]
 . obtain ⟨G,ds,kvs,hG,r,hl,em,q⟩:=h
   refine ⟨_,body _ ⟨rfl,rfl,rfl,rfl,rfl,rfl,rfl,rfl,hr,fun _ _=>rfl,FR⟩ G H,G,_,Ze hG r N,?_⟩;unfold fnW at em; rw [em]; exact q
theorem Qu {x:Str} {j n:Nat} {m:List zS->Res Kvs} (C:Cxt P w K mg base X N sc k df) (F:FnN P w K mg base x j n m) (hj:j<=k) (h:okGl sc x=true) (ha:DA X E0k (e::es) n fs)
   (he:e8 (e::es) X.env=(false,eval e X.env)::e8 es X.env:=by rfl) (hpl:(AN pos (e8 es X.env)).any (·.1)=false:=by rfl):DN X E0k (.Call (.Name x p) (e::es) [] pos) (Fq fs m):=by
 obtain ⟨f,fd,ps,hps,F,hm,hk,hb⟩:=F.ex;obtain ⟨h1,h2,h3⟩:=okGl.gl C h;have F':FnOk X.prog X.w X.K X.mg X.base CX0 j f fd ps (spN n m):=by rw [C.hP,C.hw,C.hK,C.hmg,C.hb]; exact F
 refine PE.imp (Oj F' (C.room.mono hj) h1 (by rw [C.hmg]; exact hm) (by rw [C.hK]; exact hk) (by rw [C.hK]; exact hb) .nil (eY (X:=X)) ha.pa h2 he hpl) fun Z H Q hh=>?_;obtain ⟨G,δ,S,aft⟩:=hh;have gw:∀ {G H G' H':Hp} {r:Res Kvs},Grow G H G' H'->AftN E0k G H r Q->AftN E0k G' H' r Q:=fun {G H G' H' r} g a=>by
   cases r with
   | ok kvs=>exact fun p G2 H2 g2 hp hp' ho=>a p G2 H2 (g.trans g2) (g.h.free hp) hp' ho
   | exc c=>exact fun G2 H2 g2=>a G2 H2 (g.trans g2)
   | no=>exact a
 refine Ai (W:=fun G H r=>AftN E0k G H r Q) S aft (fun g a=>gw g a) (fun c a=>a) (fun a=>a) fun ds vs G1 H1 e g1 r1 S1 a1=>?_;rw [m8];cases q:m ds with
 | ok d=>rw [q] at a1; exact ⟨G1,ds,d,S1.sub,r1,ha.len δ ds e,q,a1⟩
 | exc c=>rw [q] at a1; exact (a1 G1 H1 (Grow.refl S1.sub)).elim
 | no=>rw [q] at a1; exact a1.elim
theorem Fz (C:Cxt P w K mg base X N sc k df) (i:Nat) (ho:okSet N sc df i x=true) (h:DN X E e fx) (hs:BX e (some (.Name x p)) pos.line X.env=pure false:=by rfl):DS X E (.Assign [.Name x p] e pos) (X8 i fx):=fun G0 H0=>by
 obtain ⟨h1,h2,h3,h4⟩:=okSet.ok C ho;refine PS.imp (Qo h1 h2 h3 h hs h4) fun D Z H hh=>?_;obtain ⟨G,δ,S,a⟩:=hh;refine ⟨G,δ,S.sr,?_⟩;unfold X8 at a;cases q:fx δ with
 | ok kvs =>
   rw [q] at a; intro p G' H' g hp hp' ho; have S1:=S.grow g; exact a _ G' H' (S1.set_ow (S.gr.h.free hp) hp' ho (Im S hp))
 | exc c=>rw [q] at a; exact fun G' H' g=>a G' H' (S.gr.trans g)
 | no=>rw [q] at a; exact a
end
end Sm
end
noncomputable section
namespace Sm
open PySem PySem.Spec PyProof.Rows PySem.W L2
noncomputable def Aa (c:Dn->Res Bool) (body:Dn->Out):Nat->Dn->Out
 | 0,_=>.no
 | n+1,δ=>M1 (c δ) fun b=>if b=true then (match body δ with
   | .nx δ'=>Aa c body n δ'
   | .ct δ'=>Aa c body n δ'
   | .bk δ'=>.nx δ'
   | o=>o) else .nx δ
noncomputable def Qi (c:Dn->Res Bool) (body:Dn->Out):Dn->Out:=Aa c body 4096
noncomputable def bD (i:Nat):Dn->Res Bool:=fun δ=>match δ[i]? with
 | some (.ow (.list ds))=>.ok (!ds.isEmpty)
 | _=>.no
noncomputable def iB (i j:Nat):Dn->Out:=fun δ=>match δ[i]? with
 | some (.ow (.list ds))=>match ds[ds.length - 1]? with
   | some d=>if i≠j then .nx ((δ.set i (.ow (.list ds.dropLast))).set j (.sh d)) else .no
   | none=>.no
 | _=>.no
noncomputable def iD (i:Nat) (f:Dn->Res (List zS)):Dn->Out:=fun δ=>match δ[i]? with
 | some (.ow (.list xs))=>M1 (f δ) fun ds=>if xs.length+ds.length<=100000 then .nx (δ.set i (.ow (.list (xs++ds)))) else .no
 | _=>.no
noncomputable section
variable {P:j5} {w:l9} {K:zX} {mg:Str->Option zV} {base:p9} {X:Cx} {N:List Str} {sc:Scope} {k:Nat} {df:Bool} {E:EK} {pos p py apos cpos:Pos} {ce a:Expr} {sts:List CN} {c:Dn->Res Bool} {g1:Dn->Out} {fs:Dn->Res (List zS)} {x y:Str}
theorem eP (C:Cxt P w K mg base X N sc k df) (hc:DT X E ce c) (hb:DSs X E sts g1):DS X E (.While ce sts [] pos) (Qi c g1):=fun G0 H0=>by
 refine PS.imp (mJ (pos:=pos) C.own hc (hb G0 H0)) fun D Z H hh=>?_;obtain ⟨G,δ,S,a⟩:=hh;refine ⟨fun m Z' H'=>∃ G' δ',SSt G0 H0 G' H' Z' δ'/\Mv E G0 H0 (Aa c g1 m δ') D,⟨4096,G,δ,S,a⟩,fun m Z' H' hw=>?_⟩;obtain ⟨G',δ',S',a'⟩:=hw;cases m with
 | zero=>exact (show False from a').elim
 | succ m =>
   unfold Aa at a'; refine pP S' a' fun b G1 H1 gr S1 a1=>?_;cases b with
   | false =>
     rw [if_neg (by decide)] at a1 ⊢;exact a1 Z' G1 H1 S1
   | true =>
     rw [if_pos rfl] at a1 ⊢;refine ⟨fun Z2 H2=>∃ G' δ',SSt G0 H0 G' H2 Z2 δ'/\Mv E G0 H0 (Aa c g1 m δ') D,fun Z2 H2 z=>⟨m,FY m,z⟩,G1,δ',S1,?_⟩;cases eo:g1 δ' with
     | nx δ2=>rw [eo] at a1; exact fun Z3 G4 H4 S5=>⟨G4,δ2,S5,a1⟩
     | ct δ2=>rw [eo] at a1; exact fun Z3 G4 H4 S5=>⟨G4,δ2,S5,a1⟩
     | bk δ2=>rw [eo] at a1; exact fun Z3 G4 H4 S5=>a1 Z3 G4 H4 S5
     | rt d=>rw [eo] at a1; exact a1
     | exc d=>rw [eo] at a1; exact a1
     | no=>rw [eo] at a1; exact a1
theorem t_own (C:Cxt P w K mg base X N sc k df) (i:Nat) (h:okVar N sc i x=true) (he:∀ whole,isTrue (.Name x p) X.env whole=(do let v <- whole; standAt (Expr.Name x p).pos; holding [v] (truthy v)):=by intro _; rfl):DT X E (.Name x p) (bD i):=by
 refine PT.imp (Zz (okVar.pe C h) he) fun Z H Q hh=>?_;obtain ⟨G,δ,S,a⟩:=hh;unfold bD at a;split at a
 . rename_i ds hi
   obtain ⟨q,hσ,hg,xs,hx,rl⟩:=S.own hi; have he:ds.isEmpty=xs.isEmpty:=by
     have:=rl.length;cases ds <;> cases xs <;> simp at this ⊢
   refine ⟨.ref q,hσ,!xs.isEmpty,.inl ⟨xs,.inl (.inl hx),rfl⟩,?_⟩; rw [<- he]; exact a G H (Grow.refl S.sub)
 . exact (show False from a).elim
theorem s_pop (C:Cxt P w K mg base X N sc k df) (i j:Nat) (h:okVar N sc i x=true) (ho:okSet N sc df j y=true)
   (hbase:DC (.Name x p) "pop" X.env (eval (.Name x p) X.env)=eval (.Name x p) X.env:=by rfl) (hline:(apos.endLine==cpos.line)=true:=by rfl)
   (hs:BX (.Call (.Attribute (.Name x p) "pop" apos) [] [] cpos) (some (.Name y py)) pos.line X.env=pure false:=by rfl) :
   DS X E (.Assign [.Name y py] (.Call (.Attribute (.Name x p) "pop" apos) [] [] cpos) pos) (iB i j):=fun G0 H0=>by
 obtain ⟨h1,h2,h3,h4⟩:=okSet.ok C ho;refine PS.imp (Qo h1 h2 h3 (xK CP PySem.F.slot_list_pop PySem.F.type_list_pop xZ (okVar.pe C h) hbase hline) hs h4) fun D Z H hh=>?_;obtain ⟨G,δ,S,a⟩:=hh;unfold iB at a;split at a
 . rename_i ds hi
   split at a
   . rename_i d hd
     split at a
     . rename_i hij
       obtain ⟨q,hσ,hg,xs,hx,rl⟩:=S.sr.own hi; obtain ⟨v,hv,rv⟩:=rl.get hd; rw [rl.length] at hv; refine ⟨.ref q,hσ,.inl ⟨rfl,xs,.inl (.inl hx)⟩,q,xs,v,rfl,rfl,hx,hv,?_⟩; have S1:=S.write (o:=.lst xs.dropLast) (d':=.list ds.dropLast) hi (by rw [hσ]; rfl) hg ⟨_,C3,rl.dropLast⟩;exact a _ G _ (S1.set_sh rv)
     . exact (show False from a).elim
   . exact (show False from a).elim
 . exact (show False from a).elim
theorem s_ext (C:Cxt P w K mg base X N sc k df) (i:Nat) (h:okVar N sc i x=true) (ha:DF X E a fs)
   (hbase:DC (.Name x p) "extend" X.env (eval (.Name x p) X.env)=eval (.Name x p) X.env:=by rfl)
   (hfew:((AN cpos (e8 [a] X.env)).all (fun x => !x.1)&&(JO cpos (GL [] X.env)).all (fun x=>x.1.isSome)
     && decide ([a].length+([]:List FK).length+(if ([]:List FK).isEmpty then 0 else 1) < 30))=true:=by rfl)
   (hline:(apos.endLine==cpos.line)=true:=by rfl) (hs:e8 [a] X.env=(false,eval a X.env)::e8 [] X.env:=by rfl) (hplain:(AN cpos (e8 [] X.env)).any (·.1)=false:=by rfl)
   (hsw:BX (.Call (.Attribute (.Name x p) "extend" apos) [a] [] cpos) none pos.line X.env=pure false:=by rfl) :
   DS X E (.Expr (.Call (.Attribute (.Name x p) "extend" apos) [a] [] cpos) pos) (iD i fs):=fun G0 H0=>by
 refine PS.imp (Wv (aC CP PySem.F.slot_list_extend PySem.F.type_list_extend iU (okVar.pe C h) (N4 ha X3 hs) hbase hfew hline hs hplain) hsw) fun D Z H hh=>?_;obtain ⟨G,δ,S,aft⟩:=hh;unfold iD at aft;split at aft
 . rename_i ds hi
   obtain ⟨q,hσ,hg,xs,hx,rl⟩:=S.sr.own hi; refine ⟨.ref q,hσ,.inl ⟨rfl,xs,.inl (.inl hx)⟩,?_⟩; refine eC S aft fun es b zs G1 H1 g1 q1 q2 q3 q4 S1 a1=>?_;split at a1
   . rename_i hlen
     have hx1:=g1.h _ _ hx; have hqb:q≠b:=E3 hx q1; have hg1:G1 q=none:=g1.stay hg hx fun ys z=>by cases z
     have l1:=rl.length; have l2:=q4.length; refine ⟨q,b,xs,zs,rfl,rfl,hx1,q3,i6 (by lia) (show 100000<=sizeLine by decide),?_⟩;exact a1 Z G1 _ (S1.write (o:=.lst (xs++zs)) (d':=.list (ds++es)) hi (by rw [hσ]; rfl) hg1 ⟨_,C3,(rl.mono g1.g).append q4⟩)
   . exact (show False from a1).elim
 . exact (show False from aft).elim
end
end Sm
end
noncomputable section
namespace Sm
open PySem PySem.Spec PyProof.Rows PySem.W L2
noncomputable section
variable {X:Cx} {pins:List (c6×Obj)} {Z:St} {H:Hp} {s:zW} {a:c6} {A:u5} {E:zV->zW->Prop}
theorem n_at {kvs:List (zS×V)} {xs:List (zV×zV)} {kd:zS} {w:l9} {i:Nat} {e:u8} (rel:z6 (PrN H) kvs xs) (hk:nkD kd=true) (nk:∀ p∈kvs,nkD p.1=true) (nd:(kvs.map (·.1)).Nodup) (hi:(kvs.map (·.1))[i]? = some kd) (he:(T5 w kvs xs)[i]? = some e) :
   ∃ v,kvs[i]? = some (kd,v)/\N9 kvs kd=some v/\RelV v e.val:=by
 obtain ⟨p,q,h1,h2,⟨_,h5⟩,rfl⟩:=Om rel he;rw [j8,h1] at hi;have hp:p=(kd,p.2):=by
   have:p.1=kd:=by simpa using hi
   rw [<- this]
 rw [hp] at h1;exact ⟨p.2,h1,Gi hk nk nd h1,h5⟩
theorem xW {kvs:List (zS×V)} {kd:zS} {y v:V} {u:zV} {Q:zV->zW->Prop} (hu:A.units+16 < BD) (I:Inv X pins Z H s) (e:Rd H a (.dN kvs)) (rk:KRep H kd y) (hk:nkD kd=true) (ry:RelV y u) (hv:N9 kvs kd=some v)
   (h:∀ w' s',Inv X pins Z H s'->RelV v w'->Q w' s'):wpAny (i9 X.prog X.w) A (GU (.ref a) u) Q E s:=by
 obtain ⟨z,hd,nd,nk,xs,rel,ep,e1⟩:=e.ok I.hok;have hT:s.TypeIs (.ref a) "dict" := ⟨_,e1,rfl⟩;have hm:kd∈kvs.map (·.1):=EA fun z=>by rw [Kr hk nk z] at hv; cases hv
 unfold GU;try with_reducible refine s0 ?_
 refine zT (HN hT (by decide) ?_);refine zT (t8 (name:=BH "__getitem__") hT F.slot_dict_getitem ?_);refine LI F.slot_dict_getitem hT F.entry_dict_getitem (F.args_dict_getitem_2 _ _) (aL a u) ⟨_,_,ep,kvs.map (·.1),kd,hu,e1,rfl,Rc I rel nk nd,Ma I rk ry hk,hm,fun i e tk hi he=>?_⟩;obtain ⟨v',_,h2,h3⟩:=n_at rel hk nk nd hi (by simpa using he);rw [hv] at h2; cases h2;exact zU (h _ _ (I.tok _) h3)
theorem n_has {kvs:List (zS×V)} {kd:zS} (hk:nkD kd=true) (nk:∀ p∈kvs,nkD p.1=true) (nd:(kvs.map (·.1)).Nodup) (hm:kd∈kvs.map (·.1)):(N9 kvs kd).isSome=true:=by
 obtain ⟨⟨k',v⟩,hp,rfl⟩:=j7.mp hm;obtain ⟨i,hi⟩:=IB.mp hp;rw [Gi hk nk nd hi]; rfl
theorem Qt {kvs:List (zS×V)} {kd:zS} {y:V} {u:zV} {Q:Bool->zW->Prop} (hu:A.units+16 < BD) (I:Inv X pins Z H s) (e:Rd H a (.dN kvs)) (rk:KRep H kd y) (hk:nkD kd=true) (ry:RelV y u)
   (h:∀ s',Inv X pins Z H s'->Q (N9 kvs kd).isSome s'):wpAny (i9 X.prog X.w) A (contains (.ref a) u) Q E s:=by
 obtain ⟨z,hd,nd,nk,xs,rel,ep,e1⟩:=e.ok I.hok;have hT:s.TypeIs (.ref a) "dict" := ⟨_,e1,rfl⟩;unfold contains;try with_reducible refine s0 ?_
 refine zT (CG hT F.slot_dict_contains.lookup ?_);show wpAny _ _ (if (some (Value.builtin "dict.__contains__")==some AL)=true then _ else _) _ _ s;rw [if_neg (by rw [LX]; exact AW)];refine zT (wpAny_callSpecialUnlessNone?_slot (name:=BH "__contains__") hT F.slot_dict_contains ?_);refine LI F.slot_dict_contains hT F.entry_dict_contains (F.args_dict_contains_2 _ _) (iX a u hd) ⟨_,_,ep,kvs.map (·.1),kd,hu,e1,rfl,Rc I rel nk nd,Ma I rk ry hk,fun tk hm=>?_,fun tk hn=>?_⟩
 . have:=h _ (I.tok tk)
   rw [n_has hk nk nd hm] at this; exact z8 this
 . have:=h _ (I.tok tk)
   rw [Kr hk nk hn] at this; exact z8 this
end
def tNIx (td ty:TE):TE:=fun Z H Q=>td Z H fun x H1=>ty Z H1 fun y H2=>∃ a kvs kd v,x=.ref a/\Rd H2 a (.dN kvs)/\KRep H2 kd y/\nkD kd=true/\N9 kvs kd=some v/\Q v H2
def wF (b:Bool) (ty td:TE):TE:=fun Z H Q=>ty Z H fun y H1=>td Z H1 fun x H2=>∃ a kvs kd,x=.ref a/\Rd H2 a (.dN kvs)/\KRep H2 kd y/\nkD kd=true/\Q (.bl ((N9 kvs kd).isSome != b)) H2
noncomputable section
variable {X:Cx} {o i:Expr} {pos:Pos} {td ty:TE}
theorem xI (hu:X.A.units+16 < BD) (ho:PE X o td) (hi:PE X i ty) (hs:zR i):PE X (.Subscript o i pos) (tNIx td ty):=by
 intro pins s Z H Q I h;refine qM PySem.F.slot_dict_getitem.lookup hs (thn (ho pins s Z H _ I h) fun u s1 hY84=>?_);obtain ⟨x,H1,I1,rx,q1⟩:=hY84;refine thn (hi pins s1 Z H1 _ I1 q1) fun iv s2 hZ2=>?_;obtain ⟨y,H2,I2,ry,a,kvs,kd,v,ex,g,rk,hk,hv,q2⟩:=hZ2;subst ex;obtain rfl:u=u9 a:=rx;obtain ⟨_,_,_,_,_,_,ep,e1⟩:=g.ok I2.hok;exact ⟨⟨_,e1,rfl⟩,xW hu I2 g rk hk ry hv fun w' s3 I3 rw'=>⟨v,H2,I3,rw',q2⟩⟩
theorem xM (hu:X.A.units+16 < BD) (hi:PE X i ty) (ho:PE X o td):PC X .In i o (wF false ty td):=by
 intro pins s Z H Q I h;refine thn (hi pins s Z H _ I h) fun iv s1 hY85=>?_;obtain ⟨y,H1,I1,ry,q1⟩:=hY85;refine thn (ho pins s1 Z H1 _ I1 q1) fun u s2 hZ2=>?_;obtain ⟨x,H2,I2,rx,a,kvs,kd,ex,g,rk,hk,q2⟩:=hZ2;subst ex;obtain rfl:u=u9 a:=rx;show wpAny _ _ (do return FQ (<- contains (u9 a) iv)) _ _ s2;rw [Bool.bne_false] at q2;exact zT (Qt hu I2 g rk hk ry fun s3 I3=>zU ⟨.bl (N9 kvs kd).isSome,H2,I3,rfl,q2⟩)
theorem Um (hu:X.A.units+16 < BD) (hi:PE X i ty) (ho:PE X o td):PC X .NotIn i o (wF true ty td):=by
 intro pins s Z H Q I h;refine thn (hi pins s Z H _ I h) fun iv s1 hY86=>?_;obtain ⟨y,H1,I1,ry,q1⟩:=hY86;refine thn (ho pins s1 Z H1 _ I1 q1) fun u s2 hZ2=>?_;obtain ⟨x,H2,I2,rx,a,kvs,kd,ex,g,rk,hk,q2⟩:=hZ2;subst ex;obtain rfl:u=u9 a:=rx;show wpAny _ _ (do return FQ (!(<- contains (u9 a) iv))) _ _ s2;rw [Bool.bne_true] at q2;exact zT (Qt hu I2 g rk hk ry fun s3 I3=>zU ⟨.bl (!(N9 kvs kd).isSome),H2,I3,rfl,q2⟩)
end
noncomputable def Ec (i:Nat) (f:Dn->Res zS):Dn->Res zS:=fun δ=>match kvN δ i with
 | some kvs=>(f δ).bind fun kd=>if nkD kd=true then ofO (Q8 kvs kd) else .no
 | none=>.no
noncomputable def Q6 (b:Bool) (i:Nat) (f:Dn->Res zS):Dn->Res zS:=fun δ=>(f δ).bind fun kd=>match kvN δ i with
 | some kvs=>if nkD kd=true then .ok (.bool ((Q8 kvs kd).isSome != b)) else .no
 | none=>.no
noncomputable section
variable {P:j5} {w:l9} {K:zX} {mg:Str->Option zV} {base:p9} {X:Cx} {N:List Str} {sc:Scope} {k:Nat} {df:Bool} {E:EK} {p pos:Pos} {a b:Expr} {f g:Dn->Res zS} {x:Str}
theorem aW (C:Cxt P w K mg base X N sc k df) (i:Nat) (h:okVar N sc i x=true) (hk:DE X E a f) (hs:zR a:=by exact fun _ _=>rfl):DE X E (.Subscript (.Name x p) a pos) (Ec i f):=by
 refine PE.imp (xI (by have:=C.hu; lia) (okVar.pe C h) hk hs) fun Z H Q hY87=>?_;obtain ⟨G,δ,S,aft⟩:=hY87;unfold Ec at aft;split at aft
 . rename_i kvs hi
   obtain ⟨q,kk,hσ,hx,hkeys,hvals⟩:=S.kvN hi; refine ⟨.ref q,hσ,?_⟩; refine I0 S aft fun kd v G1 H1 g1 r1 S1 a1=>?_;split at a1
   . rename_i hn
     rcases Kq (k:=kd) hkeys hvals with ⟨n1,n2⟩ | ⟨d0,v0,n1,n2,rd⟩
     . rw [n1] at a1; exact a1.elim
     . rw [n1] at a1
       exact ⟨q,kk,kd,v0,rfl,Rd.mono g1.h hx,Lu S1.sub hn r1,hn,n2,a1 _ G1 H1 (Grow.refl S1.sub) (rd.mono g1.g)⟩
   . exact a1.elim
 . exact aft.elim
theorem Xh {t:Bool} {i:Nat} {Z:St} {H:Hp} {Q:VK} (h:tD E (Q6 t i f) Z H Q):wF t (tD E f) (qK i) Z H Q:=by
 obtain ⟨G,δ,S,aft⟩:=h;refine I0 S aft fun kd v G1 H1 g1 r1 S1 a1=>?_;split at a1
 . rename_i kvs hi
   split at a1
   . rename_i hn
     obtain ⟨q,kk,hσ,hx,hkeys,hvals⟩:=S1.kvN hi; refine ⟨.ref q,hσ,q,kk,kd,rfl,hx,Lu S1.sub hn r1,hn,?_⟩; have:(N9 kk kd).isSome=(Q8 kvs kd).isSome:=by
       rcases Kq (k:=kd) hkeys hvals with ⟨n1,n2⟩ | ⟨d0,v0,n1,n2,_⟩ <;> rw [n1,n2] <;> rfl
     rw [this]; exact a1 _ G1 H1 (Grow.refl S1.sub) rfl
   . exact a1.elim
 . exact a1.elim
theorem nZ {t:Bool} {i:Nat} {δ:Dn} {d:zS} (e:Q6 t i f δ=.ok d):∃ b,d=.bool b:=by
 unfold Q6 Res.bind at e;split at e
 . split at e
   . dsimp only at e
     split at e
     . cases e; exact ⟨_,rfl⟩
     . cases e
   . cases e
 . cases e
 . cases e
theorem pF {t:Bool} {i:Nat} {G H:Hp} {δ:Dn} {Q:Bool->Hp->Prop} (aft:AftT E G H (C1 (Q6 t i f) δ) Q):Aft E G H (Q6 t i f δ) (fun v H'=>∃ b,v=.bl b/\Q b H'):=by
 unfold C1 at aft;cases e:Q6 t i f δ with
 | ok d =>
   obtain ⟨b,rfl⟩:=nZ e; rw [e] at aft; intro v G' H' g r; exact ⟨b,r,aft G' H' g⟩
 | exc c=>rw [e] at aft; exact aft
 | no=>rw [e] at aft; exact aft
theorem d_inN (C:Cxt P w K mg base X N sc k df) (i:Nat) (h:okVar N sc i x=true) (hk:DE X E a f) (hm:behindInMarks .In (.Name x p)=false:=by with_unfolding_all rfl):DE X E (.Compare a [.In] [.Name x p] pos) (Q6 false i f) :=
 PE.imp (cX (xM (by have:=C.hu; lia) hk (okVar.pe C h)) hm) fun _ _ _ h=>Xh h
theorem Rj (C:Cxt P w K mg base X N sc k df) (i:Nat) (h:okVar N sc i x=true) (hk:DE X E a f) (hm:behindInMarks .NotIn (.Name x p)=false:=by with_unfolding_all rfl):DE X E (.Compare a [.NotIn] [.Name x p] pos) (Q6 true i f) :=
 PE.imp (cX (Um (by have:=C.hu; lia) hk (okVar.pe C h)) hm) fun _ _ _ h=>Xh h
theorem Jh (C:Cxt P w K mg base X N sc k df) (i:Nat) (h:okVar N sc i x=true) (hk:DE X E a f) (hm:behindInMarks .NotIn (.Name x p)=false:=by with_unfolding_all rfl):DT X E (.Compare a [.NotIn] [.Name x p] pos) (C1 (Q6 true i f)):=by
 refine PT.imp (mI (Um (by have:=C.hu; lia) hk (okVar.pe C h)) hm) fun Z H Q hY89=>?_;obtain ⟨G,δ,S,aft⟩:=hY89;refine Xh ⟨G,δ,S,?_⟩;exact pF aft
end
end Sm
end
noncomputable section
namespace Sm
open PySem PySem.Spec PyProof.Rows PySem.W L2
noncomputable def V0 {α:Type}:List (zS×α)->zS->α->List (zS×α)
 | [],k,v=>[(k,v)]
 | p::r,k,v=>if g9 p.1 k=true then (p.1,v)::r else p::V0 r k v
theorem Gd {α:Type} {k:zS} {v:α}:∀ (l:List (zS×α)),(V0 l k v).length<=l.length+1:=by
 intro iN; induction iN with
 | nil=>skip; exact f8 _
 | cons p r ih =>
   skip
   unfold V0;split
   . simp
   . simp only [i0]; exact Nat.succ_le_succ (ih)
theorem rP {k:zS} {v:V} (hk:nkD k=true):∀ {kk:List (zS×V)} {i:Nat} {v0:V},(∀ p∈kk,nkD p.1=true)->(kk.map (·.1)).Nodup->kk[i]? = some (k,v0)->V0 kk k v=kk.modify i fun p=>(p.1,v):=by
 intro iN; induction iN with
 | nil=>intro _ _ _ _ h; simp at h
 | cons p kk ih =>
   intro i v0 hn nd h; unfold V0; have hp:=Mg (T0 (hn p (.head _))).1 (T0 hk).1;cases i with
   | zero =>
     simp at h;subst h; rw [if_pos (hp.mpr rfl)]; rfl
   | succ i =>
     rw [c7,AU] at nd; have hm:(k,v0)∈kk:=AY (by simpa using h);rw [if_neg (fun z=>nd.1 (by rw [hp.mp z]; exact y4 hm)),ih (fun q hq=>hn q (.tail _ hq)) nd.2 (by simpa using h)];rfl
theorem rO {k:zS} {v:V} (hk:nkD k=true):∀ {kk:List (zS×V)},(∀ p∈kk,nkD p.1=true)->k∉kk.map (·.1)->V0 kk k v=kk++[(k,v)]:=by
 intro iN; induction iN with
 | nil=>intro _ _; exact rfl
 | cons p kk ih =>
   intro hn h; unfold V0; rw [c7,a9,not_or] at h; rw [if_neg (fun z=>h.1 ((Mg (T0 (hn p (.head _))).1 (T0 hk).1).mp z).symm),ih (fun q hq=>hn q (.tail _ hq)) h.2];rfl
theorem Qm {G:Hp} {k d:zS} {v:V} (r:Rep G d v):∀ {kvs:Kvs} {kk:List (zS×V)},kvs.map (·.1)=kk.map (·.1)->RepL G (kvs.map (·.2)) (kk.map (·.2))->(V0 kvs k d).map (·.1)=(V0 kk k v).map (·.1)/\RepL G ((V0 kvs k d).map (·.2)) ((V0 kk k v).map (·.2))
 | [],[],_,_=>⟨rfl,RepL.cons r rfl⟩
 | [],_::_,e,_=>by cases e
 | _::_,[],e,_=>by cases e
 | p::kvs,q::kk,e,l=>by
   simp only [c7,BC] at e; obtain ⟨x,t,ex,rx,l⟩:=l; simp only [c7,BC] at ex; unfold V0; rw [e.1];split
   . exact ⟨by simp only [c7]; rw [e.2],RepL.cons r (by rw [ex.2]; exact l)⟩
   . obtain ⟨h1,h2⟩:=Qm (k:=k) r e.2 (by rw [ex.2]; exact l)
     exact ⟨by simp only [c7]; rw [e.1,h1],RepL.cons (show Rep G p.2 q.2 by rw [ex.1]; exact rx) h2⟩
theorem aS {w:l9} {v:V} {r:zV}:∀ (kk:List (zS×V)) (xs:List (zV×zV)) (i:Nat),(T5 w kk xs).modify i (fun e=>{ e with val:=r })=T5 w (kk.modify i fun p=>(p.1,v)) (xs.modify i fun q=>(q.1,r))
 | [],xs,i=>by cases i <;> simp [T5]
 | _::_,[],i=>by cases i <;> simp [T5]
 | p::kk,q::xs,0=>rfl
 | p::kk,q::xs,i+1=>by
   have:=aS (w:=w) (v:=v) (r:=r) kk xs i; simp only [T5,List.zipWith_cons_cons,List.modify_succ_cons] at this ⊢;rw [this]
theorem Qq {α β:Type} {F:α->β->Prop} {f:α->α} {g:β->β} (h:∀ a b,F a b->F (f a) (g b)):∀ {l₁:List α} {l₂:List β} (i:Nat),z6 F l₁ l₂->z6 F (l₁.modify i f) (l₂.modify i g)
 | _,_,i,.nil=>by cases i <;> exact .nil
 | _,_,0,.cons r t=>.cons (h _ _ r) t
 | _,_,i+1,.cons r t=>.cons r (Qq h i t)
noncomputable section
variable {prog:j5} {w:l9} {A:u5} {E:zV->zW->Prop} {s:zW}
theorem jT {d:c6} {key v:zV} {L:List u8} {ep:Nat} {ks:List zS} {k:zS} {Q:Unit->zW->Prop} (hu:A.units+8 < BD) (ho:s.heap.get? d=some { cls:=.type "dict",data:=.dict (MP L) ep }) (hz:L.length<=sizeLine) (N:EsN w s.heap L.toArray ks) (x:NAt s.heap key k)
   (h1:∀ (i:Nat) (h':p9) (tk:Nat),ks[i]? = some k->(∀ b o,b≠d->s.heap.get? b=some o->h'.get? b=some o)->h'.get? d=some { cls:=.type "dict",data:=.dict (L.modify i fun e=>{ e with val:=v }).toArray ep }->Q () { s with heap:=h',toks:=tk })
   (h0:∀ (h':p9) (tk:Nat),k∉ks->(∀ b o,b≠d->s.heap.get? b=some o->h'.get? b=some o)->h'.get? d=some { cls:=.type "dict",data:=.dict (L++[DictEntry.mk (W7 w k) key v]).toArray (ep+1) }->Q () { s with heap:=h',toks:=tk }) :
   wpAny (i9 prog w) A (dictSet d key v) Q E s:=by
 unfold dictSet;try with_reducible refine s0 ?_
 refine zT (x.hash hu fun tk=>?_);unfold dictSetHashed;try with_reducible refine s0 ?_
 refine zT (dH (s:={ s with toks:=tk }) hu ho rfl N x (fun i hi=>?_) fun hn=>?_)
 . refine zT (AI (zT (wpAny_updateDict (s:={ s with toks:=tk }) ho rfl (wpAny_point (h1 i _ tk hi (fun b o hb e=>?_) ?_)))))
   . exact (IY _ _ _ _ hb).trans e
   . have:=y3 (Obj.mapDict fun x=>x.modify i fun e=>{ e with val:=v }) ho (JB (Obj.data_mapDict rfl _))
     rw [this]; simp [Obj.mapDict]
 . refine zT (AI (wpAny_updateDictKeys (hz:=by simpa using hz) (s:={ s with toks:=tk }) ho rfl (h0 _ tk hn (fun b o hb e=>?_) ?_)))
   . exact (IY _ _ _ _ hb).trans e
   . have:=y3 (HZ fun x=>x.push ⟨W7 w k,key,v⟩) ho (JB (Obj.data_mapDictKeys rfl _))
     rw [this]; simp [HZ]
end
noncomputable section
variable {X:Cx} {pins:List (c6×Obj)} {Z:St} {H:Hp} {s:zW} {a:c6} {A:u5} {E:zV->zW->Prop}
theorem Uo {kvs:List (zS×V)} {kd:zS} {y d:V} {u r:zV} {Q:Unit->zW->Prop} (hu:A.units+8 < BD) (I:Inv X pins Z H s) (e:H a=some (.dN kvs)) (rk:KRep H kd y) (hk:nkD kd=true) (hz:kvs.length < sizeLine) (ry:RelV y u) (rd:RelV d r)
   (h:∀ s',Inv X pins Z (upd H a (.dN (V0 kvs kd d))) s'->(∀ b o,b≠a->s.heap.get? b=some o->s'.heap.get? b=some o)->Q () s'):wpAny (i9 X.prog X.w) A (dictSet a u r) Q E s:=by
 obtain ⟨z,hd,nd,nk,xs,rel,ep,e1⟩:=I.hok a _ e;have hl:=Paired.len' rel;have hlen:(T5 X.w kvs xs).length<=sizeLine:=by
   unfold T5; rw [List.length_zipWith]; lia
 have ht:∀ b ys,H b=some (.tup ys)->(upd H a (.dN (V0 kvs kd d))) b=some (.tup ys):=fun b ys z=>by
   rw [C4 (Qs z e (fun z=>by cases z))]; exact z
 refine jT (ep:=ep) (ks:=kvs.map (·.1)) (k:=kd) hu e1 hlen (Rc I rel nk nd) (Ma I rk ry hk) (fun i h' tk hi hkeep hnew=>?_) (fun h' tk hn hkeep hnew=>?_)
 . refine h _ ?_ hkeep
   have hlt:i < kvs.length:=by have:=(j6.mp hi).1; simpa using this
   have hp:kvs[i]? = some (kd,kvs[i].2):=by
     rw [l0 hlt]; have h2:=hi; rw [j8,l0 hlt] at h2; have:kvs[i].1=kd:=by simpa using h2
     rw [<- this]
   have ep':=rP (v:=d) hk nk nd hp; refine I.write (x:=a) (e:=a) (t':=tk) (by rw [e]; exact trivial) (.inl rfl) (fun b o hb q=>hkeep b o hb q) ⟨_,hnew⟩ ?_;have hkeys:(V0 kvs kd d).map (·.1)=kvs.map (·.1):=by
     rw [ep']; apply FI;intro j; rw [j8,j8,List.getElem?_modify];by_cases c:i=j
     . simp only [c,if_pos]; cases kvs[j]? <;> rfl
     . simp only [c,if_neg,if_false]; cases kvs[j]? <;> rfl
   refine ⟨i6 (Gd kvs) hz,hd,by rw [hkeys]; exact nd,fun p hp=>?_,xs.modify i (fun q=>(q.1,r)),?_,ep,?_⟩
   . have:p.1∈kvs.map (·.1):=by rw [<- hkeys]; exact y4 hp
     obtain ⟨p',m,em⟩:=j7.mp this; rw [<- em]; exact nk p' m
   . rw [ep']
     exact Paired.mapP (Qq (fun p q hZ2=>by obtain ⟨⟨v,z1,z2⟩,_⟩:=hZ2; exact ⟨⟨v,z1,z2⟩,rd⟩) i rel) fun p q hZ2=>by obtain ⟨⟨v,z1,z2⟩,z3⟩:=hZ2; exact ⟨⟨v,z1.mono (ep'▸ht),z2⟩,z3⟩
   . rw [ep',<- aS]; exact hnew
 . refine h _ ?_ hkeep
   have ep':=rO (v:=d) hk nk hn; refine I.write (x:=a) (e:=a) (t':=tk) (by rw [e]; exact trivial) (.inl rfl) (fun b o hb q=>hkeep b o hb q) ⟨_,hnew⟩ ⟨i6 (Gd kvs) hz,hd,?_,?_,xs++[(u,r)],?_,ep+1,?_⟩
   . rw [ep',m4,FH]
     refine ⟨nd,by simp,fun x hx y hy=>?_⟩;have:y=kd:=by simpa using hy
     subst this; exact fun z=>hn (z▸hx)
   . rw [ep']
     intro p hp; rcases i7.mp hp with hp | hp
     . exact nk p hp
     . rw [c8.mp hp]; exact hk
   . have:=Paired.app' (F:=PrN (upd H a (.dN (V0 kvs kd d)))) (a:=(kd,d)) (b:=(u,r)) ⟨⟨y,rk.mono ht,ry⟩,rd⟩ (Paired.mapP rel fun p q hZ2=>by obtain ⟨⟨v,z1,z2⟩,z3⟩:=hZ2; exact ⟨⟨v,z1.mono ht,z2⟩,z3⟩)
     rw [<- ep'] at this; exact this
   . rw [ep',aT hl]; exact hnew
theorem n_put {kvs:List (zS×V)} {kd:zS} {y d:V} {u r:zV} {Q:Unit->zW->Prop} (hu:A.units+16 < BD) (I:Inv X pins Z H s) (e:H a=some (.dN kvs)) (rk:KRep H kd y) (hk:nkD kd=true) (hz:kvs.length < sizeLine) (ry:RelV y u) (rd:RelV d r)
   (h:∀ s',Inv X pins Z (upd H a (.dN (V0 kvs kd d))) s'->Q () s'):wpAny (i9 X.prog X.w) A (setItem (.ref a) u r) Q E s:=by
 obtain ⟨z,hd,nd,nk,xs,rel,ep,e1⟩:=I.hok a _ e;have hT:s.TypeIs (.ref a) "dict" := ⟨_,e1,rfl⟩;unfold setItem;try with_reducible refine s0 ?_
 refine zT (HN hT (by decide) ?_);refine zT (t8 (name:=BH "__setitem__") hT F.slot_dict_setitem ?_);refine p0 F.slot_dict_setitem hT F.entry_dict_setitem ?_ (F.args_dict_setitem_3 _ _ _);show wpAny _ _ (Builtin.Dict.notOrdered "__setitem__" ⟨[.ref a,u,r],[]⟩>>=_) _ _ s;refine zT (GE hT ?_);show wpAny _ _ (dictSet a u r>>=_) _ _ s;exact zT (Uo (hu8 hu) I e rk hk hz ry rd fun s' I' _=>zU ⟨.none,rfl,zU (h s' I')⟩)
end
def sNPut (td ty tv:TE):TS:=fun D Z H=>tv Z H fun v H1=>td Z H1 fun x H2=>ty Z H2 fun y H3=>∃ a kvs kd,x=.ref a/\H3 a=some (.dN kvs)/\KRep H3 kd y/\nkD kd=true/\kvs.length < sizeLine/\D.nx Z (upd H3 a (.dN (V0 kvs kd v)))
theorem rT {X:Cx} {o i value:Expr} {pos pos':Pos} {td ty tv:TE} (hu:X.A.units+16 < BD) (ho:PE X o td) (hi:PE X i ty) (hv:PE X value tv) (hs:BX value (some (.Subscript o i pos')) pos.line X.env=pure false) :
   PS X (.Assign [.Subscript o i pos'] value pos) (sNPut td ty tv):=by
 intro pins s Z H D I h;refine wpAny_Assign_Subscript (thn (hv pins s Z H _ I h) fun r s1 hY90=>?_) hs;obtain ⟨v,H1,I1,rv,q1⟩:=hY90;refine thn (ho pins s1 Z H1 _ I1 q1) fun u s2 hY91=>?_;obtain ⟨x,H2,I2,rx,q2⟩:=hY91;refine thn (hi pins s2 Z H2 _ I2 q2) fun iv s3 hY92=>?_;obtain ⟨y,H3,I3,ry,a,kvs,kd,ex,g,rk,hk,hz,q3⟩:=hY92;subst ex;obtain rfl:u=u9 a:=rx;exact n_put hu I3 g rk hk hz ry rv fun s4 I4=>⟨Z,_,I4,q3⟩
noncomputable def Kb (i:Nat) (fk fv:Dn->Res zS):Dn->Out:=fun δ=>match δ[i]? with
 | some (.ow (.tuple [.dict kvs,.none]))=>M1 (fv δ) fun v=>M1 (fk δ) fun kd=>if nkD kd=true/\kvs.length < 100000 then .nx (δ.set i (.ow (.tuple [.dict (V0 kvs kd v),.none]))) else .no
 | _=>.no
noncomputable section
variable {P:j5} {w:l9} {K:zX} {mg:Str->Option zV} {base:p9} {X:Cx} {N:List Str} {sc:Scope} {k:Nat} {df:Bool} {E:EK} {p p2 pos:Pos} {a b:Expr} {f g:Dn->Res zS} {x:Str}
theorem lV (C:Cxt P w K mg base X N sc k df) (i:Nat) (h:okVar N sc i x=true) (hk:DE X E a f) (hv:DE X E b g) (hs:BX b (some (.Subscript (.Name x p) a p2)) pos.line X.env=pure false:=by rfl):DS X E (.Assign [.Subscript (.Name x p) a p2] b pos) (Kb i f g):=fun G0 H0=>by
 refine PS.imp (rT (by have:=C.hu; lia) (okVar.pe C h) hk hv hs) fun D Z H hY93=>?_;obtain ⟨G,δ,S,aft⟩:=hY93;unfold Kb at aft;split at aft
 . rename_i kvs hi
   refine Iz S aft fun v x1 G1 H1 g1 r1 S1 a1=>?_;obtain ⟨q,hσ,hg,ho⟩:=S1.sr.own hi; refine ⟨.ref q,hσ,?_⟩; refine Iz S1 a1 fun kd x2 G2 H2 g2 r2 S2 a2=>?_;obtain ⟨q',hσ',hg',ho'⟩:=S2.sr.own hi; rw [hσ] at hσ'; cases hσ'; obtain ⟨kk,hx,hkeys,hvals⟩:=(show OwnK G2 H2 q [.dict kvs,.none] from ho');split at a2
   . rename_i hc
     have hl:kk.length=kvs.length:=by
       have:=congrArg IK hkeys;simpa using this.symm
     have hlen:kk.length < sizeLine:=by
       rw [hl]; exact m3 hc.2 (by decide)
     refine ⟨q,kk,kd,rfl,hx,Lu S2.sr.sub hc.1 r2,hc.1,hlen,?_⟩; obtain ⟨p1,p2⟩:=Qm (k:=kd) (r1.mono g2.g) hkeys hvals; exact a2 Z G2 _ (S2.write hi (by rw [hσ]; rfl) hg' (show OwnK G2 _ q [.dict _,.none] from ⟨_,C3,p1,p2⟩))
   . exact (show False from a2).elim
 . exact (show False from aft).elim
end
noncomputable def fzN (i:Nat) (δ:Dn):Dn:=match δ[i]? with
 | some (.ow (.tuple [.dict kvs,.none]))=>δ.set i (.fd ((.dict [],.none)::kvs))
 | _=>δ
theorem SSt.fzN {G0 H0 G H:Hp} {Z:St} {δ:Dn} (S:SSt G0 H0 G H Z δ) (i:Nat):∃ G',SSt G0 H0 G' H Z (fzN i δ):=by
 unfold Sm.fzN;split
 . rename_i kvs hi
   obtain ⟨p,hp,hg,ho⟩:=S.sr.sl i _ hi; obtain ⟨kk,hx,hk,r⟩:=(show OwnK G H p [.dict kvs,.none] from ho);have h0:=S.fr i _ p hi hp; have sm:Same G (upd G p (.dN kk)):=Same.upd hg; have gh:Same (upd G p (.dN kk)) H:=fun b u e=>by
     by_cases hb:b=p
     . subst hb; rw [C3] at e; cases e; exact hx
     . rw [C4 hb] at e; exact S.sr.sub _ _ e
   have gr:Grow G0 H0 (upd G p (.dN kk)) H:=⟨S.gr.g.trans sm,S.gr.h,gh,fun b u e=>by
     by_cases hb:b=p
     . subst hb; exact .inr (.inl h0)
     . rw [C4 hb] at e; exact S.gr.fr b u e⟩
   have hil:i < δ.length:=(j6.mp hi).1; have key:∀ (j:Nat) (d':zS),(δ.set i (.fd ((.dict [],.none)::kvs)))[j]? = some (.ow d')->δ[j]? = some (.ow d')/\j≠i:=fun j d' e=>by
     rw [F1] at e;split at e
     . cases e
     . rename_i hn
       exact ⟨e,fun z=>by subst z; exact hn ⟨rfl,hil⟩⟩
   refine ⟨_,gr,⟨gh,by simp [S.sr.len],fun j s e=>?_,fun j1 j2 a d1 d2 e1 e2 h1 h2=>S.sr.ap j1 j2 a d1 d2 (key j1 d1 e1).1 (key j2 d2 e2).1 h1 h2⟩,fun j d' a e h=>S.fr j d' a (key j d' e).1 h⟩;by_cases hj:i=j/\i < δ.length
   . rw [F1,if_pos hj] at e
     cases e; rw [<- hj.1]; exact ⟨p,kk,hp,.inl C3,hk,r.mono sm⟩
   . have e2:=e
     rw [F1,if_neg hj] at e2; have hs:=S.sr.sl j s e2;cases s with
     | un=>trivial
     | sh d=>obtain ⟨v,e1,r1⟩:=hs; exact ⟨v,e1,r1.mono sm⟩
     | fd _=>exact FdOk.mono sm hs
     | ow d2 =>
       obtain ⟨a,e1,n1,ok⟩:=hs; have hne:a≠p:=by
         rintro rfl;exact (key j d2 e).2 (S.sr.ap j i a d2 _ e2 hi e1 hp)
       exact ⟨a,e1,by rw [C4 hne]; exact n1,ok.monoG sm⟩
 . exact ⟨G,S⟩
noncomputable def qX (i:Nat) (g:Dn->Out):Dn->Out:=fun δ=>g (fzN i δ)
theorem vE {X:Cx} {E:EK} {st:CN} {g1:Dn->Out} (i:Nat) (h:DS X E st g1):DS X E st (qX i g1):=fun G0 H0=>PS.imp (h G0 H0) fun D Z H hZ3=>by
 obtain ⟨G,δ,S,a⟩:=hZ3;obtain ⟨G',S'⟩:=S.fzN i;exact ⟨G',_,S',a⟩
end Sm
end
noncomputable section
namespace Sm
open PySem PySem.Spec PyProof.Rows PySem.W L2
def SlV (G:Hp) (v:V):Sl->Prop
 | .sh d=>Rep G d v
 | .fd kvs=>FdOk G (some v) kvs
 | _=>False
noncomputable def SlL (G:Hp):List Sl->List V->Prop
 | [],vs=>vs=[]
 | s::ss,vs=>∃ v r,vs=v::r/\SlV G v s/\SlL G ss r
theorem SlL.length {G:Hp}:∀ {ss:List Sl} {vs:List V},SlL G ss vs->ss.length=vs.length:=by
 intro iN; induction iN with
 | nil=>intro vs h; rw [show vs=[] from h]; rfl
 | cons _ _ ih=>intro _ h; obtain ⟨v,r,rfl,_,l⟩:=h; simp [ih l]
theorem SlL.get {G:Hp}:∀ {ss:List Sl} {vs:List V} {i:Nat} {s:Sl},SlL G ss vs->ss[i]? = some s->∃ v,vs[i]? = some v/\SlV G v s
 | [],_,i,_,_,e=>by simp at e
 | _::_,_,0,_,h,e=>by obtain ⟨v,r,rfl,q,_⟩:=h; simp at e; subst e; exact ⟨v,rfl,q⟩
 | _::_,_,i+1,_,h,e=>by obtain ⟨v,r,rfl,_,l⟩:=h; exact SlL.get (i:=i) l (by simpa using e)
noncomputable def En (N:List Str) (ss:List Sl):Dn:=ss++i4 (N.length - ss.length) .un
theorem Zd {G H:Hp} (hG:Same G H) {ss:List Sl} {vs:List V} (r:SlL G ss vs) (N:List Str):SSt G H G H (Cq N vs) (En N ss):=by
 have hl:=r.length;have noow:∀ (i:Nat) (d:zS),(En N ss)[i]? ≠ some (.ow d):=fun i d e=>by
   unfold En at e;by_cases hi:i < ss.length
   . rw [o8 hi] at e
     obtain ⟨_,_,z⟩:=r.get e; exact z
   . rw [p7 (BI.mp hi),CA] at e
     split at e <;> cases e
 refine ⟨Grow.refl hG,⟨hG,by unfold L2.Cq En; simp [hl],fun i s e=>?_,fun i j a d d' e _ _ _=>absurd e (noow i d)⟩,fun i d a e _=>absurd e (noow i d)⟩;unfold En at e;by_cases hi:i < ss.length
 . rw [o8 hi] at e
   obtain ⟨v,e1,rv⟩:=r.get e; unfold L2.Cq; rw [o8 (by rw [zZ,<- hl]; exact hi),j8,e1];cases s with
   | sh d=>exact ⟨v,rfl,rv⟩
   | fd kvs=>exact rv
   | un=>exact rv.elim
   | ow d=>exact rv.elim
 . rw [p7 (BI.mp hi),CA] at e
   split at e <;> cases e
   trivial
def spS (n:Nat) (m:List Sl->Res zS):Sp:=fun vs H Q _=>∃ G ss d,Same G H/\SlL G ss vs/\ss.length=n/\m ss=.ok d/\∀ v G' H',Grow G H G' H'->Rep G' d v->Q v H'
structure FnS (P:j5) (w:l9) (K:zX) (mg:Str->Option zV) (base:p9) (x:Str) (k n:Nat) (m:List Sl->Res zS):Prop where
 ex:∃ f fd ps,ps.length=n/\FnOk P w K mg base CX0 k f fd ps (spS n m)/\mg x=some (.ref f)/\AJ K (.ref f)=true/\Binds K fd ps []
noncomputable def fnS (N:List Str) (g:Dn->Out):List Sl->Res zS:=fun ss=>match g (En N ss) with
 | .rt d=>.ok d
 | .nx _=>.ok .none
 | .exc c=>.exc c
 | _=>.no
def spSN (n:Nat) (m:List Sl->Res Kvs):Sp:=fun vs H Q _=>∃ G ss kvs,Same G H/\SlL G ss vs/\ss.length=n/\m ss=.ok kvs/\∀ p G' H',Grow G H G' H'->H p=none->G' p=none->OwnOk G' H' p (.tuple [.dict kvs,.none])->Q (.ref p) H'
structure FnSN (P:j5) (w:l9) (K:zX) (mg:Str->Option zV) (base:p9) (x:Str) (k n:Nat) (m:List Sl->Res Kvs):Prop where
 ex:∃ f fd ps,ps.length=n/\FnOk P w K mg base CX0 k f fd ps (spSN n m)/\mg x=some (.ref f)/\AJ K (.ref f)=true/\Binds K fd ps []
noncomputable def tJ (N:List Str) (g:Dn->Res Kvs):List Sl->Res Kvs:=fun ss=>g (En N ss)
noncomputable def Vo (f:Dn->Res zS) (i:Nat) (m:List Sl->Res Kvs):Dn->Res Kvs:=fun δ=>(f δ).bind fun d=>match δ[i]? with
 | some (.fd kvs)=>m [.sh d,.fd kvs]
 | _=>.no
noncomputable def Jg (i:Nat) (f:Dn->Res zS) (m:List Sl->Res zS):Dn->Res zS:=fun δ=>match δ[i]? with
 | some (.fd kvs)=>(f δ).bind fun d=>m [.fd kvs,.sh d]
 | _=>.no
theorem FdOk.is {G:Hp} {o:Option V} {kvs:Kvs} (h:FdOk G o kvs):∃ a,o=some (.ref a):=by
 unfold FdOk at h;split at h
 . obtain ⟨a,kk,h1,_⟩:=h; exact ⟨a,h1⟩
 . obtain ⟨a,ob,kk,h1,_⟩:=h; exact ⟨a,h1⟩
theorem SR.fdV {G H:Hp} {Z:St} {δ:Dn} {i:Nat} {kvs:Kvs} (S:SR G H Z δ) (hi:δ[i]? = some (.fd kvs)):∃ v,Z[i]? = some (some v)/\FdOk G (some v) kvs:=by
 have h:FdOk G (Z[i]?.join) kvs:=S.sl i _ hi;obtain ⟨a,e⟩:=h.is;rw [e] at h;refine ⟨.ref a,?_,h⟩;cases z:Z[i]? with
 | none=>rw [z] at e; cases e
 | some z' =>
   rw [z] at e;cases z' with
   | none=>cases e
   | some z''=>cases e; rfl
noncomputable section
variable {P:j5} {w:l9} {K:zX} {mg:Str->Option zV} {base:p9} {X:Cx} {N:List Str} {sc:Scope} {k:Nat} {df:Bool} {E:EK} {pos p p1:Pos} {a e:Expr} {f:Dn->Res zS} {x y:Str}
theorem fn_S {x:Str} {st:CN} {ps:List Str} {n:Nat} {go:Dn->Out} {m:List Sl->Res zS} (F:Def K mg x st ps) (S:FnScope N ps (A4 st)) (hn:ps.length=n)
   (body:∀ X,Cxt P w K mg base X N (A4 st) k true->DSs X E0k (B3 st) go) (hm:m=fnS N go):FnS P w K mg base x (k+1) n m:=by
 obtain ⟨f,fd,F,hmg,hb⟩:=F.ex;refine ⟨f,fd,ps,hn,?_,hmg,F.kp,hb⟩;subst hm;refine F.ok S (fun vs H Q E h=>?_) (fun cdv A outer s H vs Q E hr h=>?_)
 . obtain ⟨G,ss,d,_,r,hl,_⟩:=h
   rw [<- r.length,hl,hn]
 . obtain ⟨G,ss,d,hG,r,hl,em,q⟩:=h
   refine ⟨_,body _ ⟨rfl,rfl,rfl,rfl,rfl,rfl,rfl,rfl,hr,fun _ _=>rfl,FR⟩ G H,G,_,Zd hG r N,?_⟩;unfold fnS at em;cases eg:go (En N ss) with
   | rt d'=>rw [eg] at em; cases em; exact fun v G' H' g r'=>q v G' H' g r'
   | nx δ=>rw [eg] at em; cases em; exact fun Z G' H' S'=>q _ G' H' S'.gr rfl
   | bk _=>rw [eg] at em; cases em
   | ct _=>rw [eg] at em; cases em
   | exc _=>rw [eg] at em; cases em
   | no=>rw [eg] at em; cases em
theorem fn_SN {x:Str} {st:CN} {ps:List Str} {n:Nat} {go:Dn->Res Kvs} {m:List Sl->Res Kvs} (F:Def K mg x st ps) (S:FnScope N ps (A4 st)) (hn:ps.length=n)
   (body:∀ X,Cxt P w K mg base X N (A4 st) k true->DSN X E0k (B3 st) go) (hm:m=tJ N go):FnSN P w K mg base x (k+1) n m:=by
 obtain ⟨f,fd,F,hmg,hb⟩:=F.ex;refine ⟨f,fd,ps,hn,?_,hmg,F.kp,hb⟩;subst hm;refine F.ok S (fun vs H Q E h=>?_) (fun cdv A outer s H vs Q E hr h=>?_)
 . obtain ⟨G,ss,d,_,r,hl,_⟩:=h
   rw [<- r.length,hl,hn]
 . obtain ⟨G,ss,kvs,hG,r,hl,em,q⟩:=h
   refine ⟨_,body _ ⟨rfl,rfl,rfl,rfl,rfl,rfl,rfl,rfl,hr,fun _ _=>rfl,FR⟩ G H,G,_,Zd hG r N,?_⟩;unfold tJ at em; rw [em]; exact q
theorem AftN.grow {G H G' H':Hp} {r:Res Kvs} {Q:VK} (g:Grow G H G' H') (a:AftN E G H r Q):AftN E G' H' r Q:=by
 cases r with
 | ok kvs=>exact fun p G2 H2 g2 hp hp' ho=>a p G2 H2 (g.trans g2) (g.h.free hp) hp' ho
 | exc c=>exact fun G2 H2 g2=>a G2 H2 (g.trans g2)
 | no=>exact a
theorem pR {G H:Hp} {Z:St} {δ:Dn} {k:zS->Res Kvs} {Q R:VK} (S:SR G H Z δ) (a:AftN E G H ((f δ).bind k) Q)
   (h:∀ d v G1 H1,Grow G H G1 H1->Rep G1 d v->SR G1 H1 Z δ->AftN E G1 H1 (k d) Q->R v H1):tD E f Z H R:=by
 refine ⟨G,δ,S,?_⟩;cases e:f δ with
 | ok d=>rw [e] at a; exact fun v G' H' g r=>h d v G' H' g r (S.grow g) (a.grow g)
 | exc c=>rw [e] at a; exact a
 | no=>rw [e] at a; exact a
theorem nI {j:Nat} {m:List Sl->Res Kvs} (C:Cxt P w K mg base X N sc k df) (F:FnSN P w K mg base y j 2 m) (hj:j<=k) (h:okGl sc y=true) (ha:DE X E0k e f) (i:Nat) (hv:okVar N sc i x=true)
   (he:e8 [e,.Name x p1] X.env=(false,eval e X.env)::e8 [.Name x p1] X.env:=by rfl) (he2:e8 [.Name x p1] X.env=(false,eval (.Name x p1) X.env)::e8 [] X.env:=by rfl) (hpl:(AN pos (e8 [.Name x p1] X.env)).any (·.1)=false:=by rfl) :
   DN X E0k (.Call (.Name y p) [e,.Name x p1] [] pos) (Vo f i m):=by
 obtain ⟨fa,fd,ps,hps,F,hm,hk,hb⟩:=F.ex;obtain ⟨h1,h2,h3⟩:=okGl.gl C h;have F':FnOk X.prog X.w X.K X.mg X.base CX0 j fa fd ps (spSN 2 m):=by rw [C.hP,C.hw,C.hK,C.hmg,C.hb]; exact F
 refine PE.imp (Oj F' (C.room.mono hj) h1 (by rw [C.hmg]; exact hm) (by rw [C.hK]; exact hk) (by rw [C.hK]; exact hb) .nil (eY (X:=X)) (N4 ha (N4 (okVar.pe C hv) X3 he2) he) h2 he hpl) fun Z H Q hh=>?_;obtain ⟨G,δ,S,aft⟩:=hh;refine pR S aft fun d v G1 H1 g1 r1 S1 a1=>?_;split at a1
 . rename_i kvs hi
   obtain ⟨u,hσ,fo⟩:=S1.fdV hi; refine ⟨u,hσ,?_⟩;cases em:m [.sh d,.fd kvs] with
   | ok r=>rw [em] at a1; exact ⟨G1,[.sh d,.fd kvs],r,S1.sub,⟨v,_,rfl,r1,u,_,rfl,fo,rfl⟩,rfl,em,a1⟩
   | exc c=>rw [em] at a1; exact (a1 G1 H1 (Grow.refl S1.sub)).elim
   | no=>rw [em] at a1; exact a1.elim
 . exact (show False from a1).elim
theorem oZ {j:Nat} {m:List Sl->Res zS} (C:Cxt P w K mg base X N sc k df) (F:FnS P w K mg base y j 2 m) (hj:j<=k) (h:okGl sc y=true) (i:Nat) (hv:okVar N sc i x=true) (ha:DE X E0k e f)
   (he:e8 [.Name x p1,e] X.env=(false,eval (.Name x p1) X.env)::e8 [e] X.env:=by rfl) (he2:e8 [e] X.env=(false,eval e X.env)::e8 [] X.env:=by rfl) (hpl:(AN pos (e8 [e] X.env)).any (·.1)=false:=by rfl) :
   DE X E0k (.Call (.Name y p) [.Name x p1,e] [] pos) (Jg i f m):=by
 obtain ⟨fa,fd,ps,hps,F,hm,hk,hb⟩:=F.ex;obtain ⟨h1,h2,h3⟩:=okGl.gl C h;have F':FnOk X.prog X.w X.K X.mg X.base CX0 j fa fd ps (spS 2 m):=by rw [C.hP,C.hw,C.hK,C.hmg,C.hb]; exact F
 refine PE.imp (Oj F' (C.room.mono hj) h1 (by rw [C.hmg]; exact hm) (by rw [C.hK]; exact hk) (by rw [C.hK]; exact hb) .nil (eY (X:=X)) (N4 (okVar.pe C hv) (N4 ha X3 he2) he) h2 he hpl) fun Z H Q hh=>?_;obtain ⟨G,δ,S,aft⟩:=hh;unfold Jg at aft;split at aft
 . rename_i kvs hi
   obtain ⟨u,hσ,_⟩:=S.fdV hi; refine ⟨u,hσ,?_⟩; refine I0 S aft fun d v G1 H1 g1 r1 S1 a1=>?_;obtain ⟨u',hσ',fo⟩:=S1.fdV hi; rw [hσ] at hσ'; cases hσ';cases em:m [.fd kvs,.sh d] with
   | ok r=>rw [em] at a1; exact ⟨G1,[.fd kvs,.sh d],r,S1.sub,⟨u,_,rfl,fo,v,_,rfl,r1,rfl⟩,rfl,em,a1⟩
   | exc c=>rw [em] at a1; exact (a1 G1 H1 (Grow.refl S1.sub)).elim
   | no=>rw [em] at a1; exact a1.elim
 . exact (show False from aft).elim
end
end Sm
end
noncomputable section
namespace Sm
open PySem PySem.Spec PyProof.Rows PySem.W L2
end Sm
end
noncomputable section
namespace Sm
open PySem PySem.Spec PyProof.Rows PySem.W L2
noncomputable def Qv {α:Type} (acc prs:List (zS×α)):List (zS×α):=prs.foldl (fun acc kv=>V0 acc kv.1 kv.2) acc
def PairN (H:Hp) (y:V) (kv:zS×V):Prop:=∃ t k,y=.ref t/\H t=some (.tup [k,kv.2])/\KRep H kv.1 k/\nkD kv.1=true
theorem PairN.mono {H H':Hp} {y:V} {kv:zS×V} (h:PairN H y kv) (k:∀ b xs,H b=some (.tup xs)->H' b=some (.tup xs)):PairN H' y kv:=by
 obtain ⟨t,b,e,h1,h2,h3⟩:=h;exact ⟨t,b,e,k _ _ h1,h2.mono k,h3⟩
theorem oV {P:j5} {w:l9} {H:Hp} (h:p9) (hb:CH < h.objs.size):ObjOk P w H (h.push { cls:=.type "dict",data:=.dict #[] }) h.objs.size (.dN []) :=
 ⟨BY _,beq_eq_false_iff_ne.mpr (Ne.symm (m6 hb)),.nil,(fun _ h=>nomatch h),[],.nil,0,e9 _ rfl⟩
noncomputable section
variable {X:Cx} {pins:List (c6×Obj)} {Z:St}
theorem dL {A:u5} {a d it:c6} (hh:A.handled=none) (hu:A.units+16 < BD) {ys:List V} {R:Result->zW->Prop}:∀ (n i:Nat) (s:zW) (H:Hp) (acc:List (zS×V)) (prs:List (zS×V)),n=prs.length ->
   Inv X pins Z H s->H d=some (.dN acc)->Rd H a (.lst ys)->s.heap.IsListIter it a i->Sf X pins H it->z6 (PairN H) (ys.drop i) prs->i+prs.length=ys.length->acc.length+prs.length < 10000->ys.length < 10000 ->
   (∀ s',Inv X pins Z (upd H d (.dN (Qv acc prs))) s'->R (.ok (.ret .none)) s') ->
   GJ (i9 X.prog X.w) A (.builtin "dict.update.loop" ⟨[.ref d,.ref it,DX i,.none],[]⟩) R s:=by
 intro n;induction n with
 | zero =>
   intro i s H acc prs hn I hd hl st fp hp hlen hacc hys hR; have:prs=[]:=w8.mp hn.symm; subst this; refine AZ Fg ?_; rw [z5 Fe _]; obtain ⟨its,rv,p,hz⟩:=I.list (.inl hl); have hl':=rv.length; simp only [p4,Nat.add_zero] at hlen; show wpAny _ A.in1 (pyNext (.ref it)>>=_) _ _ s;obtain ⟨f0,f1,f2,f3,f4,f5⟩:=fp; refine zT (wpAny_pyNext_list_end hh st p.isList (by simp; lia) fun h' eb=>?_);have I1:Inv X pins Z H { s with heap:=h' }:=I.turned (t':=s.toks) (fun b o hb e=>eb b o hb e) f0 f1 f3 f4 f5;have hsame:upd H d (.dN (Qv acc []))=H:=by
     funext b
     unfold upd;split
     . rename_i e; rw [e,hd]; rfl
     . rfl
   rw [hsame] at hR; show wpAny _ A.in1 (Builtin.Dict.addKeywords d []>>=_) _ _ _;exact zT (zU (zU (hR _ I1)))
 | succ n ih =>
   intro i s H acc prs hn I hd hl st fp hp hlen hacc hys hR;cases prs with
   | nil=>simp at hn
   | cons kv prs =>
     simp only [i0] at hn hlen hacc; have hi:i < ys.length:=by lia
     have hdrop:ys.drop i=ys[i]::ys.drop (i+1):=BP hi; rw [hdrop] at hp;cases hp with
     | cons h0 hp =>
       obtain ⟨t,kk,ey,ht,hb,hnk⟩:=h0; refine AZ Fg ?_; rw [z5 Fe _]; obtain ⟨its,rv,p,hz⟩:=I.list (.inl hl); obtain ⟨u,hu',ru⟩:=rv.get (l0 hi); rw [ey] at ru;cases (show u=u9 t from ru);obtain ⟨f0,f1,f2,f3,f4,f5⟩:=fp; show wpAny _ A.in1 (pyNext (.ref it)>>=_) _ _ s;refine zT (wpAny_pyNext_list_item st p.isList (x:=.ref t) (by simpa using hu') fun h' st' sb=>?_);have I1:Inv X pins Z H { s with heap:=h' }:=I.turned (t':=s.toks) (fun b o hb e=>(sb.2 b hb).trans e) f0 f1 f3 f4 f5;obtain ⟨its2,rv2,p2,_⟩:=I1.tuple (.inl (.inl ht));cases rv2 with
       | @cons _ u1 _ _ r1 rr =>
         cases rr with
         | @cons _ u2 _ _ r2 rr2 =>
           cases rr2; obtain ⟨ot,hot,hotc,nt,hotd⟩:=p2; obtain ⟨c0,d0,da0,sl0⟩:=ot; simp only at hotc hotd; subst hotc hotd; refine zT (s0 (zT (wpAny_tryCatch ?_))); unfold Builtin.Dict.pairItems; have hT:({ s with heap:=h' }:zW).TypeIs (.ref t) "tuple" := ⟨_,hot,rfl⟩;generalize hDS:dictSet=DS
           repeat (any_goals (first | assumption | wp_step))
           subst hDS; refine Uo (A:=A.in1) (by show A.units+1+8 < BD; lia) I1 hd hb hnk (m3 (show acc.length < 10000 by lia) (by decide)) r1 r2 fun s3 I3 sb3=>?_;have hne:it≠d:=fun z=>by rw [z,hd] at f0; cases f0
           have hne2:∀ c xs,H c=some (.tup xs)->upd H d (.dN (V0 acc kv.1 kv.2)) c=some (.tup xs):=fun c xs e=>by rw [C4 (Qs e hd (fun z=>nomatch z))]; exact e
           refine zU ⟨JM _ (by decide +kernel),?_⟩;refine ih (i+1) s3 _ (V0 acc kv.1 kv.2) prs (by lia) I3 C3 ?_ (st'.at fun o e=>sb3 it o hne e) ⟨by rw [C4 hne]; exact f0,f1,f2,f3,f4,f5⟩ (Paired.mapP hp fun _ _ z=>z.mono hne2) (by lia) (by have:=Gd (k:=kv.1) (v:=kv.2) acc; lia) hys fun s' J=>?_
           . rcases hl with z | ⟨o,z⟩
             . exact .inl (by rw [C4 (Qs z hd (fun z=>nomatch z))]; exact z)
             . exact .inr ⟨o,by rw [C4 (Qs z hd (fun z=>nomatch z))]; exact z⟩
           . rw [Vs] at J
             exact hR s' J
theorem dU (hh:X.A.handled=none) (hu:X.A.units+64 < BD):Y0 X (.type "dict") (fun vs H Q=>∃ a ys prs,vs=[.ref a]/\Rd H a (.lst ys)/\z6 (PairN H) ys prs/\ys.length < 1000/\∀ p,H p=none->Q (.ref p) (upd H p (.dN (Qv [] prs)))):=by
 rintro pins s Z H xs us Q I r ⟨a,ys,prs,e0,hl,hp,hn,q⟩;subst e0;cases r with
 | cons r0 rr =>
   cases rr; obtain ⟨rfl⟩:=(show _=u9 a from r0);refine callType_codes (Q₁:=fun obj s₁=>obj=.ref s.heap.objs.size/\s₁={ s with heap:=s.heap.push { cls:=.type "dict",data:=.dict #[] } }) F.kt_called_dict (F.kt_typeCall_dict_1 _) F.entry_dict_init (kt_code_dict_new _ ⟨rfl,rfl⟩) ?_;rintro obj s₁ ⟨rfl,rfl⟩;have hfr:=I.hok.fresh (f8 s.heap.objs.size); have I1:=I.laid (a:=s.heap.objs.size) (o:=.dN []) (h':=s.heap.push { cls:=.type "dict",data:=.dict #[] }) (t':=s.toks) (fun _ _ q=>a8 _ q) (f8 _) (oV s.heap I.big);have hTd:({ s with heap:=s.heap.push { cls:=.type "dict",data:=.dict #[] } }:zW).TypeIs (.ref s.heap.objs.size) "dict" := ⟨_,e9 _ rfl,rfl⟩; refine ⟨hTd,F.args_dict_init_2 _ _,?_⟩; have hl1:Rd (upd H s.heap.objs.size (.dN [])) a (.lst ys):=by
     rcases hl with z | ⟨o,z⟩
     . exact .inl (by rw [C4 (E3 z hfr)]; exact z)
     . exact .inr ⟨o,by rw [C4 (E3 z hfr)]; exact z⟩
   obtain ⟨_,its,nn,rv,hobj⟩:=(show ObjOk X.prog X.w _ _ a (.lst ys) from hl1.ok I1.hok);unfold AA.«dict.__init__»;refine zT ?_; unfold Builtin.Dict.selfAndRest; refine zT (GE hTd ?_); show wpAny _ _ (pure (s.heap.objs.size,[u9 a])) _ _ _;refine zU ?_; show wpAny _ _ (KF "dict.__init__" s.heap.objs.size (.ref a) [] .none) _ _ _;unfold KF; refine zT (GS (T := "list") ⟨_,hobj,rfl⟩ ?_); rw [if_pos (by decide)]; refine zT (jC hh hobj fun h1 tk1 kp=>?_);rw [if_pos (by rfl)]; have I2:Inv X pins Z (upd H s.heap.objs.size (.dN [])) { s with heap:=h1,toks:=tk1 }:=I1.kept (t':=tk1) kp; refine zT (AI ?_); obtain ⟨its2,rv2,p2,_⟩:=I2.list (.inl hl1); refine zT (HQ p2.isList ?_); have I3:Inv X pins Z (upd H s.heap.objs.size (.dN [])) { s with heap:=h1.push { cls:=.type "list_iterator",data:=.fields #[.ref a,.int 0 0] },toks:=tk1 }:=I2.kept (t':=tk1) fun b o e=>a8 _ e
   have hpz:z6 (PairN (upd H s.heap.objs.size (.dN []))) ys prs:=Paired.mapP hp fun _ _ z=>z.mono fun b xs e=>by rw [C4 (E3 e hfr)]; exact e
   have hle:prs.length=ys.length:=(Paired.len' hp).symm; refine zU ⟨JM _ (by decide +kernel),?_⟩;refine dL (A:=X.A.in1) hh (by show X.A.units+1+16 < BD; lia) (ys:=ys) prs.length 0 _ _ [] prs rfl I3 C3 hl1 ⟨_,e9 _ rfl,rfl,rfl⟩ (I2.fpOk (f8 _) (I2.hok.fresh (f8 _))) hpz (by lia) (by simp; lia) (by lia) fun s' J=>?_;rw [Vs] at J; exact ⟨rfl,.ref s.heap.objs.size,_,J,rfl,q _ hfr⟩
end
noncomputable def Ge:List zS->Kvs->Option Kvs
 | [],kvs=>some kvs
 | .tuple [kd,v]::ds,kvs=>if nkD kd=true then Ge ds (V0 kvs kd v) else none
 | _::_,_=>none
theorem cY {G:Hp}:∀ (ds:List zS) (ys:List V) (kvs kvs':Kvs) (kv:List (zS×V)),RepL G ds ys->Ge ds kvs=some kvs'->kvs.map (·.1)=kv.map (·.1)->RepL G (kvs.map (·.2)) (kv.map (·.2)) ->
   ∃ prs,z6 (PairN G) ys prs/\kvs'.map (·.1)=(Qv kv prs).map (·.1)/\RepL G (kvs'.map (·.2)) ((Qv kv prs).map (·.2)):=by
 intro iN; induction iN with
 | nil =>
   intro ys kvs kvs' kv r e h1 h2;cases (show _=_ from r);cases e; exact ⟨[],.nil,h1,h2⟩
 | cons d ds ih =>
   intro ys kvs kvs' kv r e h1 h2; obtain ⟨y,t,rfl,rd,rl⟩:=r; unfold Ge at e;split at e
   . rename_i heq
     cases heq
   . rename_i kd v ds' heq
     cases heq;split at e
     . rename_i ek
       obtain ⟨p,xs,rfl,hp,lp⟩:=rd; obtain ⟨v1,v2,rfl,r1,r2⟩:=wT lp; obtain ⟨p1,p2⟩:=Qm (k:=kd) r2 h1 h2; obtain ⟨prs,q1,q2,q3⟩:=ih t _ kvs' _ rl e p1 p2; exact ⟨(kd,v2)::prs,.cons ⟨p,v1,rfl,hp,Lu (Same.refl G) ek r1,ek⟩ q1,q2,q3⟩
     . cases e
   . cases e
noncomputable def Ii (f:Dn->Res zS):Dn->Res Kvs:=fun δ=>(f δ).bind fun d=>match d with
 | .list ds=>if ds.length < 1000 then ofO (Ge ds []) else .no
 | _=>.no
noncomputable section
variable {P:j5} {w:l9} {K:zX} {mg:Str->Option zV} {base:p9} {X:Cx} {N:List Str} {sc:Scope} {k:Nat} {df:Bool} {E:EK} {p2 cp:Pos} {e:Expr} {f:Dn->Res zS}
theorem Xa (C:Cxt P w K mg base X N sc k df) (hd:okGl sc "dict" = true) (hm:mg "dict" = none) (hf:DE X E e f) (hst:Wz e=true:=by rfl)
   (he:e8 [e] X.env=(false,eval e X.env)::e8 [] X.env:=by rfl) (hpl:(AN cp (e8 [] X.env)).any (·.1)=false:=by rfl) :
   DN X E (.Call (.Name "dict" p2) [e] [] cp) (Ii f):=by
 obtain ⟨k1,k2,k3⟩:=okGl.gl C hd;refine PE.imp (Ly (dU C.room.hd C.hu) k1 (by rw [C.hmg]; exact hm) (by decide +kernel) (N4 hf X3 he) k3 k2 he hpl) fun Z H Q hh=>?_;obtain ⟨G,δ,S,aft⟩:=hh;refine pR S aft fun d v G1 H1 g1 r1 S1 a1=>?_;split at a1
 . rename_i ds
   split at a1
   . rename_i hlen
     cases ek:Ge ds [] with
     | none=>rw [ek] at a1; exact (show False from a1).elim
     | some kvs =>
       rw [ek] at a1; obtain ⟨a,ys,rfl,ha,la⟩:=r1; obtain ⟨prs,q1,q2,q3⟩:=cY ds ys [] kvs [] la ek rfl rfl; refine ⟨a,ys,prs,rfl,Rd.mono S1.sub ha,Paired.mapP q1 fun _ _ z=>z.mono fun b xs e=>S1.sub _ _ e,by rw [<- la.length]; exact hlen,fun q hq=>?_⟩;exact a1 q G1 _ (Grow.own S1.sub hq) hq (S1.sub.free hq) (show OwnK G1 _ q [.dict kvs,.none] from ⟨_,C3,q2,q3⟩)
   . exact (show False from a1).elim
 . exact (show False from a1).elim
end
end Sm
end
noncomputable section
namespace Sm
open PySem PySem.Spec PySem.W PyProof.Rows L2
end Sm
end
noncomputable section
namespace Sm
open PySem PySem.Spec PySem.W PyProof.Rows L2
end Sm
end
noncomputable section
namespace Sm
open PySem PySem.Spec PyProof.Rows PySem.W L2
noncomputable section
variable {prog:j5} {w:l9} {A:u5} {E:zV->zW->Prop} {s:zW}
theorem bN (hh:A.handled=none) (I d:c6) (hne:d≠I) (od:Obj) (es:Array u8) (ep:Nat) (hdd:od.data=.dict es ep) :
   Walks prog w A I [I,d] [I] es.size (fun i v=>∃ e,es[i]? = some e/\v=e.key) (fun i h=>h.IsKeyIter I d i es.size ep/\h.get? d=some od) where
 sub:=fun b hb=>by simp at hb; simp [hb]
 frame:=fun _ _ _ st hk=>⟨st.1.at fun o e=>hk I (by simp) o e,hk d (by simp) _ st.2⟩
 item:=fun i s Q E hi st hQ=>by
   refine nE st.1 st.2 hdd hi fun h' n hs=>?_;exact hQ _ h' s.toks ⟨es[i],by simp [hi],rfl⟩ ⟨n,hs.extBut d _ hne st.2⟩ fun b o hb e=>hs.extBut b o (fun z=>hb (by simp [z])) e
 done:=fun s Q E st hQ=>tQ hh (f8 _) st.1 st.2 hdd fun h' he=>hQ h' s.toks fun b o hb e=>he b o (fun z=>hb (by simp [z])) e
 self:=fun _ _ _ _ st hQ=>wpAny_pyIter_keyiter st.1 hQ
theorem hC {d:c6} {od:Obj} {es:Array u8} {ep:Nat} (lo:(d==CH)=false) (hcl:od.cls=.type "dict") (hdd:od.data=.dict es ep) :
   KdlSrc prog w "dict" d d es.size (fun i v=>∃ e,es[i]? = some e/\v=e.key) (fun h=>h.get? d=some od) where
 type:=fun _ hm=>⟨od,hm,hcl⟩
 there:=fun _ hm=>⟨i8 hm,i8 hm⟩
 keep:=fun _ _ hm hk=>hk d (.inr rfl) _ hm
 notList:=by decide
 notTuple:=by decide
 hint:=fun _ _ _ _ hm hq=>kdl_hint_dict ⟨od,hm,hcl⟩ hq
 iter:=fun _ _ hh hm=>⟨_,_,(fun _ _ hq=>nV lo ⟨od,hm,hcl⟩ hm hdd hq),bN hh _ d (m6 (i8 hm)) od es ep hdd,⟨⟨_,e9 _ rfl,rfl,rfl⟩,a8 _ hm⟩⟩
theorem lJ {d:c6} {od:Obj} {es:Array u8} {ep:Nat} {ss:List Str} {Q:zV->zW->Prop} (lo:(d==CH)=false) (hcl:od.cls=.type "dict") (hdd:od.data=.dict es ep) (hh:A.handled=none) (hd:s.heap.get? d=some od)
   (hS:HR (es.toList.map (·.key)) ss) (h64:es.size < 64)
   (h:∀ (h1:p9) tk (out:Array zV) (ss':List Str),(∀ b o,s.heap.get? b=some o->h1.get? b=some o)->HR out.toList ss'->ss'.Perm ss->sortedS ss'=true ->
     Q (.ref h1.objs.size) { s with heap:=MV (h1.push (FO "list" (es.toList.map (·.key)).toArray 0)) h1.objs.size (es.toList.map (·.key)) out,toks:=tk }) :
   wpAny (i9 prog w) A (call (.builtin "sorted") [.ref d]) Q E s:=by
 refine GR kind_sorted plain_sorted entry_sorted (args_sorted1 _) (zT (m:=checkCount "sorted" 1 1 _) (zU (zT (Xv (hC lo hcl hdd) hh hd (by rw [CU]; lia) fun h1 tk acc hk hacc=>?_))));have hacc2:acc.toList=es.toList.map (·.key):=by
   apply FI;intro j;by_cases hj:j < es.size
   . have hja:j < acc.size:=by rw [hacc.1]; exact hj
     obtain ⟨e,e1,e2⟩:=hacc.2 j acc[j] (by simp [hja]);rw [j8,DQ,DQ,e1,o7 hja,e2]; rfl
   . rw [BQ (by simpa [hacc.1] using BI.mp hj),BQ (by simpa using BI.mp hj)]
 rw [hacc2];generalize hvs:es.toList.map (·.key)=vs at *;have hvl:vs.length=es.size:=by rw [<- hvs]; simp
 refine zT (wpAny_newList ?_ (by rw [CU]; lia));have hoL:(h1.push (FO "list" vs.toArray 0)).get? h1.objs.size=some (FO "list" vs.toArray 0):=e9 _ rfl;show wpAny _ _ _ _ _ { s with heap:=h1.push (FO "list" vs.toArray 0),toks:=tk };refine zT (s0 (p0 MW ⟨_,hoL,rfl⟩ MH (list_sort_treeK strKind_oneLt hoL hS.keysOf (fun v₁ v₂ I8 e=>keyKind_strs (by rw [<- e]; exact hS)) (by lia) fun st' hp hs=>⟨_,rfl,?_⟩) (NB _)));obtain ⟨ss',k1,k2,k3⟩:=sorted_out_str hS hp hs;exact zU ⟨_,rfl,h h1 tk _ ss' hk k1 k2 k3⟩
end
noncomputable def ltS (a b:Str):Bool:=ltCps a.cps.toList b.cps.toList
noncomputable def jM (p:Str):List Str->List Str
 | []=>[p]
 | q::r=>if ltS q p=true then q::jM p r else p::q::r
noncomputable def Cr:List Str->List Str
 | []=>[]
 | p::r=>jM p (Cr r)
noncomputable def T7:List zS->Option (List Str)
 | []=>some []
 | .str x::r=>(T7 r).map (x::·)
 | _::_=>none
def leX (a b:Str):Prop:=¬ b.cps.toList < a.cps.toList
theorem vJ {a b:Str}:ltS b a=false↔leX a b:=by unfold ltS leX; rw [ltCps_eq]; simp
theorem leX.trans {a b c:Str} (h1:leX a b) (h2:leX b c):leX a c:=List.le_trans (l₁:=a.cps.toList) (l₂:=b.cps.toList) (l₃:=c.cps.toList) h1 h2
theorem leX.anti {a b:Str} (h1:leX a b) (h2:leX b a):a=b:=by
 have:=List.le_antisymm (as:=a.cps.toList) (bs:=b.cps.toList) h1 h2;obtain ⟨⟨x⟩⟩:=a;obtain ⟨⟨y⟩⟩:=b;simp at this;rw [this]
theorem Ls:∀ (p:Str) (l:List Str),risingS p l=true->(p::l).Pairwise leX
 | p,[],_=>CY _ _
 | p,x::r,h=>by
   have h':(!ltCps x.cps.toList p.cps.toList&&risingS x r)=true:=h; rw [j9] at h'; have ih:=Ls x r h'.2; have hx:leX p x:=vJ.mp (by have:=h'.1; unfold ltS; simpa using this);refine n0.mpr ⟨fun y hy=>?_,ih⟩;rcases a9.mp hy with rfl | hy
   . exact hx
   . exact hx.trans ((n0.mp ih).1 y hy)
theorem Pt:∀ {l:List Str},sortedS l=true->l.Pairwise leX:=by
 intro iN; induction iN with
 | nil=>intro _; exact .nil
 | cons x r ih=>intro h; exact Ls x r h
theorem Kg:∀ {l m:List Str},l.Perm m->l.Pairwise leX->m.Pairwise leX->l=m
 | [],m,h,_,_=>(NK h)
 | a::l,[],h,_,_=>absurd h.length_eq (by simp)
 | a::l,b::m,h,h1,h2=>by
   rw [n0] at h1 h2; have e:a=b:=by
     rcases a9.mp (h.mem_iff.mp (x6 (a:=a) (l:=l))) with e | e
     . exact e
     . rcases a9.mp (h.mem_iff.mpr (x6 (a:=b) (l:=m))) with e' | e'
       . exact e'.symm
       . exact (h1.1 b e').anti (h2.1 a e)
   subst e; rw [Kg (ML h) h1.2 h2.2]
theorem Uu (p:Str):∀ l,(jM p l).Perm (p::l):=by
 intro iN; induction iN with
 | nil=>skip; exact AH _
 | cons q r ih =>
   skip
   unfold jM;split
   . exact ((ih).cons q).trans (HL p q r)
   . exact AH _
theorem R0:∀ l,(Cr l).Perm l:=by
 intro iN; induction iN with
 | nil=>skip; exact AH _
 | cons p r ih=>skip; exact (Uu p (Cr r)).trans ((ih).cons p)
theorem sY (p:Str):∀ l,l.Pairwise leX->(jM p l).Pairwise leX:=by
 intro iN; induction iN with
 | nil=>intro _; exact CY _ _
 | cons q r ih =>
   intro h; rw [n0] at h; unfold jM;split
   . rename_i c
     refine n0.mpr ⟨fun x hx=>?_,ih h.2⟩;rcases a9.mp ((Uu p r).mem_iff.mp hx) with rfl | hx
     . unfold ltS at c; rw [ltCps_eq] at c; exact List.lt_asymm (of_decide_eq_true c)
     . exact h.1 x hx
   . rename_i c
     have hq:leX p q:=vJ.mp (by simpa using c);refine n0.mpr ⟨fun x hx=>?_,n0.mpr h⟩;rcases a9.mp hx with rfl | hx
     . exact hq
     . exact hq.trans (h.1 x hx)
theorem Pu:∀ l,(Cr l).Pairwise leX:=by
 intro iN; induction iN with
 | nil=>skip; exact .nil
 | cons p r ih=>skip; exact sY p _ (ih)
theorem bV:∀ {ds:List zS} {ss:List Str},T7 ds=some ss->ds=ss.map .str:=by
 intro iN; induction iN with
 | nil=>intro ss e; cases e; rfl
 | cons d ds ih =>
   intro ss e;cases d with
   | str x =>
     obtain ⟨r,e1,e2⟩:=p6.mp (show (T7 ds).map (x::·)=some ss from e);rw [<- e2,ih e1]; rfl
   | _=>cases e
noncomputable section
variable {X:Cx}
def wX (xs:List V) (H:Hp) (Q:VK):Prop:=∃ d,∃ kk:List (zS×V),∃ ss:List Str,xs=[.ref d]/\Rd H d (.dN kk)/\kk.map (·.1)=ss.map .str/\ss.length < 64 /\
 ∀ l,H l=none->Q (.ref l) (upd H l (.lst ((Cr ss).map .str)))
theorem Rg {w:l9} {H:Hp}:∀ {kk:List (zS×V)} {xs:List (zV×zV)} {ss:List Str},z6 (fun (p:zS×V) (q:zV×zV)=>(∃ v,KRep H p.1 v/\RelV v q.1)/\RelV p.2 q.2) kk xs->kk.map (·.1)=ss.map AK->HR ((T5 w kk xs).map (·.key)) ss
 | _,_,[],r,e=>by
   cases r with
   | nil=>exact .nil
   | cons _ _=>cases e
 | _,_,x::ss,r,e=>by
   cases r with
   | nil=>cases e
   | @cons p q kk xs h r =>
     injection e with e1 e2
     obtain ⟨⟨v,h1,h2⟩,_⟩:=h; rw [show p.1=AK x from e1] at h1; obtain ⟨rfl,_⟩:=h1; obtain ⟨t,ht⟩:=h2; show HR (q.1::(T5 w kk xs).map (·.key)) (x::ss);rw [ht]; exact .cons x t (Rg r e2)
theorem Hu:∀ {vs:List zV} {ss:List Str},HR vs ss->Vals (ss.map V.str) vs
 | _,_,.nil=>.nil
 | _,_,.cons x t h=>.cons ⟨t,rfl⟩ (Hu h)
theorem dQ (hh:X.A.handled=none):Y0 X (.builtin "sorted") wX:=by
 rintro pins s Z H xs us Q I r ⟨d,kk,ss,hx,hd,hkk,h64,q⟩;subst hx;obtain ⟨u,rfl,ru⟩:=Vals.one r;cases (show u=u9 d from ru);obtain ⟨z,lo,nd,nk,ys,rel,ep,ho⟩:=hd.ok I.hok;have hS:=Rg (w:=X.w) rel hkk;have hlen:(T5 X.w kk ys).length=ss.length:=by
   have:=hS.strs; rw [<- this]; simp
 refine lJ (ss:=ss) lo rfl rfl hh ho hS (by rw [i5]; exact EZ (Nat.le_of_eq hlen) h64) fun h1 tk out ss' hk k1 k2 k3=>?_;have hsrt:ss'=Cr ss:=Kg (k2.trans (R0 ss).symm) (Pt k3) (Pu ss);subst hsrt;have I1:Inv X pins Z H { s with heap:=h1,toks:=tk }:=I.kept (t':=tk) hk;have ho1:(h1.push (FO "list" ((T5 X.w kk ys).toArray.toList.map (·.key)).toArray 0)).get? h1.objs.size=some (FO "list" ((T5 X.w kk ys).toArray.toList.map (·.key)).toArray 0):=e9 _ rfl;obtain ⟨ee,hat⟩:=sortedHeap_at (out:=out) ho1;have hfr:H h1.objs.size=none:=I1.hok.fresh (f8 _)
 refine ⟨.ref h1.objs.size,_,I1.laid (o:=.lst ((Cr ss).map .str)) (t':=tk) (fun b o e=>?_) (f8 _) ⟨?_,out.toList,ee,Hu k1,hat⟩,rfl,q _ hfr⟩
 . have hlt:b < h1.objs.size:=i8 e
   rw [sortedHeap_old (m6 hlt) (by rw [size_push']; exact HB hlt)];exact a8 _ e
 . rw [zZ,(R0 ss).length_eq,CU]; lia
end
noncomputable def Vq (i:Nat):Dn->Res zS:=fun δ=>match kvN δ i with
 | some kvs=>match T7 (kvs.map (·.1)) with
   | some ss=>if ss.length < 64/\(ss.all fun x=>l7 x&&decide (x.length<=1000))=true then .ok (.list ((Cr ss).map .str)) else .no
   | none=>.no
 | none=>.no
noncomputable section
variable {P:j5} {w:l9} {K:zX} {mg:Str->Option zV} {base:p9} {X:Cx} {N:List Str} {sc:Scope} {k:Nat} {df:Bool} {E:EK} {pos p p1:Pos} {x:Str}
theorem Qk {G:Hp}:∀ (ss:List Str),(∀ x∈ss,l7 x=true/\x.length<=sizeLine)->RepL G (ss.map .str) (ss.map .str):=by
 intro iN; induction iN with
 | nil=>intro _; exact rfl
 | cons x ss ih=>intro h; exact RepL.cons ⟨rfl,h x (.head _)⟩ (ih fun y hy=>h y (.tail _ hy))
theorem uC (C:Cxt P w K mg base X N sc k df) (h:okGl sc "sorted" = true) (hm:mg "sorted" = none) (i:Nat) (hv:okVar N sc i x=true)
   (he:e8 [.Name x p1] X.env=(false,eval (.Name x p1) X.env)::e8 [] X.env:=by rfl) (hpl:(AN pos (e8 [] X.env)).any (·.1)=false:=by rfl) :
   DE X E (.Call (.Name "sorted" p) [.Name x p1] [] pos) (Vq i):=by
 obtain ⟨h1,h2,h3⟩:=okGl.gl C h;intro pins s Z H Q I q;refine (PE.imp (Ki (dQ (I.ok.hd C.calm)) h1 (by rw [C.hmg]; exact hm) (by decide +kernel) (N4 (okVar.pe C hv (p:=p1)) X3 he) h3 h2 he hpl) fun Z H Q hY94=>?_) pins s Z H Q I q;obtain ⟨G,δ,S,aft⟩:=hY94;unfold Vq at aft;split at aft
 . rename_i kvs hi
   split at aft
   . rename_i ss eps
     split at aft
     . rename_i hc
       obtain ⟨d,kk,hσ,hx,hkeys,hvals⟩:=S.kvN hi; refine ⟨.ref d,hσ,d,kk,ss,rfl,hx,by rw [<- hkeys]; exact bV eps,hc.1,fun l hl=>?_⟩;have hG:G l=none:=S.sub.free hl; refine aft _ (upd G l (.lst ((Cr ss).map .str))) _ (Grow.new S.sub hl) ⟨l,_,rfl,.inl C3,?_⟩; refine Qk _ fun y hy=>?_;have:=BS.mp hc.2 y ((R0 ss).mem_iff.mp hy); rw [j9] at this; exact ⟨this.1,i6 (of_decide_eq_true this.2) (by decide)⟩
     . exact aft.elim
   . exact aft.elim
 . exact aft.elim
end
end Sm
end
noncomputable section
namespace Sm
open PySem PySem.Spec PyProof.Rows L2
end Sm
end
noncomputable section
namespace Sm
open PySem PySem.Spec PyProof.Rows L2
end Sm
end
noncomputable section
namespace Sm
open PySem PySem.Spec PyProof.Rows L2
end Sm
end
noncomputable section
namespace Sm
open PySem PySem.Spec PyProof.Rows L2
end Sm
end
noncomputable section
namespace Sm
open PySem PySem.Spec PyProof.Rows L2
end Sm
end
noncomputable section
namespace Sm
open PySem PySem.Spec PyProof.Rows L2
end Sm
namespace Sm
open PySem PySem.Spec PyProof.Rows L2
end Sm
end
noncomputable section
namespace Sm
open PySem PySem.Spec PyProof.Rows L2
end Sm
end
noncomputable section
namespace Sm
open PySem PySem.Spec PyProof.Rows L2
noncomputable def rngD2 (lo:Int) (n:Nat):List zS:=(o9 n).map fun (i:Nat)=>p5 (lo+i*2)
noncomputable def rng3:List zS->Res (List zS)
 | [.int i,.int j,.int 2]=>if 0<=i/\i < 100000/\0<=j/\j < 100000 then .ok (rngD2 i ((j - i+1) / 2).toNat) else .no
 | _=>.no
noncomputable section
variable {P:j5} {w:l9} {K:zX} {mg:Str->Option zV} {base:p9} {X:Cx} {N:List Str} {sc:Scope} {k:Nat} {df:Bool} {E:EK} {pos p px py pz tp:Pos} {a b c d e iter:Expr} {sts:List CN} {g1:Dn->Out} {src:Dn->Res (List zS)} {x y z:Str}
noncomputable def st3 (i j l:Nat):zS->Dn->Option Dn:=fun d δ=>match d with
 | .tuple [a,b,c]=>some (((δ.set i (.sh a)).set j (.sh b)).set l (.sh c))
 | _=>none
theorem tg3 (i j l:Nat):zN K (oG K 3 (Hq (V3 i) (Hq (V3 j) (Hq (V3 l) oH)))) (st3 i j l):=fun G0 H0 G H Z δ δ1 d x Q S r e h=>by
 cases d with
 | tuple ds =>
   match ds,e with
   | [a,b,c],e =>
     cases e; obtain ⟨p,xs,rfl,e1,l1⟩:=r; obtain ⟨v,t,rfl,r1,l2⟩:=l1; obtain ⟨v',v'',rfl,r2,r3⟩:=wT l2; exact ⟨p,_,rfl,.inl (.inl (S.sr.sub _ _ e1)),rfl,v,[v',v''],rfl,v',[v''],rfl,v'',[],rfl,rfl,h _ (((S.set_sh r1).set_sh r2).set_sh r3)⟩
 | _=>cases e
theorem wN {x1:Nat} (C:Cxt P w K mg base X N sc k df) (i j l:Nat) (hi':okSet N sc df i x=true) (hj:okSet N sc df j y=true) (hl:okSet N sc df l z=true) (hi:DI X E (.Tuple [.Name x px,.Name y py,.Name z pz] x1 tp) iter src) (hb:DSs X E sts g1) (hs:∀ x,x8 iter X.env x=pure x:=by intro _; rfl) :
   DS X E (.For (.Tuple [.Name x px,.Name y py,.Name z pz] x1 tp) iter sts [] pos) (O3 src (st3 i j l) g1):=by
 obtain ⟨h1',h2,h3,h4⟩:=okSet.ok C hi';obtain ⟨_,q2,q3,q4⟩:=okSet.ok C hj;obtain ⟨_,u2,u3,u4⟩:=okSet.ok C hl;have pg:=cU (n:=3) (k:=x1) (pos:=tp) C.calm (Ci (V8 (pos:=px) h1' h2 h3 h4) (Ci (V8 (pos:=py) h1' q2 q3 q4) (Ci (V8 (pos:=pz) h1' u2 u3 u4) Ww)));rw [C.hK] at pg;exact lX C hi pg (tg3 i j l) hb hs
end
end Sm
end
noncomputable section
namespace Sm
open PySem PySem.Spec PyProof.Rows L2
noncomputable def Ho:List zS->Option (List Int)
 | []=>some []
 | .int i::r=>(Ho r).map (i::·)
 | _::_=>none
noncomputable def jL (p:Int):List Int->List Int
 | []=>[p]
 | q::r=>if q < p then q::jL p r else p::q::r
noncomputable def Ft:List Int->List Int
 | []=>[]
 | p::r=>jL p (Ft r)
theorem Ut (p:Int):∀ l,(jL p l).Perm (p::l):=by
 intro iN; induction iN with
 | nil=>skip; exact AH _
 | cons q r ih =>
   skip
   unfold jL;split
   . exact ((ih).cons q).trans (HL p q r)
   . exact AH _
theorem Eo:∀ l,(Ft l).Perm l:=by
 intro iN; induction iN with
 | nil=>skip; exact AH _
 | cons p r ih=>skip; exact (Ut p (Ft r)).trans ((ih).cons p)
theorem sX (p:Int):∀ l:List Int,l.Pairwise (· <= ·)->(jL p l).Pairwise (· <= ·):=by
 intro iN; induction iN with
 | nil=>intro _; exact CY _ _
 | cons q r ih =>
   intro h; rw [n0] at h; unfold jL;split
   . refine n0.mpr ⟨fun x hx=>?_,ih h.2⟩
     rcases a9.mp ((Ut p r).mem_iff.mp hx) with rfl | hx
     . lia
     . exact h.1 x hx
   . refine n0.mpr ⟨fun x hx=>?_,n0.mpr h⟩
     rcases a9.mp hx with rfl | hx
     . lia
     . have:=h.1 x hx; lia
theorem Zf:∀ l,(Ft l).Pairwise (· <= ·):=by
 intro iN; induction iN with
 | nil=>skip; exact .nil
 | cons p r ih=>skip; exact sX p _ (ih)
theorem Yn:∀ {l m:List Int},l.Perm m->l.Pairwise (· <= ·)->m.Pairwise (· <= ·)->l=m
 | [],m,h,_,_=>(NK h)
 | a::l,[],h,_,_=>absurd h.length_eq (by simp)
 | a::l,b::m,h,h1,h2=>by
   rw [n0] at h1 h2; have e:a=b:=by
     rcases a9.mp (h.mem_iff.mp (x6 (a:=a) (l:=l))) with e | e
     . exact e
     . rcases a9.mp (h.mem_iff.mpr (x6 (a:=b) (l:=m))) with e' | e'
       . exact e'.symm
       . have:=h1.1 b e'; have:=h2.1 a e; lia
   subst e; rw [Yn (ML h) h1.2 h2.2]
theorem repZ {G:Hp}:∀ {ds:List zS} {xs:List V} {us:List zV} {ns:List Int},RepL G ds xs->Vals xs us->Ho ds=some ns->IP us ns:=by
 intro iN; induction iN with
 | nil=>intro _ _ _ r q e; cases (show _=_ from r); cases q; cases e; exact .nil
 | cons d ds ih =>
   intro _ _ ns r q e;cases d with
   | int i =>
     obtain ⟨x,t,rfl,h,l⟩:=r; obtain ⟨m,e1,e2⟩:=p6.mp (show (Ho ds).map (i::·)=some ns from e);cases (show x=.int i from h);cases q with
     | cons hq q =>
       obtain ⟨t,rfl⟩:=hq; rw [<- e2]; exact .cons i t (ih l q e1)
   | _=>cases e
theorem uW:∀ {vs:List zV} {ns:List Int},IP vs ns->Vals (ns.map V.int) vs
 | _,_,.nil=>.nil
 | _,_,.cons x t h=>.cons ⟨t,rfl⟩ (uW h)
noncomputable section
variable {P:j5} {w:l9} {K:zX} {mg:Str->Option zV} {base:p9} {X:Cx} {N:List Str} {sc:Scope} {k:Nat} {df:Bool} {E:EK} {pos:Pos} {a b c d e:Expr} {f g f':Dn->Res zS}
theorem Yt (C:Cxt P w K mg base X N sc k df) (ha:DE X E a f) (hb:DE X E b g) (hc:DE X E c f') (hm:JS [.LtE,.Lt] [b,c]=false:=by with_unfolding_all rfl) :
   DT X E (.Compare a [.LtE,.Lt] [b,c] pos) (C1 (O1 f g f' (D9 .LtE) (D9 .Lt))):=by
 have hr:OpR X (x0 .LtE) (Zx .LtE):=Ct (.inr rfl) C.hu;have hr':OpR X (x0 .Lt) (Zx .Lt):=Ct (.inl rfl) C.hu;refine PT.imp (aA hr hr' ha hb hc hm) fun Z H Q hZ3=>?_;obtain ⟨G,δ,S,aft⟩:=hZ3;have aft':AftT E G H ((f δ).bind fun x=>(g δ).bind fun y=>(ofO (D9 .LtE x y)).bind fun z=>(match z with
   | .bool true=>(f' δ).bind fun u=>ofO (D9 .Lt y u)
   | .bool false=>.ok (.bool false)
   | _=>.no).bind fun d=>ofO (Oy d)) Q:=by
   unfold C1 O1 at aft; simp only [Res.bind_assoc] at aft; exact aft
 refine Q3 S aft' fun d1 v1 G1 H1 g1 r1 S1 a1=>?_;refine Q3 S1 a1 fun d2 v2 G2 H2 g2 r2 S2 a2=>?_;cases e:D9 .LtE d1 d2 with
 | none=>rw [e] at a2; exact a2.elim
 | some d =>
   rw [e] at a2; obtain ⟨kk,rfl⟩:=Dz _ _ _ e; refine Ba G2 H2 v1 v2 d1 d2 _ _ S2.sub (r1.mono g2.g) r2 e fun v G3 H3 g3 r3=>⟨kk,r3,?_⟩;have S3:=S2.grow g3;cases kk with
   | false=>rw [if_neg (by decide)]; exact ⟨false,rfl,a2 G3 H3 g3⟩
   | true =>
     rw [if_pos rfl]; have a3:AftT E G3 H3 ((f' δ).bind fun u=>(ofO (D9 .Lt d2 u)).bind fun d=>ofO (Oy d)) Q:=by
       have h0:AftT E G3 H3 (((f' δ).bind fun u=>ofO (D9 .Lt d2 u)).bind fun d=>ofO (Oy d)) Q:=AftT.grow g3 a2;rw [Res.bind_assoc] at h0; exact h0
     refine Q3 S3 a3 fun d4 v4 G4 H4 g4 r4 S4 a4=>?_;cases e':D9 .Lt d2 d4 with
     | none=>rw [e'] at a4; exact a4.elim
     | some d =>
       rw [e'] at a4; obtain ⟨k2,rfl⟩:=Dz _ _ _ e'; exact Ba G4 H4 v2 v4 d2 d4 _ _ S4.sub (r2.mono (g3.g.trans g4.g)) r4 e' fun v G5 H5 g5 r5=>⟨k2,r5,a4 G5 H5 g5⟩
end
end Sm
end
noncomputable section
namespace Sm
open PySem PySem.Spec PyProof.Rows PySem.W L2
end Sm
end
noncomputable section
namespace Sm
open PySem PySem.Spec PyProof.Rows PySem.W L2
theorem repT {G:Hp}:∀ {ds:List zS} {xs:List V} {us:List zV} {ss:List Str},RepL G ds xs->Vals xs us->T7 ds=some ss->HR us ss/\∀ x∈ss,l7 x=true/\x.length<=sizeLine:=by
 intro iN; induction iN with
 | nil=>intro _ _ _ r q e; cases (show _=_ from r); cases q; cases e; exact ⟨.nil,fun _ h=>nomatch h⟩
 | cons d ds ih =>
   intro _ _ ns r q e;cases d with
   | str i =>
     obtain ⟨x,t,rfl,h,l⟩:=r; obtain ⟨m,e1,e2⟩:=p6.mp (show (T7 ds).map (i::·)=some ns from e);obtain ⟨rfl,h2⟩:=h;cases q with
     | cons hq q =>
       obtain ⟨t,rfl⟩:=hq; obtain ⟨k1,k2⟩:=ih l q e1; rw [<- e2]; refine ⟨.cons i t k1,fun y hy=>?_⟩;rcases a9.mp hy with rfl | hy
       . exact h2
       . exact k2 y hy
   | _=>cases e
end Sm
end
noncomputable section
namespace Sm
open PySem PySem.Spec PyProof.Rows PySem.W L2
end Sm
end
noncomputable section
namespace Sm
open PySem PySem.Spec PyProof.Rows PySem.W L2
end Sm
end
noncomputable section
namespace Sm
open PySem PySem.Spec PyProof.Rows PySem.W L2
end Sm
end
noncomputable section
namespace Sm
open PySem PySem.Spec PyProof.Rows L2
end Sm
end
noncomputable section
namespace Sm
open PySem PySem.Spec PyProof.Rows L2
end Sm
end
noncomputable section
namespace Sm
open PySem PySem.Spec PyProof.Rows L2
end Sm
end
noncomputable section
namespace Sm
open PySem PySem.Spec PyProof.Rows L2
end Sm
end
noncomputable section
namespace Sm
open PySem PySem.Spec PyProof.Rows L2
end Sm
end
noncomputable section
namespace Sm
open PySem PySem.Spec PyProof.Rows L2
end Sm
end
noncomputable section
namespace Sm
open PySem PySem.Spec PyProof.Rows L2
end Sm
end
noncomputable section
namespace Sm
open PySem PySem.Spec PyProof.Rows L2
end Sm
end
noncomputable section
namespace Sm
open PySem PySem.W PyProof.Rows
theorem V5:Slot "set_iterator" "__next__" "set_iterator.__next__" :=
 .of (owner := "set_iterator") (n := "__next__") (by rw [CQ,AV]; kernel_rfl) (by decide +kernel) (by decide +kernel) (by decide +kernel) (by first | exact .inl (by decide +kernel) | exact .inr (by decide +kernel)) (by rw [EO]; kernel_rfl)
theorem eN:Slot "set_iterator" "__iter__" "set_iterator.__iter__" :=
 .of (owner := "set_iterator") (n := "__iter__") (by rw [CQ,AV]; kernel_rfl) (by decide +kernel) (by decide +kernel) (by decide +kernel) (by first | exact .inl (by decide +kernel) | exact .inr (by decide +kernel)) (by rw [EO]; kernel_rfl)
theorem Ju:LG table "set_iterator.__next__" = some AA.«set_iterator.__next__» := LV ⋯
theorem lL:LG table "set_iterator.__iter__" = some AA.«dict_keyiterator.__iter__» := MZ (id' := "dict_keyiterator.__iter__") ⋯ rfl (by decide +kernel) ⋯
theorem hJ:LG table "set.__iter__" = some AA.«frozenset.__iter__» := MZ (id' := "frozenset.__iter__") ⋯ rfl (by decide +kernel) ⋯
theorem Jv (a:zV):LY "set_iterator.__next__" ⟨[a],[]⟩:=by unfold LY; kernel_rfl
theorem lM (a:zV):LY "set_iterator.__iter__" ⟨[a],[]⟩:=by unfold LY; kernel_rfl
end Sm
end
noncomputable section
namespace Sm
open PySem PySem.W PyProof.Rows
abbrev Fd (f:zV) (i:Nat) (a:c6) (n ep:Nat):Obj:={ cls:=.type "set_iterator",data:=.fields #[f,.int i 0,.ref a,.int n 0,.int ep 0] }
theorem Io {α:Type}:∀ {l:List α} {i:Nat} {x:α},l[i]? = some x->(x::l.eraseIdx i).Perm l
 | [],_,_,h=>by cases h
 | y::l,0,x,h=>by cases h; exact AH _
 | y::l,i+1,x,h=>(HL y x _).trans ((Io (l:=l) (i:=i) h).cons y)
theorem rZ {α:Type} (nx:Nat->Nat):∀ (n k:Nat) (l:List α) (out:Array α),l.length=n->(pickOrder.go nx n k l out).toList.Perm (out.toList++l):=by
 intro iN; induction iN with
 | zero =>
   intro k l out h;cases DH h;rw [m8]; exact AH _
 | succ n ih =>
   intro k l out h; unfold pickOrder.go; have hi:nx k % l.length < l.length:=Nat.mod_lt _ (by lia);rw [l0 hi]; refine (ih (k+1) _ _ (by rw [LR hi]; lia)).trans ?_;rw [Array.toList_push,z4]; exact List.Perm.append_left _ (Io (l0 hi))
theorem Lx {α:Type} (nx:Nat->Nat) (xs:Array α):(pickOrder nx xs).toList.Perm xs.toList:=rZ nx xs.size 0 xs.toList #[] (by simp)
noncomputable section
variable {prog:j5} {w:l9} {A:u5} {E:zV->zW->Prop} {s:zW}
theorem gH {src:Source} {n:Nat} {Q:Nat->zW->Prop} (h:n≠0) (hQ:∀ i d,i < n->Q i { s with drawn:=d }):wpAny (i9 prog w) A (choose src n) Q E s:=fun Γ p hΓ=>by
 unfold choose;rw [Sem.wp_choose];exact ⟨h,hQ _ _ (Nat.mod_lt _ (Nat.pos_of_ne_zero h))⟩
theorem Je {α:Type}:∀ (n:Nat) (xs:List α) (s:zW) (Q:List α->zW->Prop),xs.length=n->(∀ ys d,ys.Perm xs->Q ys { s with drawn:=d })->wpAny (i9 prog w) A (drawOrder n xs) Q E s
 | 0,xs,s,Q,h,q=>by
   cases DH h;exact zU (q [] s.drawn (AH _))
 | n+1,[],s,Q,h,q=>by cases h
 | n+1,x::xs,s,Q,h,q=>by
   refine zT (gH (by simp) fun i d hi=>?_);rw [l0 hi]; refine zT (Je n _ _ _ (by rw [LR hi]; lia) fun ys d' hp=>zU (q _ d' ?_));exact (hp.cons _).trans (Io (l0 hi))
theorem Pw {a:c6} {o:Obj} {es:Array (Int×zV)} {ep sl i:Nat} {t:BO} {Q:Option (zV×Nat)->zW->Prop} (hb:w.params.followText "set-order" = true) (ho:s.heap.get? a=some o) (hd:o.data=.set es ep t) (hf:t.fits es.size=true)
   (hQ:Q (((pickOrder (w.params.setOrder a ep) es)[i]?).map fun e=>(e.2,sl)) s):wpAny (i9 prog w) A (MO a sl i ep) Q E s:=by
 unfold MO setWalk setsByText;refine zT (BN ho hd hf ?_);refine zT (zT (ES (zU ?_)));have hb':(i9 prog w).w.params.followText "set-order" = true:=hb;simp only [hb',if_true,bne_self_eq_false,n8,if_false];refine zT (zT (BN ho hd hf ?_));refine zT (zT (ES (zU ?_)));simp only [hb',if_true];exact zT (ES (zU (zU hQ)))
theorem Ue {a:c6} {o:Obj} {es:Array (Int×zV)} {ep sl i:Nat} {t:BO} {Q:Option (zV×Nat)->zW->Prop} (hb:w.params.followText "set-order" = false) (ho:s.heap.get? a=some o) (hd:o.data=.set es ep t) (hf:t.fits es.size=true)
   (hdr:(!t.plain&&decide (es.size>1))=false) (hl:t.led=true)
   (hQ:Q (match es[EV t.place sl]?,t.place[EV t.place sl]? with | some (_,x),some j=>some (x,j+1) | _,_=>none) s):wpAny (i9 prog w) A (MO a sl i ep) Q E s:=by
 unfold MO setsByText;refine zT (BN ho hd hf ?_);refine zT (zT (ES (zU ?_)));have hb':(i9 prog w).w.params.followText "set-order" = false:=hb;simp only [hb',n8,if_false];refine ED (fun h=>absurd (show (!t.plain&&decide (es.size>1))=true from h) (by rw [hdr]; decide)) fun _=>zT ?_;show wpAny _ _ (if (!t.led && !es.isEmpty)=true then _ else _) _ _ _;rw [hl];exact zU (zU hQ)
theorem fB {I a:c6} {sl i nx ep:Nat} {o:Obj} {es:Array (Int×zV)} {t:BO} {x:zV} {Q:Option zV->zW->Prop} (hit:s.heap.get? I=some (Fd (.int sl 0) i a es.size ep)) (ho:s.heap.get? a=some o) (hd:o.data=.set es ep t) (hf:t.fits es.size=true)
   (hx:∀ (A:u5) (E:zV->zW->Prop) (Q:Option (zV×Nat)->zW->Prop),Q (some (x,nx)) s->wpAny (i9 prog w) A (MO a sl i ep) Q E s)
   (hQ:∀ h',h'.get? I=some (Fd (.int nx 0) (i+1) a es.size ep)->CF I s.heap h'->Q (some x) { s with heap:=h' }):wpAny (i9 prog w) A (pyNext (.ref I)) Q E s:=by
 have hT:s.TypeIs (.ref I) "set_iterator" := ⟨_,hit,rfl⟩;unfold pyNext;refine zT (CL ?_);refine t8 (name:=BH "__next__") hT V5 (p0 V5 hT Ju ?_ (Jv _));unfold AA.«set_iterator.__next__» MX;refine zT (zU ?_);refine zT (FW hit rfl ?_);refine zT (EX ho hd hf ?_);simp only [bne_self_eq_false,n8,if_false];refine zT (hx _ _ _ ?_);refine zT (FM hit (by simp) fun h1 q1 b1=>?_);refine zT (FM (s:={ s with heap:=h1 }) q1 (by simp) fun h2 q2 b2=>?_)
 exact zU ⟨_,rfl,zU (hQ h2 q2 (b1.trans b2))⟩
theorem Zw {A:u5} {I:c6} {Q:Option zV->zW->Prop} (hh:A.handled=none) (k:Nat) (hk:k < 5) (y:zV) {h0:p9} (hq:GX I h0 s.heap) (hit:∃ vs,s.heap.get? I=some { cls:=.type "set_iterator",data:=.fields vs }/\vs.size=5)
   (hQ:∀ h',GX I h0 h'->Q none { s with heap:=h' }) :
   wpAny (i9 prog w) A.in1 (do
       LC (u9 I) k y
       let e <- newExc (CM "StopIteration") []
       raiseNew e) (fun fin s'=>∃ v,fin=Fin.done (Flow.ret v)/\wpAny (i9 prog w) A (pure (some v)) Q E s')
     (fun e s' => wpAny (i9 prog w) A (do
         let d <- isInstance e (CM "StopIteration")
         if d=true then pure none else throw e) Q E s') s:=by
 obtain ⟨vs,hit,hv⟩:=hit;refine zT (FM hit (by lia) fun h1 q1 b1=>?_);refine zT ?_;simp only [newExc,newTuple];refine zT (o0 ?_ (by size_fits));refine zT (m:=FX _ _) (CK (a:=AL) (by first | rfl | (simp only [FX]; rfl)) (o0 ?_ (by size_fits)));simp only [raiseNew];refine zT (wpAny_handled ?_);rw [show A.in1.handled=none from hh];refine zT (zU (wpAny_throw (zT ?_)));refine ER (T := "StopIteration") (b:=true) ⟨_,e9 _ rfl,rfl⟩ MY ?_
 exact zU (hQ _ (((hq.trans b1.extBut).push _).push _))
theorem oR {I a:c6} {sl i ep:Nat} {o:Obj} {es:Array (Int×zV)} {t:BO} {Q:Option zV->zW->Prop} (hh:A.handled=none) (hit:s.heap.get? I=some (Fd (.int sl 0) i a es.size ep)) (ho:s.heap.get? a=some o) (hd:o.data=.set es ep t) (hf:t.fits es.size=true)
   (hx:∀ (A:u5) (E:zV->zW->Prop) (Q:Option (zV×Nat)->zW->Prop),Q none s->wpAny (i9 prog w) A (MO a sl i ep) Q E s)
   (hQ:∀ h',GX I s.heap h'->Q none { s with heap:=h' }):wpAny (i9 prog w) A (pyNext (.ref I)) Q E s:=by
 have hT:s.TypeIs (.ref I) "set_iterator" := ⟨_,hit,rfl⟩;unfold pyNext;refine zT (CL ?_);refine t8 (name:=BH "__next__") hT V5 (p0 V5 hT Ju ?_ (Jv _));unfold AA.«set_iterator.__next__» MX;refine zT (zU ?_);refine zT (FW hit rfl ?_);refine zT (EX ho hd hf ?_);simp only [bne_self_eq_false,n8,if_false];refine zT (hx _ _ _ ?_);exact Zw hh 2 (by decide) .none (MC I _).extBut ⟨_,hit,rfl⟩ hQ
theorem sM {I a tp:c6} {i ep pl c:Nat} {o:Obj} {es:Array (Int×zV)} {t:BO} {x:zV} {hv:Int} {ps:Array zV} {Q:Option zV->zW->Prop} (hit:s.heap.get? I=some (Fd (.ref tp) i a es.size ep)) (ho:s.heap.get? a=some o) (hd:o.data=.set es ep t) (hf:t.fits es.size=true)
   (htp:s.heap.get? tp=some { cls:=.type "tuple",data:=.seq ps c }) (hp:ps[i]? = some (.int pl 0)) (hx:es[pl]? = some (hv,x))
   (hQ:∀ h',h'.get? I=some (Fd (.ref tp) (i+1) a es.size ep)->CF I s.heap h'->Q (some x) { s with heap:=h' }):wpAny (i9 prog w) A (pyNext (.ref I)) Q E s:=by
 have hT:s.TypeIs (.ref I) "set_iterator" := ⟨_,hit,rfl⟩;unfold pyNext;refine zT (CL ?_);refine t8 (name:=BH "__next__") hT V5 (p0 V5 hT Ju ?_ (Jv _));unfold AA.«set_iterator.__next__» MX;refine zT (zU ?_);refine zT (FW hit rfl ?_);refine zT (EX ho hd hf ?_);simp only [bne_self_eq_false,n8,if_false];refine zT (MS htp rfl ?_);simp only [CB,hp];unfold setNextDrawn;refine zT (zT (BN ho hd hf ?_))
 simp only [bne_self_eq_false,n8,if_false,hx];refine zU ?_;refine zT (FM hit (by simp) fun h1 q1 b1=>?_);exact zU ⟨_,rfl,zU (hQ h1 q1 b1)⟩
theorem yW {I a tp:c6} {i ep c:Nat} {o:Obj} {es:Array (Int×zV)} {t:BO} {ps:Array zV} {Q:Option zV->zW->Prop} (hh:A.handled=none) (hit:s.heap.get? I=some (Fd (.ref tp) i a es.size ep)) (ho:s.heap.get? a=some o) (hd:o.data=.set es ep t) (hf:t.fits es.size=true)
   (htp:s.heap.get? tp=some { cls:=.type "tuple",data:=.seq ps c }) (hp:ps[i]? = none)
   (hQ:∀ h',GX I s.heap h'->Q none { s with heap:=h' }):wpAny (i9 prog w) A (pyNext (.ref I)) Q E s:=by
 have hT:s.TypeIs (.ref I) "set_iterator" := ⟨_,hit,rfl⟩;unfold pyNext;refine zT (CL ?_);refine t8 (name:=BH "__next__") hT V5 (p0 V5 hT Ju ?_ (Jv _));unfold AA.«set_iterator.__next__» MX;refine zT (zU ?_);refine zT (FW hit rfl ?_);refine zT (EX ho hd hf ?_);simp only [bne_self_eq_false,n8,if_false];refine zT (MS htp rfl ?_);simp only [CB,hp];refine zT (FM hit (by simp) fun h1 q1 b1=>?_)
 exact Zw (s:={ s with heap:=h1 }) hh 2 (by decide) .none b1.extBut ⟨_,q1,rfl⟩ hQ
theorem Wi {I a:c6} {f:zV} {i n ep:Nat} {Q:zV->zW->Prop} (hit:s.heap.get? I=some (Fd f i a n ep)) (h:Q (.ref I) s):wpAny (i9 prog w) A (LS (.ref I)) Q E s:=by
 have hT:s.TypeIs (.ref I) "set_iterator" := ⟨_,hit,rfl⟩;refine HP hT eN (p0 eN hT lL ?_ (lM _));show wpAny _ _ (ret (.ref I)) _ _ s;exact zU ⟨_,rfl, "set_iterator",_,hT,V5.lookup,h⟩
theorem qC (hh:A.handled=none) (I a tp:c6) (h1:a≠I) (h2:tp≠I) (o:Obj) (es:Array (Int×zV)) (ep c:Nat) (t:BO) (hd:o.data=.set es ep t) (hf:t.fits es.size=true) (pl:List Nat) (hl:pl.length=es.size) (hp:∀ j∈pl,j < es.size) :
   Walks prog w A I [I,a,tp] [I] es.size (fun i v=>(pl.map fun j=>(es[j]?.map (·.2)).getD .none)[i]? = some v) (fun i h=>h.get? I=some (Fd (.ref tp) i a es.size ep)/\h.get? a=some o/\h.get? tp=some { cls:=.type "tuple",data:=.seq ((pl.map fun j:Nat=>JY (j:Int) 0).toArray) c }) where
 sub:=fun b hb=>by simp at hb; simp [hb]
 frame:=fun _ _ _ st hk=>⟨hk I (by simp) _ st.1,hk a (by simp) _ st.2.1,hk tp (by simp) _ st.2.2⟩
 item:=fun i s Q E hi st hQ=>by
   have hi':i < pl.length:=by lia
   have hj:=hp pl[i] (CZ hi'); refine sM (pl:=pl[i]) (hv:=es[pl[i]].1) (x:=es[pl[i]].2) st.1 st.2.1 hd hf st.2.2 (by simp [hi']) (by simp [hj]) fun h' q b=>?_;refine hQ _ h' s.toks ?_ ⟨q,b.extBut a _ h1 st.2.1,b.extBut tp _ h2 st.2.2⟩ fun b' o' hb e=>b.extBut b' o' (fun z=>hb (by simp [z])) e;simp [hi',hj]
 done:=fun s Q E st hQ=>yW hh st.1 st.2.1 hd hf st.2.2 (by simp [hl]) fun h' he=>hQ h' s.toks fun b o hb e=>he b o (fun z=>hb (by simp [z])) e
 self:=fun _ _ _ _ st hQ=>Wi st.1 hQ
theorem qA (hh:A.handled=none) (I a:c6) (h1:a≠I) (o:Obj) (es:Array (Int×zV)) (ep:Nat) (t:BO) (hd:o.data=.set es ep t) (hf:t.fits es.size=true) (hb:w.params.followText "set-order" = true) :
   Walks prog w A I [I,a] [I] es.size (fun i v=>((pickOrder (w.params.setOrder a ep) es).toList.map (·.2))[i]? = some v) (fun i h=>h.get? I=some (Fd (.int 0 0) i a es.size ep)/\h.get? a=some o) where
 sub:=fun b hb=>by simp at hb; simp [hb]
 frame:=fun _ _ _ st hk=>⟨hk I (by simp) _ st.1,hk a (by simp) _ st.2⟩
 item:=fun i s Q E hi st hQ=>by
   have hsz:(pickOrder (w.params.setOrder a ep) es).size=es.size:=by rw [<- n6,(Lx _ es).length_eq,n6]
   have hi':i < (pickOrder (w.params.setOrder a ep) es).size:=by lia
   refine fB (sl:=0) (nx:=0) (x:=(pickOrder (w.params.setOrder a ep) es)[i].2) st.1 st.2 hd hf (fun A E Q q=>Pw hb st.2 hd hf ?_) fun h' q b=>?_
   . rw [o7 hi']; exact q
   refine hQ _ h' s.toks ?_ ⟨q,b.extBut a _ h1 st.2⟩ fun b' o' hb e=>b.extBut b' o' (fun z=>hb (by simp [z])) e;simp [hi']
 done:=fun s Q E st hQ=>by
   have hsz:(pickOrder (w.params.setOrder a ep) es).size=es.size:=by rw [<- n6,(Lx _ es).length_eq,n6]
   refine oR (sl:=0) hh st.1 st.2 hd hf (fun A E Q q=>Pw hb st.2 hd hf ?_) fun h' he=>hQ h' s.toks fun b o hb e=>he b o (fun z=>hb (by simp [z])) e;rw [FG (by lia)]; exact q
 self:=fun _ _ _ _ st hQ=>Wi st.1 hQ
def Py (xs:Array Nat):Nat->Nat
 | 0=>0
 | i+1=>xs.getD i 0+1
theorem bJ {xs:Array Nat} (hr:xs.toList.Pairwise (· < ·)):∀ {i:Nat},i<=xs.size->EV xs (Py xs i)=i:=fun {i} hi=>by
 obtain ⟨h1,h2,h3⟩:=Ix xs (Py xs i) hr;have ge:∀ k d,k < xs.size->xs.getD k d=xs.getD k 0:=fun k d hk=>by simp [HM,hk]
 rcases Nat.lt_trichotomy (EV xs (Py xs i)) i with hl | hl | hl
 . have e:=h3 _ (f8 _) (m3 hl hi)
   cases i with
   | zero=>lia
   | succ i =>
     rw [ge _ _ (by lia)] at e; rw [show Py xs (i+1)=xs.getD i 0+1 from rfl] at e hl; rcases HW (EV xs (xs.getD i 0+1)) i with z | z
     . have:=Dx hr (d:=0) z (by lia); lia
     . have z2:EV xs (xs.getD i 0+1)=i:=by lia
       rw [z2] at e; lia
 . exact hl
 . have e:=h2 i hl
   rw [ge _ _ (by lia)] at e;cases i with
   | zero=>exact absurd e (Nat.not_lt_zero _)
   | succ i=>rw [show Py xs (i+1)=xs.getD i 0+1 from rfl] at e; have:=Dx hr (d:=0) (show i < i+1 by lia) (by lia); lia
theorem qB (hh:A.handled=none) (I a:c6) (h1:a≠I) (o:Obj) (es:Array (Int×zV)) (ep:Nat) (t:BO) (hd:o.data=.set es ep t) (hf:t.fits es.size=true) (hb:w.params.followText "set-order" = false) (hdr:(!t.plain&&decide (es.size>1))=false) (hl:t.led=true) (hr:t.place.toList.Pairwise (· < ·)) :
   Walks prog w A I [I,a] [I] es.size (fun i v=>(es.toList.map (·.2))[i]? = some v) (fun i h=>h.get? I=some (Fd (.int (Py t.place i) 0) i a es.size ep)/\h.get? a=some o) where
 sub:=fun b hb=>by simp at hb; simp [hb]
 frame:=fun _ _ _ st hk=>⟨hk I (by simp) _ st.1,hk a (by simp) _ st.2⟩
 item:=fun i s Q E hi st hQ=>by
   have hsz:t.place.size=es.size:=by unfold SetTable.fits at hf; simp at hf; exact hf.1
   have hi':i < t.place.size:=by lia
   refine fB (sl:=Py t.place i) (nx:=Py t.place (i+1)) (x:=es[i].2) st.1 st.2 hd hf (fun A E Q q=>Ue hb st.2 hd hf hdr hl ?_) fun h' q b=>?_
   . rw [bJ hr (by lia),o7 hi,o7 hi']
     have:Py t.place (i+1)=t.place[i]+1:=by unfold Py; simp [HM,hi']
     rw [this] at q; exact q
   refine hQ _ h' s.toks ?_ ⟨q,b.extBut a _ h1 st.2⟩ fun b' o' hb e=>b.extBut b' o' (fun z=>hb (by simp [z])) e;simp [hi]
 done:=fun s Q E st hQ=>by
   have hsz:t.place.size=es.size:=by unfold SetTable.fits at hf; simp at hf; exact hf.1
   refine oR (sl:=Py t.place es.size) hh st.1 st.2 hd hf (fun A E Q q=>Ue hb st.2 hd hf hdr hl ?_) fun h' he=>hQ h' s.toks fun b o hb e=>he b o (fun z=>hb (by simp [z])) e;rw [bJ hr (by lia),FG (f8 _)]; exact q
 self:=fun _ _ _ _ st hQ=>Wi st.1 hQ
end
end Sm
end
noncomputable section
namespace Sm
open PySem PySem.W PyProof.Rows
def Mr (w:l9) (t:BO):Prop:=t.led = !(w.params.followText "set-order")/\t.dummies = #[]/\t.place.toList.Pairwise (· < ·)
theorem iL {es:Array (Int×zV)} {pl:List Nat} (h:pl.Perm (o9 es.size)):(pl.map fun j=>(es[j]?.map (·.2)).getD .none).Perm (es.toList.map (·.2)):=by
 refine (h.map _).trans ?_;have:(o9 es.size).map (fun j=>(es[j]?.map (·.2)).getD .none)=es.toList.map (·.2):=by
   apply KL
   . simp
   . intro i h1 h2
     simp at h1;simp [h1]
 rw [this]
noncomputable section
variable {prog:j5} {w:l9} {A:u5} {E:zV->zW->Prop} {s:zW}
theorem nU {a:c6} {o:Obj} {es:Array (Int×zV)} {ep:Nat} {t:BO} {Q:zV->zW->Prop} (ho:s.heap.get? a=some o) (hex:o.ExactSet) (hd:o.data=.set es ep t) (hf:t.fits es.size=true) (ht:Mr w t) (hz:es.size<=4096) (hh:A.handled=none)
   (hQ:∀ (h1:p9) (d1:Drawn) (I:c6) (fp:List c6) (ord:List zV) (St:Nat->p9->Prop),(∀ b o,s.heap.get? b=some o->h1.get? b=some o)->s.heap.get? I=none->(∀ b∈fp,b=a\/s.heap.get? b=none)->ord.Perm (es.toList.map (·.2)) ->
     Walks prog w A I fp [I] es.size (fun i v=>ord[i]? = some v) St->St 0 h1->Q (.ref I) { s with heap:=h1,drawn:=d1 }):wpAny (i9 prog w) A (LS (.ref a)) Q E s:=by
 have hT:s.TypeIs (.ref a) "set" := ⟨o,ho,hex.1⟩;have hlt:a < s.heap.objs.size:=i8 ho;refine HP hT F.slot_set_iter (p0 F.slot_set_iter hT hJ ?_ (F.args_set_iter_1 _));unfold AA.«frozenset.__iter__» Builtin.Frozenset.slot0 MX Builtin.Frozenset.sizeOf setDrawn setsByText setEpoch;refine zT (zT (zU (zU ?_)));refine zT (zT (EX ho hd hf (zU ?_)));refine zT (zT (BN ho hd hf ?_));refine zT (zT (ES (zU (zU ?_))))
 show wpAny _ _ (if (!(w.params.followText "set-order")&&(!t.plain&&decide (es.size>1)))=true then _ else _) _ _ _;cases hb:w.params.followText "set-order" with
 | true =>
   refine ED (fun h=>by cases h) fun _=>zT (zU ?_);refine zT (zT (BN ho hd hf (zU ?_))); refine zT (o0 (zU ⟨_,rfl, "set_iterator",_,⟨_,e9 _ rfl,rfl⟩,V5.lookup,?_⟩)); exact hQ (s.heap.push (Fd (.int 0 0) 0 a es.size ep)) s.drawn s.heap.objs.size _ _ _ (fun b o e=>a8 _ e) (AM (f8 _)) (fun b hb=>by
     rcases a9.mp hb with rfl | hb
     . exact .inr (AM (f8 _))
     . exact .inl (c8.mp hb)) ((Lx _ es).map _) (qA hh _ a (m6 hlt) o es ep t hd hf hb) ⟨e9 _ rfl,a8 _ ho⟩
 | false =>
   have hl:t.led=true:=by rw [ht.1,hb]; rfl
   cases hp:(!t.plain&&decide (es.size>1)) with
   | false =>
     refine ED (fun h=>by cases h) fun _=>zT (zU ?_);refine zT (zT (BN ho hd hf (zU ?_))); refine zT (o0 (zU ⟨_,rfl, "set_iterator",_,⟨_,e9 _ rfl,rfl⟩,V5.lookup,?_⟩)); exact hQ (s.heap.push (Fd (.int 0 0) 0 a es.size ep)) s.drawn s.heap.objs.size _ _ _ (fun b o e=>a8 _ e) (AM (f8 _)) (fun b hb=>by
       rcases a9.mp hb with rfl | hb
       . exact .inr (AM (f8 _))
       . exact .inl (c8.mp hb)) (AH _) (qB hh _ a (m6 hlt) o es ep t hd hf hb hp hl ht.2.2) ⟨e9 _ rfl,a8 _ ho⟩
   | true =>
     refine ED (fun _=>?_) fun h=>absurd rfl h;refine zT (Je _ _ _ _ (by simp) fun pl d hpl=>?_);unfold newTuple; have hplen:pl.length=es.size:=by rw [hpl.length_eq]; simp
     refine zT (o0 ?_ (by show (MP _).size<=_; rw [CU]; simp; lia));refine zT (zT (BN (s:={ s with heap:=s.heap.push _,drawn:=d }) (a8 _ ho) hd hf (zU ?_))); refine zT (o0 (zU ⟨_,rfl, "set_iterator",_,⟨_,e9 _ rfl,rfl⟩,V5.lookup,?_⟩)); have hsz:∀ o:Obj,(s.heap.push o).objs.size=s.heap.objs.size+1:=fun o=>GO ..;refine hQ _ d _ [(s.heap.push { cls:=.type "tuple",data:=.seq ((pl.map fun j:Nat=>JY (j:Int) 0).toArray) 0 }).objs.size,a,s.heap.objs.size] _ _ (fun b o e=>a8 _ (a8 _ e)) (AM (by rw [hsz]; lia)) (fun b hb=>?_) (iL hpl)
       (qC hh _ a s.heap.objs.size (by rw [hsz]; exact m6 (HB hlt)) (by rw [hsz]; exact m6 (FY _)) o es ep 0 t hd hf pl hplen (fun j hj=>q9.mp (hpl.mem_iff.mp hj))) ⟨e9 _ rfl,a8 _ (a8 _ ho),a8 _ (e9 _ rfl)⟩
     rcases a9.mp hb with rfl | hb
     . exact .inr (AM (by rw [hsz]; lia))
     rcases a9.mp hb with rfl | hb
     . exact .inl rfl
     . rw [c8.mp hb]; exact .inr (AM (f8 _))
end
end Sm
end
noncomputable section
namespace Sm
open PySem PySem.W PyProof.Rows
noncomputable section
variable {prog:j5} {w:l9} {A:u5} {E:zV->zW->Prop} {s:zW}
theorem oA {r:c6} {Q:Bool->zW->Prop} (hT:s.TypeIs (.ref r) "set") (h:Q false s):wpAny (i9 prog w) A (JE (.ref r)) Q E s:=by
 unfold JE;refine zT (CG hT PySem.F.slot_set_len.lookup ?_);generalize hid:("set.__len__" : String)=z
 wp_delta
 rw [show splitId z=some ("set", "__len__") from by subst hid; decide +kernel];subst hid;refine zT (ER (T := "set") (b:=true) hT (by rw [EO]; kernel_rfl) ?_);refine ED (fun hab=>absurd hab (by decide)) (fun _=>ED (fun _=>?_) (fun hab=>absurd (by decide +kernel) hab));exact zT (GS hT (zU h))
theorem Nh {a:c6} {o:Obj} {es:Array (Int×zV)} {ep:Nat} {t:BO} {Q:List zV->zW->Prop} (ho:s.heap.get? a=some o) (hex:o.ExactSet) (hd:o.data=.set es ep t) (hf:t.fits es.size=true) (ht:Mr w t) (hz:es.size<=4096) (hh:A.handled=none)
   (hQ:∀ (h1:p9) (d1:Drawn) tk (ord:List zV),(∀ b o,s.heap.get? b=some o->h1.get? b=some o)->ord.Perm (es.toList.map (·.2))->Q ord { s with heap:=h1,drawn:=d1,toks:=tk }):wpAny (i9 prog w) A (collect (.ref a)) Q E s:=by
 have hlt:a < s.heap.objs.size:=i8 ho;have hzl:es.size<=sizeLine:=by rw [CU]; omega
 have hnS:s.heap.get? s.heap.objs.size=none:=AM (f8 _);let hp:=s.heap.push { cls:=.type "list",data:=.seq ([]:List zV).toArray };have hS:hp.get? s.heap.objs.size=some { cls:=.type "list",data:=.seq #[] 0 }:=e9 _ rfl;have ho':hp.get? a=some o:=a8 _ ho;unfold collect;refine zT (MT (AZ F.entry_proto_collect ?_));rw [z5 F.plain_proto_collect _];refine zT (o0 (zU ⟨FE F.plain_list_iadd _,AZ F.entry_list_iadd ?_⟩));rw [z5 F.plain_list_iadd _]
 show wpAny _ _ (JF (.ref s.heap.objs.size) (.ref a) (.ref s.heap.objs.size)) _ _ { s with heap:=hp };unfold JF;have hT:LN { s with heap:=hp } (.ref a) "set" := ⟨o,ho',hex.1⟩;refine zT (GS hT ?_);have h1:JX (.ref s.heap.objs.size) (.ref a)=false:=by simp [JX]; exact DM hlt
 rw [h1,show (CM "set" == CM "list")=false from by decide,show (CM "set" == CM "tuple")=false from by decide];simp only [MG,n8,if_false];refine zT (nU (s:={ s with heap:=hp }) ho' hex hd hf ht hz hh fun h1 d1 I fp ord St hk hI hfp hord W st=>?_);refine zT (s0 (oA (s:={ s with heap:=h1,drawn:=d1 }) ⟨o,hk _ _ ho',hex.1⟩ ?_));have hS1:=hk _ _ hS;have hSf:s.heap.objs.size∉fp:=fun hb=>by
   rcases hfp _ hb with e | e
   . exact absurd (show s.heap.objs.size=a from e) (DM hlt)
   . rw [show hp.get? s.heap.objs.size=none from e] at hS; cases hS
 have key : ∀ (h : p9) (c : Nat), St 0 h -> (∀ b o, s.heap.get? b = some o -> h.get? b = some o) -> h.get? s.heap.objs.size = some { cls := .type "list", data := .seq #[] c } ->
     GJ (i9 prog w) A (.builtin "list.extend.loop" ⟨[.ref s.heap.objs.size,.ref I,.ref s.heap.objs.size],[]⟩) (wants (fun v s'=>v=.ref s.heap.objs.size/\∃ h1 d1 tk acc c',s'={ s with heap:=h1,drawn:=d1,toks:=tk }/\(∀ b o,s.heap.get? b=some o->h1.get? b=some o)/\h1.get? s.heap.objs.size=some { cls:=.type "list",dict:=none,data:=.seq acc c',slots := #[] }/\ItemsOf (fun i v=>ord[i]? = some v) acc es.size) E) { s with heap:=h,drawn:=d1 }:=by
   intro h c hst hk2 hc; refine codeAny_extend_loopS W.toS hzl s.heap.objs.size hSf (.ref s.heap.objs.size) es.size 0 _ #[] c rfl (BY _) hst hc (ItemsOf.nil _) fun s' acc' c' hm hS' hacc=>?_;rw [Moved.eq_with hm]; refine ⟨rfl,s'.heap,d1,s'.toks,acc',c',rfl,fun b o e=>hm.heap b o (fun hmem=>?_) (hk2 b o e),hS',hacc⟩;rcases a9.mp hmem with e' | hmem
   . rw [e',hnS] at e; cases e
   . have hI':hp.get? I=none:=hI
     rw [c8.mp hmem] at e; rw [show hp.get? I=some o from a8 _ e] at hI'; cases hI'
 have fin : ∀ (r : Result) (s' : zW), wants (fun v s' => v = .ref s.heap.objs.size /\ ∃ h1 d1 tk acc c', s' = { s with heap := h1, drawn := d1, toks := tk } /\ (∀ b o, s.heap.get? b = some o -> h1.get? b = some o) /\ h1.get? s.heap.objs.size = some { cls := .type "list", dict := none, data := .seq acc c', slots := #[] } /\ ItemsOf (fun i v => ord[i]? = some v) acc es.size) E r s' ->
     wants (fun v s'=>wpAny (i9 prog w) A (match v with | .ref a=>load a>>=fun o=>(match o.data with | .seq xs _=>pure xs.toList | _=>unsupported "internal:collect") | _=>unsupported "internal:collect") Q E s') E r s':=fun r s' h=>by
   cases r with
   | error e=>exact h
   | ok fl =>
     cases fl with
     | ret v =>
       obtain ⟨rfl,h2,d2,tk,acc,c',rfl,hk2,hS2,hacc⟩:=h; refine zT (MU hS2 (zU ?_)); have:acc.toList=ord:=by
         have hol:ord.length=es.size:=by rw [hord.length_eq]; simp
         apply FI;intro j;by_cases hj:j < es.size
         . have hja:j < acc.size:=by rw [hacc.1]; exact hj
           rw [hacc.2 j acc[j] (by simp [hja])]; simp [hja]
         . rw [BQ (by simpa [hacc.1] using BI.mp hj),BQ (by omega)]
       rw [this]; exact hQ h2 d2 tk ord hk2 hord
     | _=>exact h
 refine ED (fun _=>?_) fun _=>zU ⟨FE F.plain_extend_loop _,ET (key h1 0 st (fun b o e=>hk b o (a8 _ e)) hS1) fin⟩;refine zT (AI (zT ?_));show wpAny _ _ (updateSeq s.heap.objs.size (·.push .none)>>=fun _=>updateSeq s.heap.objs.size (·.pop)) _ _ _;refine zT (wpAny_updateSeq (s:={ s with heap:=h1,drawn:=d1 }) hS1 rfl ?_);have u2:=y3 (EY (·.push AL)) hS1 rfl;refine wpAny_updateSeq (hz:=by seq_fits) u2 rfl ?_;have u3:=y3 (EY (·.pop)) u2 rfl;have oth:∀ b o,b≠s.heap.objs.size->h1.get? b=some o->((h1.update s.heap.objs.size (EY (·.push AL))).update s.heap.objs.size (EY (·.pop))).get? b=some o:=fun b o hb e=>by rw [FL _ _ (Ne.symm hb),FL _ _ (Ne.symm hb)]; exact e
 refine zU ⟨FE F.plain_extend_loop _,ET (key _ _ (W.frame 0 _ _ st fun b hb o e=>oth b o (fun z=>hSf (z▸hb)) e) (fun b o e=>oth b o (fun z=>?_) (hk b o (a8 _ e))) u3) fin⟩;rw [z,hnS] at e; cases e
end
end Sm
end
noncomputable section
namespace Sm
open PySem PySem.W PyProof.Rows
theorem iH {t:BO} {hf:Nat->Int} {h:Int} (hd:t.dummies = #[]):∀ (n:Nat) (p:SetTable.Probe) {j:Nat} {dm:Option Nat},p.dummy=none->LJ t hf h n p=some (.empty j dm)->dm=none/\t.slot j=.empty:=by
 intro iN; induction iN with
 | zero=>intro _ _ _ _ e; cases e
 | succ n ih =>
   intro p j dm hp e; have ha:(t.advance p).dummy=none:=by unfold SetTable.advance; split <;> exact hp
   unfold LJ at e;split at e
   . rename_i hs
     cases e; exact ⟨hp,hs⟩
   . rename_i hs
     exfalso;unfold SetTable.slot at hs; rw [hd,fM] at hs; simp only [n8,if_false] at hs;split at hs <;> cases hs
   . split at e
     . cases e
     . exact ih _ ha e
theorem Ef {w:l9} {t:BO} (h:Mr w t) (n:Nat):Mr w (t.standIn n):=⟨h.1,rfl,by
 show (Array.range n).toList.Pairwise (· < ·);rw [Array.toList_range]; exact HS⟩
theorem kS {w:l9} {t:BO} (T:Mr w t) (es:Array (Int×zV)) (h:Int) (x:zV):Mr w (layNew t es h x).2.1:=by
 unfold layNew;split
 . rename_i sl wd hfr
   have hp:Mr w (t.put sl).1:=by
     unfold SetTable.freeSlot SetTable.probe at hfr;split at hfr
     . rename_i j dm e
       obtain ⟨rfl,hs⟩:=iH T.2.1 _ _ rfl e; cases hfr; refine ⟨T.1,?_,Tl T.2.2 fun hj=>?_⟩
       . show (if SetTable.has t.dummies _ then _ else t.dummies) = #[]
         rw [T.2.1,fM]; rfl
       . obtain ⟨i,hi⟩:=iW hj
         rw [hE T.2.2 (show t.place[i]? = some j from hi)] at hs; cases hs
     . cases hfr
   show Mr w ((t.put sl).1.orStandIn _);unfold SetTable.orStandIn;split
   . exact hp
   . exact Ef hp _
 . exact Ef T _
theorem bU {w:l9} {t:BO} (T:Mr w t) (es:Array (Int×zV)) (n:Nat):Mr w (LD t es n).2.1:=by
 unfold LD;split
 . rename_i t' ord e
   unfold SetTable.relaid SetTable.laid at e; obtain ⟨ow,e1,e2⟩:=HA.mp e; cases e2; dsimp only;split
   . refine ⟨T.1,rfl,?_⟩
     have:=nP (SetTable.sizeAbove n - 1) ow; unfold dF at this; exact GW.mpr this
   . exact Ef T _
 . exact Ef T _
noncomputable section
variable {prog:j5} {w:l9} {K:Type} [DecidableEq K] {knd:KeyKind prog w K} {A:u5} {E:zV->zW->Prop} {s:zW}
def SetT (knd:KeyKind prog w K) (h:p9) (a:c6) (L:List (Int×zV)):Prop :=
 ∃ o es ep t,h.get? a=some o/\o.ExactSet/\o.data=.set es ep t/\es.toList.Perm L/\ElemsOf knd L/\L.length < GZ/\t.fits es.size=true/\Mr w t
theorem SetT.store {h:p9} {a:c6} {o:Obj} {es:Array (Int×zV)} {ep:Nat} {t:BO} {L:List (Int×zV)} (ho:h.get? a=some o) (hex:o.ExactSet) (hd:o.data=.set es ep t) {es':Array (Int×zV)} {t':BO}
   (hp:es'.toList.Perm L) (hel:ElemsOf knd L) (hb:L.length < GZ) (hf:t'.fits es'.size=true) (T:Mr w t'):∃ o',(h.update a (MA es' t')).get? a=some o'/\o'.ExactSet/\o'.data=.set es' (ep+1) t'/\SetT knd (h.update a (MA es' t')) a L:=by
 have hg:=y3 (MA es' t') ho (by rw [putSet_of es' t' hd]; rfl);rw [putSet_of es' t' hd] at hg;exact ⟨_,hg,hex,rfl,_,es',ep+1,t',hg,hex,rfl,hp,hel,hb,hf,T⟩
theorem addST {a:c6} {L:List (Int×zV)} {k:K} {x:zV} {Q:Bool->zW->Prop} (hkey:knd.is k x=true) (hsc:x.scannable=true) (hS:SetT knd s.heap a L) (hroom:L.length+1 < GZ)
   (hQ:∀ h' b,CF a s.heap h'->SetT knd h' a (if L.any (fun e=>knd.is k e.2) then L else L++[(knd.hash k,x)])->Q b { s with heap:=h' }):wpAny (i9 prog w) A (setAddHashed a x (knd.hash k)) Q E s:=by
 obtain ⟨o,es,ep,t,ho,hex,hd,hp,hel,hb,hf,T⟩:=hS;have hel0:ElemsOf knd es.toList:=hel.perm hp;have hsz:es.size=L.length:=by rw [<- hp.length_eq,n6]
 have hany:L.any (fun e=>knd.is k e.2)=es.toList.any (fun e=>knd.is k e.2):=by
   rw [BM,EM,EM]; exact ⟨fun hZ0=>by obtain ⟨e,h1,h2⟩:=hZ0; exact ⟨e,hp.mem_iff.mpr h1,h2⟩,fun hZ0=>by obtain ⟨e,h1,h2⟩:=hZ0; exact ⟨e,hp.mem_iff.mp h1,h2⟩⟩
 unfold setAddHashed setAddHashedIn;refine s0 (zT (BN ho hd hf ?_));dsimp only;rw [byScan_of hsc (by lia) hel0,if_pos rfl];unfold setAddByScan;refine zT (zT (AI (zT (wpAny_setScan_of hkey ho hd hf hel0 ?_))));cases hr:List.findIdx? (fun e=>knd.is k e.2) es.toList with
 | some j =>
   obtain ⟨hj,hpj,_⟩:=List.findIdx?_eq_some_iff_getElem.mp hr; have:L.any (fun e=>knd.is k e.2)=true:=by rw [hany,EM]; exact ⟨_,CZ hj,hpj⟩
   refine zU (zU ?_); have q:=hQ s.heap false (MC a s.heap); rw [this,if_pos rfl] at q; exact q ⟨o,es,ep,t,ho,hex,hd,hp,hel,hb,hf,T⟩
 | none =>
   have:L.any (fun e=>knd.is k e.2)=false:=by
     rw [hany,List.any_eq_false]; intro e he; rw [List.findIdx?_eq_none_iff.mp hr e he]; decide
   rw [this] at hQ; simp only [n8,if_false] at hQ; have gw:∀ (b:Bool) {s₁:zW} {Q':Unit->zW->Prop},Q' () s₁->wpAny (i9 prog w) A (match b with | true=>rule "set.scan.the-table-gave-way" | false=>pure ()) Q' E s₁ :=
     fun b s₁ Q' hq=>by cases b; exact zU hq; exact AI hq
   have p1:=layNew_perm t es (knd.hash k) x; have f1:=layNew_fits t es (knd.hash k) x; have T1:=kS T es (knd.hash k) x;generalize layNew t es (knd.hash k) x=R at p1 f1 T1 ⊢;obtain ⟨es1,t1,wd,gv⟩:=R; dsimp only at p1 f1 T1 ⊢;rw [Array.toList_push] at p1; have p2:es1.toList.Perm (L++[(knd.hash k,x)]):=p1.trans (hp.append_right _); have el2:ElemsOf knd (L++[(knd.hash k,x)]):=hel.push hkey hsc; have b2:(L++[(knd.hash k,x)]).length < GZ:=by simpa using hroom
   have z1:es1.size < GZ:=by rw [<- n6,p2.length_eq]; exact b2
   refine zT (gw _ ?_); have tail : ∀ t2 : BO, t2.fits es1.size = true -> Mr w t2 -> wpAny (i9 prog w) A (do
       storeSet a es1 t2
       if (!wd && t2.tooFull) = true then do
           (match (LD t2 es1 (DU es1.size)).2.2 with | true=>rule "set.scan.the-table-gave-way" | false=>pure ())
           storeSet a (LD t2 es1 (DU es1.size)).1 (LD t2 es1 (DU es1.size)).2.1
           pure (some true)
         else pure (some true)) (fun r s'=>∃ h',r=some true/\s'={ s with heap:=h' }/\CF a s.heap h'/\SetT knd h' a (L++[(knd.hash k,x)])) E s:=fun t2 f2 T2=>by
     refine zT (wpAny_storeSet_of ho hd ?_ (fits_of_scanBound z1)); obtain ⟨o1,g1,x1,d1,S1⟩:=SetT.store (knd:=knd) ho hex hd p2 el2 b2 f2 T2; have sb1:=AX s.heap a (MA es1 t2);split
     . have p3:=relayAll_perm t2 es1 (DU es1.size)
       have f3:=relayAll_fits t2 es1 (DU es1.size); have T3:=bU T2 es1 (DU es1.size);generalize LD t2 es1 (DU es1.size)=R at p3 f3 T3 ⊢;obtain ⟨es3,t3,gv3⟩:=R; dsimp only at p3 f3 T3 ⊢;have z3:es3.size < GZ:=by rw [<- n6,p3.length_eq,n6]; exact z1
       refine zT (gw _ (zT (wpAny_storeSet_of g1 d1 ?_ (fits_of_scanBound z3)))); obtain ⟨_,_,_,_,S3⟩:=SetT.store (knd:=knd) g1 x1 d1 (p3.trans p2) el2 b2 f3 T3; exact zU ⟨_,rfl,rfl,sb1.trans (AX _ a _),S3⟩
     . exact zU ⟨_,rfl,rfl,sb1,S1⟩
   have close:∀ (r:Option Bool) (s':zW),(∃ h',r=some true/\s'={ s with heap:=h' }/\CF a s.heap h'/\SetT knd h' a (L++[(knd.hash k,x)]))->wpAny (i9 prog w) A (match r with | some added=>pure added | none=>setAddHashedIn a x (knd.hash k) 99999) Q E s':=fun r s' hZ2=>by
     obtain ⟨h',e1,e2,sb,S'⟩:=hZ2; subst e1 e2; exact zU (hQ h' true sb S')
   split
   . refine zT ?_
     rw [hashByValue_scannable 8 hsc]; refine zU (z9 (tail _ ?_ ?_) close fun _ _ e=>e)
     . split
       . exact f1
       . exact SetTable.fits_plain_off f1
     . split
       . exact T1
       . exact T1
   . exact zT (zU (z9 (tail _ f1 T1) close fun _ _ e=>e))
end
end Sm
end
noncomputable section
namespace Sm
open PySem PySem.W PyProof.Rows
noncomputable section
variable {prog:j5} {w:l9} {K:Type} [DecidableEq K]
noncomputable def IsKs (knd:KeyKind prog w K):List zV->List K->Prop
 | [],ks=>ks=[]
 | v::vs,ks=>∃ k r,ks=k::r/\knd.is k v=true/\IsKs knd vs r
noncomputable def Fc (l:List K) (k:K):List K:=if k∈l then l else l++[k]
noncomputable def Xc (ks:Nat->K):Nat->List K
 | 0=>[]
 | i+1=>Fc (Xc ks i) (ks i)
theorem aK (ks:Nat->K):∀ i,(Xc ks i).length<=i:=by
 intro iN; induction iN with
 | zero=>skip; exact f8 _
 | succ i ih =>
   skip
   have:=ih; unfold Xc Fc;split
   . lia
   . simp; lia
theorem IsKs.len {knd:KeyKind prog w K}:∀ {vs:List zV} {ks:List K},IsKs knd vs ks->vs.length=ks.length
 | [],_,h=>by cases (show _=_ from h); rfl
 | v::vs,_,h=>by obtain ⟨k,r,rfl,_,h⟩:=h; simp [h.len]
theorem IsKs.push {knd:KeyKind prog w K} {v:zV} {k:K} (hv:knd.is k v=true):∀ {vs:List zV} {ks:List K},IsKs knd vs ks->IsKs knd (vs++[v]) (ks++[k])
 | [],_,h=>by cases (show _=_ from h); exact ⟨k,[],rfl,hv,rfl⟩
 | u::vs,_,h=>by obtain ⟨k',r,rfl,h1,h⟩:=h; exact ⟨k',_,rfl,h1,h.push hv⟩
theorem IsKs.any {knd:KeyKind prog w K} {k:K}:∀ {vs:List zV} {ks:List K},IsKs knd vs ks->vs.any (fun v=>knd.is k v)=decide (k∈ks)
 | [],_,h=>by cases (show _=_ from h); rfl
 | u::vs,_,h=>by
   obtain ⟨k',r,rfl,h1,h⟩:=h; rw [JC,h.any];by_cases e:k=k'
   . subst e; rw [h1]; simp
   . have : knd.is k u = false := by
       cases c:knd.is k u with
       | false=>rfl
       | true=>exact absurd (knd.inj u k k' c h1) e
     rw [this]; simp [e]
theorem IsKs.perm {knd:KeyKind prog w K} {us vs:List zV} (p:us.Perm vs):∀ {ks:List K},IsKs knd vs ks->∃ ks',ks'.Perm ks/\IsKs knd us ks':=by
 induction p with
 | nil=>exact fun h=>⟨_,AH _,h⟩
 | cons x _ ih =>
   intro ks h; obtain ⟨k,r,rfl,h1,h⟩:=h; obtain ⟨r',p,h'⟩:=ih h; exact ⟨k::r',p.cons k,k,r',rfl,h1,h'⟩
 | swap x y l =>
   intro ks h; obtain ⟨k,r,rfl,h1,k2,r2,rfl,h2,h⟩:=h; exact ⟨k2::k::r2,HL ..,k2,_,rfl,h2,k,_,rfl,h1,h⟩
 | trans _ _ ih1 ih2 =>
   intro ks h; obtain ⟨k1,p1,h1⟩:=ih2 h; obtain ⟨k2,p2,h2⟩:=ih1 h1; exact ⟨k2,p2.trans p1,h2⟩
def SetK (knd:KeyKind prog w K) (h:p9) (a:c6) (ks:List K):Prop:=∃ L,SetT knd h a L/\IsKs knd (L.map (·.2)) ks
theorem SetK.at {knd:KeyKind prog w K} {h h':p9} {a:c6} {ks:List K} (S:SetK knd h a ks) (e:∀ o,h.get? a=some o->h'.get? a=some o):SetK knd h' a ks:=by
 obtain ⟨L,⟨o,es,ep,t,ho,r⟩,k⟩:=S;exact ⟨L,⟨o,es,ep,t,e _ ho,r⟩,k⟩
theorem addK' {knd:KeyKind prog w K} {A:u5} {E:zV->zW->Prop} {s:zW} {a:c6} {ks:List K} {k:K} {x:zV} {Q:Bool->zW->Prop} (hkey:knd.is k x=true) (hsc:x.scannable=true) (hS:SetK knd s.heap a ks) (hroom:ks.length+1 < GZ)
   (hQ:∀ h' b,CF a s.heap h'->SetK knd h' a (Fc ks k)->Q b { s with heap:=h' }):wpAny (i9 prog w) A (setAddHashed a x (knd.hash k)) Q E s:=by
 obtain ⟨L,hT,hK⟩:=hS;have hl:L.length=ks.length:=by rw [<- hK.len,zZ]
 refine addST hkey hsc hT (by lia) fun h' b sb hT'=>hQ h' b sb ⟨_,hT',?_⟩;have:L.any (fun e=>knd.is k e.2)=decide (k∈ks):=by rw [<- hK.any,MR]; rfl
 rw [this];unfold Fc;by_cases c:k∈ks
 . simp only [c,decide_true,if_true]; exact hK
 . simp only [c,decide_false,n8,if_false,m4]; exact hK.push hkey
end
noncomputable section
variable {prog:j5} {w:l9} {K:Type} [DecidableEq K] {knd:KeyKind prog w K} {A:u5} {R:Result->zW->Prop} {E:zV->zW->Prop} {I:c6} {fp wr:List c6} {G:Array NM->Array NM->Prop} {n:Nat} {P:Nat->zV->Prop} {St:Nat->zW->Prop} {s:zW}
theorem loopG (W:WalksS prog w A.in1 I fp wr G n P St) (S:c6) (hSf:S∉fp) (ks:Nat->K) (hval:∀ i v,P i v->knd.is (ks i) v=true/\v.scannable=true) (hb:n+1 < GZ) :
   ∀ (m i:Nat) (s:zW),n - i=m->i<=n->St i s->SetK knd s.heap S (Xc ks i)->(∀ s',Moved (S::wr) G s s'->SetK knd s'.heap S (Xc ks n)->R (.ok (.ret .none)) s') ->
     GJ (i9 prog w) A (.builtin "set.update.loop" ⟨[.ref S,.ref I],[]⟩) R s:=by
 intro iN; induction iN with
 | zero =>
   intro i s hk hi hst hS hR; have hin:i=n:=by lia
   subst hin; refine AZ F.entry_set_update_loop ?_; rw [z5 F.plain_set_update_loop _]; show wpAny _ A.in1 (pyNext (.ref I)>>=_) _ _ s;refine zT (W.done s _ _ hst fun s' hm=>?_);show wpAny _ A.in1 (ret AL) _ _ s';exact zU (hR s' (hm.mono fun b hb=>z7 _ hb) (hS.at fun o e=>hm.heap S o (fun h=>hSf (W.sub _ h)) e))
 | succ m ih =>
   intro i s hk hi hst hS hR; refine AZ F.entry_set_update_loop ?_; rw [z5 F.plain_set_update_loop _]; show wpAny _ A.in1 (pyNext (.ref I)>>=_) _ _ s;refine zT (W.item i s _ _ (by lia) hst fun v s' hP hst' hm=>?_);obtain ⟨hv,hsc⟩:=hval i v hP; have hS':=hS.at fun o e=>hm.heap S o (fun h=>hSf (W.sub _ h)) e;show wpAny _ A.in1 (holding [v] (setAdd S v)>>=_) _ _ s';unfold setAdd; refine zT (s0 (s0 (zT (knd.pyHash hv ?_)))); refine addK' (s:={ s' with toks:=s'.toks+1 }) hv hsc hS' (by have:=aK ks i; lia) fun h' b hsb hS2=>?_
   have sub:∀ b∈wr,b∈S::wr:=fun b hb=>z7 _ hb;refine zU ⟨FE F.plain_set_update_loop _,ih (i+1) _ (by lia) (by lia) (W.frame _ s' _ _ hst' (FD _) fun b hb o e=>?_) hS2 fun s'' hm'' hS''=>?_⟩
   . rw [hsb.2 b fun h:b=S=>hSf (h▸hb)]; exact e
   . refine hR s'' (Moved.trans W.gtrans ((hm.mono sub).then_heap (FD _) fun b o hb e=>?_) hm'') hS''
     rw [hsb.2 b fun h:b=S=>hb (h▸x6)]; exact e
abbrev Sy (w:l9):Obj:={ cls:=.type "set",dict:=none,data:=.set #[] 0 (.fresh 0 0 (!(w.params.followText "set-order"))) }
theorem nF (a:zV) {Q₁:zV->zW->Prop} (h:Q₁ (.ref s.heap.objs.size) { s with heap:=s.heap.push (Sy w) }):GJ (i9 prog w) A (.call (.builtin "set.__new__") ⟨[.type "set",a],[]⟩) (wants Q₁ E) s:=by
 refine MI (zT (CK (F.newCall_set_1 a) (zU ⟨FE F.plain_set_new _,AZ F.entry_set_new ?_⟩)));rw [z5 F.plain_set_new _];unfold AA.«set.__new__» Builtin.Frozenset.newClass;have hsub:=sub_set_self;obtain ⟨hp,g,d,tk,os⟩:=s
 wp_walk
 refine ES (zU ?_);dsimp only;simp only [newObj];exact zT (wpAny_alloc (zU (zU h)))
theorem lR {h:p9} {a:c6} (hg:h.get? a=some (Sy w)):SetK knd h a [] :=
 ⟨[],⟨_,#[],0,_,hg,⟨rfl,rfl,rfl⟩,rfl,List.Perm.nil,(fun e he=>nomatch he),by decide,rfl,rfl,rfl,HX⟩,rfl⟩
theorem Vc {l:c6} {items:Array zV} {ks:Nat->K} {Q:zV->zW->Prop} (hh:A.handled=none) (hl:s.heap.IsList l items) (hk:∀ i v,items[i]? = some v->knd.is (ks i) v=true/\v.scannable=true) (hn:items.size<=3000)
   (h:∀ (s':zW),s'.gens=s.gens->s'.drawn=s.drawn->s'.os=s.os->(∀ b o,s.heap.get? b=some o->s'.heap.get? b=some o)->SetK knd s'.heap s.heap.objs.size (Xc ks items.size)->Q (.ref s.heap.objs.size) s') :
   wpAny (i9 prog w) A (call (.type "set") [.ref l]) Q E s:=by
 obtain ⟨c,tl,hmro⟩:=F.called_set.mro;have hmade:=F.called_set.made;have hsub:=F.called_set.sub;refine wpAny_call (MI ?_);show wpAny _ _ (callAny (.type "set") _) _ _ _;refine zU ⟨JM _ (by decide +kernel),AZ F.entry_type_call ?_⟩;rw [Around.under_plain (weight_type_call_type "set" [.ref l] []) rfl];have h1:=F.called_set.notType;have h2:=F.called_set.canCreate;have hct:=F.typeCall_set_1 (.ref l)
 repeat (any_goals (first | assumption | wp_step))
 refine ET (nF (.ref l) (E:=E) (Q₁:=fun obj s₁=>obj=.ref s.heap.objs.size/\s₁={ s with heap:=s.heap.push (Sy w) }) ⟨rfl,rfl⟩) fun r s₁ hr=>?_;cases r with
 | error e=>exact hr
 | ok fl =>
   cases fl with
   | ret obj =>
     obtain ⟨rfl,rfl⟩:=hr; have hS:(s.heap.push (Sy w)).get? s.heap.objs.size=some (Sy w):=e9 _ rfl; have hT:LN { s with heap:=s.heap.push (Sy w) } (.ref s.heap.objs.size) "set" := ⟨_,hS,rfl⟩; have hli:=F.called_set.init.lookup; have hbi:=F.called_set.init.bind (.ref s.heap.objs.size)
     repeat (any_goals (first | assumption | wp_step))
     refine ET (codeAny_call_builtin (R:=wants (fun r s₂=>r=.none/\s₂.gens=s.gens/\s₂.drawn=s.drawn/\s₂.os=s.os/\(∀ b o,s.heap.get? b=some o->s₂.heap.get? b=some o)/\SetK knd s₂.heap s.heap.objs.size (Xc ks items.size)) E)
       F.called_set.init.plain F.entry_set_init (check_set_init_1 hT ?_)) fun r₂ s₂ hr₂=>?_
     . obtain ⟨ol,hol,hcl,nl,hdl⟩:=hl
       obtain ⟨ocls,odict,odata,oslots⟩:=ol; simp only at hcl hdl; subst hcl hdl; have hol':(s.heap.push (Sy w)).get? l=some { cls:=.type "list",dict:=odict,data:=.seq items nl,slots:=oslots }:=a8 _ hol; have hsls:=F.sub_list_set; have hslf:=F.sub_list_frozenset; have hne:(CM "list" == CM "dict")=false:=by decide
       have hl1:(s.heap.push (Sy w)).IsList l items:=⟨_,hol',rfl,nl,rfl⟩; unfold AA.«set.__init__» noKeywords Builtin.Frozenset.updateFrom;generalize hPI:LS=PI
       wp_walk
       subst hPI; refine HQ hl1 (zT (MT ?_)); have hlS:l < s.heap.objs.size:=i8 hol; have hh3:A.in1.in1.in1.handled=none:=by simp [hh]
       have hneI:l≠(s.heap.push (Sy w)).objs.size:=by rw [GO]; exact m6 (HB hlS)
       have hSf:s.heap.objs.size∉[(s.heap.push (Sy w)).objs.size,l]:=by
         rw [GO]; simp only [a9,HI,or_false,not_or];exact ⟨m6 (FY _),DM hlS⟩
       refine loopG ((Walks.list hh3 _ l hneI items).toS) s.heap.objs.size hSf ks hk (by show _ < 4096; lia) (items.size - 0) 0 _ (by lia) (BY _) ⟨⟨_,e9 _ rfl,rfl,rfl⟩,(hl1.push _)⟩ (lR (a8 _ hS)) fun s' hm hS'=>?_;show wpAny _ _ _ _ _ _;refine zU ?_; show wpAny _ _ (ret AL) _ _ _;refine zU ⟨rfl,hm.gens,hm.drawn,hm.os,fun b o e=>hm.heap b o (fun hb=>?_) (a8 _ (a8 _ e)),hS'⟩;have hlt:=i8 e; rcases a9.mp hb with e' | hb
       . rw [e'] at hlt; exact BV _ hlt
       . rw [c8.mp hb,GO] at hlt; exact BV _ (Nat.lt_of_succ_lt hlt)
     . cases r₂ with
       | error e=>exact hr₂
       | ok fl₂ =>
         cases fl₂ with
         | ret r =>
           obtain ⟨rfl,g1,g2,g3,g4,hS'⟩:=hr₂
           repeat (any_goals (first | assumption | wp_step))
           exact h _ g1 g2 g3 g4 hS'
         | _=>exact hr₂.elim
   | _=>exact hr.elim
end
end Sm
end
noncomputable section
namespace Sm
open PySem PySem.Spec PyProof.Rows PySem.W L2
noncomputable def Cj {K:Type} [DecidableEq K] (l:List K):List K:=l.foldl Fc []
theorem iV {K:Type} [DecidableEq K] (ks:Nat->K):∀ i,Xc ks i=((o9 i).map ks).foldl Fc []:=by
 intro iN; induction iN with
 | zero=>skip; exact rfl
 | succ i ih=>skip; rw [List.range_succ,m4,JV,<- ih]; rfl
theorem Md {K:Type} [DecidableEq K] (l:List K) (d:K):Xc (fun i=>l.getD i d) l.length=Cj l:=by
 rw [iV];have:(o9 l.length).map (fun i=>l.getD i d)=l:=by
   apply KL
   . simp
   . intro i h1 h2; simp [h2]
 rw [this]; rfl
theorem aV {K:Type} [DecidableEq K] [Inhabited K] (l:List K):(Cj l).length<=l.length:=by rw [<- Md l default]; exact aK _ _
theorem Gj {K:Type} [DecidableEq K] {l:List K} {x:K}:x∈Cj l↔x∈l:=by
 have:∀ (l m:List K),x∈l.foldl Fc m↔x∈m\/x∈l:=fun l=>by
   induction l with
   | nil=>intro m; simp
   | cons y l ih =>
     intro m; rw [KY,ih]; unfold Fc;split
     . rename_i hy
       constructor
       . rintro (h | h)
         . exact .inl h
         . exact .inr (.tail _ h)
       . rintro (h | h)
         . exact .inl h
         . rcases a9.mp h with rfl | h
           . exact .inl hy
           . exact .inr h
     . simp [or_assoc]
 rw [Cj,this]; simp
theorem Us:∀ {ds:List zS} {ns:List Int},Ho ds=some ns->ds.length=ns.length:=by
 intro iN; induction iN with
 | nil=>intro _ e; cases e; rfl
 | cons d ds ih =>
   intro ns e;cases d with
   | int i =>
     obtain ⟨m,e1,e2⟩:=p6.mp (show (Ho ds).map (i::·)=some ns from e);rw [<- e2,i0,i0,ih e1]
   | _=>cases e
theorem Mw:∀ {ds:List zS} {ns:List Str},T7 ds=some ns->ds.length=ns.length:=by
 intro iN; induction iN with
 | nil=>intro _ e; cases e; rfl
 | cons d ds ih =>
   intro ns e;cases d with
   | str i =>
     obtain ⟨m,e1,e2⟩:=p6.mp (show (T7 ds).map (i::·)=some ns from e);rw [<- e2,i0,i0,ih e1]
   | _=>cases e
theorem kY:∀ {vs:List zV} {ss:List Str},HR vs ss->∀ (i:Nat) (v:zV),vs[i]? = some v->∃ t,v=.str (ss.getD i default) t
 | _,_,.nil,_,_,e=>by cases e
 | _,_,.cons x t h,0,_,e=>by cases e; exact ⟨t,rfl⟩
 | _,_,.cons x t h,i+1,v,e=>kY h i v e
noncomputable def Gm:List zS->Option zS
 | [.list ds]=>if ds.length < 64 then match Ho ds with
   | some ns=>some (.list ((Ft (Cj ns)).map .int))
   | none=>match T7 ds with
     | some ss=>some (.list ((Cr (Cj ss)).map .str))
     | none=>none
   else none
 | _=>none
noncomputable section
variable {prog:j5} {w:l9} {A:u5} {E:zV->zW->Prop} {s:zW}
theorem jJ:∀ {vs:List zV} {ks:List Int},IsKs (LF prog w) vs ks->IP vs ks:=by
 intro iN; induction iN with
 | nil=>intro _ h; cases (show _=_ from h); exact .nil
 | cons v vs ih =>
   intro _ h; obtain ⟨k,r,rfl,h1,h⟩:=h; obtain ⟨t,rfl⟩:=Value.isInt_shape h1; exact .cons k t (ih h)
theorem jI:∀ {vs:List zV} {ks:List Str},IsKs (strKind prog w) vs ks->HR vs ks:=by
 intro iN; induction iN with
 | nil=>intro _ h; cases (show _=_ from h); exact .nil
 | cons v vs ih =>
   intro _ h; obtain ⟨k,r,rfl,h1,h⟩:=h; obtain ⟨t,rfl⟩:=NO h1; exact .cons k t (ih h)
theorem qP {a:c6} {ks:List Int} {Q:zV->zW->Prop} (S:SetK (LF prog w) s.heap a ks) (h64:ks.length < 64) (hh:A.handled=none)
   (h:∀ (h1:p9) d1 tk (vs:List zV) (out:Array zV) (ns:List Int),(∀ b o,s.heap.get? b=some o->h1.get? b=some o)->IP out.toList ns->ns.Perm ks->ns.Pairwise (· <= ·) ->
     Q (.ref h1.objs.size) { s with heap:=MV (h1.push (FO "list" vs.toArray 0)) h1.objs.size vs out,drawn:=d1,toks:=tk }) :
   wpAny (i9 prog w) A (call (.builtin "sorted") [.ref a]) Q E s:=by
 obtain ⟨L,⟨o,es,ep,t,ho,hex,hd,hp,hel,hb,hf,T⟩,hK⟩:=S;have hl:L.length=ks.length:=by rw [<- hK.len,zZ]
 refine GR kind_sorted plain_sorted entry_sorted (args_sorted1 _) (zT (m:=checkCount "sorted" 1 1 _) (zU (zT (Nh ho hex hd hf T (by rw [<- n6,hp.length_eq]; lia) hh fun h1 d1 tk vs hk hvs=>?_))));obtain ⟨ks',p1,k1⟩:=hK.perm (hvs.trans (hp.map _));have hvl:vs.length=ks.length:=by rw [k1.len,p1.length_eq]
 have hI:=jJ k1;refine zT (wpAny_newList ?_ (by rw [CU]; lia));have hoL:(h1.push (FO "list" vs.toArray 0)).get? h1.objs.size=some (FO "list" vs.toArray 0):=e9 _ rfl;show wpAny _ _ _ _ _ { s with heap:=h1.push (FO "list" vs.toArray 0),drawn:=d1,toks:=tk };refine zT (s0 (p0 MW ⟨_,hoL,rfl⟩ MH (list_sort_tree hoL hI (by lia) fun out ns' a1 a2 a3=>⟨_,rfl,?_⟩) (NB _)));exact zU ⟨_,rfl,h h1 d1 tk vs out ns' hk a1 (a2.trans p1) a3⟩
theorem qQ {a:c6} {ks:List Str} {Q:zV->zW->Prop} (S:SetK (strKind prog w) s.heap a ks) (h64:ks.length < 64) (hh:A.handled=none)
   (h:∀ (h1:p9) d1 tk (vs:List zV) (out:Array zV) (ns:List Str),(∀ b o,s.heap.get? b=some o->h1.get? b=some o)->HR out.toList ns->ns.Perm ks->sortedS ns=true ->
     Q (.ref h1.objs.size) { s with heap:=MV (h1.push (FO "list" vs.toArray 0)) h1.objs.size vs out,drawn:=d1,toks:=tk }) :
   wpAny (i9 prog w) A (call (.builtin "sorted") [.ref a]) Q E s:=by
 obtain ⟨L,⟨o,es,ep,t,ho,hex,hd,hp,hel,hb,hf,T⟩,hK⟩:=S;have hl:L.length=ks.length:=by rw [<- hK.len,zZ]
 refine GR kind_sorted plain_sorted entry_sorted (args_sorted1 _) (zT (m:=checkCount "sorted" 1 1 _) (zU (zT (Nh ho hex hd hf T (by rw [<- n6,hp.length_eq]; lia) hh fun h1 d1 tk vs hk hvs=>?_))));obtain ⟨ks',p1,k1⟩:=hK.perm (hvs.trans (hp.map _));have hvl:vs.length=ks.length:=by rw [k1.len,p1.length_eq]
 have hS:=jI k1;refine zT (wpAny_newList ?_ (by rw [CU]; lia));have hoL:(h1.push (FO "list" vs.toArray 0)).get? h1.objs.size=some (FO "list" vs.toArray 0):=e9 _ rfl;show wpAny _ _ _ _ _ { s with heap:=h1.push (FO "list" vs.toArray 0),drawn:=d1,toks:=tk };refine zT (s0 (p0 MW ⟨_,hoL,rfl⟩ MH (list_sort_treeK strKind_oneLt hoL hS.keysOf (fun v₁ v₂ I8 e=>keyKind_strs (by rw [<- e]; exact hS)) (by lia) fun st' hp hs=>⟨_,rfl,?_⟩) (NB _)));obtain ⟨ss',a1,a2,a3⟩:=sorted_out_str hS hp hs;exact zU ⟨_,rfl,h h1 d1 tk vs _ ss' hk a1 (a2.trans p1) a3⟩
end
theorem Inv.dr {X:Cx} {pins:List (c6×Obj)} {Z:List (Option V)} {H:Hp} {s:zW} (d:Drawn) (I:Inv X pins Z H s):Inv X pins Z H { s with drawn:=d }:=⟨I.ok,I.os,I.bare,I.base,I.loc,I.cell,I.free,I.freeC,I.pin,I.hok,I.len⟩
noncomputable def uU (X:Cx) (a:c6) (ks:List Int):HO:=.ext fun h=>SetK (LF X.prog X.w) h a ks
noncomputable def uV (X:Cx) (a:c6) (ks:List Str):HO:=.ext fun h=>SetK (strKind X.prog X.w) h a ks
noncomputable section
variable {P:j5} {w:l9} {K:zX} {mg:Str->Option zV} {base:p9} {X:Cx} {N:List Str} {sc:Scope} {k:Nat} {df:Bool} {E:EK} {pos p p1 pos1:Pos} {e:Expr} {fs:Dn->Res (List zS)}
def rSet (X:Cx) (xs:List V) (H:Hp) (Q:VK):Prop:=∃ G ds,Same G H/\RepL G [.list ds] xs/\ds.length < 64 /\
 ((∃ ns,Ho ds=some ns/\∀ a,H a=none->Q (.ref a) (upd H a (uU X a (Cj ns))))\/(∃ ss,T7 ds=some ss/\((∀ x∈ss,l7 x=true/\x.length<=sizeLine)->∀ a,H a=none->Q (.ref a) (upd H a (uV X a (Cj ss))))))
theorem pD (hh:X.A.handled=none):Y0 X (.type "set") (rSet X):=by
 rintro pins s Z H xs us Q I r ⟨G,ds,hG,rl,hl,q⟩;obtain ⟨v,t0,rfl,rv,e0⟩:=rl;cases (show t0=[] from e0);obtain ⟨u,rfl,ru⟩:=r.one;obtain ⟨l,vs,rfl,h1,l1⟩:=rv;cases (show u=u9 l from ru);obtain ⟨z,its,n,rr,ho⟩:=Z5 I hG h1;have hfr:H s.heap.objs.size=none:=I.hok.fresh (f8 _);have fin:∀ (s':zW) (o:HO),s'.gens=s.gens->s'.drawn=s.drawn->s'.os=s.os->(∀ b o,s.heap.get? b=some o->s'.heap.get? b=some o)->ObjOk X.prog X.w (upd H s.heap.objs.size o) s'.heap s.heap.objs.size o->Inv X pins Z (upd H s.heap.objs.size o) s':=fun s' o g1 g2 g3 g4 ok=>by
   obtain ⟨hp,g,d,tk,os⟩:=s';cases g1; cases g2; cases g3;exact I.laid (t':=tk) g4 (f8 _) ok
 rcases q with ⟨ns,e1,q⟩ | ⟨ss,e1,q⟩
 . have hI:=repZ l1 rr e1
   have hle:its.length=ns.length:=hI.length; have hln:ns.length=ds.length:=(Us e1).symm; refine Vc (knd:=LF X.prog X.w) (ks:=fun i=>ns.getD i 0) hh ⟨_,ho,rfl,n,rfl⟩ (fun i v hv=>?_) (by simp; lia) fun s' g1 g2 g3 g4 S=>?_
   . obtain ⟨t,rfl⟩:=hI.int_at i v (by simpa using hv)
     exact ⟨by simp [LF,Value.isInt],rfl⟩
   . have S':SetK (LF X.prog X.w) s'.heap s.heap.objs.size (Cj ns):=by rw [<- Md ns 0,<- hle]; simpa using S
     refine ⟨.ref s.heap.objs.size,_,fin s' (uU X s.heap.objs.size (Cj ns)) g1 g2 g3 g4 ⟨S',?_,fun h1 h2 a b=>SetK.at a b⟩,rfl,q _ hfr⟩;obtain ⟨_,⟨o,_,_,_,ho,_⟩,_⟩:=S'; exact ⟨o,ho⟩
 . obtain ⟨hI,hok⟩:=repT l1 rr e1
   have hst:=hI.strs; have hle:its.length=ss.length:=by have:=congrArg IK hst; simpa using this
   have hln:ss.length=ds.length:=(Mw e1).symm; refine Vc (knd:=strKind X.prog X.w) (ks:=fun i=>ss.getD i default) hh ⟨_,ho,rfl,n,rfl⟩ (fun i v hv=>?_) (by simp; lia) fun s' g1 g2 g3 g4 S=>?_
   . obtain ⟨t,rfl⟩:=kY hI i v (by simpa using hv)
     exact ⟨by simp [PySem.strKind,Value.isStrOf],rfl⟩
   . have S':SetK (strKind X.prog X.w) s'.heap s.heap.objs.size (Cj ss):=by rw [<- Md ss default,<- hle]; simpa using S
     refine ⟨.ref s.heap.objs.size,_,fin s' (uV X s.heap.objs.size (Cj ss)) g1 g2 g3 g4 ⟨S',?_,fun h1 h2 a b=>SetK.at a b⟩,rfl,q hok _ hfr⟩;obtain ⟨_,⟨o,_,_,_,ho,_⟩,_⟩:=S'; exact ⟨o,ho⟩
def mF (X:Cx) (xs:List V) (H:Hp) (Q:VK):Prop:=∃ a,xs=[.ref a] /\
 ((∃ ks,H a=some (uU X a ks)/\ks.length < 64/\∀ l,H l=none->Q (.ref l) (upd H l (.lst ((Ft ks).map .int))))\/(∃ ks,H a=some (uV X a ks)/\ks.length < 64/\∀ l,H l=none->Q (.ref l) (upd H l (.lst ((Cr ks).map .str)))))
theorem Xy (hh:X.A.handled=none):Y0 X (.builtin "sorted") (mF X):=by
 rintro pins s Z H xs us Q I r ⟨a,hxs,q⟩;subst hxs;obtain ⟨u,rfl,ru⟩:=r.one;cases (show u=u9 a from ru);have fin : ∀ (h1 : p9) d1 tk (vs : List zV) (out : Array zV) (xs : List V), (∀ b o, s.heap.get? b = some o -> h1.get? b = some o) -> xs.length < 64 -> Vals xs out.toList -> (∀ l, H l = none -> Q (.ref l) (upd H l (.lst xs))) ->
     EP X pins Z Q (.ref h1.objs.size) { s with heap:=MV (h1.push (FO "list" vs.toArray 0)) h1.objs.size vs out,drawn:=d1,toks:=tk }:=fun h1 d1 tk vs out xs hk hl hv hq=>by
   have I1:Inv X pins Z H { s with heap:=h1,drawn:=d1,toks:=tk }:=Inv.dr d1 (I.kept (t':=tk) hk); have hfr:H h1.objs.size=none:=I1.hok.fresh (f8 _); have ho1:(h1.push (FO "list" vs.toArray 0)).get? h1.objs.size=some (FO "list" vs.toArray 0):=e9 _ rfl; obtain ⟨ee,hat⟩:=sortedHeap_at (out:=out) ho1; refine ⟨.ref h1.objs.size,_,I1.laid (o:=.lst xs) (t':=tk) (fun b o e=>?_) (f8 _) ⟨by rw [CU]; lia,out.toList,ee,hv,by simpa using hat⟩,rfl,hq _ hfr⟩;have hlt:b < h1.objs.size:=i8 e; rw [sortedHeap_old (m6 hlt) (by rw [size_push']; exact HB hlt)]
   exact a8 _ e
 rcases q with ⟨ks,hd,h64,q⟩ | ⟨ks,hd,h64,q⟩
 . obtain ⟨S,_⟩:=I.hok a _ hd
   refine qP S h64 hh fun h1 d1 tk vs out ns hk a1 a2 a3=>?_;have hsrt:ns=Ft ks:=Yn (a2.trans (Eo ks).symm) a3 (Zf ks); subst hsrt; exact fin h1 d1 tk vs out _ hk (by rw [zZ,(Eo ks).length_eq]; exact h64) (uW a1) q
 . obtain ⟨S,_⟩:=I.hok a _ hd
   refine qQ S h64 hh fun h1 d1 tk vs out ns hk a1 a2 a3=>?_;have hsrt:ns=Cr ks:=Kg (a2.trans (R0 ks).symm) (Pt a3) (Pu ks); subst hsrt; exact fin h1 d1 tk vs out _ hk (by rw [zZ,(R0 ks).length_eq]; exact h64) (Hu a1) q
theorem jU {n:Nat} (C:Cxt P w K mg base X N sc k df) (h:okGl sc "sorted" = true) (hm:mg "sorted" = none) (h':okGl sc "set" = true) (hm':mg "set" = none) (ha:DA X E [e] n fs)
   (he:e8 [.Call (.Name "set" p1) [e] [] pos1] X.env=(false,eval (.Call (.Name "set" p1) [e] [] pos1) X.env)::e8 [] X.env:=by rfl) (hpl:(AN pos (e8 [] X.env)).any (·.1)=false:=by rfl)
   (he':e8 [e] X.env=(false,eval e X.env)::e8 [] X.env:=by rfl) (hpl':(AN pos1 (e8 [] X.env)).any (·.1)=false:=by rfl):DE X E (.Call (.Name "sorted" p) [.Call (.Name "set" p1) [e] [] pos1] [] pos) (vFn fs Gm):=by
 obtain ⟨g1,g2,g3⟩:=okGl.gl C h;obtain ⟨g4,g5,g6⟩:=okGl.gl C h';intro pins s Z H Q I q;have hh:=I.ok.hd C.calm;refine (PE.imp (Ki (Xy hh) g1 (by rw [C.hmg]; exact hm) (by decide +kernel) (N4 (Ly (pD hh) g4 (by rw [C.hmg]; exact hm') (by decide +kernel) ha.pa g6 g5 he' hpl') X3 he) g3 g2 he hpl) fun Z H Q hY98=>?_) pins s Z H Q I q;obtain ⟨G,δ,S,aft⟩:=hY98;refine Ai (W:=fun G H r=>Aft E G H r Q) S aft (fun g a=>Aft.grow g a) (fun c a=>a) (fun a=>a) fun ds vs G1 H1 e g1 r1 S1 a1=>?_;cases e:Gm ds with
 | none=>rw [e] at a1; exact a1.elim
 | some d =>
   rw [e] at a1; unfold Gm at e;split at e
   . rename_i ys hfs
     split at e
     . rename_i hc
       split at e
       . rename_i ns en
         cases e; refine ⟨G1,ys,S1.sub,r1,hc,.inl ⟨ns,en,fun a ha=>⟨a,rfl,.inl ⟨_,C3,?_,fun l hl=>?_⟩⟩⟩⟩
         . have:=aV ns; have:=Us en; lia
         . have hla:l≠a:=fun z=>by subst z; rw [C3] at hl; cases hl
           have hG1a:G1 a=none:=S1.sub.free ha; refine a1 _ (upd (upd G1 a (uU X a (Cj ns))) l (.lst ((Ft (Cj ns)).map .int))) _ ((Grow.new S1.sub ha).trans (Grow.new (Grow.new S1.sub ha).gh hl)) ⟨_,_,rfl,.inl C3,RepL.ints _⟩
       . rename_i en0
         split at e
         . rename_i ss en
           cases e; refine ⟨G1,ys,S1.sub,r1,hc,.inr ⟨ss,en,fun hok a ha=>⟨a,rfl,.inr ⟨_,C3,?_,fun l hl=>?_⟩⟩⟩⟩
           . have:=aV ss; have:=Mw en; lia
           . refine a1 _ (upd (upd G1 a (uV X a (Cj ss))) l (.lst ((Cr (Cj ss)).map .str))) _ ((Grow.new S1.sub ha).trans (Grow.new (Grow.new S1.sub ha).gh hl)) ⟨_,_,rfl,.inl C3,Qk _ fun y hy=>hok y (Gj.mp ((R0 _).mem_iff.mp hy))⟩
         . cases e
     . cases e
   . cases e
end
end Sm
end
noncomputable section
namespace Sm
open PySem PySem.Spec PyProof.Rows PySem.W L2
noncomputable def bind3:zS->Res (List Sl)
 | .tuple [a,b,c]=>.ok [.sh a,.sh b,.sh c]
 | _=>.no
noncomputable def nX:zS->Bool
 | .tuple ds=>ds.all Il
 | d=>Il d
theorem RepL.atoms {G G':Hp}:∀ {ds:List zS} {vs:List V},RepL G ds vs->ds.all Il=true->RepL G' ds vs
 | [],_,r,_=>r
 | d::ds,_,r,h=>by
   obtain ⟨x,t,rfl,r1,r2⟩:=r; rw [List.all_cons,j9] at h; exact ⟨x,t,rfl,r1.atom h.1,RepL.atoms r2 h.2⟩
theorem oC {G H:Hp} (hG:Same G H) {b:c6} {xs:List V} (hx:H b=some (.tup xs)):∃ G',Grow G H G' H/\G' b=some (.tup xs):=by
 cases eb:G b with
 | some u =>
   have:=hG _ _ eb; rw [hx] at this; exact ⟨G,Grow.refl hG,by rw [eb,<- this]⟩
 | none =>
   refine ⟨upd G b (.tup xs),⟨Same.upd eb,Same.refl _,fun c u e=>?_,fun c u e=>?_⟩,C3⟩
   . by_cases hc:c=b
     . subst hc; rw [C3] at e; cases e; exact hx
     . rw [C4 hc] at e; exact hG _ _ e
   . by_cases hc:c=b
     . subst hc; rw [C3] at e; cases e; exact .inr (.inr ⟨_,rfl⟩)
     . rw [C4 hc] at e; exact .inl e
noncomputable def gK (i:Nat) (f:Dn->Res zS):Dn->Res zS:=fun δ=>(f (fz i δ)).bind fun d=>if nX d=true then .ok d else .no
noncomputable section
variable {X:Cx} {E:EK} {e:Expr} {f:Dn->Res zS}
theorem uB (i:Nat) (h:DE X E e f):DE X E e (gK i f):=PE.imp h fun Z H Q ⟨G,δ,S,a⟩=>by
 obtain ⟨G',S'⟩:=S.fz i;refine ⟨G',_,S',?_⟩;unfold gK at a;have g0:∀ {G2 H2:Hp},Grow G' H G2 H2->Grow G H G H2:=fun g=>⟨Same.refl _,g.h,S.sub.trans g.h,fun _ _ z=>.inl z⟩;cases q:f (fz i δ) with
 | ok d =>
   rw [q] at a; simp only [Res.bind] at a;split at a
   . rename_i hd
     intro v G2 H2 g r; have hat:Il d=true->Q v H2:=fun z=>a v G H2 (g0 g) (r.atom z);cases d with
     | tuple ds =>
       obtain ⟨b,xs,rfl,hb,rl⟩:=r; obtain ⟨G3,g3,h3⟩:=oC (g0 g).gh (g.gh _ _ hb); exact a _ G3 H2 ((g0 g).trans g3) ⟨b,xs,rfl,h3,rl.atoms hd⟩
     | _=>exact hat hd
   . exact (show False from a).elim
 | exc c=>rw [q] at a; exact fun G2 H2 g=>a G H2 (g0 g)
 | no=>rw [q] at a; exact a
end
end Sm
end
noncomputable section
namespace Sm
open PySem PySem.Spec PyProof.Rows PySem.W L2
theorem iT {X:Cx} (hu:X.A.units+64 < BD):MtR X "list.count" (fun x vs H Q=>∃ G ds v d,Same G H/\Rep G (.list ds) x/\vs=[v]/\Rep G d v/\d.depth<=40/\Q (.int (ds.countP fun y=>g9 y d:Nat)) H):=by
 rintro pins s Z H x vs v us Q I rx rv ⟨G,ds,v1,d,hG,rl,e1,rd,hdp,q⟩;subst e1;obtain ⟨u,rfl,ru⟩:=rv.one;obtain ⟨as,r1⟩:=rl.reads I hG rx;obtain ⟨bs,r2⟩:=rd.reads I hG ru;have hxs:BB ds=true:=by have:=rl.lay; simpa [PyData.canLay0] using this
 cases r1 with
 | @list a o vs n _ _ h1 h2 h3 h4 =>
   have hm:=SeqAt.readsAll_map ds _ _ hxs h4; have hd:=SeqAt.items_eqAt (A:=X.A) h4 r2 hxs rd.lay (by have:=BU (w5 ds) d.depth; lia);obtain ⟨c0,d0,da0,sl0⟩:=o; simp only at h2 h3; subst h2 h3; refine IM F.slot_list_count ⟨_,h1,rfl⟩ F.entry_list_count (F.args_list_count_2 _ _) (SeqAt.list_countAt a vs n d0 sl0 u (fun y=>g9 (SeqAt.readOf s.heap y) d)) ⟨h1,hd,?_⟩;have hc:vs.toList.countP (fun y=>g9 (SeqAt.readOf s.heap y) d)=ds.countP fun y=>g9 y d:=by
     rw [<- hm,List.countP_map]; rfl
   rw [hc]; exact ⟨.int _,H,I.tok _,⟨_,rfl⟩,q⟩
noncomputable def Og (g f:Dn->Res zS):Dn->Res zS:=fun δ=>(g δ).bind fun z=>match z with
 | .list ds=>(f δ).bind fun d=>if d.depth<=40 then .ok (.int (ds.countP fun y=>g9 y d:Nat)) else .no
 | _=>.no
noncomputable section
variable {P:j5} {w:l9} {K:zX} {mg:Str->Option zV} {base:p9} {X:Cx} {N:List Str} {sc:Scope} {k:Nat} {df:Bool} {E:EK} {a b:Expr} {f g:Dn->Res zS}
theorem oX {apos cpos:Pos} (C:Cxt P w K mg base X N sc k df) (hb:DE X E b g) (ha:DE X E a f) (hbase:DC b "count" X.env (eval b X.env)=eval b X.env:=by rfl)
   (hfew:((AN cpos (e8 [a] X.env)).all (fun x => !x.1)&&(JO cpos (GL [] X.env)).all (fun x=>x.1.isSome)
     && decide ([a].length+([]:List FK).length+(if ([]:List FK).isEmpty then 0 else 1) < 30))=true:=by rfl)
   (hline:(apos.endLine==cpos.line)=true:=by rfl) (hs:e8 [a] X.env=(false,eval a X.env)::e8 [] X.env:=by rfl) (hplain:(AN cpos (e8 [] X.env)).any (·.1)=false:=by rfl) :
   DE X E (.Call (.Attribute b "count" apos) [a] [] cpos) (Og g f):=by
 refine PE.imp (aC CP PySem.F.slot_list_count PySem.F.type_list_count (iT C.hu) hb (N4 ha X3 hs) hbase hfew hline hs hplain) fun Z H Q hZ3=>?_;obtain ⟨G,δ,S,aft⟩:=hZ3;refine I0 S aft fun d0 v0 G0 H0 g0 r0 S0 a0=>?_;split at a0
 . rename_i ds
   obtain ⟨l,xs,rfl,hl,ll⟩:=r0; refine ⟨.inl ⟨rfl,xs,.inl (Rd.mono S0.sub hl)⟩,?_⟩; refine I0 S0 a0 fun d v G1 H1 g1 r1 S1 a1=>?_;split at a1
   . rename_i hc
     exact ⟨G1,ds,v,d,S1.sub,⟨l,xs,rfl,Rd.mono g1.g hl,ll.mono g1.g⟩,rfl,r1,hc,a1 _ G1 H1 (Grow.refl S1.sub) rfl⟩
   . exact a1.elim
 . exact a0.elim
end
end Sm
end
noncomputable section
namespace Sm
open PySem PySem.Spec PyProof.Rows L2
end Sm
end
noncomputable section
namespace Sm
open PySem PySem.Spec PyProof.Rows PySem.W L2
end Sm
end
noncomputable section
namespace Sm
open PySem PySem.Spec PyProof.Rows PySem.W L2
end Sm
end
noncomputable section
namespace Sm
end Sm
end
noncomputable section
namespace Sm
open PySem PySem.W PyProof.Rows
end Sm
end
noncomputable section
namespace Sm
open PySem PySem.W PyProof.Rows
end Sm
end
noncomputable section
namespace Sm
open PySem PySem.W PyProof.Rows
end Sm
end
noncomputable section
namespace Sm
open PySem PySem.Spec PyProof.Rows PySem.W L2
end Sm
end
noncomputable section
namespace Sm
open PySem PySem.Spec PyProof.Rows PySem.W L2
noncomputable section
variable {X:Cx} {E:EK} {p pos:Pos} {a e:Expr} {fx:Dn->Res Kvs}
theorem xY (h:DN X E e fx):DSN X E [.Return (some e) pos] fx:=fun G0 H0=>by
 refine PSs.imp (Kh (cS h)) fun D Z H hY73=>?_;obtain ⟨G,δ,S,a⟩:=hY73;refine ⟨G,δ,S.sr,?_⟩;cases q:fx δ with
 | ok kvs=>rw [q] at a; exact fun p G' H' g hp hp' ho=>a p G' H' (S.gr.trans g) (S.gr.h.free hp) hp' ho
 | exc c=>rw [q] at a; exact fun G' H' g=>a G' H' (S.gr.trans g)
 | no=>rw [q] at a; exact a
end
end Sm
end
noncomputable section
namespace Sm
open PySem PySem.Spec PyProof.Rows L2
def stm (i j:Nat):CN:=(B3 (top i)).getD j (.Pass ⟨0,0,0,0⟩)
structure Txt (mg:Str->Option zV):Prop where
 b_all:mg "all" = none
 b_bool:mg "bool" = none
 b_dict:mg "dict" = none
 b_enumerate:mg "enumerate" = none
 b_int:mg "int" = none
 b_isinstance:mg "isinstance" = none
 b_len:mg "len" = none
 b_list:mg "list" = none
 b_range:mg "range" = none
 b_reversed:mg "reversed" = none
 b_set:mg "set" = none
 b_sorted:mg "sorted" = none
 b_str:mg "str" = none
 b_tuple:mg "tuple" = none
 c_HANDS:∃ t,mg "HANDS" = some (.str "abcdefgh" t)
 c_LONGEST_NAME:∃ t,mg "LONGEST_NAME" = some (.int 6 t)
 c_MOST_ADDED:∃ t,mg "MOST_ADDED" = some (.int 20 t)
 c_MOST_DROPPED:∃ t,mg "MOST_DROPPED" = some (.int 400 t)
 c_SIDES:∃ t,mg "SIDES" = some (.str "lr" t)
noncomputable def Jd:List Str:=["thing", "least"]
noncomputable def Ka:Dn->Out:=(E2 (X0 (b1 (A1 0) fun d=>some (.bool (Km "int" d))) (X0 (b1 (b1 (A1 0) fun d=>some (.bool (Km "bool" d))) dNot) (b2 (A1 0) (A1 1) (Cv .GtE)))))
noncomputable def Y5:List zS->Res zS:=fnD Jd Ka
noncomputable def Gp:List Str:=["thing", "letters"]
noncomputable def Hk:Dn->Out:=(E2 (X0 (b1 (A1 0) fun d=>some (.bool (Km "str" d))) (X0 (b2 (vFn (A2 (A1 0) A7) K7) (vC (.int 1)) dEq) (b2 (A1 0) (A1 1) (dIn false)))))
noncomputable def T4:List zS->Res zS:=fnD Gp Hk
noncomputable def Eb:List Str:=["thing", "most", "first", "last"]
noncomputable def Fv:Dn->Out:=(C5 (sIf (cOr (X7 (C1 (b1 (A1 0) fun d=>some (.bool (Km "str" d))))) (X7 (C1 (O1 (vC (.int 1)) (vFn (A2 (A1 0) A7) K7) (A1 1) (D9 .LtE) (D9 .LtE))))) (E2 (vC (.bool false))) E4) (E2 (vFn (A2 (E8 (D7 (fun δ=>((A1 0) δ).bind D2) C6 [2,3] E5 (O1 (A1 1) (A1 0) (A1 2) (D9 .LtE) (D9 .LtE)))) A7) Fm)))
noncomputable def Bh:List zS->Res zS:=fnD Eb Fv
noncomputable def Mu:List Str:=["thing"]
noncomputable def Mz:Dn->Out:=(E2 (B6 (A2 (A1 0) (A2 (vC (.int 6)) (A2 (vC (.str "a")) (A2 (vC (.str "z")) A7)))) Bh))
noncomputable def Y6:List zS->Res zS:=fnD Mu Mz
noncomputable def Aw:List Str:=["thing"]
noncomputable def Cs:Dn->Out:=(E2 (B6 (A2 (A1 0) (A2 (vC (.int 20)) (A2 (vC (.str " ")) (A2 (vC (.str "~")) A7)))) Bh))
noncomputable def P3:List zS->Res zS:=fnD Aw Cs
noncomputable def Mt:List Str:=["thing"]
noncomputable def My:Dn->Out:=(E2 (X0 (b1 (A1 0) fun d=>some (.bool (Km "tuple" d))) (b2 (vFn (A2 (A1 0) A7) K7) (vC (.int 2)) dEq)))
noncomputable def W5:List zS->Res zS:=fnD Mt My
noncomputable def Ez:List Str:=["thing"]
noncomputable def Fx:Dn->Out:=(E2 (X0 (B6 (A2 (A1 0) A7) W5) (X0 (B6 (A2 (b2 (A1 0) (vC (.int 0)) dIx) (A2 (vC (.int 1)) A7)) Y5) (B6 (A2 (b2 (A1 0) (vC (.int 1)) dIx) (A2 (vC (.str "abcdefgh")) A7)) T4))))
noncomputable def K0:List zS->Res zS:=fnD Ez Fx
noncomputable def Ey:List Str:=["thing"]
noncomputable def Fw:Dn->Out:=(E2 (X0 (B6 (A2 (A1 0) A7) W5) (X0 (B6 (A2 (b2 (A1 0) (vC (.int 0)) dIx) A7) K0) (B6 (A2 (b2 (A1 0) (vC (.int 1)) dIx) (A2 (vC (.int 0)) A7)) Y5))))
noncomputable def M6:List zS->Res zS:=fnD Ey Fw
noncomputable def L0:List Str:=["thing"]
noncomputable def X1:Dn->Out:=(E2 (vOr (b1 (A1 0) fun d=>some (.bool (Av d))) (B6 (A2 (A1 0) A7) M6)))
noncomputable def F3:List zS->Res zS:=fnD L0 X1
noncomputable def Gq:List Str:=["thing"]
noncomputable def Hl:Dn->Out:=(E2 (X0 (B6 (A2 (A1 0) A7) W5) (X0 (B6 (A2 (b2 (A1 0) (vC (.int 0)) dIx) A7) F3) (B6 (A2 (b2 (A1 0) (vC (.int 1)) dIx) (A2 (vC (.str "lr")) A7)) T4))))
noncomputable def W6:List zS->Res zS:=fnD Gq Hl
noncomputable def Go:List Str:=["values"]
noncomputable def Hj:Dn->Out:=(E2 (vFn (A2 (E8 (D7 (fun δ=>((A2 (b2 (vFn (A2 (A1 0) A7) K7) (vC (.int 1)) pA) A7) δ).bind Dj) C6 [0] E5 (b2 (b2 (A1 1) (A1 0) dIx) (b2 (A1 1) (b2 (A1 0) (vC (.int 1)) D3) dIx) (D9 .Lt)))) A7) Fm))
noncomputable def N7:List zS->Res zS:=fnD Go Hj
noncomputable def O6:List Str:=["thing"]
noncomputable def Al:Dn->Out:=(sIf (cOr (X7 (C1 (b1 (A1 0) fun d=>some (.bool (Km "tuple" d))))) (X7 (C1 (O1 (vC (.int 1)) (vFn (A2 (A1 0) A7) K7) (vC (.int 400)) (D9 .LtE) (D9 .LtE))))) (E2 (vC (.bool false))) E4)
noncomputable def Ak:Dn->Out:=(E2 (X0 (vFn (A2 (E8 (D7 (fun δ=>((A1 0) δ).bind D2) C6 [] E5 (B6 (A2 (A1 0) A7) M6))) A7) Fm) (B6 (A2 (A1 0) A7) N7)))
noncomputable def Ca:Dn->Out:=(C5 Al Ak)
noncomputable def X4:List zS->Res zS:=fnD O6 Ca
noncomputable def O7:List Str:=["word", "parts"]
noncomputable def Q1:Dn->Out:=(sIf (C1 (b2 (A1 0) (vC (.str "add")) dEq)) (E2 (X0 (b2 (vFn (A2 (A1 1) A7) K7) (vC (.int 2)) dEq) (X0 (B6 (A2 (b2 (A1 1) (vC (.int 0)) dIx) A7) F3) (B6 (A2 (b2 (A1 1) (vC (.int 1)) dIx) A7) P3)))) E4)
noncomputable def Q0:Dn->Out:=(sIf (C1 (b2 (A1 0) (vC (.str "drop")) dEq)) (E2 (X0 (b2 (vFn (A2 (A1 1) A7) K7) (vC (.int 1)) dEq) (B6 (A2 (b2 (A1 1) (vC (.int 0)) dIx) A7) X4))) E4)
noncomputable def P9:Dn->Out:=(sIf (C1 (b2 (A1 0) (vC (.str "mark")) dEq)) (E2 (X0 (b2 (vFn (A2 (A1 1) A7) K7) (vC (.int 3)) dEq) (X0 (B6 (A2 (b2 (A1 1) (vC (.int 0)) dIx) A7) Y6) (X0 (B6 (A2 (b2 (A1 1) (vC (.int 1)) dIx) A7) W6) (B6 (A2 (b2 (A1 1) (vC (.int 2)) dIx) A7) W6))))) E4)
noncomputable def P8:Dn->Out:=(sIf (C1 (b2 (A1 0) (vC (.str "unmark")) dEq)) (E2 (X0 (b2 (vFn (A2 (A1 1) A7) K7) (vC (.int 1)) dEq) (B6 (A2 (b2 (A1 1) (vC (.int 0)) dIx) A7) Y6))) E4)
noncomputable def P7:Dn->Out:=(sIf (C1 (b2 (A1 0) (vC (.str "undo")) dEq)) (E2 (X0 (b2 (vFn (A2 (A1 1) A7) K7) (vC (.int 1)) dEq) (B6 (A2 (b2 (A1 1) (vC (.int 0)) dIx) A7) K0))) E4)
noncomputable def P6:Dn->Out:=(E2 (vC (.bool false)))
noncomputable def U3:Dn->Out:=(C5 Q1 (C5 Q0 (C5 P9 (C5 P8 (C5 P7 P6)))))
noncomputable def Y8:List zS->Res zS:=fnD O7 U3
noncomputable def L7:List Str:=["deed", "named"]
noncomputable def U0:Dn->Out:=(G6 1 (E8 A7))
noncomputable def T9:Dn->Out:=(sIf (C1 (b2 (b2 (A1 0) (vC (.int 0)) dIx) (vC (.str "add")) dEq)) (G6 1 (E8 (A2 (b2 (A1 0) (vC (.int 2)) dIx) A7))) (sIf (C1 (b2 (b2 (A1 0) (vC (.int 0)) dIx) (vC (.str "drop")) dEq)) (G6 1 (vFn (A2 (b2 (A1 0) (vC (.int 2)) dIx) A7) Mj)) (sIf (C1 (b2 (b2 (A1 0) (vC (.int 0)) dIx) (vC (.str "mark")) dEq)) (G6 1 (E8 (A2 (b2 (b2 (A1 0) (vC (.int 3)) dIx) (vC (.int 0)) dIx) (A2 (b2 (b2 (A1 0) (vC (.int 4)) dIx) (vC (.int 0)) dIx) A7)))) E4)))
noncomputable def T8:Dn->Out:=(E2 (E8 (D7 (fun δ=>((A1 1) δ).bind D2) C6 [] (fun δ=>((A1 0) δ).bind fun d=>.ok (!Av d)) (A1 0))))
noncomputable def V6:Dn->Out:=(C5 U0 (C5 T9 T8))
noncomputable def F5:List zS->Res zS:=fnD L7 V6
noncomputable def V4:List Str:=["deed"]
noncomputable def V7:Dn->Out:=(C5 (sIf (C1 (b2 (b2 (A1 0) (vC (.int 0)) dIx) (vC (.str "undo")) dEq)) (E2 (E8 (A2 (b2 (A1 0) (vC (.int 2)) dIx) A7))) E4) (E2 (E8 (D7 (fun δ=>((B6 (A2 (A1 0) A7) F5) δ).bind D2) C6 [] E5 (b2 (A1 0) (vC (.int 0)) dIx)))))
noncomputable def E7:List zS->Res zS:=fnD V4 V7
noncomputable def Q5:List Str:=["thing"]
noncomputable def Ei:Dn->Out:=(sIf (cOr (X7 (C1 (b1 (A1 0) fun d=>some (.bool (Km "tuple" d))))) (cOr (C1 (b2 (vFn (A2 (A1 0) A7) K7) (vC (.int 2)) (D9 .Lt))) (X7 (C1 (B6 (A2 (b2 (A1 0) (vC (.int 1)) dIx) A7) K0))))) (E2 (vC (.bool false))) E4)
noncomputable def Eh:Dn->Out:=(sIf (X7 (C1 (B6 (A2 (b2 (A1 0) (vC (.int 0)) dIx) (A2 (vSl (A1 0) (X9 (vC (.int 2))) Ax) A7)) Y8))) (E2 (vC (.bool false))) E4)
noncomputable def Eg:Dn->Out:=(E2 (vFn (A2 (E8 (D7 (fun δ=>((B6 (A2 (A1 0) A7) E7) δ).bind D2) C6 [0] E5 (b2 (b2 (A1 0) (vC (.int 0)) dIx) (b2 (b2 (A1 1) (vC (.int 1)) dIx) (vC (.int 0)) dIx) (D9 .Lt)))) A7) Fm))
noncomputable def Fy:Dn->Out:=(C5 Ei (C5 Eh Eg))
noncomputable def Y7:List zS->Res zS:=fnD Q5 Fy
noncomputable def Q4:List Str:=["deed"]
noncomputable def P1:Dn->Out:=(E2 (vIf (C1 (b2 (b2 (A1 0) (vC (.int 0)) dIx) (vC (.str "add")) dEq)) (vFn (A2 (b2 (A1 0) (vC (.int 3)) dIx) A7) K7) (vC (.int 0))))
noncomputable def D4:List zS->Res zS:=fnD Q4 P1
noncomputable def Ky:List Str:=["deeds"]
noncomputable def Ib:Dn->Res Kvs:=(Ii (E8 (D7 (fun δ=>((A1 0) δ).bind D2) C6 [] E5 (I9 (A2 (b2 (A1 0) (vC (.int 1)) dIx) (A2 (A1 0) A7))))))
noncomputable def Dv:List zS->Res Kvs:=fnW Ky Ib
noncomputable def P5:List Str:=["known", "deed"]
noncomputable def Q9:Dn->Out:=(C5 (sIf (X7 (C1 (vFn (A2 (E8 (D7 (fun δ=>((B6 (A2 (A1 1) A7) E7) δ).bind D2) C6 [0] E5 (Q6 false 1 (A1 0)))) A7) Fm))) (E2 (vC (.bool false))) E4) (E2 (vFn (A2 (E8 (D7 (fun δ=>((B6 (A2 (A1 1) A7) F5) δ).bind D2) C6 [0] E5 (b2 (b2 (A1 0) (vC (.int 1)) dIx) (B6 (A2 (Ec 1 (b2 (A1 0) (vC (.int 0)) dIx)) A7) D4) (D9 .Lt)))) A7) Fm)))
noncomputable def M5:List Sl->Res zS:=fnS P5 Q9
noncomputable def Bl:List Str:=["thing", "known"]
noncomputable def Jr:Dn->Out:=(sIf (cOr (X7 (C1 (b1 (A1 0) fun d=>some (.bool (Km "tuple" d))))) (X7 (C1 (vFn (A2 (E8 (D7 (fun δ=>((A1 0) δ).bind D2) C6 [] E5 (B6 (A2 (A1 0) A7) Y7))) A7) Fm)))) (E2 (vC (.bool false))) E4)
noncomputable def Ej:Dn->Out:=(X8 1 (Fq (A2 (A1 0) A7) Dv))
noncomputable def Jq:Dn->Out:=(qX 1 (E2 (X0 (B6 (A2 (E8 (D7 (fun δ=>((A1 0) δ).bind D2) C6 [] E5 (b2 (A1 0) (vC (.int 1)) dIx))) A7) N7) (vFn (A2 (E8 (D7 (fun δ=>((A1 0) δ).bind D2) C6 [1] E5 (Jg 1 (A1 0) M5))) A7) Fm))))
noncomputable def Na:Dn->Out:=(C5 Jr (C5 Ej Jq))
noncomputable def Bi:List zS->Res zS:=fnD Bl Na
noncomputable def Z8:List Str:=["book", "behind", "deed"]
noncomputable def Ar:Dn->Res Kvs:=(Ou (Ga 1) (Ou (iC 1 2 (fun δ=>((A1 0) δ).bind D2) (C1 (b2 (B6 (A2 (A1 2) A7) D4) (vC (.int 0)) (Cv .Gt))) (b2 (A1 2) (vC (.int 2)) dIx) (A1 2)) (aI 1)))
noncomputable def Q2:List zS->Res Kvs:=fnW Z8 Ar
noncomputable def O5:List Str:=["book", "behind", "waiting", "told", "step", "deed", "number", "sign"]
noncomputable def Dd:Dn->Out:=(X8 1 (Fq (A2 (A1 0) A7) Q2))
noncomputable def Dc:Dn->Out:=(Nt 2 (D7 (fun δ=>((Ow 1 (vC .none) (E8 A7)) δ).bind D2) C6 [] E5 (I9 (A2 (A1 0) (A2 (vC (.int 0)) A7)))))
noncomputable def Hh:Dn->Out:=(Nt 3 A7)
noncomputable def Db:Dn->Out:=(Qi (bD 2) (C5 (iB 2 4) (C5 (G6 5 (b2 (A1 4) (vC (.int 0)) dIx)) (C5 (G6 6 (b2 (A1 4) (vC (.int 1)) dIx)) (C5 (G6 7 (I9 (A2 (b2 (A1 5) (vC (.int 1)) dIx) (A2 (A1 6) A7)))) (C5 (Cn 3 (I9 (A2 (A1 7) (A2 (b2 (b2 (A1 5) (vC (.int 3)) dIx) (A1 6) dIx) A7)))) (C5 (sIf (C1 (b2 (b2 (A1 6) (vC (.int 1)) D3) (vFn (A2 (b2 (A1 5) (vC (.int 3)) dIx) A7) K7) (D9 .Lt))) (Cn 2 (I9 (A2 (A1 5) (A2 (b2 (A1 6) (vC (.int 1)) D3) A7)))) E4) (iD 2 (D7 (fun δ=>((Ow 1 (A1 7) (E8 A7)) δ).bind D2) C6 [] E5 (I9 (A2 (A1 0) (A2 (vC (.int 0)) A7))))))))))))
noncomputable def Hg:Dn->Out:=(sFz 3 (E2 (A1 3)))
noncomputable def Ep:Dn->Out:=(C5 Dd (C5 Dc (C5 Hh (C5 Db Hg))))
noncomputable def Y4:List zS->Res zS:=fnD O5 Ep
noncomputable def Cw:List Str:=["book", "undone", "deed"]
noncomputable def Df:Dn->Res Kvs:=(Ou (Ga 1) (Ou (O3 (fun δ=>((A1 0) δ).bind Zt) (st1 2) (sIf (Ag (C1 (b2 (b2 (A1 2) (vC (.int 0)) dIx) (vC (.str "undo")) dEq)) (C1 (Q6 true 1 (b2 (A1 2) (vC (.int 1)) dIx)))) (Kb 1 (b2 (A1 2) (vC (.int 2)) dIx) (vC (.bool true))) E4)) (aI 1)))
noncomputable def G9:List zS->Res Kvs:=fnW Cw Df
noncomputable def Bd:List Str:=["book", "undone", "dropped", "deed", "sign"]
noncomputable def Cc:Dn->Res Kvs:=(Ou (Ga 2) (Ou (O3 (fun δ=>((A1 0) δ).bind D2) (st1 3) (sIf (Ag (C1 (b2 (b2 (A1 3) (vC (.int 0)) dIx) (vC (.str "drop")) dEq)) (C1 (Q6 true 1 (b2 (A1 3) (vC (.int 1)) dIx)))) (O3 (fun δ=>((b2 (A1 3) (vC (.int 2)) dIx) δ).bind D2) (st1 4) (Kb 2 (A1 4) (vC (.bool true)))) E4)) (aI 2)))
noncomputable def M7:List Sl->Res Kvs:=tJ Bd Cc
noncomputable def K9:List Str:=["book", "undone", "dropped", "told", "pair"]
noncomputable def Y2:Dn->Out:=(X8 1 (Fq (A2 (A1 0) A7) G9))
noncomputable def Y1:Dn->Out:=(qX 1 (X8 2 (Vo (A1 0) 1 M7)))
noncomputable def Ds:Dn->Out:=(Nt 3 A7)
noncomputable def U1:Dn->Out:=(O3 (fun δ=>((B6 (A2 (A1 0) A7) Y4) δ).bind D2) (st1 4) (Cn 3 (I9 (A2 (A1 4) (A2 (X0 (Q6 true 1 (b2 (b2 (A1 4) (vC (.int 0)) dIx) (vC (.int 0)) dIx)) (Q6 true 2 (b2 (A1 4) (vC (.int 0)) dIx))) A7)))))
noncomputable def Dr:Dn->Out:=(sFz 3 (E2 (A1 3)))
noncomputable def Aq:Dn->Out:=(C5 Y2 (C5 Y1 (C5 Ds (C5 U1 Dr))))
noncomputable def V2:List zS->Res zS:=fnD K9 Aq
noncomputable def Ex:List Str:=["book"]
noncomputable def Er:Dn->Out:=(E2 (E8 (D7 (fun δ=>((B6 (A2 (A1 0) A7) V2) δ).bind D2) C6 [] (C1 (b2 (A1 0) (vC (.int 1)) dIx)) (b2 (A1 0) (vC (.int 0)) dIx))))
noncomputable def J3:List zS->Res zS:=fnD Ex Er
noncomputable def Hb:List Str:=["book"]
noncomputable def Fu:Dn->Out:=(E2 (Cp "" (E8 (D7 (fun δ=>((B6 (A2 (A1 0) A7) J3) δ).bind D2) C6 [] E5 (b2 (A1 0) (vC (.int 1)) dIx)))))
noncomputable def L8:List zS->Res zS:=fnD Hb Fu
noncomputable def O8:List Str:=["book", "told", "pair", "hand"]
noncomputable def Fb:Dn->Out:=(Nt 1 A7)
noncomputable def Am:Dn->Out:=(O3 (fun δ=>((B6 (A2 (A1 0) A7) J3) δ).bind D2) (st1 2) (C5 (G6 3 (b2 (b2 (b2 (A1 2) (vC (.int 0)) dIx) (vC (.int 0)) dIx) (vC (.int 1)) dIx)) (sIf (cFz 1 (Ag (C1 (A1 1)) (C1 (b2 (b2 (b2 (A1 1) (b1 (vC (.int 1)) Fk) dIx) (vC (.int 0)) dIx) (A1 3) dEq)))) (Uh 1 (b1 (vC (.int 1)) Fk) (gK 1 (I9 (A2 (A1 3) (A2 (b2 (b2 (b2 (A1 1) (b1 (vC (.int 1)) Fk) dIx) (vC (.int 1)) dIx) (b2 (A1 2) (vC (.int 1)) dIx) D3) A7))))) (Cn 1 (I9 (A2 (A1 3) (A2 (b2 (A1 2) (vC (.int 1)) dIx) A7)))))))
noncomputable def Fa:Dn->Out:=(sFz 1 (E2 (A1 1)))
noncomputable def Cd:Dn->Out:=(C5 Fb (C5 Am Fa))
noncomputable def K2:List zS->Res zS:=fnD O8 Cd
noncomputable def Yj:List Str:=["book", "time"]
noncomputable def Ug:Dn->Out:=(E2 (vFn (A2 (E8 (D7 (fun δ=>((A1 0) δ).bind D2) C6 [1] (C1 (b2 (b2 (b2 (A1 0) (vC (.int 1)) dIx) (vC (.int 0)) dIx) (A1 1) (D9 .LtE))) (A1 0))) A7) Gk))
noncomputable def V9:List zS->Res zS:=fnD Yj Ug
noncomputable def Ja:List Str:=["book"]
noncomputable def Jy:Dn->Out:=(E2 (vFn (A2 (b2 (E8 (A2 (vC (.int 0)) A7)) (E8 (D7 (fun δ=>((A1 0) δ).bind D2) C6 [] E5 (b2 (b2 (A1 0) (vC (.int 1)) dIx) (vC (.int 0)) dIx))) D3) A7) Gm))
noncomputable def W2:List zS->Res zS:=fnD Ja Jy
noncomputable def Ms:List Str:=["book", "time"]
noncomputable def Mx:Dn->Out:=(E2 (B6 (A2 (B6 (A2 (A1 0) (A2 (A1 1) A7)) V9) A7) L8))
noncomputable def U4:List zS->Res zS:=fnD Ms Mx
noncomputable def Jb:List Str:=["book", "told", "time"]
noncomputable def Jz:Dn->Out:=(C5 (Nt 1 A7) (C5 (O3 (fun δ=>((B6 (A2 (A1 0) A7) W2) δ).bind D2) (st1 2) (C5 (Qi (cFz 1 (C1 (b2 (vFn (A2 (A1 1) A7) K7) (A1 2) (D9 .Lt)))) (Cn 1 (vFz 1 (b2 (A1 1) (b1 (vC (.int 1)) Fk) dIx)))) (Cn 1 (B6 (A2 (A1 0) (A2 (A1 2) A7)) U4)))) (sFz 1 (E2 (A1 1)))))
noncomputable def N1:List zS->Res zS:=fnD Jb Jz
noncomputable def Sd:List Str:=["book", "place", "shown"]
noncomputable def Qa:Dn->Out:=(C5 (G6 2 (B6 (A2 (A1 0) A7) J3)) (C5 (sIf (X7 (C1 (O1 (vC (.int 0)) (A1 1) (vFn (A2 (A1 2) A7) K7) (D9 .LtE) (D9 .Lt)))) sNo E4) (E2 (b2 (b2 (b2 (A1 2) (A1 1) dIx) (vC (.int 0)) dIx) (vC (.int 0)) dIx))))
noncomputable def Dw:List zS->Res zS:=fnD Sd Qa
noncomputable def Bc:List Str:=["book", "text", "time"]
noncomputable def Cb:Dn->Out:=(C5 (O3 (fun δ=>((B6 (A2 (A1 0) A7) W2) δ).bind D2) (st1 2) (sIf (C1 (b2 (A1 1) (B6 (A2 (A1 0) (A2 (A1 2) A7)) U4) (dIn false))) (E2 (A1 2)) E4)) (E2 (vC .none)))
noncomputable def K1:List zS->Res zS:=fnD Bc Cb
noncomputable def Jc:List Str:=["book", "undone", "shown", "adds"]
noncomputable def Le:Dn->Out:=(X8 1 (Fq (A2 (A1 0) A7) G9))
noncomputable def Ld:Dn->Out:=(X8 2 (Ii (E8 (D7 (fun δ=>((B6 (A2 (A1 0) A7) J3) δ).bind D2) C6 [] E5 (I9 (A2 (b2 (b2 (A1 0) (vC (.int 0)) dIx) (vC (.int 0)) dIx) (A2 (vC (.bool true)) A7)))))))
noncomputable def Lc:Dn->Out:=(Zs 3 (D7 (fun δ=>((A1 0) δ).bind D2) C6 [1] (Ag (C1 (b2 (b2 (A1 0) (vC (.int 0)) dIx) (vC (.str "add")) dEq)) (C1 (Q6 true 1 (b2 (A1 0) (vC (.int 1)) dIx)))) (A1 0)))
noncomputable def Ua:Dn->Out:=(E2 (E8 (D7 (fun δ=>((A1 3) δ).bind D2) C6 [2] (C1 (Q6 true 1 (b2 (A1 0) (vC (.int 1)) dIx))) (I9 (A2 (b2 (A1 0) (vC (.int 1)) dIx) (A2 (b2 (A1 0) (vC (.int 3)) dIx) A7))))))
noncomputable def Zj:Dn->Out:=(C5 Le (C5 Ld (C5 Lc Ua)))
noncomputable def Gh:List zS->Res zS:=fnD Jc Zj
noncomputable def Z0:List Str:=["book", "hand", "undone", "words", "deed"]
noncomputable def El:Dn->Out:=(X8 2 (Fq (A2 (A1 0) A7) G9))
noncomputable def Jt:Dn->Out:=(Ga 3)
noncomputable def Ek:Dn->Out:=(iC 3 4 (fun δ=>((A1 0) δ).bind D2) (C1 (b2 (b2 (b2 (A1 4) (vC (.int 1)) dIx) (vC (.int 1)) dIx) (A1 1) dEq)) (b2 (A1 4) (vC (.int 0)) dIx) (Q6 true 2 (b2 (A1 4) (vC (.int 1)) dIx)))
noncomputable def Js:Dn->Out:=(E2 (E8 (D7 (fun δ=>((Vq 3) δ).bind D2) C6 [3] E5 (I9 (A2 (A1 0) (A2 (vFn (A2 (Ec 1 (A1 0)) A7) K7) (A2 (Og (Ec 1 (A1 0)) (vC (.bool true))) A7)))))))
noncomputable def Nb:Dn->Out:=(C5 El (C5 Jt (C5 Ek Js)))
noncomputable def Y9:List zS->Res zS:=fnD Z0 Nb
noncomputable def Cy:List Str:=["_law_script", "_law_k"]
noncomputable def Dh:Dn->Out:=(C5 (sIf (C1 (b2 (A1 0) (E8 A7) dEq)) (E2 (b2 (vC (.int 7)) (A1 1) P4)) E4) (E2 (b2 (b2 (A1 0) (b2 (A1 1) (vFn (A2 (A1 0) A7) K7) Tr) dIx) (b2 (vC (.int 6553)) (b2 (A1 1) (vFn (A2 (A1 0) A7) K7) Ng) P4) D3)))
noncomputable def Ac:List zS->Res zS:=fnD Cy Dh
noncomputable def Bg:List Str:=["_law_script", "_law_k", "_law_many", "_law_cell_here"]
noncomputable def Ch:Dn->Out:=(C5 (G6 3 (b2 (b2 (b2 (b2 (B6 (A2 (A1 0) (A2 (A1 1) A7)) Ac) (vC (.int 2147483563)) Tr) (vC (.int 69069)) P4) (b2 (vC (.int 104723)) (b2 (A1 1) (vC (.int 1)) D3) P4) D3) (vC (.int 2147483563)) Tr)) (C5 (G6 3 (b2 (b2 (b2 (A1 3) (A1 3) P4) (b2 (A1 3) (vC (.int 3)) Ng) D3) (vC (.int 2147483399)) Tr)) (E2 (b2 (b2 (b2 (b2 (b2 (A1 3) (A1 3) P4) (b2 (A1 3) (vC (.int 7)) Ng) D3) (vC (.int 2147483647)) Tr) (vC (.int 11)) Ng) (A1 2) Tr))))
noncomputable def B2:List zS->Res zS:=fnD Bg Ch
noncomputable def O9:List Str:=["_law_script", "_law_at", "_law_found", "_law_k", "_law_word"]
noncomputable def Ap:Dn->Out:=(Nt 2 A7)
noncomputable def Ao:Dn->Out:=(O3 (fun δ=>((A2 (vC (.int 3)) A7) δ).bind Dj) (st1 3) (C5 (G6 4 (b2 (b2 (vC (.str "abcdefghijklmnopqrstuvwxyz")) (B6 (A2 (A1 0) (A2 (b2 (A1 1) (b2 (vC (.int 2)) (A1 3) P4) D3) (A2 (vC (.int 26)) A7))) B2) dIx) (B6 (A2 (A1 0) (A2 (b2 (b2 (A1 1) (b2 (vC (.int 2)) (A1 3) P4) D3) (vC (.int 1)) D3) (A2 (vC (.int 2)) A7))) B2) P4)) (Cn 2 (b2 (E8 (A2 (b2 (A1 4) (b2 (vC (.str "xyz")) (A1 3) dIx) D3) (A2 (b2 (b2 (vC (.str "xyz")) (A1 3) dIx) (A1 4) D3) A7))) (B6 (A2 (A1 0) (A2 (b2 (A1 1) (vC (.int 6)) D3) (A2 (vC (.int 2)) A7))) B2) dIx))))
noncomputable def An:Dn->Out:=(sFz 2 (E2 (A1 2)))
noncomputable def Cg:Dn->Out:=(C5 Ap (C5 Ao An))
noncomputable def U7:List zS->Res zS:=fnD O9 Cg
noncomputable def Be:List Str:=["_law_script", "_law_at"]
noncomputable def Ce:Dn->Out:=(E2 (Cp "" (E8 (D7 (fun δ=>((A2 (b2 (vC (.int 1)) (B6 (A2 (A1 0) (A2 (b2 (A1 1) (vC (.int 4)) D3) (A2 (vC (.int 4)) A7))) B2) D3) A7) δ).bind Dj) C6 [0,1] E5 (b2 (vC (.str "ab cd~ <")) (B6 (A2 (A1 1) (A2 (b2 (A1 2) (A1 0) D3) (A2 (vC (.int 8)) A7))) B2) dIx)))))
noncomputable def U5:List zS->Res zS:=fnD Be Ce
noncomputable def Bf:List Str:=["_law_book_here", "_law_found", "_law_deed_here"]
noncomputable def Cf:Dn->Out:=(C5 (G6 1 (E8 A7)) (C5 (O3 (fun δ=>((A1 0) δ).bind D2) (st1 2) (sIf (C1 (b2 (b2 (A1 2) (vC (.int 0)) dIx) (vC (.str "add")) dEq)) (G6 1 (b2 (A1 1) (E8 (D7 (fun δ=>((A2 (vFn (A2 (b2 (A1 2) (vC (.int 3)) dIx) A7) K7) A7) δ).bind Dj) C6 [2] E5 (I9 (A2 (b2 (A1 1) (vC (.int 1)) dIx) (A2 (A1 0) A7))))) D3)) E4)) (E2 (A1 1))))
noncomputable def U6:List zS->Res zS:=fnD Bf Cf
noncomputable def Z9:List Str:=["_law_script", "_law_at", "_law_signs_here", "_law_sign"]
noncomputable def Au:Dn->Out:=(C5 (G6 3 (b2 (b2 (E8 (A2 (vC .none) A7)) (A1 2) D3) (B6 (A2 (A1 0) (A2 (A1 1) (A2 (b2 (vFn (A2 (A1 2) A7) K7) (vC (.int 1)) D3) A7))) B2) dIx)) (E2 (I9 (A2 (A1 3) (A2 (b2 (vC (.str "lr")) (B6 (A2 (A1 0) (A2 (b2 (A1 1) (vC (.int 1)) D3) (A2 (vC (.int 2)) A7))) B2) dIx) A7)))))
noncomputable def N2:List zS->Res zS:=fnD Z9 Au
noncomputable def K5:List Str:=["_law_script", "_law_at", "_law_one", "_law_known", "_law_names_here", "_law_signs_here", "_law_way", "_law_behind", "_law_some", "_law_ends"]
noncomputable def Bu:Dn->Out:=(G6 5 (B6 (A2 (A1 3) A7) U6))
noncomputable def Bt:Dn->Out:=(G6 6 (B6 (A2 (A1 0) (A2 (A1 1) (A2 (vC (.int 12)) A7))) B2))
noncomputable def Bs:Dn->Out:=(sIf (Ag (C1 (b2 (A1 6) (vC (.int 2)) (D9 .Lt))) (C1 (b2 (A1 5) (E8 A7) dNe))) (C5 (Zs 8 (D7 (fun δ=>((A2 (A1 5) A7) δ).bind Re) Ay [0,1] (C1 (b2 (B6 (A2 (A1 2) (A2 (b2 (b2 (A1 3) (vC (.int 20)) D3) (A1 0) D3) (A2 (vC (.int 4)) A7))) B2) (vC (.int 0)) dEq)) (A1 1))) (E2 (I9 (A2 (vC (.str "drop")) (A2 (A1 2) (A2 (vFn (A2 (b2 (A1 8) (b2 (vSl (A1 5) Ax (X9 (vC (.int 1)))) (vFn (A2 (b2 (A1 8) (E8 A7) dEq) A7) Va) P4) D3) A7) Gk) A7)))))) E4)
noncomputable def Br:Dn->Out:=(sIf (C1 (b2 (A1 6) (vC (.int 5)) (D9 .Lt))) (C5 (G6 9 (I9 (A2 (B6 (A2 (A1 0) (A2 (b2 (A1 1) (vC (.int 1)) D3) (A2 (A1 5) A7))) N2) (A2 (B6 (A2 (A1 0) (A2 (b2 (A1 1) (vC (.int 3)) D3) (A2 (A1 5) A7))) N2) A7)))) (E2 (b2 (I9 (A2 (vC (.str "mark")) (A2 (A1 2) (A2 (b2 (A1 4) (B6 (A2 (A1 0) (A2 (b2 (A1 1) (vC (.int 5)) D3) (A2 (vC (.int 3)) A7))) B2) dIx) A7)))) (A1 9) D3))) E4)
noncomputable def Bq:Dn->Out:=(sIf (C1 (b2 (A1 6) (vC (.int 5)) dEq)) (E2 (I9 (A2 (vC (.str "unmark")) (A2 (A1 2) (A2 (b2 (A1 4) (B6 (A2 (A1 0) (A2 (b2 (A1 1) (vC (.int 5)) D3) (A2 (vC (.int 3)) A7))) B2) dIx) A7))))) E4)
noncomputable def Bp:Dn->Out:=(sIf (Ag (C1 (b2 (A1 6) (vC (.int 8)) (D9 .Lt))) (C1 (b2 (A1 3) (I9 A7) dNe))) (E2 (I9 (A2 (vC (.str "undo")) (A2 (A1 2) (A2 (b2 (b2 (A1 3) (B6 (A2 (A1 0) (A2 (b2 (A1 1) (vC (.int 6)) D3) (A2 (vFn (A2 (A1 3) A7) K7) A7))) B2) dIx) (vC (.int 1)) dIx) A7))))) E4)
noncomputable def Bo:Dn->Out:=(G6 7 (b2 (b2 (b2 (E8 (A2 (vC .none) A7)) (A1 5) D3) (vSl (A1 5) (X9 (b1 (vC (.int 3)) Fk)) Ax) D3) (B6 (A2 (A1 0) (A2 (b2 (A1 1) (vC (.int 7)) D3) (A2 (b2 (b2 (vFn (A2 (A1 5) A7) K7) (vC (.int 1)) D3) (vFn (A2 (vSl (A1 5) (X9 (b1 (vC (.int 3)) Fk)) Ax) A7) K7) D3) A7))) B2) dIx))
noncomputable def Bn:Dn->Out:=(E2 (I9 (A2 (vC (.str "add")) (A2 (A1 2) (A2 (A1 7) (A2 (B6 (A2 (A1 0) (A2 (b2 (A1 1) (vC (.int 8)) D3) A7)) U5) A7))))))
noncomputable def Dg:Dn->Out:=(C5 Bu (C5 Bt (C5 Bs (C5 Br (C5 Bq (C5 Bp (C5 Bo Bn)))))))
noncomputable def N8:List zS->Res zS:=fnD K5 Dg
noncomputable def O0:List Str:=["_law_script", "_law_at", "_law_most", "_law_names_here", "_law_found", "_law_one", "_law_k", "_law_time", "_law_hand", "_law_known"]
noncomputable def Bz:Dn->Out:=(G6 4 (I9 A7))
noncomputable def Bx:Dn->Out:=(G6 5 (I9 (A2 (vC (.int 1)) (A2 (vC (.str "a")) A7))))
noncomputable def Bw:Dn->Out:=(O3 (fun δ=>((A2 (B6 (A2 (A1 0) (A2 (A1 1) (A2 (b2 (A1 2) (vC (.int 1)) D3) A7))) B2) A7) δ).bind Dj) (st1 6) (C5 (G6 7 (b2 (b2 (A1 5) (vC (.int 0)) dIx) (B6 (A2 (A1 0) (A2 (b2 (b2 (A1 1) (vC (.int 1)) D3) (b2 (vC (.int 60)) (A1 6) P4) D3) (A2 (vC (.int 2)) A7))) B2) D3)) (C5 (G6 8 (b2 (vC (.str "abc")) (B6 (A2 (A1 0) (A2 (b2 (b2 (A1 1) (vC (.int 2)) D3) (b2 (vC (.int 60)) (A1 6) P4) D3) (A2 (vC (.int 3)) A7))) B2) dIx)) (C5 (sIf (Ag (C1 (b2 (A1 4) (I9 A7) dNe)) (C1 (b2 (I9 (A2 (A1 7) (A2 (A1 8) A7))) (A1 5) (D9 .LtE)))) (G6 7 (b2 (b2 (A1 5) (vC (.int 0)) dIx) (vC (.int 1)) D3)) E4) (C5 (G6 5 (I9 (A2 (A1 7) (A2 (A1 8) A7)))) (C5 (G6 9 (vFn (A2 (E8 (D7 (fun δ=>((A1 4) δ).bind D2) C6 [7] (C1 (b2 (b2 (b2 (A1 0) (vC (.int 1)) dIx) (vC (.int 0)) dIx) (A1 1) (D9 .Lt))) (A1 0))) A7) Gk)) (G6 4 (b2 (A1 4) (I9 (A2 (B6 (A2 (A1 0) (A2 (b2 (b2 (A1 1) (vC (.int 3)) D3) (b2 (vC (.int 60)) (A1 6) P4) D3) (A2 (A1 5) (A2 (A1 9) (A2 (A1 3) A7))))) N8) A7)) D3))))))))
noncomputable def Bv:Dn->Out:=(E2 (A1 4))
noncomputable def Di:Dn->Out:=(C5 Bz (C5 Bx (C5 Bw Bv)))
noncomputable def Ae:List zS->Res zS:=fnD O0 Di
noncomputable def Aj:List Str:=["_law_script", "_law_book_here", "_law_texts", "_law_text", "_law_time", "_law_ages", "_law_added", "_law_hands", "_law_many", "_law_hand", "_law_less", "_law_other", "_law_first", "_law_word", "_law_number", "_law_left"]
noncomputable def Yx:Dn->Out:=(G6 1 (B6 (A2 (A1 0) (A2 (vC (.int 10)) (A2 (vC (.int 9)) (A2 (B6 (A2 (A1 0) (A2 (vC (.int 0)) A7)) U7) A7)))) Ae))
noncomputable def Yw:Dn->Out:=(G6 2 (B6 (A2 (A1 1) A7) N1))
noncomputable def Yv:Dn->Out:=(G6 3 (B6 (A2 (A1 1) A7) L8))
noncomputable def Yu:Dn->Out:=(sIf (cOr (C1 (b2 (b2 (A1 2) (vC (.int 0)) dIx) (vC (.str "")) dNe)) (C1 (b2 (b2 (A1 2) (b1 (vC (.int 1)) Fk) dIx) (A1 3) dNe))) (E2 (vC (.bool false))) E4)
noncomputable def Pa:Dn->Out:=(O3 (fun δ=>((A2 (vFn (A2 (A1 2) A7) K7) A7) δ).bind Dj) (st1 4) (C5 (G6 10 (B6 (A2 (A1 1) (A2 (A1 4) A7)) V9)) (C5 (sIf (cOr (X7 (C1 (B6 (A2 (A1 10) A7) Bi))) (cOr (C1 (b2 (B6 (A2 (A1 10) A7) L8) (b2 (A1 2) (A1 4) dIx) dNe)) (C1 (b2 (B6 (A2 (A1 10) A7) N1) (vSl (A1 2) Ax (X9 (vFn (A2 (B6 (A2 (A1 10) A7) N1) A7) K7))) dNe)))) (E2 (vC (.bool false))) E4) (C5 (O3 (fun δ=>((A2 (b2 (A1 4) (vC (.int 1)) D3) A7) δ).bind Dj) (st1 11) (sIf (C1 (b2 (B6 (A2 (A1 10) (A2 (A1 11) A7)) V9) (B6 (A2 (A1 1) (A2 (A1 11) A7)) V9) dNe)) (E2 (vC (.bool false))) E4)) (C5 (sIf (cOr (C1 (b2 (b2 (A1 2) (A1 4) dIx) (vSl (A1 2) Ax (X9 (b2 (A1 4) (vC (.int 1)) D3))) (dIn true))) (C1 (b2 (B6 (A2 (A1 1) (A2 (b2 (A1 2) (A1 4) dIx) A7)) K1) (A1 4) (Cv .Gt)))) (E2 (vC (.bool false))) E4) (C5 (G6 12 (B6 (A2 (A1 1) (A2 (b2 (A1 2) (A1 4) dIx) A7)) K1)) (sIf (C1 (b2 (E8 (D7 (fun δ=>((vSl (A1 2) Ax (X9 (A1 12))) δ).bind D2) C6 [2,4] (C1 (b2 (b2 (A1 1) (A1 2) dIx) (A1 0) (dIn false))) (A1 0))) (E8 A7) dNe)) (E2 (vC (.bool false))) E4)))))))
noncomputable def Jp:Dn->Out:=(G6 5 (E8 (D7 (fun δ=>((A2 (vFn (A2 (A1 3) A7) K7) A7) δ).bind Dj) C6 [1] E5 (B6 (A2 (A1 1) (A2 (A1 0) A7)) Dw))))
noncomputable def Jo:Dn->Out:=(X8 6 (Ii (E8 (D7 (fun δ=>((A1 1) δ).bind D2) C6 [] (C1 (b2 (b2 (A1 0) (vC (.int 0)) dIx) (vC (.str "add")) dEq)) (I9 (A2 (b2 (A1 0) (vC (.int 1)) dIx) (A2 (b2 (A1 0) (vC (.int 3)) dIx) A7)))))))
noncomputable def Jn:Dn->Out:=(sIf (C1 (b2 (E8 (D7 (fun δ=>((A2 (vFn (A2 (A1 3) A7) K7) A7) δ).bind Dj) C6 [3,6,5] (C1 (b2 (b2 (A1 1) (A1 0) dIx) (Ec 2 (b2 (A1 3) (A1 0) dIx)) (dIn true))) (A1 0))) (E8 A7) dNe)) (E2 (vC (.bool false))) E4)
noncomputable def Jm:Dn->Out:=(G6 7 (Cp "" (E8 (D7 (fun δ=>((B6 (A2 (A1 1) A7) K2) δ).bind D2) Ay [] E5 (b2 (A1 0) (vFn (A2 (A1 1) A7) K7) P4)))))
noncomputable def Jl:Dn->Out:=(sIf (cOr (C1 (b2 (A1 7) (Cp "" (E8 (D7 (fun δ=>((A1 5) δ).bind D2) C6 [] E5 (b2 (A1 0) (vC (.int 1)) dIx)))) dNe)) (C1 (b2 (Cp "" (E8 (D7 (fun δ=>((B6 (A2 (A1 1) A7) K2) δ).bind D2) Ay [] E5 (A1 1)))) (A1 3) dNe))) (E2 (vC (.bool false))) E4)
noncomputable def Gr:Dn->Out:=(sIf (C1 (b2 (E8 (D7 (fun δ=>((B6 (A2 (A1 1) A7) Gh) δ).bind D2) Ay [5,6] (cOr (C1 (b2 (A1 0) (A1 2) (dIn false))) (C1 (b2 (Ec 3 (A1 0)) (A1 1) dNe))) (A1 0))) (E8 A7) dNe)) (E2 (vC (.bool false))) E4)
noncomputable def Uc:Dn->Out:=(G6 8 (vC (.int 0)))
noncomputable def Lf:Dn->Out:=(O3 (fun δ=>((vC (.str "abcdefgh")) δ).bind D2) (st1 9) (O3 (fun δ=>((B6 (A2 (A1 1) (A2 (A1 9) A7)) Y9) δ).bind D2) (st3 13 14 15) (C5 (G6 8 (b2 (A1 8) (A1 14) D3)) (sIf (X7 (C1 (O1 (vC (.int 0)) (A1 15) (A1 14) (D9 .LtE) (D9 .LtE)))) (E2 (vC (.bool false))) E4))))
noncomputable def Ub:Dn->Out:=(E2 (b2 (A1 8) (vFn (A2 (A1 1) A7) K7) dEq))
noncomputable def Oh:Dn->Out:=(C5 Yx (C5 Yw (C5 Yv (C5 Yu (C5 Pa (C5 Jp (C5 Jo (C5 Jn (C5 Jm (C5 Jl (C5 Gr (C5 Uc (C5 Lf Ub)))))))))))))
noncomputable def fF:List zS->Res zS:=fnD Aj Oh
end Sm
end
noncomputable section
namespace Sm
open PySem PySem.Spec PyProof.Rows L2
variable {P:j5} {w:l9} {K:zX} {mg:Str->Option zV} {base:p9} {X:Cx}
theorem Zo:FnScope Jd ["thing", "least"] (A4 (top 9)):=⟨rfl,rfl,rfl,by decide +kernel,rfl,by decide +kernel,by decide +kernel⟩
theorem Tw  (T:Txt mg) (C:Cxt P w K mg base X Jd (A4 (top 9)) 0 true):DSs X E0k (B3 (top 9)) Ka :=
 (B7 (D1 (U9 (Af C ⋯ T.b_isinstance ⋯ T.b_int (by decide +kernel) ⋯ (A3 C 0 ⋯)) (U9 (d_not (Af C ⋯ T.b_isinstance ⋯ T.b_bool (by decide +kernel) ⋯ (A3 C 0 ⋯))) (Ck (d_ge C (A3 C 0 ⋯) (A3 C 1 ⋯)))))))
theorem Wm:FnScope Gp ["thing", "letters"] (A4 (top 10)):=⟨rfl,rfl,rfl,by decide +kernel,rfl,by decide +kernel,by decide +kernel⟩
theorem Rw  (T:Txt mg) (C:Cxt P w K mg base X Gp (A4 (top 10)) 0 true):DSs X E0k (B3 (top 10)) Hk :=
 (B7 (D1 (U9 (Af C ⋯ T.b_isinstance ⋯ T.b_str (by decide +kernel) ⋯ (A3 C 0 ⋯)) (U9 (Xr C (N0 C ⋯ T.b_len (A5 (A3 C 0 ⋯) A8)) A9) (Ck (d_in C (A3 C 0 ⋯) (A3 C 1 ⋯)))))))
theorem cG:FnScope Eb ["thing", "most", "first", "last"] (A4 (top 11)):=⟨rfl,rfl,rfl,by decide +kernel,rfl,by decide +kernel,by decide +kernel⟩
theorem Yc  (T:Txt mg) (C:Cxt P w K mg base X Eb (A4 (top 11)) 0 true):DSs X E0k (B3 (top 11)) Fv :=
 (B1 (Q7 (w_t (Os (Dm (Fs (Af C ⋯ T.b_isinstance ⋯ T.b_str (by decide +kernel) ⋯ (A3 C 0 ⋯)))) (Jf (Dm (Lb C A9 (N0 C ⋯ T.b_len (A5 (A3 C 0 ⋯) A8)) (A3 C 1 ⋯)))))) (B7 (D1 N5)) F7) (B7 (D1 (Nf C ⋯ T.b_all (A5 (F4 (F2 C [2,3] ["first", "last"] ⋯ (K3 (A3 C 0 ⋯)) (fun X' C'=>L9) (fun X' C'=>(jV C' (A3 C' 1 ⋯) (A3 C' 0 ⋯) (A3 C' 2 ⋯))))) A8)))))
theorem cI:FnScope Mu ["thing"] (A4 (top 12)):=⟨rfl,rfl,rfl,by decide +kernel,rfl,by decide +kernel,by decide +kernel⟩
theorem Ye  (T:Txt mg) (F_is_text:Fn P w K mg base "is_text" 1 4 Bh) (C:Cxt P w K mg base X Mu (A4 (top 12)) 1 true):DSs X E0k (B3 (top 12)) Mz :=
 (B7 (D1 (C0 C F_is_text (by decide) ⋯ (A5 (A3 C 0 ⋯) (A5 (Xp C ⋯ T.c_LONGEST_NAME) (A5 L3 (A5 L3 A8)))))))
theorem Lp:FnScope Aw ["thing"] (A4 (top 13)):=⟨rfl,rfl,rfl,by decide +kernel,rfl,by decide +kernel,by decide +kernel⟩
theorem Iv  (T:Txt mg) (F_is_text:Fn P w K mg base "is_text" 1 4 Bh) (C:Cxt P w K mg base X Aw (A4 (top 13)) 1 true):DSs X E0k (B3 (top 13)) Cs :=
 (B7 (D1 (C0 C F_is_text (by decide) ⋯ (A5 (A3 C 0 ⋯) (A5 (Xp C ⋯ T.c_MOST_ADDED) (A5 L3 (A5 L3 A8)))))))
theorem cH:FnScope Mt ["thing"] (A4 (top 14)):=⟨rfl,rfl,rfl,by decide +kernel,rfl,by decide +kernel,by decide +kernel⟩
theorem Yd  (T:Txt mg) (C:Cxt P w K mg base X Mt (A4 (top 14)) 0 true):DSs X E0k (B3 (top 14)) My :=
 (B7 (D1 (U9 (Af C ⋯ T.b_isinstance ⋯ T.b_tuple (by decide +kernel) ⋯ (A3 C 0 ⋯)) (Ck (Xr C (N0 C ⋯ T.b_len (A5 (A3 C 0 ⋯) A8)) A9)))))
theorem Tb:FnScope Ez ["thing"] (A4 (top 15)):=⟨rfl,rfl,rfl,by decide +kernel,rfl,by decide +kernel,by decide +kernel⟩
theorem Nx  (T:Txt mg) (F_is_one_of:Fn P w K mg base "is_one_of" 1 2 T4) (F_is_pair:Fn P w K mg base "is_pair" 1 1 W5) (F_is_whole:Fn P w K mg base "is_whole" 1 2 Y5) (C:Cxt P w K mg base X Ez (A4 (top 15)) 1 true):DSs X E0k (B3 (top 15)) Fx :=
 (B7 (D1 (U9 (C0 C F_is_pair (by decide) ⋯ (A5 (A3 C 0 ⋯) A8)) (U9 (C0 C F_is_whole (by decide) ⋯ (A5 (C8 (A3 C 0 ⋯) A9) (A5 A9 A8))) (Ck (C0 C F_is_one_of (by decide) ⋯ (A5 (C8 (A3 C 0 ⋯) A9) (A5 (fR (z := "abcdefgh") C ⋯ T.c_HANDS) A8))))))))
theorem Sz:FnScope Ey ["thing"] (A4 (top 16)):=⟨rfl,rfl,rfl,by decide +kernel,rfl,by decide +kernel,by decide +kernel⟩
theorem Nv  (T:Txt mg) (F_is_deed_id:Fn P w K mg base "is_deed_id" 2 1 K0) (F_is_pair:Fn P w K mg base "is_pair" 1 1 W5) (F_is_whole:Fn P w K mg base "is_whole" 1 2 Y5) (C:Cxt P w K mg base X Ey (A4 (top 16)) 2 true):DSs X E0k (B3 (top 16)) Fw :=
 (B7 (D1 (U9 (C0 C F_is_pair (by decide) ⋯ (A5 (A3 C 0 ⋯) A8)) (U9 (C0 C F_is_deed_id (by decide) ⋯ (A5 (C8 (A3 C 0 ⋯) A9) A8)) (Ck (C0 C F_is_whole (by decide) ⋯ (A5 (C8 (A3 C 0 ⋯) A9) (A5 A9 A8))))))))
theorem Fh:FnScope L0 ["thing"] (A4 (top 17)):=⟨rfl,rfl,rfl,by decide +kernel,rfl,by decide +kernel,by decide +kernel⟩
theorem Ea  (T:Txt mg) (F_is_sign_id:Fn P w K mg base "is_sign_id" 3 1 M6) (C:Cxt P w K mg base X L0 (A4 (top 17)) 3 true):DSs X E0k (B3 (top 17)) X1 :=
 (B7 (D1 (d_or (d_isN (A3 C 0 ⋯)) (Ck (C0 C F_is_sign_id (by decide) ⋯ (A5 (A3 C 0 ⋯) A8))))))
theorem Wn:FnScope Gq ["thing"] (A4 (top 18)):=⟨rfl,rfl,rfl,by decide +kernel,rfl,by decide +kernel,by decide +kernel⟩
theorem Rx  (T:Txt mg) (F_is_one_of:Fn P w K mg base "is_one_of" 1 2 T4) (F_is_pair:Fn P w K mg base "is_pair" 1 1 W5) (F_is_sign_id_or_none:Fn P w K mg base "is_sign_id_or_none" 4 1 F3) (C:Cxt P w K mg base X Gq (A4 (top 18)) 4 true):DSs X E0k (B3 (top 18)) Hl :=
 (B7 (D1 (U9 (C0 C F_is_pair (by decide) ⋯ (A5 (A3 C 0 ⋯) A8)) (U9 (C0 C F_is_sign_id_or_none (by decide) ⋯ (A5 (C8 (A3 C 0 ⋯) A9) A8)) (Ck (C0 C F_is_one_of (by decide) ⋯ (A5 (C8 (A3 C 0 ⋯) A9) (A5 (fR (z := "lr") C ⋯ T.c_SIDES) A8))))))))
theorem Wl:FnScope Go ["values"] (A4 (top 19)):=⟨rfl,rfl,rfl,by decide +kernel,rfl,by decide +kernel,by decide +kernel⟩
theorem Rv  (T:Txt mg) (C:Cxt P w K mg base X Go (A4 (top 19)) 0 true):DSs X E0k (B3 (top 19)) Hj :=
 (B7 (D1 (Nf C ⋯ T.b_all (A5 (F4 (F2 C [0] ["values"] ⋯ (X6 C ⋯ T.b_range (A5 (d_sub (N0 C ⋯ T.b_len (A5 (A3 C 0 ⋯) A8)) A9) A8)) (fun X' C'=>L9) (fun X' C'=>(zB C' (C8 (A3 C' 1 ⋯) (A3 C' 0 ⋯)) (C8 (A3 C' 1 ⋯) (E6 (A3 C' 0 ⋯) A9)))))) A8))))
theorem Ta:FnScope O6 ["thing"] (A4 (top 20)):=⟨rfl,rfl,rfl,by decide +kernel,rfl,by decide +kernel,by decide +kernel⟩
theorem Nk  (T:Txt mg) (C:Cxt P w K mg base X O6 (A4 (top 20)) 3 true):DS X E0k (stm 20 0) Al :=
 (Q7 (w_t (Os (Dm (Fs (Af C ⋯ T.b_isinstance ⋯ T.b_tuple (by decide +kernel) ⋯ (A3 C 0 ⋯)))) (Jf (Dm (Lb C A9 (N0 C ⋯ T.b_len (A5 (A3 C 0 ⋯) A8)) (Xp C ⋯ T.c_MOST_DROPPED)))))) (B7 (D1 N5)) F7)
theorem Nj  (T:Txt mg) (F_is_rising:Fn P w K mg base "is_rising" 1 1 N7) (F_is_sign_id:Fn P w K mg base "is_sign_id" 3 1 M6) (C:Cxt P w K mg base X O6 (A4 (top 20)) 3 true):DS X E0k (stm 20 1) Ak :=
 (D1 (U9 (Nf C ⋯ T.b_all (A5 (F4 (F2 C [] [] ⋯ (K3 (A3 C 0 ⋯)) (fun X' C'=>L9) (fun X' C'=>(C0 C' F_is_sign_id (by decide) ⋯ (A5 (A3 C' 0 ⋯) A8))))) A8)) (Ck (C0 C F_is_rising (by decide) ⋯ (A5 (A3 C 0 ⋯) A8)))))
theorem Nw  (T:Txt mg) (F_is_rising:Fn P w K mg base "is_rising" 1 1 N7) (F_is_sign_id:Fn P w K mg base "is_sign_id" 3 1 M6) (C:Cxt P w K mg base X O6 (A4 (top 20)) 3 true):DSs X E0k (B3 (top 20)) Ca:=by
 have h:B3 (top 20)=[stm 20 0,stm 20 1]:=by kernel_rfl
 rw [h];exact (B1 (Nk T C) (B7 (Nj T F_is_rising F_is_sign_id C)))
theorem Zp:FnScope O7 ["word", "parts"] (A4 (top 21)):=⟨rfl,rfl,rfl,by decide +kernel,rfl,by decide +kernel,by decide +kernel⟩
theorem Sx  (T:Txt mg) (F_is_added_text:Fn P w K mg base "is_added_text" 2 1 P3) (F_is_sign_id_or_none:Fn P w K mg base "is_sign_id_or_none" 4 1 F3) (C:Cxt P w K mg base X O7 (A4 (top 21)) 5 true):DS X E0k (stm 21 0) Q1 :=
 (Q7 (Dq C (A3 C 0 ⋯) L3) (B7 (D1 (U9 (Xr C (N0 C ⋯ T.b_len (A5 (A3 C 1 ⋯) A8)) A9) (U9 (C0 C F_is_sign_id_or_none (by decide) ⋯ (A5 (C8 (A3 C 1 ⋯) A9) A8)) (Ck (C0 C F_is_added_text (by decide) ⋯ (A5 (C8 (A3 C 1 ⋯) A9) A8))))))) F7)
theorem Sw  (T:Txt mg) (F_is_dropped:Fn P w K mg base "is_dropped" 4 1 X4) (C:Cxt P w K mg base X O7 (A4 (top 21)) 5 true):DS X E0k (stm 21 1) Q0 :=
 (Q7 (Dq C (A3 C 0 ⋯) L3) (B7 (D1 (U9 (Xr C (N0 C ⋯ T.b_len (A5 (A3 C 1 ⋯) A8)) A9) (Ck (C0 C F_is_dropped (by decide) ⋯ (A5 (C8 (A3 C 1 ⋯) A9) A8)))))) F7)
theorem Sv  (T:Txt mg) (F_is_anchor:Fn P w K mg base "is_anchor" 5 1 W6) (F_is_name:Fn P w K mg base "is_name" 2 1 Y6) (C:Cxt P w K mg base X O7 (A4 (top 21)) 5 true):DS X E0k (stm 21 2) P9 :=
 (Q7 (Dq C (A3 C 0 ⋯) L3) (B7 (D1 (U9 (Xr C (N0 C ⋯ T.b_len (A5 (A3 C 1 ⋯) A8)) A9) (U9 (C0 C F_is_name (by decide) ⋯ (A5 (C8 (A3 C 1 ⋯) A9) A8)) (U9 (C0 C F_is_anchor (by decide) ⋯ (A5 (C8 (A3 C 1 ⋯) A9) A8)) (Ck (C0 C F_is_anchor (by decide) ⋯ (A5 (C8 (A3 C 1 ⋯) A9) A8)))))))) F7)
theorem Ss  (T:Txt mg) (F_is_name:Fn P w K mg base "is_name" 2 1 Y6) (C:Cxt P w K mg base X O7 (A4 (top 21)) 5 true):DS X E0k (stm 21 3) P8 :=
 (Q7 (Dq C (A3 C 0 ⋯) L3) (B7 (D1 (U9 (Xr C (N0 C ⋯ T.b_len (A5 (A3 C 1 ⋯) A8)) A9) (Ck (C0 C F_is_name (by decide) ⋯ (A5 (C8 (A3 C 1 ⋯) A9) A8)))))) F7)
theorem Sr  (T:Txt mg) (F_is_deed_id:Fn P w K mg base "is_deed_id" 2 1 K0) (C:Cxt P w K mg base X O7 (A4 (top 21)) 5 true):DS X E0k (stm 21 4) P7 :=
 (Q7 (Dq C (A3 C 0 ⋯) L3) (B7 (D1 (U9 (Xr C (N0 C ⋯ T.b_len (A5 (A3 C 1 ⋯) A8)) A9) (Ck (C0 C F_is_deed_id (by decide) ⋯ (A5 (C8 (A3 C 1 ⋯) A9) A8)))))) F7)
theorem Sq  (T:Txt mg) (C:Cxt P w K mg base X O7 (A4 (top 21)) 5 true):DS X E0k (stm 21 5) P6 :=
 (D1 N5)
theorem Tx  (T:Txt mg) (F_is_added_text:Fn P w K mg base "is_added_text" 2 1 P3) (F_is_anchor:Fn P w K mg base "is_anchor" 5 1 W6) (F_is_deed_id:Fn P w K mg base "is_deed_id" 2 1 K0) (F_is_dropped:Fn P w K mg base "is_dropped" 4 1 X4) (F_is_name:Fn P w K mg base "is_name" 2 1 Y6) (F_is_sign_id_or_none:Fn P w K mg base "is_sign_id_or_none" 4 1 F3) (C:Cxt P w K mg base X O7 (A4 (top 21)) 5 true):DSs X E0k (B3 (top 21)) U3:=by
 have h:B3 (top 21)=[stm 21 0,stm 21 1,stm 21 2,stm 21 3,stm 21 4,stm 21 5]:=by kernel_rfl
 rw [h];exact (B1 (Sx T F_is_added_text F_is_sign_id_or_none C) (B1 (Sw T F_is_dropped C) (B1 (Sv T F_is_anchor F_is_name C) (B1 (Ss T F_is_name C) (B1 (Sr T F_is_deed_id C) (B7 (Sq T C)))))))
theorem Qb:FnScope L7 ["deed"] (A4 (top 22)):=⟨rfl,rfl,rfl,by decide +kernel,rfl,by decide +kernel,by decide +kernel⟩
theorem Lj  (T:Txt mg) (C:Cxt P w K mg base X L7 (A4 (top 22)) 0 true):DS X E0k (stm 22 0) U0 :=
 (K8 C 1 ⋯ (F4 (U8 A8)))
theorem Li  (T:Txt mg) (C:Cxt P w K mg base X L7 (A4 (top 22)) 0 true):DS X E0k (stm 22 1) T9 :=
 (Q7 (Dq C (C8 (A3 C 0 ⋯) A9) L3) (B7 (K8 C 1 ⋯ (F4 (U8 (A5 (C8 (A3 C 0 ⋯) A9) A8))))) (B7 (Q7 (Dq C (C8 (A3 C 0 ⋯) A9) L3) (B7 (K8 C 1 ⋯ (uD C ⋯ T.b_list (A5 (C8 (A3 C 0 ⋯) A9) A8)))) (B7 (Q7 (Dq C (C8 (A3 C 0 ⋯) A9) L3) (B7 (K8 C 1 ⋯ (F4 (U8 (A5 (C8 (C8 (A3 C 0 ⋯) A9) A9) (A5 (C8 (C8 (A3 C 0 ⋯) A9) A9) A8)))))) F7)))))
theorem Lh  (T:Txt mg) (C:Cxt P w K mg base X L7 (A4 (top 22)) 0 true):DS X E0k (stm 22 2) T8 :=
 (D1 (F4 (F2 C [] [] ⋯ (K3 (A3 C 1 ⋯)) (fun X' C'=>(Bm (wB (A3 C' 0 ⋯)))) (fun X' C'=>(A3 C' 0 ⋯)))))
theorem Mk  (T:Txt mg) (C:Cxt P w K mg base X L7 (A4 (top 22)) 0 true):DSs X E0k (B3 (top 22)) V6:=by
 have h:B3 (top 22)=[stm 22 0,stm 22 1,stm 22 2]:=by kernel_rfl
 rw [h];exact (B1 (Lj T C) (B1 (Li T C) (B7 (Lh T C))))
theorem Qe:FnScope V4 ["deed"] (A4 (top 23)):=⟨rfl,rfl,rfl,by decide +kernel,rfl,by decide +kernel,by decide +kernel⟩
theorem Mn  (T:Txt mg) (F_signs_named:Fn P w K mg base "signs_named" 1 1 F5) (C:Cxt P w K mg base X V4 (A4 (top 23)) 1 true):DSs X E0k (B3 (top 23)) V7 :=
 (B1 (Q7 (Dq C (C8 (A3 C 0 ⋯) A9) L3) (B7 (D1 (F4 (U8 (A5 (C8 (A3 C 0 ⋯) A9) A8))))) F7) (B7 (D1 (F4 (F2 C [] [] ⋯ (K3 (C0 C F_signs_named (by decide) ⋯ (A5 (A3 C 0 ⋯) A8))) (fun X' C'=>L9) (fun X' C'=>(C8 (A3 C' 0 ⋯) A9)))))))
theorem cJ:FnScope Q5 ["thing"] (A4 (top 24)):=⟨rfl,rfl,rfl,by decide +kernel,rfl,by decide +kernel,by decide +kernel⟩
theorem Vy  (T:Txt mg) (F_is_deed_id:Fn P w K mg base "is_deed_id" 2 1 K0) (C:Cxt P w K mg base X Q5 (A4 (top 24)) 6 true):DS X E0k (stm 24 0) Ei :=
 (Q7 (w_t (Os (Dm (Fs (Af C ⋯ T.b_isinstance ⋯ T.b_tuple (by decide +kernel) ⋯ (A3 C 0 ⋯)))) (Os (bX C (N0 C ⋯ T.b_len (A5 (A3 C 0 ⋯) A8)) A9) (Jf (Dm (Fs (C0 C F_is_deed_id (by decide) ⋯ (A5 (C8 (A3 C 0 ⋯) A9) A8)))))))) (B7 (D1 N5)) F7)
theorem Vx  (T:Txt mg) (F_has_form:Fn P w K mg base "has_form" 6 2 Y8) (C:Cxt P w K mg base X Q5 (A4 (top 24)) 6 true):DS X E0k (stm 24 1) Eh :=
 (Q7 (Dm (Fs (C0 C F_has_form (by decide) ⋯ (A5 (C8 (A3 C 0 ⋯) A9) (A5 (Eu (A3 C 0 ⋯) (Ie A9) Ig) A8))))) (B7 (D1 N5)) F7)
theorem Vw  (T:Txt mg) (F_deeds_named:Fn P w K mg base "deeds_named" 2 1 E7) (C:Cxt P w K mg base X Q5 (A4 (top 24)) 6 true):DS X E0k (stm 24 2) Eg :=
 (D1 (Nf C ⋯ T.b_all (A5 (F4 (F2 C [0] ["thing"] ⋯ (K3 (C0 C F_deeds_named (by decide) ⋯ (A5 (A3 C 0 ⋯) A8))) (fun X' C'=>L9) (fun X' C'=>(zB C' (C8 (A3 C' 0 ⋯) A9) (C8 (C8 (A3 C' 1 ⋯) A9) A9))))) A8)))
theorem Yf  (T:Txt mg) (F_deeds_named:Fn P w K mg base "deeds_named" 2 1 E7) (F_has_form:Fn P w K mg base "has_form" 6 2 Y8) (F_is_deed_id:Fn P w K mg base "is_deed_id" 2 1 K0) (C:Cxt P w K mg base X Q5 (A4 (top 24)) 6 true):DSs X E0k (B3 (top 24)) Fy:=by
 have h:B3 (top 24)=[stm 24 0,stm 24 1,stm 24 2]:=by kernel_rfl
 rw [h];exact (B1 (Vy T F_is_deed_id C) (B1 (Vx T F_has_form C) (B7 (Vw T F_deeds_named C))))
theorem Qc:FnScope Q4 ["deed"] (A4 (top 25)):=⟨rfl,rfl,rfl,by decide +kernel,rfl,by decide +kernel,by decide +kernel⟩
theorem Ml  (T:Txt mg) (C:Cxt P w K mg base X Q4 (A4 (top 25)) 0 true):DSs X E0k (B3 (top 25)) P1 :=
 (B7 (D1 (uE (Dq C (C8 (A3 C 0 ⋯) A9) L3) (N0 C ⋯ T.b_len (A5 (C8 (A3 C 0 ⋯) A9) A8)) A9)))
theorem hZ:FnScope Ky ["deeds"] (A4 (top 26)):=⟨rfl,rfl,rfl,by decide +kernel,rfl,by decide +kernel,by decide +kernel⟩
theorem bE  (T:Txt mg) (C:Cxt P w K mg base X Ky (A4 (top 26)) 0 true):DSN X E0k (B3 (top 26)) Ib :=
 (xY (Xa C ⋯ T.b_dict (F4 (F2 C [] [] ⋯ (K3 (A3 C 0 ⋯)) (fun X' C'=>L9) (fun X' C'=>(N3 (A5 (C8 (A3 C' 0 ⋯) A9) (A5 (A3 C' 0 ⋯) A8))))))))
theorem Lq:FnScope P5 ["known", "deed"] (A4 (top 27)):=⟨rfl,rfl,rfl,by decide +kernel,rfl,by decide +kernel,by decide +kernel⟩
theorem Hy  (T:Txt mg) (F_deeds_named:Fn P w K mg base "deeds_named" 2 1 E7) (C:Cxt P w K mg base X P5 (A4 (top 27)) 2 true):DS X E0k (stm 27 0) (sIf (X7 (C1 (vFn (A2 (E8 (D7 (fun δ=>((B6 (A2 (A1 1) A7) E7) δ).bind D2) C6 [0] E5 (Q6 false 1 (A1 0)))) A7) Fm))) (E2 (vC (.bool false))) E4) :=
 (Q7 (Dm (Fs (Nf C ⋯ T.b_all (A5 (F4 (F2 C [0] ["known"] ⋯ (K3 (C0 C F_deeds_named (by decide) ⋯ (A5 (A3 C 1 ⋯) A8))) (fun X' C'=>L9) (fun X' C'=>(d_inN C' 1 ⋯ (A3 C' 0 ⋯))))) A8)))) (B7 (D1 N5)) F7)
theorem Hx  (T:Txt mg) (F_signs_added:Fn P w K mg base "signs_added" 1 1 D4) (F_signs_named:Fn P w K mg base "signs_named" 1 1 F5) (C:Cxt P w K mg base X P5 (A4 (top 27)) 2 true):DS X E0k (stm 27 1) (E2 (vFn (A2 (E8 (D7 (fun δ=>((B6 (A2 (A1 1) A7) F5) δ).bind D2) C6 [0] E5 (b2 (b2 (A1 0) (vC (.int 1)) dIx) (B6 (A2 (Ec 1 (b2 (A1 0) (vC (.int 0)) dIx)) A7) D4) (D9 .Lt)))) A7) Fm)) :=
 (D1 (Nf C ⋯ T.b_all (A5 (F4 (F2 C [0] ["known"] ⋯ (K3 (C0 C F_signs_named (by decide) ⋯ (A5 (A3 C 1 ⋯) A8))) (fun X' C'=>L9) (fun X' C'=>(zB C' (C8 (A3 C' 0 ⋯) A9) (C0 C' F_signs_added (by decide) ⋯ (A5 (aW C' 1 ⋯ (C8 (A3 C' 0 ⋯) A9)) A8)))))) A8)))
theorem Iw  (T:Txt mg) (F_deeds_named:Fn P w K mg base "deeds_named" 2 1 E7) (F_signs_added:Fn P w K mg base "signs_added" 1 1 D4) (F_signs_named:Fn P w K mg base "signs_named" 1 1 F5) (C:Cxt P w K mg base X P5 (A4 (top 27)) 2 true):DSs X E0k (B3 (top 27)) Q9:=by
 have h:B3 (top 27)=[stm 27 0,stm 27 1]:=by kernel_rfl
 rw [h];exact (B1 (Hy T F_deeds_named C) (B7 (Hx T F_signs_added F_signs_named C)))
theorem cK:FnScope Bl ["thing"] (A4 (top 28)):=⟨rfl,rfl,rfl,by decide +kernel,rfl,by decide +kernel,by decide +kernel⟩
theorem Wb  (T:Txt mg) (F_is_deed:Fn P w K mg base "is_deed" 7 1 Y7) (C:Cxt P w K mg base X Bl (A4 (top 28)) 7 true):DS X E0k (stm 28 0) Jr :=
 (Q7 (w_t (Os (Dm (Fs (Af C ⋯ T.b_isinstance ⋯ T.b_tuple (by decide +kernel) ⋯ (A3 C 0 ⋯)))) (Jf (Dm (Fs (Nf C ⋯ T.b_all (A5 (F4 (F2 C [] [] ⋯ (K3 (A3 C 0 ⋯)) (fun X' C'=>L9) (fun X' C'=>(C0 C' F_is_deed (by decide) ⋯ (A5 (A3 C' 0 ⋯) A8))))) A8))))))) (B7 (D1 N5)) F7)
theorem Wa  (T:Txt mg) (F_by_ids:FnN P w K mg base "by_ids" 1 1 Dv) (C:Cxt P w K mg base X Bl (A4 (top 28)) 7 true):DS X E0k (stm 28 1) Ej :=
 (Fz C 1 ⋯ (Qu C F_by_ids (by decide) ⋯ (A5 (A3 C 0 ⋯) A8)))
theorem Vz  (T:Txt mg) (F_has_all_named:FnS P w K mg base "has_all_named" 3 2 M5) (F_is_rising:Fn P w K mg base "is_rising" 1 1 N7) (C:Cxt P w K mg base X Bl (A4 (top 28)) 7 true):DS X E0k (stm 28 2) Jq :=
 (vE 1 (D1 (U9 (C0 C F_is_rising (by decide) ⋯ (A5 (F4 (F2 C [] [] ⋯ (K3 (A3 C 0 ⋯)) (fun X' C'=>L9) (fun X' C'=>(C8 (A3 C' 0 ⋯) A9)))) A8)) (Ck (Nf C ⋯ T.b_all (A5 (F4 (F2 C [1] ["known"] ⋯ (K3 (A3 C 0 ⋯)) (fun X' C'=>L9) (fun X' C'=>(oZ C' F_has_all_named (by decide) ⋯ 1 ⋯ (A3 C' 0 ⋯))))) A8))))))
theorem Yg  (T:Txt mg) (F_by_ids:FnN P w K mg base "by_ids" 1 1 Dv) (F_has_all_named:FnS P w K mg base "has_all_named" 3 2 M5) (F_is_deed:Fn P w K mg base "is_deed" 7 1 Y7) (F_is_rising:Fn P w K mg base "is_rising" 1 1 N7) (C:Cxt P w K mg base X Bl (A4 (top 28)) 7 true):DSs X E0k (B3 (top 28)) Na:=by
 have h:B3 (top 28)=[stm 28 0,stm 28 1,stm 28 2]:=by kernel_rfl
 rw [h];exact (B1 (Wb T F_is_deed C) (B1 (Wa T F_by_ids C) (B7 (Vz T F_has_all_named F_is_rising C))))
theorem Qf:FnScope Z8 ["book"] (A4 (top 30)):=⟨rfl,rfl,rfl,by decide +kernel,rfl,by decide +kernel,by decide +kernel⟩
theorem Mo  (T:Txt mg) (F_signs_added:Fn P w K mg base "signs_added" 1 1 D4) (C:Cxt P w K mg base X Z8 (A4 (top 30)) 1 true):DSN X E0k (B3 (top 30)) Ar :=
 (Mb (Oi C 1 ⋯) (Mb (vD C 1 2 ⋯ ⋯ (K3 (A3 C 0 ⋯)) (t_gt C (C0 C F_signs_added (by decide) ⋯ (A5 (A3 C 2 ⋯) A8)) A9) (C8 (A3 C 2 ⋯) A9) (A3 C 2 ⋯) ⟨rfl,rfl,rfl,rfl⟩ (fun _=>rfl) rfl rfl rfl rfl rfl rfl) (nH C 1 ⋯)))
theorem Zm:FnScope O5 ["book"] (A4 (top 31)):=⟨rfl,rfl,rfl,by decide +kernel,rfl,by decide +kernel,by decide +kernel⟩
theorem So  (T:Txt mg) (F_adds_behind:FnN P w K mg base "adds_behind" 2 1 Q2) (C:Cxt P w K mg base X O5 (A4 (top 31)) 2 true):DS X E0k (stm 31 0) Dd :=
 (Fz C 1 ⋯ (Qu C F_adds_behind (by decide) ⋯ (A5 (A3 C 0 ⋯) A8)))
theorem Sn  (T:Txt mg) (C:Cxt P w K mg base X O5 (A4 (top 31)) 2 true):DS X E0k (stm 31 1) Dc :=
 (cM C 2 ⋯ ⋯ [] [] ⋯ (K3 (oW C 1 ⋯ Xo (F4 (U8 A8)))) (fun X' C'=>L9) (fun X' C'=>(N3 (A5 (A3 C' 0 ⋯) (A5 A9 A8)))))
theorem Sk  (T:Txt mg) (C:Cxt P w K mg base X O5 (A4 (top 31)) 2 true):DS X E0k (stm 31 2) Hh :=
 (Zq C 3 ⋯ (U8 A8))
theorem Sj  (T:Txt mg) (C:Cxt P w K mg base X O5 (A4 (top 31)) 2 true):DS X E0k (stm 31 3) Db :=
 (eP C (t_own C 2 ⋯) (B1 (s_pop C 2 4 ⋯ ⋯) (B1 (K8 C 5 ⋯ (C8 (A3 C 4 ⋯) A9)) (B1 (K8 C 6 ⋯ (C8 (A3 C 4 ⋯) A9)) (B1 (K8 C 7 ⋯ (N3 (A5 (C8 (A3 C 5 ⋯) A9) (A5 (A3 C 6 ⋯) A8)))) (B1 (Qh C 3 ⋯ (N3 (A5 (A3 C 7 ⋯) (A5 (C8 (C8 (A3 C 5 ⋯) A9) (A3 C 6 ⋯)) A8)))) (B1 (Q7 (bX C (E6 (A3 C 6 ⋯) A9) (N0 C ⋯ T.b_len (A5 (C8 (A3 C 5 ⋯) A9) A8))) (B7 (Qh C 2 ⋯ (N3 (A5 (A3 C 5 ⋯) (A5 (E6 (A3 C 6 ⋯) A9) A8))))) F7) (B7 (s_ext C 2 ⋯ (F2 C [] [] ⋯ (K3 (oW C 1 ⋯ (A3 C 7 ⋯) (F4 (U8 A8)))) (fun X' C'=>L9) (fun X' C'=>(N3 (A5 (A3 C' 0 ⋯) (A5 A9 A8))))))))))))))
theorem Si  (T:Txt mg) (C:Cxt P w K mg base X O5 (A4 (top 31)) 2 true):DS X E0k (stm 31 4) Hg :=
 (lW 3 (D1 (A3 C 3 ⋯)))
theorem Tu  (T:Txt mg) (F_adds_behind:FnN P w K mg base "adds_behind" 2 1 Q2) (C:Cxt P w K mg base X O5 (A4 (top 31)) 2 true):DSs X E0k (B3 (top 31)) Ep:=by
 have h:B3 (top 31)=[stm 31 0,stm 31 1,stm 31 2,stm 31 3,stm 31 4]:=by kernel_rfl
 rw [h];exact (B1 (So T F_adds_behind C) (B1 (Sn T C) (B1 (Sk T C) (B1 (Sj T C) (B7 (Si T C))))))
theorem Wj:FnScope Cw ["book"] (A4 (top 32)):=⟨rfl,rfl,rfl,by decide +kernel,rfl,by decide +kernel,by decide +kernel⟩
theorem Ru  (T:Txt mg) (C:Cxt P w K mg base X Cw (A4 (top 32)) 0 true):DSN X E0k (B3 (top 32)) Df :=
 (Mb (Oi C 1 ⋯) (Mb (Y3 C 2 ⋯ (i_rev C ⋯ T.b_reversed (A3 C 0 ⋯)) (B7 (Q7 (w_t (Ot (Dq C (C8 (A3 C 2 ⋯) A9) L3) (Ht (Jh C 1 ⋯ (C8 (A3 C 2 ⋯) A9))))) (B7 (lV C 1 ⋯ (C8 (A3 C 2 ⋯) A9) N5)) F7))) (nH C 1 ⋯)))
theorem Td:FnScope Bd ["book", "undone"] (A4 (top 33)):=⟨rfl,rfl,rfl,by decide +kernel,rfl,by decide +kernel,by decide +kernel⟩
theorem Nz  (T:Txt mg) (C:Cxt P w K mg base X Bd (A4 (top 33)) 0 true):DSN X E0k (B3 (top 33)) Cc :=
 (Mb (Oi C 2 ⋯) (Mb (Y3 C 3 ⋯ (K3 (A3 C 0 ⋯)) (B7 (Q7 (w_t (Ot (Dq C (C8 (A3 C 3 ⋯) A9) L3) (Ht (Jh C 1 ⋯ (C8 (A3 C 3 ⋯) A9))))) (B7 (Y3 C 4 ⋯ (K3 (C8 (A3 C 3 ⋯) A9)) (B7 (lV C 2 ⋯ (A3 C 4 ⋯) N5)))) F7))) (nH C 2 ⋯)))
theorem Qd:FnScope K9 ["book"] (A4 (top 34)):=⟨rfl,rfl,rfl,by decide +kernel,rfl,by decide +kernel,by decide +kernel⟩
theorem Lo  (T:Txt mg) (F_undone_in:FnN P w K mg base "undone_in" 1 1 G9) (C:Cxt P w K mg base X K9 (A4 (top 34)) 3 true):DS X E0k (stm 34 0) Y2 :=
 (Fz C 1 ⋯ (Qu C F_undone_in (by decide) ⋯ (A5 (A3 C 0 ⋯) A8)))
theorem Ln  (T:Txt mg) (F_dropped_in:FnSN P w K mg base "dropped_in" 1 2 M7) (C:Cxt P w K mg base X K9 (A4 (top 34)) 3 true):DS X E0k (stm 34 1) Y1 :=
 (vE 1 (Fz C 2 ⋯ (nI C F_dropped_in (by decide) ⋯ (A3 C 0 ⋯) 1 ⋯)))
theorem Lm  (T:Txt mg) (C:Cxt P w K mg base X K9 (A4 (top 34)) 3 true):DS X E0k (stm 34 2) Ds :=
 (Zq C 3 ⋯ (U8 A8))
theorem Ll  (T:Txt mg) (F_signs_of:Fn P w K mg base "signs_of" 3 1 Y4) (C:Cxt P w K mg base X K9 (A4 (top 34)) 3 true):DS X E0k (stm 34 3) U1 :=
 (Y3 C 4 ⋯ (K3 (C0 C F_signs_of (by decide) ⋯ (A5 (A3 C 0 ⋯) A8))) (B7 (Qh C 3 ⋯ (N3 (A5 (A3 C 4 ⋯) (A5 (U9 (Rj C 1 ⋯ (C8 (C8 (A3 C 4 ⋯) A9) A9)) (Ck (Rj C 2 ⋯ (C8 (A3 C 4 ⋯) A9)))) A8))))))
theorem Lk  (T:Txt mg) (C:Cxt P w K mg base X K9 (A4 (top 34)) 3 true):DS X E0k (stm 34 4) Dr :=
 (lW 3 (D1 (A3 C 3 ⋯)))
theorem Mm  (T:Txt mg) (F_dropped_in:FnSN P w K mg base "dropped_in" 1 2 M7) (F_signs_of:Fn P w K mg base "signs_of" 3 1 Y4) (F_undone_in:FnN P w K mg base "undone_in" 1 1 G9) (C:Cxt P w K mg base X K9 (A4 (top 34)) 3 true):DSs X E0k (B3 (top 34)) Aq:=by
 have h:B3 (top 34)=[stm 34 0,stm 34 1,stm 34 2,stm 34 3,stm 34 4]:=by kernel_rfl
 rw [h];exact (B1 (Lo T F_undone_in C) (B1 (Ln T F_dropped_in C) (B1 (Lm T C) (B1 (Ll T F_signs_of C) (B7 (Lk T C))))))
theorem Zn:FnScope Ex ["book"] (A4 (top 35)):=⟨rfl,rfl,rfl,by decide +kernel,rfl,by decide +kernel,by decide +kernel⟩
theorem Tv  (T:Txt mg) (F_presence_in:Fn P w K mg base "presence_in" 4 1 V2) (C:Cxt P w K mg base X Ex (A4 (top 35)) 4 true):DSs X E0k (B3 (top 35)) Er :=
 (B7 (D1 (F4 (F2 C [] [] ⋯ (K3 (C0 C F_presence_in (by decide) ⋯ (A5 (A3 C 0 ⋯) A8))) (fun X' C'=>(Bm (Fs (C8 (A3 C' 0 ⋯) A9)))) (fun X' C'=>(C8 (A3 C' 0 ⋯) A9))))))
theorem cE:FnScope Hb ["book"] (A4 (top 36)):=⟨rfl,rfl,rfl,by decide +kernel,rfl,by decide +kernel,by decide +kernel⟩
theorem Ya  (T:Txt mg) (F_shown_in:Fn P w K mg base "shown_in" 5 1 J3) (C:Cxt P w K mg base X Hb (A4 (top 36)) 5 true):DSs X E0k (B3 (top 36)) Fu :=
 (B7 (D1 (Rl (F4 (F2 C [] [] ⋯ (K3 (C0 C F_shown_in (by decide) ⋯ (A5 (A3 C 0 ⋯) A8))) (fun X' C'=>L9) (fun X' C'=>(C8 (A3 C' 0 ⋯) A9)))))))
theorem Te:FnScope O8 ["book"] (A4 (top 37)):=⟨rfl,rfl,rfl,by decide +kernel,rfl,by decide +kernel,by decide +kernel⟩
theorem Nn  (T:Txt mg) (C:Cxt P w K mg base X O8 (A4 (top 37)) 5 true):DS X E0k (stm 37 0) Fb :=
 (Zq C 1 ⋯ (U8 A8))
theorem Nm  (T:Txt mg) (F_shown_in:Fn P w K mg base "shown_in" 5 1 J3) (C:Cxt P w K mg base X O8 (A4 (top 37)) 5 true):DS X E0k (stm 37 1) Am :=
 (Y3 C 2 ⋯ (K3 (C0 C F_shown_in (by decide) ⋯ (A5 (A3 C 0 ⋯) A8))) (B1 (K8 C 3 ⋯ (C8 (C8 (C8 (A3 C 2 ⋯) A9) A9) A9)) (B7 (Q7 (kU 1 (w_t (Ot (Fs (A3 C 1 ⋯)) (Ht (Dq C (C8 (C8 (A3 C 1 ⋯) (Rk A9)) A9) (A3 C 3 ⋯)))))) (B7 (wM C 1 ⋯ (Rk A9) (uB 1 (N3 (A5 (A3 C 3 ⋯) (A5 (E6 (C8 (C8 (A3 C 1 ⋯) (Rk A9)) A9) (C8 (A3 C 2 ⋯) A9)) A8)))))) (B7 (Qh C 1 ⋯ (N3 (A5 (A3 C 3 ⋯) (A5 (C8 (A3 C 2 ⋯) A9) A8)))))))))
theorem Nl  (T:Txt mg) (C:Cxt P w K mg base X O8 (A4 (top 37)) 5 true):DS X E0k (stm 37 2) Fa :=
 (lW 1 (D1 (A3 C 1 ⋯)))
theorem Oa  (T:Txt mg) (F_shown_in:Fn P w K mg base "shown_in" 5 1 J3) (C:Cxt P w K mg base X O8 (A4 (top 37)) 5 true):DSs X E0k (B3 (top 37)) Cd:=by
 have h:B3 (top 37)=[stm 37 0,stm 37 1,stm 37 2]:=by kernel_rfl
 rw [h];exact (B1 (Nn T C) (B1 (Nm T F_shown_in C) (B7 (Nl T C))))
theorem lS:FnScope Yj ["book", "time"] (A4 (top 39)):=⟨rfl,rfl,rfl,by decide +kernel,rfl,by decide +kernel,by decide +kernel⟩
theorem dY  (T:Txt mg) (C:Cxt P w K mg base X Yj (A4 (top 39)) 0 true):DSs X E0k (B3 (top 39)) Ug :=
 (B7 (D1 (dO C ⋯ T.b_tuple (A5 (F4 (F2 C [1] ["time"] ⋯ (K3 (A3 C 0 ⋯)) (fun X' C'=>(Bm (t_le C' (C8 (C8 (A3 C' 0 ⋯) A9) A9) (A3 C' 1 ⋯)))) (fun X' C'=>(A3 C' 0 ⋯)))) A8))))
theorem Zk:FnScope Ja ["book"] (A4 (top 40)):=⟨rfl,rfl,rfl,by decide +kernel,rfl,by decide +kernel,by decide +kernel⟩
theorem Ts  (T:Txt mg) (C:Cxt P w K mg base X Ja (A4 (top 40)) 0 true):DSs X E0k (B3 (top 40)) Jy :=
 (B7 (D1 (jU C ⋯ T.b_sorted ⋯ T.b_set (A5 (E6 (F4 (U8 (A5 A9 A8))) (F4 (F2 C [] [] ⋯ (K3 (A3 C 0 ⋯)) (fun X' C'=>L9) (fun X' C'=>(C8 (C8 (A3 C' 0 ⋯) A9) A9))))) A8))))
theorem cF:FnScope Ms ["book", "time"] (A4 (top 41)):=⟨rfl,rfl,rfl,by decide +kernel,rfl,by decide +kernel,by decide +kernel⟩
theorem Yb  (T:Txt mg) (F_as_of:Fn P w K mg base "as_of" 1 2 V9) (F_text_of:Fn P w K mg base "text_of" 6 1 L8) (C:Cxt P w K mg base X Ms (A4 (top 41)) 6 true):DSs X E0k (B3 (top 41)) Mx :=
 (B7 (D1 (C0 C F_text_of (by decide) ⋯ (A5 (C0 C F_as_of (by decide) ⋯ (A5 (A3 C 0 ⋯) (A5 (A3 C 1 ⋯) A8))) A8))))
theorem Zl:FnScope Jb ["book"] (A4 (top 42)):=⟨rfl,rfl,rfl,by decide +kernel,rfl,by decide +kernel,by decide +kernel⟩
theorem Tt  (T:Txt mg) (F_text_at:Fn P w K mg base "text_at" 7 2 U4) (F_times_of:Fn P w K mg base "times_of" 1 1 W2) (C:Cxt P w K mg base X Jb (A4 (top 42)) 7 true):DSs X E0k (B3 (top 42)) Jz :=
 (B1 (Zq C 1 ⋯ (U8 A8)) (B1 (Y3 C 2 ⋯ (K3 (C0 C F_times_of (by decide) ⋯ (A5 (A3 C 0 ⋯) A8))) (B1 (eP C (kU 1 (bX C (N0 C ⋯ T.b_len (A5 (A3 C 1 ⋯) A8)) (A3 C 2 ⋯))) (B7 (Qh C 1 ⋯ (zA 1 (C8 (A3 C 1 ⋯) (Rk A9)))))) (B7 (Qh C 1 ⋯ (C0 C F_text_at (by decide) ⋯ (A5 (A3 C 0 ⋯) (A5 (A3 C 2 ⋯) A8))))))) (B7 (lW 1 (D1 (A3 C 1 ⋯))))))
theorem iA:FnScope Sd ["book", "place"] (A4 (top 43)):=⟨rfl,rfl,rfl,by decide +kernel,rfl,by decide +kernel,by decide +kernel⟩
theorem bF  (T:Txt mg) (F_shown_in:Fn P w K mg base "shown_in" 5 1 J3) (C:Cxt P w K mg base X Sd (A4 (top 43)) 5 true):DSs X E0k (B3 (top 43)) Qa :=
 (B1 (K8 C 2 ⋯ (C0 C F_shown_in (by decide) ⋯ (A5 (A3 C 0 ⋯) A8))) (B1 (Q7 (Dm (Yt C A9 (A3 C 1 ⋯) (N0 C ⋯ T.b_len (A5 (A3 C 2 ⋯) A8)))) (B7 s_no) F7) (B7 (D1 (C8 (C8 (C8 (A3 C 2 ⋯) (A3 C 1 ⋯)) A9) A9)))))
theorem Tc:FnScope Bc ["book", "text"] (A4 (top 44)):=⟨rfl,rfl,rfl,by decide +kernel,rfl,by decide +kernel,by decide +kernel⟩
theorem Ny  (T:Txt mg) (F_text_at:Fn P w K mg base "text_at" 7 2 U4) (F_times_of:Fn P w K mg base "times_of" 1 1 W2) (C:Cxt P w K mg base X Bc (A4 (top 44)) 7 true):DSs X E0k (B3 (top 44)) Cb :=
 (B1 (Y3 C 2 ⋯ (K3 (C0 C F_times_of (by decide) ⋯ (A5 (A3 C 0 ⋯) A8))) (B7 (Q7 (wC C (A3 C 1 ⋯) (C0 C F_text_at (by decide) ⋯ (A5 (A3 C 0 ⋯) (A5 (A3 C 2 ⋯) A8)))) (B7 (D1 (A3 C 2 ⋯))) F7))) (B7 (D1 Xo)))
theorem qV:FnScope Jc ["book"] (A4 (top 45)):=⟨rfl,rfl,rfl,by decide +kernel,rfl,by decide +kernel,by decide +kernel⟩
theorem gV  (T:Txt mg) (F_undone_in:FnN P w K mg base "undone_in" 1 1 G9) (C:Cxt P w K mg base X Jc (A4 (top 45)) 5 true):DS X E0k (stm 45 0) Le :=
 (Fz C 1 ⋯ (Qu C F_undone_in (by decide) ⋯ (A5 (A3 C 0 ⋯) A8)))
theorem gU  (T:Txt mg) (F_shown_in:Fn P w K mg base "shown_in" 5 1 J3) (C:Cxt P w K mg base X Jc (A4 (top 45)) 5 true):DS X E0k (stm 45 1) Ld :=
 (Fz C 2 ⋯ (Xa C ⋯ T.b_dict (F4 (F2 C [] [] ⋯ (K3 (C0 C F_shown_in (by decide) ⋯ (A5 (A3 C 0 ⋯) A8))) (fun X' C'=>L9) (fun X' C'=>(N3 (A5 (C8 (C8 (A3 C' 0 ⋯) A9) A9) (A5 N5 A8))))))))
theorem gT  (T:Txt mg) (C:Cxt P w K mg base X Jc (A4 (top 45)) 5 true):DS X E0k (stm 45 2) Lc :=
 (cO C 3 ⋯ ⋯ [1] ["undone"] ⋯ (K3 (A3 C 0 ⋯)) (fun X' C'=>(Bm (w_t (Ot (Dq C' (C8 (A3 C' 0 ⋯) A9) L3) (Ht (Jh C' 1 ⋯ (C8 (A3 C' 0 ⋯) A9))))))) (fun X' C'=>(A3 C' 0 ⋯)))
theorem gS  (T:Txt mg) (C:Cxt P w K mg base X Jc (A4 (top 45)) 5 true):DS X E0k (stm 45 3) Ua :=
 (D1 (F4 (F2 C [2] ["shown"] ⋯ (K3 (A3 C 3 ⋯)) (fun X' C'=>(Bm (Jh C' 1 ⋯ (C8 (A3 C' 0 ⋯) A9)))) (fun X' C'=>(N3 (A5 (C8 (A3 C' 0 ⋯) A9) (A5 (C8 (A3 C' 0 ⋯) A9) A8)))))))
theorem kB  (T:Txt mg) (F_shown_in:Fn P w K mg base "shown_in" 5 1 J3) (F_undone_in:FnN P w K mg base "undone_in" 1 1 G9) (C:Cxt P w K mg base X Jc (A4 (top 45)) 5 true):DSs X E0k (B3 (top 45)) Zj:=by
 have h:B3 (top 45)=[stm 45 0,stm 45 1,stm 45 2,stm 45 3]:=by kernel_rfl
 rw [h];exact (B1 (gV T F_undone_in C) (B1 (gU T F_shown_in C) (B1 (gT T C) (B7 (gS T C)))))
theorem cL:FnScope Z0 ["book", "hand"] (A4 (top 46)):=⟨rfl,rfl,rfl,by decide +kernel,rfl,by decide +kernel,by decide +kernel⟩
theorem Wg  (T:Txt mg) (F_undone_in:FnN P w K mg base "undone_in" 1 1 G9) (C:Cxt P w K mg base X Z0 (A4 (top 46)) 1 true):DS X E0k (stm 46 0) El :=
 (Fz C 2 ⋯ (Qu C F_undone_in (by decide) ⋯ (A5 (A3 C 0 ⋯) A8)))
theorem We  (T:Txt mg) (C:Cxt P w K mg base X Z0 (A4 (top 46)) 1 true):DS X E0k (stm 46 1) Jt :=
 (Oi C 3 ⋯)
theorem Wd  (T:Txt mg) (C:Cxt P w K mg base X Z0 (A4 (top 46)) 1 true):DS X E0k (stm 46 2) Ek :=
 (vD C 3 4 ⋯ ⋯ (K3 (A3 C 0 ⋯)) (Dq C (C8 (C8 (A3 C 4 ⋯) A9) A9) (A3 C 1 ⋯)) (C8 (A3 C 4 ⋯) A9) (Rj C 2 ⋯ (C8 (A3 C 4 ⋯) A9)) ⟨rfl,rfl,rfl,rfl⟩ (fun _=>rfl) rfl rfl rfl rfl rfl rfl)
theorem Wc  (T:Txt mg) (C:Cxt P w K mg base X Z0 (A4 (top 46)) 1 true):DS X E0k (stm 46 3) Js :=
 (D1 (F4 (F2 C [3] ["words"] ⋯ (K3 (uC C ⋯ T.b_sorted 3 ⋯)) (fun X' C'=>L9) (fun X' C'=>(N3 (A5 (A3 C' 0 ⋯) (A5 (N0 C' ⋯ T.b_len (A5 (aW C' 1 ⋯ (A3 C' 0 ⋯)) A8)) (A5 (oX C' (aW C' 1 ⋯ (A3 C' 0 ⋯)) N5) A8))))))))
theorem Yh  (T:Txt mg) (F_undone_in:FnN P w K mg base "undone_in" 1 1 G9) (C:Cxt P w K mg base X Z0 (A4 (top 46)) 1 true):DSs X E0k (B3 (top 46)) Nb:=by
 have h:B3 (top 46)=[stm 46 0,stm 46 1,stm 46 2,stm 46 3]:=by kernel_rfl
 rw [h];exact (B1 (Wg T F_undone_in C) (B1 (We T C) (B1 (Wd T C) (B7 (Wc T C)))))
theorem Wp:FnScope Cy ["_law_script", "_law_k"] (A4 (top 48)):=⟨rfl,rfl,rfl,by decide +kernel,rfl,by decide +kernel,by decide +kernel⟩
theorem Rz  (T:Txt mg) (C:Cxt P w K mg base X Cy (A4 (top 48)) 0 true):DSs X E0k (B3 (top 48)) Dh :=
 (B1 (Q7 (Dq C (A3 C 0 ⋯) (F4 (U8 A8))) (B7 (D1 (Cu A9 (A3 C 1 ⋯)))) F7) (B7 (D1 (E6 (C8 (A3 C 0 ⋯) (Uz (A3 C 1 ⋯) (N0 C ⋯ T.b_len (A5 (A3 C 0 ⋯) A8)))) (Cu A9 (Xq (A3 C 1 ⋯) (N0 C ⋯ T.b_len (A5 (A3 C 0 ⋯) A8))))))))
theorem Ti:FnScope Bg ["_law_script", "_law_k", "_law_many"] (A4 (top 49)):=⟨rfl,rfl,rfl,by decide +kernel,rfl,by decide +kernel,by decide +kernel⟩
theorem Oe  (T:Txt mg) (F__law_cell:Fn P w K mg base "_law_cell" 1 2 Ac) (C:Cxt P w K mg base X Bg (A4 (top 49)) 1 true):DSs X E0k (B3 (top 49)) Ch :=
 (B1 (K8 C 3 ⋯ (Uz (E6 (Cu (Uz (C0 C F__law_cell (by decide) ⋯ (A5 (A3 C 0 ⋯) (A5 (A3 C 1 ⋯) A8))) A9) A9) (Cu A9 (E6 (A3 C 1 ⋯) A9))) A9)) (B1 (K8 C 3 ⋯ (Uz (E6 (Cu (A3 C 3 ⋯) (A3 C 3 ⋯)) (Xq (A3 C 3 ⋯) A9)) A9)) (B7 (D1 (Uz (Xq (Uz (E6 (Cu (A3 C 3 ⋯) (A3 C 3 ⋯)) (Xq (A3 C 3 ⋯) A9)) A9) A9) (A3 C 2 ⋯))))))
theorem Th:FnScope O9 ["_law_script", "_law_at"] (A4 (top 50)):=⟨rfl,rfl,rfl,by decide +kernel,rfl,by decide +kernel,by decide +kernel⟩
theorem Nr  (T:Txt mg) (C:Cxt P w K mg base X O9 (A4 (top 50)) 2 true):DS X E0k (stm 50 0) Ap :=
 (Zq C 2 ⋯ (U8 A8))
theorem Nq  (T:Txt mg) (F__law_drawn:Fn P w K mg base "_law_drawn" 2 3 B2) (C:Cxt P w K mg base X O9 (A4 (top 50)) 2 true):DS X E0k (stm 50 1) Ao :=
 (Y3 C 3 ⋯ (X6 C ⋯ T.b_range (A5 A9 A8)) (B1 (K8 C 4 ⋯ (Cu (C8 L3 (C0 C F__law_drawn (by decide) ⋯ (A5 (A3 C 0 ⋯) (A5 (E6 (A3 C 1 ⋯) (Cu A9 (A3 C 3 ⋯))) (A5 A9 A8))))) (C0 C F__law_drawn (by decide) ⋯ (A5 (A3 C 0 ⋯) (A5 (E6 (E6 (A3 C 1 ⋯) (Cu A9 (A3 C 3 ⋯))) A9) (A5 A9 A8)))))) (B7 (Qh C 2 ⋯ (C8 (F4 (U8 (A5 (E6 (A3 C 4 ⋯) (C8 L3 (A3 C 3 ⋯))) (A5 (E6 (C8 L3 (A3 C 3 ⋯)) (A3 C 4 ⋯)) A8)))) (C0 C F__law_drawn (by decide) ⋯ (A5 (A3 C 0 ⋯) (A5 (E6 (A3 C 1 ⋯) A9) (A5 A9 A8)))))))))
theorem Np  (T:Txt mg) (C:Cxt P w K mg base X O9 (A4 (top 50)) 2 true):DS X E0k (stm 50 2) An :=
 (lW 2 (D1 (A3 C 2 ⋯)))
theorem Od  (T:Txt mg) (F__law_drawn:Fn P w K mg base "_law_drawn" 2 3 B2) (C:Cxt P w K mg base X O9 (A4 (top 50)) 2 true):DSs X E0k (B3 (top 50)) Cg:=by
 have h:B3 (top 50)=[stm 50 0,stm 50 1,stm 50 2]:=by kernel_rfl
 rw [h];exact (B1 (Nr T C) (B1 (Nq T F__law_drawn C) (B7 (Np T C))))
theorem Tf:FnScope Be ["_law_script", "_law_at"] (A4 (top 51)):=⟨rfl,rfl,rfl,by decide +kernel,rfl,by decide +kernel,by decide +kernel⟩
theorem Ob  (T:Txt mg) (F__law_drawn:Fn P w K mg base "_law_drawn" 2 3 B2) (C:Cxt P w K mg base X Be (A4 (top 51)) 2 true):DSs X E0k (B3 (top 51)) Ce :=
 (B7 (D1 (Rl (F4 (F2 C [0,1] ["_law_script", "_law_at"] ⋯ (X6 C ⋯ T.b_range (A5 (E6 A9 (C0 C F__law_drawn (by decide) ⋯ (A5 (A3 C 0 ⋯) (A5 (E6 (A3 C 1 ⋯) A9) (A5 A9 A8))))) A8)) (fun X' C'=>L9) (fun X' C'=>(C8 L3 (C0 C' F__law_drawn (by decide) ⋯ (A5 (A3 C' 1 ⋯) (A5 (E6 (A3 C' 2 ⋯) (A3 C' 0 ⋯)) (A5 A9 A8)))))))))))
theorem Tg:FnScope Bf ["_law_book_here"] (A4 (top 52)):=⟨rfl,rfl,rfl,by decide +kernel,rfl,by decide +kernel,by decide +kernel⟩
theorem Oc  (T:Txt mg) (C:Cxt P w K mg base X Bf (A4 (top 52)) 0 true):DSs X E0k (B3 (top 52)) Cf :=
 (B1 (K8 C 1 ⋯ (F4 (U8 A8))) (B1 (Y3 C 2 ⋯ (K3 (A3 C 0 ⋯)) (B7 (Q7 (Dq C (C8 (A3 C 2 ⋯) A9) L3) (B7 (K8 C 1 ⋯ (E6 (A3 C 1 ⋯) (F4 (F2 C [2] ["_law_deed_here"] ⋯ (X6 C ⋯ T.b_range (A5 (N0 C ⋯ T.b_len (A5 (C8 (A3 C 2 ⋯) A9) A8)) A8)) (fun X' C'=>L9) (fun X' C'=>(N3 (A5 (C8 (A3 C' 1 ⋯) A9) (A5 (A3 C' 0 ⋯) A8))))))))) F7))) (B7 (D1 (A3 C 1 ⋯)))))
theorem Qg:FnScope Z9 ["_law_script", "_law_at", "_law_signs_here"] (A4 (top 53)):=⟨rfl,rfl,rfl,by decide +kernel,rfl,by decide +kernel,by decide +kernel⟩
theorem Mp  (T:Txt mg) (F__law_drawn:Fn P w K mg base "_law_drawn" 2 3 B2) (C:Cxt P w K mg base X Z9 (A4 (top 53)) 2 true):DSs X E0k (B3 (top 53)) Au :=
 (B1 (K8 C 3 ⋯ (C8 (E6 (F4 (U8 (A5 Xo A8))) (A3 C 2 ⋯)) (C0 C F__law_drawn (by decide) ⋯ (A5 (A3 C 0 ⋯) (A5 (A3 C 1 ⋯) (A5 (E6 (N0 C ⋯ T.b_len (A5 (A3 C 2 ⋯) A8)) A9) A8)))))) (B7 (D1 (N3 (A5 (A3 C 3 ⋯) (A5 (C8 L3 (C0 C F__law_drawn (by decide) ⋯ (A5 (A3 C 0 ⋯) (A5 (E6 (A3 C 1 ⋯) A9) (A5 A9 A8))))) A8))))))
theorem Wo:FnScope K5 ["_law_script", "_law_at", "_law_one", "_law_known", "_law_names_here"] (A4 (top 54)):=⟨rfl,rfl,rfl,by decide +kernel,rfl,by decide +kernel,by decide +kernel⟩
theorem Pm  (T:Txt mg) (F__law_signs:Fn P w K mg base "_law_signs" 1 1 U6) (C:Cxt P w K mg base X K5 (A4 (top 54)) 3 true):DS X E0k (stm 54 0) Bu :=
 (K8 C 5 ⋯ (C0 C F__law_signs (by decide) ⋯ (A5 (A3 C 3 ⋯) A8)))
theorem Pl  (T:Txt mg) (F__law_drawn:Fn P w K mg base "_law_drawn" 2 3 B2) (C:Cxt P w K mg base X K5 (A4 (top 54)) 3 true):DS X E0k (stm 54 1) Bt :=
 (K8 C 6 ⋯ (C0 C F__law_drawn (by decide) ⋯ (A5 (A3 C 0 ⋯) (A5 (A3 C 1 ⋯) (A5 A9 A8)))))
theorem Pk  (T:Txt mg) (F__law_drawn:Fn P w K mg base "_law_drawn" 2 3 B2) (C:Cxt P w K mg base X K5 (A4 (top 54)) 3 true):DS X E0k (stm 54 2) Bs :=
 (Q7 (w_t (Ot (bX C (A3 C 6 ⋯) A9) (Ht (Ji C (A3 C 5 ⋯) (F4 (U8 A8)))))) (B1 (cN C 8 ⋯ ⋯ [0,1] ["_law_script", "_law_at"] ⋯ (yQ C ⋯ T.b_enumerate (A5 (A3 C 5 ⋯) A8)) (fun X' C'=>(Bm (Dq C' (C0 C' F__law_drawn (by decide) ⋯ (A5 (A3 C' 2 ⋯) (A5 (E6 (E6 (A3 C' 3 ⋯) A9) (A3 C' 0 ⋯)) (A5 A9 A8)))) A9))) (fun X' C'=>(A3 C' 1 ⋯))) (B7 (D1 (N3 (A5 L3 (A5 (A3 C 2 ⋯) (A5 (dO C ⋯ T.b_tuple (A5 (E6 (A3 C 8 ⋯) (Cu (Eu (A3 C 5 ⋯) Ig (Ie A9)) (zC C ⋯ T.b_int (A5 (Xr C (A3 C 8 ⋯) (F4 (U8 A8))) A8)))) A8)) A8))))))) F7)
theorem Pj  (T:Txt mg) (F__law_anchor:Fn P w K mg base "_law_anchor" 3 3 N2) (F__law_drawn:Fn P w K mg base "_law_drawn" 2 3 B2) (C:Cxt P w K mg base X K5 (A4 (top 54)) 3 true):DS X E0k (stm 54 3) Br :=
 (Q7 (bX C (A3 C 6 ⋯) A9) (B1 (K8 C 9 ⋯ (N3 (A5 (C0 C F__law_anchor (by decide) ⋯ (A5 (A3 C 0 ⋯) (A5 (E6 (A3 C 1 ⋯) A9) (A5 (A3 C 5 ⋯) A8)))) (A5 (C0 C F__law_anchor (by decide) ⋯ (A5 (A3 C 0 ⋯) (A5 (E6 (A3 C 1 ⋯) A9) (A5 (A3 C 5 ⋯) A8)))) A8)))) (B7 (D1 (E6 (N3 (A5 L3 (A5 (A3 C 2 ⋯) (A5 (C8 (A3 C 4 ⋯) (C0 C F__law_drawn (by decide) ⋯ (A5 (A3 C 0 ⋯) (A5 (E6 (A3 C 1 ⋯) A9) (A5 A9 A8))))) A8)))) (A3 C 9 ⋯))))) F7)
theorem Pi  (T:Txt mg) (F__law_drawn:Fn P w K mg base "_law_drawn" 2 3 B2) (C:Cxt P w K mg base X K5 (A4 (top 54)) 3 true):DS X E0k (stm 54 4) Bq :=
 (Q7 (Dq C (A3 C 6 ⋯) A9) (B7 (D1 (N3 (A5 L3 (A5 (A3 C 2 ⋯) (A5 (C8 (A3 C 4 ⋯) (C0 C F__law_drawn (by decide) ⋯ (A5 (A3 C 0 ⋯) (A5 (E6 (A3 C 1 ⋯) A9) (A5 A9 A8))))) A8)))))) F7)
theorem Ph  (T:Txt mg) (F__law_drawn:Fn P w K mg base "_law_drawn" 2 3 B2) (C:Cxt P w K mg base X K5 (A4 (top 54)) 3 true):DS X E0k (stm 54 5) Bp :=
 (Q7 (w_t (Ot (bX C (A3 C 6 ⋯) A9) (Ht (Ji C (A3 C 3 ⋯) (N3 A8))))) (B7 (D1 (N3 (A5 L3 (A5 (A3 C 2 ⋯) (A5 (C8 (C8 (A3 C 3 ⋯) (C0 C F__law_drawn (by decide) ⋯ (A5 (A3 C 0 ⋯) (A5 (E6 (A3 C 1 ⋯) A9) (A5 (N0 C ⋯ T.b_len (A5 (A3 C 3 ⋯) A8)) A8))))) A9) A8)))))) F7)
theorem Pg  (T:Txt mg) (F__law_drawn:Fn P w K mg base "_law_drawn" 2 3 B2) (C:Cxt P w K mg base X K5 (A4 (top 54)) 3 true):DS X E0k (stm 54 6) Bo :=
 (K8 C 7 ⋯ (C8 (E6 (E6 (F4 (U8 (A5 Xo A8))) (A3 C 5 ⋯)) (Eu (A3 C 5 ⋯) (Ie (Rk A9)) Ig)) (C0 C F__law_drawn (by decide) ⋯ (A5 (A3 C 0 ⋯) (A5 (E6 (A3 C 1 ⋯) A9) (A5 (E6 (E6 (N0 C ⋯ T.b_len (A5 (A3 C 5 ⋯) A8)) A9) (N0 C ⋯ T.b_len (A5 (Eu (A3 C 5 ⋯) (Ie (Rk A9)) Ig) A8))) A8))))))
theorem Pf  (T:Txt mg) (F__law_words:Fn P w K mg base "_law_words" 3 2 U5) (C:Cxt P w K mg base X K5 (A4 (top 54)) 3 true):DS X E0k (stm 54 7) Bn :=
 (D1 (N3 (A5 L3 (A5 (A3 C 2 ⋯) (A5 (A3 C 7 ⋯) (A5 (C0 C F__law_words (by decide) ⋯ (A5 (A3 C 0 ⋯) (A5 (E6 (A3 C 1 ⋯) A9) A8))) A8))))))
theorem Ry  (T:Txt mg) (F__law_anchor:Fn P w K mg base "_law_anchor" 3 3 N2) (F__law_drawn:Fn P w K mg base "_law_drawn" 2 3 B2) (F__law_signs:Fn P w K mg base "_law_signs" 1 1 U6) (F__law_words:Fn P w K mg base "_law_words" 3 2 U5) (C:Cxt P w K mg base X K5 (A4 (top 54)) 3 true):DSs X E0k (B3 (top 54)) Dg:=by
 have h:B3 (top 54)=[stm 54 0,stm 54 1,stm 54 2,stm 54 3,stm 54 4,stm 54 5,stm 54 6,stm 54 7]:=by kernel_rfl
 rw [h];exact (B1 (Pm T F__law_signs C) (B1 (Pl T F__law_drawn C) (B1 (Pk T F__law_drawn C) (B1 (Pj T F__law_anchor F__law_drawn C) (B1 (Pi T F__law_drawn C) (B1 (Ph T F__law_drawn C) (B1 (Pg T F__law_drawn C) (B7 (Pf T F__law_words C)))))))))
theorem Wq:FnScope O0 ["_law_script", "_law_at", "_law_most", "_law_names_here"] (A4 (top 55)):=⟨rfl,rfl,rfl,by decide +kernel,rfl,by decide +kernel,by decide +kernel⟩
theorem Ps  (T:Txt mg) (C:Cxt P w K mg base X O0 (A4 (top 55)) 4 true):DS X E0k (stm 55 0) Bz :=
 (K8 C 4 ⋯ (N3 A8))
theorem Pp  (T:Txt mg) (C:Cxt P w K mg base X O0 (A4 (top 55)) 4 true):DS X E0k (stm 55 1) Bx :=
 (K8 C 5 ⋯ (N3 (A5 A9 (A5 L3 A8))))
theorem Po  (T:Txt mg) (F__law_deed:Fn P w K mg base "_law_deed" 4 5 N8) (F__law_drawn:Fn P w K mg base "_law_drawn" 2 3 B2) (C:Cxt P w K mg base X O0 (A4 (top 55)) 4 true):DS X E0k (stm 55 2) Bw :=
 (Y3 C 6 ⋯ (X6 C ⋯ T.b_range (A5 (C0 C F__law_drawn (by decide) ⋯ (A5 (A3 C 0 ⋯) (A5 (A3 C 1 ⋯) (A5 (E6 (A3 C 2 ⋯) A9) A8)))) A8)) (B1 (K8 C 7 ⋯ (E6 (C8 (A3 C 5 ⋯) A9) (C0 C F__law_drawn (by decide) ⋯ (A5 (A3 C 0 ⋯) (A5 (E6 (E6 (A3 C 1 ⋯) A9) (Cu A9 (A3 C 6 ⋯))) (A5 A9 A8)))))) (B1 (K8 C 8 ⋯ (C8 L3 (C0 C F__law_drawn (by decide) ⋯ (A5 (A3 C 0 ⋯) (A5 (E6 (E6 (A3 C 1 ⋯) A9) (Cu A9 (A3 C 6 ⋯))) (A5 A9 A8)))))) (B1 (Q7 (w_t (Ot (Ji C (A3 C 4 ⋯) (N3 A8)) (Ht (t_le C (N3 (A5 (A3 C 7 ⋯) (A5 (A3 C 8 ⋯) A8))) (A3 C 5 ⋯))))) (B7 (K8 C 7 ⋯ (E6 (C8 (A3 C 5 ⋯) A9) A9))) F7) (B1 (K8 C 5 ⋯ (N3 (A5 (A3 C 7 ⋯) (A5 (A3 C 8 ⋯) A8)))) (B1 (K8 C 9 ⋯ (dO C ⋯ T.b_tuple (A5 (F4 (F2 C [7] ["_law_time"] ⋯ (K3 (A3 C 4 ⋯)) (fun X' C'=>(Bm (bX C' (C8 (C8 (A3 C' 0 ⋯) A9) A9) (A3 C' 1 ⋯)))) (fun X' C'=>(A3 C' 0 ⋯)))) A8))) (B7 (K8 C 4 ⋯ (E6 (A3 C 4 ⋯) (N3 (A5 (C0 C F__law_deed (by decide) ⋯ (A5 (A3 C 0 ⋯) (A5 (E6 (E6 (A3 C 1 ⋯) A9) (Cu A9 (A3 C 6 ⋯))) (A5 (A3 C 5 ⋯) (A5 (A3 C 9 ⋯) (A5 (A3 C 3 ⋯) A8)))))) A8)))))))))))
theorem Pn  (T:Txt mg) (C:Cxt P w K mg base X O0 (A4 (top 55)) 4 true):DS X E0k (stm 55 3) Bv :=
 (D1 (A3 C 4 ⋯))
theorem Sa  (T:Txt mg) (F__law_deed:Fn P w K mg base "_law_deed" 4 5 N8) (F__law_drawn:Fn P w K mg base "_law_drawn" 2 3 B2) (C:Cxt P w K mg base X O0 (A4 (top 55)) 4 true):DSs X E0k (B3 (top 55)) Di:=by
 have h:B3 (top 55)=[stm 55 0,stm 55 1,stm 55 2,stm 55 3]:=by kernel_rfl
 rw [h];exact (B1 (Ps T C) (B1 (Pp T C) (B1 (Po T F__law_deed F__law_drawn C) (B7 (Pn T C)))))
theorem wL:FnScope Aj ["_law_script"] (A4 (top 56)):=⟨rfl,rfl,rfl,by decide +kernel,rfl,by decide +kernel,by decide +kernel⟩
theorem lI  (T:Txt mg) (F__law_book:Fn P w K mg base "_law_book" 5 4 Ae) (F__law_names:Fn P w K mg base "_law_names" 3 2 U7) (C:Cxt P w K mg base X Aj (A4 (top 56)) 8 true):DS X E0k (stm 56 0) Yx :=
 (K8 C 1 ⋯ (C0 C F__law_book (by decide) ⋯ (A5 (A3 C 0 ⋯) (A5 A9 (A5 A9 (A5 (C0 C F__law_names (by decide) ⋯ (A5 (A3 C 0 ⋯) (A5 A9 A8))) A8))))))
theorem lH  (T:Txt mg) (F_texts_of:Fn P w K mg base "texts_of" 8 1 N1) (C:Cxt P w K mg base X Aj (A4 (top 56)) 8 true):DS X E0k (stm 56 1) Yw :=
 (K8 C 2 ⋯ (C0 C F_texts_of (by decide) ⋯ (A5 (A3 C 1 ⋯) A8)))
theorem lG  (T:Txt mg) (F_text_of:Fn P w K mg base "text_of" 6 1 L8) (C:Cxt P w K mg base X Aj (A4 (top 56)) 8 true):DS X E0k (stm 56 2) Yv :=
 (K8 C 3 ⋯ (C0 C F_text_of (by decide) ⋯ (A5 (A3 C 1 ⋯) A8)))
theorem lF  (T:Txt mg) (C:Cxt P w K mg base X Aj (A4 (top 56)) 8 true):DS X E0k (stm 56 3) Yu :=
 (Q7 (w_t (Os (Ji C (C8 (A3 C 2 ⋯) A9) L3) (Jf (Ji C (C8 (A3 C 2 ⋯) (Rk A9)) (A3 C 3 ⋯))))) (B7 (D1 N5)) F7)
theorem lE  (T:Txt mg) (F_as_of:Fn P w K mg base "as_of" 1 2 V9) (F_first_seen:Fn P w K mg base "first_seen" 8 2 K1) (F_is_book:Fn P w K mg base "is_book" 8 1 Bi) (F_text_of:Fn P w K mg base "text_of" 6 1 L8) (F_texts_of:Fn P w K mg base "texts_of" 8 1 N1) (C:Cxt P w K mg base X Aj (A4 (top 56)) 8 true):DS X E0k (stm 56 4) Pa :=
 (Y3 C 4 ⋯ (X6 C ⋯ T.b_range (A5 (N0 C ⋯ T.b_len (A5 (A3 C 2 ⋯) A8)) A8)) (B1 (K8 C 10 ⋯ (C0 C F_as_of (by decide) ⋯ (A5 (A3 C 1 ⋯) (A5 (A3 C 4 ⋯) A8)))) (B1 (Q7 (w_t (Os (Dm (Fs (C0 C F_is_book (by decide) ⋯ (A5 (A3 C 10 ⋯) A8)))) (Os (Ji C (C0 C F_text_of (by decide) ⋯ (A5 (A3 C 10 ⋯) A8)) (C8 (A3 C 2 ⋯) (A3 C 4 ⋯))) (Jf (Ji C (C0 C F_texts_of (by decide) ⋯ (A5 (A3 C 10 ⋯) A8)) (Eu (A3 C 2 ⋯) Ig (Ie (N0 C ⋯ T.b_len (A5 (C0 C F_texts_of (by decide) ⋯ (A5 (A3 C 10 ⋯) A8)) A8))))))))) (B7 (D1 N5)) F7) (B1 (Y3 C 11 ⋯ (X6 C ⋯ T.b_range (A5 (E6 (A3 C 4 ⋯) A9) A8)) (B7 (Q7 (Ji C (C0 C F_as_of (by decide) ⋯ (A5 (A3 C 10 ⋯) (A5 (A3 C 11 ⋯) A8))) (C0 C F_as_of (by decide) ⋯ (A5 (A3 C 1 ⋯) (A5 (A3 C 11 ⋯) A8)))) (B7 (D1 N5)) F7))) (B1 (Q7 (w_t (Os (eJ C (C8 (A3 C 2 ⋯) (A3 C 4 ⋯)) (Eu (A3 C 2 ⋯) Ig (Ie (E6 (A3 C 4 ⋯) A9)))) (Jf (t_gt C (C0 C F_first_seen (by decide) ⋯ (A5 (A3 C 1 ⋯) (A5 (C8 (A3 C 2 ⋯) (A3 C 4 ⋯)) A8))) (A3 C 4 ⋯))))) (B7 (D1 N5)) F7) (B1 (K8 C 12 ⋯ (C0 C F_first_seen (by decide) ⋯ (A5 (A3 C 1 ⋯) (A5 (C8 (A3 C 2 ⋯) (A3 C 4 ⋯)) A8)))) (B7 (Q7 (Ji C (F4 (F2 C [2,4] ["_law_texts", "_law_time"] ⋯ (K3 (Eu (A3 C 2 ⋯) Ig (Ie (A3 C 12 ⋯)))) (fun X' C'=>(Bm (wC C' (C8 (A3 C' 1 ⋯) (A3 C' 2 ⋯)) (A3 C' 0 ⋯)))) (fun X' C'=>(A3 C' 0 ⋯)))) (F4 (U8 A8))) (B7 (D1 N5)) F7))))))))
theorem lD  (T:Txt mg) (F_age_at:Fn P w K mg base "age_at" 6 2 Dw) (C:Cxt P w K mg base X Aj (A4 (top 56)) 8 true):DS X E0k (stm 56 5) Jp :=
 (K8 C 5 ⋯ (F4 (F2 C [1] ["_law_book_here"] ⋯ (X6 C ⋯ T.b_range (A5 (N0 C ⋯ T.b_len (A5 (A3 C 3 ⋯) A8)) A8)) (fun X' C'=>L9) (fun X' C'=>(C0 C' F_age_at (by decide) ⋯ (A5 (A3 C' 1 ⋯) (A5 (A3 C' 0 ⋯) A8)))))) (bY C ⋯))
theorem lC  (T:Txt mg) (C:Cxt P w K mg base X Aj (A4 (top 56)) 8 true):DS X E0k (stm 56 6) Jo :=
 (Fz C 6 ⋯ (Xa C ⋯ T.b_dict (F4 (F2 C [] [] ⋯ (K3 (A3 C 1 ⋯)) (fun X' C'=>(Bm (Dq C' (C8 (A3 C' 0 ⋯) A9) L3))) (fun X' C'=>(N3 (A5 (C8 (A3 C' 0 ⋯) A9) (A5 (C8 (A3 C' 0 ⋯) A9) A8))))))))
theorem lB  (T:Txt mg) (C:Cxt P w K mg base X Aj (A4 (top 56)) 8 true):DS X E0k (stm 56 7) Jn :=
 (Q7 (Ji C (F4 (F2 C [3,6,5] ["_law_text", "_law_added", "_law_ages"] ⋯ (X6 C ⋯ T.b_range (A5 (N0 C ⋯ T.b_len (A5 (A3 C 3 ⋯) A8)) A8)) (fun X' C'=>(Bm (eJ C' (C8 (A3 C' 1 ⋯) (A3 C' 0 ⋯)) (aW C' 2 ⋯ (C8 (A3 C' 3 ⋯) (A3 C' 0 ⋯)))))) (fun X' C'=>(A3 C' 0 ⋯)))) (F4 (U8 A8))) (B7 (D1 N5)) F7)
theorem lA  (T:Txt mg) (F_authors_of:Fn P w K mg base "authors_of" 6 1 K2) (C:Cxt P w K mg base X Aj (A4 (top 56)) 8 true):DS X E0k (stm 56 8) Jm :=
 (K8 C 7 ⋯ (Rl (F4 (Xm C [] [] ⋯ (K3 (C0 C F_authors_of (by decide) ⋯ (A5 (A3 C 1 ⋯) A8))) (fun X' C'=>L9) (fun X' C'=>(Cu (A3 C' 0 ⋯) (N0 C' ⋯ T.b_len (A5 (A3 C' 1 ⋯) A8))))))))
theorem kZ  (T:Txt mg) (F_authors_of:Fn P w K mg base "authors_of" 6 1 K2) (C:Cxt P w K mg base X Aj (A4 (top 56)) 8 true):DS X E0k (stm 56 9) Jl :=
 (Q7 (w_t (Os (Ji C (A3 C 7 ⋯) (Rl (F4 (F2 C [] [] ⋯ (K3 (A3 C 5 ⋯)) (fun X' C'=>L9) (fun X' C'=>(C8 (A3 C' 0 ⋯) A9)))))) (Jf (Ji C (Rl (F4 (Xm C [] [] ⋯ (K3 (C0 C F_authors_of (by decide) ⋯ (A5 (A3 C 1 ⋯) A8))) (fun X' C'=>L9) (fun X' C'=>(A3 C' 1 ⋯))))) (A3 C 3 ⋯))))) (B7 (D1 N5)) F7)
theorem gZ  (T:Txt mg) (F_lost:Fn P w K mg base "lost" 6 1 Gh) (C:Cxt P w K mg base X Aj (A4 (top 56)) 8 true):DS X E0k (stm 56 10) Gr :=
 (Q7 (Ji C (F4 (Xm C [5,6] ["_law_ages", "_law_added"] ⋯ (K3 (C0 C F_lost (by decide) ⋯ (A5 (A3 C 1 ⋯) A8))) (fun X' C'=>(Bm (w_t (Os (wC C' (A3 C' 0 ⋯) (A3 C' 2 ⋯)) (Jf (Ji C' (aW C' 3 ⋯ (A3 C' 0 ⋯)) (A3 C' 1 ⋯))))))) (fun X' C'=>(A3 C' 0 ⋯)))) (F4 (U8 A8))) (B7 (D1 N5)) F7)
theorem gY  (T:Txt mg) (C:Cxt P w K mg base X Aj (A4 (top 56)) 8 true):DS X E0k (stm 56 11) Uc :=
 (K8 C 8 ⋯ A9)
theorem gX  (T:Txt mg) (F_by_hand:Fn P w K mg base "by_hand" 2 2 Y9) (C:Cxt P w K mg base X Aj (A4 (top 56)) 8 true):DS X E0k (stm 56 12) Lf :=
 (Y3 C 9 ⋯ (K3 L3) (B7 (wN C 13 14 15 ⋯ ⋯ ⋯ (K3 (C0 C F_by_hand (by decide) ⋯ (A5 (A3 C 1 ⋯) (A5 (A3 C 9 ⋯) A8)))) (B1 (K8 C 8 ⋯ (E6 (A3 C 8 ⋯) (A3 C 14 ⋯))) (B7 (Q7 (Dm (Lb C A9 (A3 C 15 ⋯) (A3 C 14 ⋯))) (B7 (D1 N5)) F7))))))
theorem gW  (T:Txt mg) (C:Cxt P w K mg base X Aj (A4 (top 56)) 8 true):DS X E0k (stm 56 13) Ub :=
 (D1 (Xr C (A3 C 8 ⋯) (N0 C ⋯ T.b_len (A5 (A3 C 1 ⋯) A8))))
theorem pI  (T:Txt mg) (F__law_book:Fn P w K mg base "_law_book" 5 4 Ae) (F__law_names:Fn P w K mg base "_law_names" 3 2 U7) (F_age_at:Fn P w K mg base "age_at" 6 2 Dw) (F_as_of:Fn P w K mg base "as_of" 1 2 V9) (F_authors_of:Fn P w K mg base "authors_of" 6 1 K2) (F_by_hand:Fn P w K mg base "by_hand" 2 2 Y9) (F_first_seen:Fn P w K mg base "first_seen" 8 2 K1) (F_is_book:Fn P w K mg base "is_book" 8 1 Bi) (F_lost:Fn P w K mg base "lost" 6 1 Gh) (F_text_of:Fn P w K mg base "text_of" 6 1 L8) (F_texts_of:Fn P w K mg base "texts_of" 8 1 N1) (C:Cxt P w K mg base X Aj (A4 (top 56)) 8 true):DSs X E0k (B3 (top 56)) Oh:=by
 have h:B3 (top 56)=[stm 56 0,stm 56 1,stm 56 2,stm 56 3,stm 56 4,stm 56 5,stm 56 6,stm 56 7,stm 56 8,stm 56 9,stm 56 10,stm 56 11,stm 56 12,stm 56 13]:=by kernel_rfl
 rw [h];exact (B1 (lI T F__law_book F__law_names C) (B1 (lH T F_texts_of C) (B1 (lG T F_text_of C) (B1 (lF T C) (B1 (lE T F_as_of F_first_seen F_is_book F_text_of F_texts_of C) (B1 (lD T F_age_at C) (B1 (lC T C) (B1 (lB T C) (B1 (lA T F_authors_of C) (B1 (kZ T F_authors_of C) (B1 (gZ T F_lost C) (B1 (gY T C) (B1 (gX T F_by_hand C) (B7 (gW T C)))))))))))))))
end Sm
end
noncomputable section
namespace Sm
open PySem PySem.Spec PyProof.Rows L2
theorem Ri {K:zX} {mg:Str->Option zV} {h:p9} {x:Str} {st:CN} {ps:List Str} {f:c6} {oc:zV} {od an:Option c6} {osl:Array (Option zV)} {kV doc pm cdv ct:zV} (X:K.In h) (G:h.Ns z0 mg) (a:GD K z0 x=some (some (.ref f)))
   (l:K.lookup f=some ⟨oc,od,.func (x3 x x (M9 st) (B3 st) (A4 st) .none kV doc pm an cdv ct),osl⟩) (c:CI K cdv x=true) (k:AJ K (.ref f)=true)
   (hb:∀ (kV doc pm:zV) (an:Option c6) (cdv ct:zV) (us:List zV),us.length=ps.length->IE (x3 x x (M9 st) (B3 st) (A4 st) .none kV doc pm an cdv ct) ⟨us,[]⟩=pure (ps.zip us)):Def K mg x st ps :=
 ⟨f,_,oI l c k,PySem.W.mg_of X G a,(oI l c k).binds hb⟩
theorem aM:∀ {l:List (c6×Obj)} {a:c6} {o:Obj},l.lookup a=some o->(a,o)∈l
 | [],_,_,h=>nomatch h
 | (b,q)::r,a,o,h=>by
   rw [List.lookup_cons] at h;cases e:a==b with
   | true=>rw [e] at h; cases h; rw [CD e]; exact .head _
   | false=>rw [e] at h; exact .tail _ (aM h)
noncomputable def noList (K:zX):Bool:=K.all fun p => !(match p.2.cls with | .type n=>n == "list" | _=>false)
theorem noList.out {K:zX} (h:noList K=true) {a:c6} {o:Obj} (e:K.lookup a=some o):o.cls≠.type "list" := fun z=>by
 have hm:(a,o)∈K:=aM e;unfold noList at h;have:=BS.mp h _ hm;rw [z] at this;simp at this
theorem O2 {us:List zV} {n:Nat} (h:us.length=n+1):∃ a t,us=a::t/\t.length=n:=by cases us with | nil=>cases h | cons a t=>exact ⟨a,t,rfl,Nat.succ.inj h⟩
theorem tZ {K:zX} {mg:Str->Option zV} {h:p9} {x:Str} {st:CN} {ps:List Str} {f:c6} {oc:zV} {od an:Option c6} {osl:Array (Option zV)} {kV doc pm cdv ct:zV} (X:K.In h) (G:h.Ns z0 mg) (a:GD K z0 x=some (some (.ref f)))
   (l:K.lookup f=some ⟨oc,od,.func (x3 x x (M9 st) (B3 st) (A4 st) .none kV doc pm an cdv ct),osl⟩) (c:CI K cdv x=true) (k:AJ K (.ref f)=true)
   (hb:∀ (kV doc pm:zV) (an:Option c6) (cdv ct:zV) (u0:zV),IE (x3 x x (M9 st) (B3 st) (A4 st) .none kV doc pm an cdv ct) ⟨[u0],[]⟩=pure (ps.zip [u0])) (hp:ps.length=1):Def K mg x st ps :=
 Ri X G a l c k fun kV doc pm an cdv ct us hl=>by
   have h0:=hl.trans hp; obtain ⟨u0,t0,rfl,h1⟩:=O2 h0;cases w8.mp h1;exact hb kV doc pm an cdv ct u0
theorem tY {K:zX} {mg:Str->Option zV} {h:p9} {x:Str} {st:CN} {ps:List Str} {f:c6} {oc:zV} {od an:Option c6} {osl:Array (Option zV)} {kV doc pm cdv ct:zV} (X:K.In h) (G:h.Ns z0 mg) (a:GD K z0 x=some (some (.ref f)))
   (l:K.lookup f=some ⟨oc,od,.func (x3 x x (M9 st) (B3 st) (A4 st) .none kV doc pm an cdv ct),osl⟩) (c:CI K cdv x=true) (k:AJ K (.ref f)=true)
   (hb:∀ (kV doc pm:zV) (an:Option c6) (cdv ct:zV) (u0 u1:zV),IE (x3 x x (M9 st) (B3 st) (A4 st) .none kV doc pm an cdv ct) ⟨[u0,u1],[]⟩=pure (ps.zip [u0,u1])) (hp:ps.length=2):Def K mg x st ps :=
 Ri X G a l c k fun kV doc pm an cdv ct us hl=>by
   have h0:=hl.trans hp; obtain ⟨u0,t0,rfl,h1⟩:=O2 h0; obtain ⟨u1,t1,rfl,h2⟩:=O2 h1;cases w8.mp h2;exact hb kV doc pm an cdv ct u0 u1
theorem tX {K:zX} {mg:Str->Option zV} {h:p9} {x:Str} {st:CN} {ps:List Str} {f:c6} {oc:zV} {od an:Option c6} {osl:Array (Option zV)} {kV doc pm cdv ct:zV} (X:K.In h) (G:h.Ns z0 mg) (a:GD K z0 x=some (some (.ref f)))
   (l:K.lookup f=some ⟨oc,od,.func (x3 x x (M9 st) (B3 st) (A4 st) .none kV doc pm an cdv ct),osl⟩) (c:CI K cdv x=true) (k:AJ K (.ref f)=true)
   (hb:∀ (kV doc pm:zV) (an:Option c6) (cdv ct:zV) (u0 u1 u2:zV),IE (x3 x x (M9 st) (B3 st) (A4 st) .none kV doc pm an cdv ct) ⟨[u0,u1,u2],[]⟩=pure (ps.zip [u0,u1,u2])) (hp:ps.length=3):Def K mg x st ps :=
 Ri X G a l c k fun kV doc pm an cdv ct us hl=>by
   have h0:=hl.trans hp; obtain ⟨u0,t0,rfl,h1⟩:=O2 h0; obtain ⟨u1,t1,rfl,h2⟩:=O2 h1; obtain ⟨u2,t2,rfl,h3⟩:=O2 h2;cases w8.mp h3;exact hb kV doc pm an cdv ct u0 u1 u2
theorem tW {K:zX} {mg:Str->Option zV} {h:p9} {x:Str} {st:CN} {ps:List Str} {f:c6} {oc:zV} {od an:Option c6} {osl:Array (Option zV)} {kV doc pm cdv ct:zV} (X:K.In h) (G:h.Ns z0 mg) (a:GD K z0 x=some (some (.ref f)))
   (l:K.lookup f=some ⟨oc,od,.func (x3 x x (M9 st) (B3 st) (A4 st) .none kV doc pm an cdv ct),osl⟩) (c:CI K cdv x=true) (k:AJ K (.ref f)=true)
   (hb:∀ (kV doc pm:zV) (an:Option c6) (cdv ct:zV) (u0 u1 u2 u3:zV),IE (x3 x x (M9 st) (B3 st) (A4 st) .none kV doc pm an cdv ct) ⟨[u0,u1,u2,u3],[]⟩=pure (ps.zip [u0,u1,u2,u3])) (hp:ps.length=4):Def K mg x st ps :=
 Ri X G a l c k fun kV doc pm an cdv ct us hl=>by
   have h0:=hl.trans hp; obtain ⟨u0,t0,rfl,h1⟩:=O2 h0; obtain ⟨u1,t1,rfl,h2⟩:=O2 h1; obtain ⟨u2,t2,rfl,h3⟩:=O2 h2; obtain ⟨u3,t3,rfl,h4⟩:=O2 h3;cases w8.mp h4;exact hb kV doc pm an cdv ct u0 u1 u2 u3
theorem tV {K:zX} {mg:Str->Option zV} {h:p9} {x:Str} {st:CN} {ps:List Str} {f:c6} {oc:zV} {od an:Option c6} {osl:Array (Option zV)} {kV doc pm cdv ct:zV} (X:K.In h) (G:h.Ns z0 mg) (a:GD K z0 x=some (some (.ref f)))
   (l:K.lookup f=some ⟨oc,od,.func (x3 x x (M9 st) (B3 st) (A4 st) .none kV doc pm an cdv ct),osl⟩) (c:CI K cdv x=true) (k:AJ K (.ref f)=true)
   (hb:∀ (kV doc pm:zV) (an:Option c6) (cdv ct:zV) (u0 u1 u2 u3 u4:zV),IE (x3 x x (M9 st) (B3 st) (A4 st) .none kV doc pm an cdv ct) ⟨[u0,u1,u2,u3,u4],[]⟩=pure (ps.zip [u0,u1,u2,u3,u4])) (hp:ps.length=5):Def K mg x st ps :=
 Ri X G a l c k fun kV doc pm an cdv ct us hl=>by
   have h0:=hl.trans hp; obtain ⟨u0,t0,rfl,h1⟩:=O2 h0; obtain ⟨u1,t1,rfl,h2⟩:=O2 h1; obtain ⟨u2,t2,rfl,h3⟩:=O2 h2; obtain ⟨u3,t3,rfl,h4⟩:=O2 h3; obtain ⟨u4,t4,rfl,h5⟩:=O2 h4;cases w8.mp h5;exact hb kV doc pm an cdv ct u0 u1 u2 u3 u4
def Defs (K:zX) (mg:Str->Option zV):Prop :=
 Def K mg "law" (top 56) ["_law_script"] /\
 Def K mg "is_whole" (top 9) ["thing", "least"] /\
 Def K mg "is_one_of" (top 10) ["thing", "letters"] /\
 Def K mg "is_text" (top 11) ["thing", "most", "first", "last"] /\
 Def K mg "is_name" (top 12) ["thing"] /\
 Def K mg "is_added_text" (top 13) ["thing"] /\
 Def K mg "is_pair" (top 14) ["thing"] /\
 Def K mg "is_deed_id" (top 15) ["thing"] /\
 Def K mg "is_sign_id" (top 16) ["thing"] /\
 Def K mg "is_sign_id_or_none" (top 17) ["thing"] /\
 Def K mg "is_anchor" (top 18) ["thing"] /\
 Def K mg "is_rising" (top 19) ["values"] /\
 Def K mg "is_dropped" (top 20) ["thing"] /\
 Def K mg "has_form" (top 21) ["word", "parts"] /\
 Def K mg "signs_named" (top 22) ["deed"] /\
 Def K mg "deeds_named" (top 23) ["deed"] /\
 Def K mg "is_deed" (top 24) ["thing"] /\
 Def K mg "signs_added" (top 25) ["deed"] /\
 Def K mg "by_ids" (top 26) ["deeds"] /\
 Def K mg "has_all_named" (top 27) ["known", "deed"] /\
 Def K mg "is_book" (top 28) ["thing"] /\
 Def K mg "adds_behind" (top 30) ["book"] /\
 Def K mg "signs_of" (top 31) ["book"] /\
 Def K mg "undone_in" (top 32) ["book"] /\
 Def K mg "dropped_in" (top 33) ["book", "undone"] /\
 Def K mg "presence_in" (top 34) ["book"] /\
 Def K mg "shown_in" (top 35) ["book"] /\
 Def K mg "text_of" (top 36) ["book"] /\
 Def K mg "authors_of" (top 37) ["book"] /\
 Def K mg "as_of" (top 39) ["book", "time"] /\
 Def K mg "times_of" (top 40) ["book"] /\
 Def K mg "text_at" (top 41) ["book", "time"] /\
 Def K mg "texts_of" (top 42) ["book"] /\
 Def K mg "age_at" (top 43) ["book", "place"] /\
 Def K mg "first_seen" (top 44) ["book", "text"] /\
 Def K mg "lost" (top 45) ["book"] /\
 Def K mg "by_hand" (top 46) ["book", "hand"] /\
 Def K mg "_law_cell" (top 48) ["_law_script", "_law_k"] /\
 Def K mg "_law_drawn" (top 49) ["_law_script", "_law_k", "_law_many"] /\
 Def K mg "_law_names" (top 50) ["_law_script", "_law_at"] /\
 Def K mg "_law_words" (top 51) ["_law_script", "_law_at"] /\
 Def K mg "_law_signs" (top 52) ["_law_book_here"] /\
 Def K mg "_law_anchor" (top 53) ["_law_script", "_law_at", "_law_signs_here"] /\
 Def K mg "_law_deed" (top 54) ["_law_script", "_law_at", "_law_one", "_law_known", "_law_names_here"] /\
 Def K mg "_law_book" (top 55) ["_law_script", "_law_at", "_law_most", "_law_names_here"]
noncomputable section
variable {P:j5} {w:l9} {K:zX} {mg:Str->Option zV} {base:p9}
theorem yE {f:c6} {fd:FZ} (F:L2.Fun K "law" "law" (top 56) f fd) (T:Txt mg) (D:Defs K mg):FnOk P w K mg base CX0 9 f fd ["_law_script"] (spD 1 fF):=by
 have D_law:=D.1;have R1:=D.2;have D_is_whole:=R1.1;have R2:=R1.2;have D_is_one_of:=R2.1;have R3:=R2.2;have D_is_text:=R3.1;have R4:=R3.2;have D_is_name:=R4.1;have R5:=R4.2;have D_is_added_text:=R5.1;have R6:=R5.2;have D_is_pair:=R6.1;have R7:=R6.2;have D_is_deed_id:=R7.1;have R8:=R7.2;have D_is_sign_id:=R8.1;have R9:=R8.2;have D_is_sign_id_or_none:=R9.1;have R10:=R9.2;have D_is_anchor:=R10.1;have R11:=R10.2;have D_is_rising:=R11.1;have R12:=R11.2;have D_is_dropped:=R12.1;have R13:=R12.2;have D_has_form:=R13.1;have R14:=R13.2;have D_signs_named:=R14.1;have R15:=R14.2;have D_deeds_named:=R15.1;have R16:=R15.2
 have D_is_deed:=R16.1;have R17:=R16.2;have D_signs_added:=R17.1;have R18:=R17.2;have D_by_ids:=R18.1;have R19:=R18.2;have D_has_all_named:=R19.1;have R20:=R19.2;have D_is_book:=R20.1;have R21:=R20.2;have D_adds_behind:=R21.1;have R22:=R21.2;have D_signs_of:=R22.1;have R23:=R22.2;have D_undone_in:=R23.1;have R24:=R23.2;have D_dropped_in:=R24.1;have R25:=R24.2;have D_presence_in:=R25.1;have R26:=R25.2;have D_shown_in:=R26.1;have R27:=R26.2;have D_text_of:=R27.1;have R28:=R27.2;have D_authors_of:=R28.1;have R29:=R28.2;have D_as_of:=R29.1;have R30:=R29.2;have D_times_of:=R30.1;have R31:=R30.2;have D_text_at:=R31.1
 have R32:=R31.2;have D_texts_of:=R32.1;have R33:=R32.2;have D_age_at:=R33.1;have R34:=R33.2;have D_first_seen:=R34.1;have R35:=R34.2;have D_lost:=R35.1;have R36:=R35.2;have D_by_hand:=R36.1;have R37:=R36.2;have D__law_cell:=R37.1;have R38:=R37.2;have D__law_drawn:=R38.1;have R39:=R38.2;have D__law_names:=R39.1;have R40:=R39.2;have D__law_words:=R40.1;have R41:=R40.2;have D__law_signs:=R41.1;have R42:=R41.2;have D__law_anchor:=R42.1;have R43:=R42.2;have D__law_deed:=R43.1;have R44:=R43.2;have D__law_book:=R44;have F_is_whole:Fn P w K mg base "is_whole" 1 2 Y5:=O4 (k:=0) D_is_whole Zo rfl (fun X C=>Tw T  C) rfl
 have F_is_one_of:Fn P w K mg base "is_one_of" 1 2 T4:=O4 (k:=0) D_is_one_of Wm rfl (fun X C=>Rw T  C) rfl;have F_is_text:Fn P w K mg base "is_text" 1 4 Bh:=O4 (k:=0) D_is_text cG rfl (fun X C=>Yc T  C) rfl;have F_is_name:Fn P w K mg base "is_name" 2 1 Y6:=O4 (k:=1) D_is_name cI rfl (fun X C=>Ye T F_is_text C) rfl;have F_is_added_text:Fn P w K mg base "is_added_text" 2 1 P3:=O4 (k:=1) D_is_added_text Lp rfl (fun X C=>Iv T F_is_text C) rfl;have F_is_pair:Fn P w K mg base "is_pair" 1 1 W5:=O4 (k:=0) D_is_pair cH rfl (fun X C=>Yd T  C) rfl;have F_is_deed_id:Fn P w K mg base "is_deed_id" 2 1 K0:=O4 (k:=1) D_is_deed_id Tb rfl (fun X C=>Nx T F_is_one_of F_is_pair F_is_whole C) rfl
 have F_is_sign_id:Fn P w K mg base "is_sign_id" 3 1 M6:=O4 (k:=2) D_is_sign_id Sz rfl (fun X C=>Nv T F_is_deed_id F_is_pair F_is_whole C) rfl;have F_is_sign_id_or_none:Fn P w K mg base "is_sign_id_or_none" 4 1 F3:=O4 (k:=3) D_is_sign_id_or_none Fh rfl (fun X C=>Ea T F_is_sign_id C) rfl;have F_is_anchor:Fn P w K mg base "is_anchor" 5 1 W6:=O4 (k:=4) D_is_anchor Wn rfl (fun X C=>Rx T F_is_one_of F_is_pair F_is_sign_id_or_none C) rfl;have F_is_rising:Fn P w K mg base "is_rising" 1 1 N7:=O4 (k:=0) D_is_rising Wl rfl (fun X C=>Rv T  C) rfl;have F_is_dropped:Fn P w K mg base "is_dropped" 4 1 X4:=O4 (k:=3) D_is_dropped Ta rfl (fun X C=>Nw T F_is_rising F_is_sign_id C) rfl
 have F_has_form:Fn P w K mg base "has_form" 6 2 Y8:=O4 (k:=5) D_has_form Zp rfl (fun X C=>Tx T F_is_added_text F_is_anchor F_is_deed_id F_is_dropped F_is_name F_is_sign_id_or_none C) rfl;have F_signs_named:Fn P w K mg base "signs_named" 1 1 F5:=O4 (k:=0) D_signs_named Qb rfl (fun X C=>Mk T  C) rfl;have F_deeds_named:Fn P w K mg base "deeds_named" 2 1 E7:=O4 (k:=1) D_deeds_named Qe rfl (fun X C=>Mn T F_signs_named C) rfl;have F_is_deed:Fn P w K mg base "is_deed" 7 1 Y7:=O4 (k:=6) D_is_deed cJ rfl (fun X C=>Yf T F_deeds_named F_has_form F_is_deed_id C) rfl;have F_signs_added:Fn P w K mg base "signs_added" 1 1 D4:=O4 (k:=0) D_signs_added Qc rfl (fun X C=>Ml T  C) rfl
 have F_by_ids:FnN P w K mg base "by_ids" 1 1 Dv:=yU (k:=0) D_by_ids hZ rfl (fun X C=>bE T  C) rfl;have F_has_all_named:FnS P w K mg base "has_all_named" 3 2 M5:=fn_S (k:=2) D_has_all_named Lq rfl (fun X C=>Iw T F_deeds_named F_signs_added F_signs_named C) rfl;have F_is_book:Fn P w K mg base "is_book" 8 1 Bi:=O4 (k:=7) D_is_book cK rfl (fun X C=>Yg T F_by_ids F_has_all_named F_is_deed F_is_rising C) rfl;have F_adds_behind:FnN P w K mg base "adds_behind" 2 1 Q2:=yU (k:=1) D_adds_behind Qf rfl (fun X C=>Mo T F_signs_added C) rfl;have F_signs_of:Fn P w K mg base "signs_of" 3 1 Y4:=O4 (k:=2) D_signs_of Zm rfl (fun X C=>Tu T F_adds_behind C) rfl
 have F_undone_in:FnN P w K mg base "undone_in" 1 1 G9:=yU (k:=0) D_undone_in Wj rfl (fun X C=>Ru T  C) rfl;have F_dropped_in:FnSN P w K mg base "dropped_in" 1 2 M7:=fn_SN (k:=0) D_dropped_in Td rfl (fun X C=>Nz T  C) rfl;have F_presence_in:Fn P w K mg base "presence_in" 4 1 V2:=O4 (k:=3) D_presence_in Qd rfl (fun X C=>Mm T F_dropped_in F_signs_of F_undone_in C) rfl;have F_shown_in:Fn P w K mg base "shown_in" 5 1 J3:=O4 (k:=4) D_shown_in Zn rfl (fun X C=>Tv T F_presence_in C) rfl;have F_text_of:Fn P w K mg base "text_of" 6 1 L8:=O4 (k:=5) D_text_of cE rfl (fun X C=>Ya T F_shown_in C) rfl;have F_authors_of:Fn P w K mg base "authors_of" 6 1 K2:=O4 (k:=5) D_authors_of Te rfl (fun X C=>Oa T F_shown_in C) rfl
 have F_as_of:Fn P w K mg base "as_of" 1 2 V9:=O4 (k:=0) D_as_of lS rfl (fun X C=>dY T  C) rfl;have F_times_of:Fn P w K mg base "times_of" 1 1 W2:=O4 (k:=0) D_times_of Zk rfl (fun X C=>Ts T  C) rfl;have F_text_at:Fn P w K mg base "text_at" 7 2 U4:=O4 (k:=6) D_text_at cF rfl (fun X C=>Yb T F_as_of F_text_of C) rfl;have F_texts_of:Fn P w K mg base "texts_of" 8 1 N1:=O4 (k:=7) D_texts_of Zl rfl (fun X C=>Tt T F_text_at F_times_of C) rfl;have F_age_at:Fn P w K mg base "age_at" 6 2 Dw:=O4 (k:=5) D_age_at iA rfl (fun X C=>bF T F_shown_in C) rfl;have F_first_seen:Fn P w K mg base "first_seen" 8 2 K1:=O4 (k:=7) D_first_seen Tc rfl (fun X C=>Ny T F_text_at F_times_of C) rfl
 have F_lost:Fn P w K mg base "lost" 6 1 Gh:=O4 (k:=5) D_lost qV rfl (fun X C=>kB T F_shown_in F_undone_in C) rfl;have F_by_hand:Fn P w K mg base "by_hand" 2 2 Y9:=O4 (k:=1) D_by_hand cL rfl (fun X C=>Yh T F_undone_in C) rfl;have F__law_cell:Fn P w K mg base "_law_cell" 1 2 Ac:=O4 (k:=0) D__law_cell Wp rfl (fun X C=>Rz T  C) rfl;have F__law_drawn:Fn P w K mg base "_law_drawn" 2 3 B2:=O4 (k:=1) D__law_drawn Ti rfl (fun X C=>Oe T F__law_cell C) rfl;have F__law_names:Fn P w K mg base "_law_names" 3 2 U7:=O4 (k:=2) D__law_names Th rfl (fun X C=>Od T F__law_drawn C) rfl;have F__law_words:Fn P w K mg base "_law_words" 3 2 U5:=O4 (k:=2) D__law_words Tf rfl (fun X C=>Ob T F__law_drawn C) rfl
 have F__law_signs:Fn P w K mg base "_law_signs" 1 1 U6:=O4 (k:=0) D__law_signs Tg rfl (fun X C=>Oc T  C) rfl;have F__law_anchor:Fn P w K mg base "_law_anchor" 3 3 N2:=O4 (k:=2) D__law_anchor Qg rfl (fun X C=>Mp T F__law_drawn C) rfl;have F__law_deed:Fn P w K mg base "_law_deed" 4 5 N8:=O4 (k:=3) D__law_deed Wo rfl (fun X C=>Ry T F__law_anchor F__law_drawn F__law_signs F__law_words C) rfl;have F__law_book:Fn P w K mg base "_law_book" 5 4 Ae:=O4 (k:=4) D__law_book Wq rfl (fun X C=>Sa T F__law_deed F__law_drawn C) rfl;exact oJ (k:=8) F wL rfl (fun X C=>pI T F__law_book F__law_names F_age_at F_as_of F_authors_of F_by_hand F_first_seen F_is_book F_lost F_text_of F_texts_of C) rfl
end
end Sm
open PySem PySem.W PyProof.Rows
theorem Sm.walkD {l:PySem.W.OpenLaw} {q:j5} {loose:List Str} {XP:(Str->Option zV)->p9->Prop} {YP:l9->p9->Prop} {d:DefRec} {K:HV->zX} (hn:l.most=some 63) (hdf:d.params.defaults=[]) (hnm:d.name = "law")
   (hY:∀ (w:l9) (h:p9),YP w h->(K w.params).In h) (hK:∀ w:l9,Sm.noList (K w.params)=true)
   (F:∀ (w:l9) (mg:Str->Option zV) (h:p9),(K w.params).In h->h.Ns z0 mg->Sm.Txt mg/\Sm.Defs (K w.params) mg)
   (pure:∀ ns:List Int,ns.length<=63->Sm.fF [.list (ns.map p5)]=.ok (.bool true)) :
   PySem.W.WalkO q loose XP YP l.row.toRowW d [] (fun f vs=>PySem.call f vs):=by
 refine L2.qD (n:=63) (k:=9) (x := "_law_script") (CX:=fun _=>L2.CX0) (sp:=fun _=>Sm.spD 1 Sm.fF) hn (by decide) hdf ⟨rfl,by decide,by decide,rfl⟩ hY (fun w mg fa h KX G hmg=>?_) (fun w H a ns hl hO hS=>?_) fun _ _ _ _ _ z=>z
 . obtain ⟨T,D⟩:=F w mg h KX G
   obtain ⟨f0,fd0,F0,hm0,hb0⟩:=D.1.ex; rw [hnm,hm0] at hmg; cases hmg; refine ⟨fd0,fun s u=>?_,fun base kb nb=>?_⟩
   . obtain ⟨oc,od,kV,doc,pm,an,cdv,ct,osl,rfl,lk,hcd⟩:=F0.ex
     exact .of_eq rfl
   . exact Sm.yE F0 T D
 . rcases hS with hS | ⟨o,its,nn,hk,hc,_⟩
   . refine ⟨H,[.list (ns.map p5)],.bool true,L2.Same.refl _,Sm.RepL.cons ⟨a,_,rfl,hS,Sm.RepL.ints ns⟩ rfl,rfl,pure ns hl,fun v G' H' g r=>r⟩
   . exact absurd hc (Sm.noList.out (hK w) hk)
end
noncomputable section
open PySem
namespace Sm
open L2
noncomputable def Out.seq (o:Out) (g:Dn->Out):Out:=match o with
 | .nx δ=>g δ
 | o=>o
noncomputable def Out.fin (o:Out):Res zS:=match o with
 | .rt d=>.ok d
 | .nx _=>.ok .none
 | .exc c=>.exc c
 | _=>.no
noncomputable def vB (s:Option Sl):Res zS:=match s with
 | some (.sh d)=>.ok d
 | _=>.no
theorem B9 {α β:Type} (a:α) (k:α->Res β):(Res.ok a).bind k=k a:=rfl
theorem Kk {α:Type} (a:α):ofO (some a)=.ok a:=rfl
theorem D6 {α:Type} (a:α) (k:α->Out):M1 (.ok a) k=k a:=rfl
theorem Gu (g1 g2:Dn->Out) (δ:Dn):C5 g1 g2 δ=(g1 δ).seq g2:=by unfold C5 Out.seq; cases g1 δ <;> rfl
theorem cD (δ:Dn) (g:Dn->Out):(Out.nx δ).seq g=g δ:=rfl
theorem wK (d:zS) (g:Dn->Out):(Out.rt d).seq g=.rt d:=rfl
theorem Rb (N:List Str) (g:Dn->Out) (ds:List zS):fnD N g ds=(g (E9 N ds)).fin:=by unfold fnD Out.fin; cases g (E9 N ds) <;> rfl
theorem yV (d:zS):(Out.rt d).fin=.ok d:=rfl
theorem W9 (i:Nat) (δ:Dn):A1 i δ=vB δ[i]? := rfl
theorem S9 (d:zS):vB (some (.sh d))=.ok d:=rfl
theorem wP (c:Dn->Res Bool) (g1 g2:Dn->Out) (δ:Dn):sIf c g1 g2 δ=M1 (c δ) fun b=>if b=true then g1 δ else g2 δ:=rfl
theorem vT (f g:Dn->Res zS) (δ:Dn) (h:f δ=.ok (.bool true)):X0 f g δ=g δ:=by unfold X0; rw [h]; rfl
theorem gP (b:Bool):Oy (.bool b)=some b:=rfl
local macro_rules
 | `(tactic| simp_arith) => `(tactic| simp_arith [B9])
 | `(tactic| simp_arith [$ls,*]) => `(tactic| simp only [$ls,*, Rb, E9, Gu, cD, wK, yV, wP, C1, b2, b1, W9, S9, E8, I9, A7, A2, vC, B9, Kk, D6, E2, G6, E4, vFn, B6, Ag, X9, Ax, vSl, Cp, E5, gP,
 c7,y9,i0,p4,i4,p8,l3,m8,u7,MK,j0,j4,AC,AB,n8,reduceIte])
theorem E1 {src:Dn->Res (List zS)} {bnd:zS->Res (List Sl)} {cap:List Nat} {tt:Dn->Res Bool} {el:Dn->Res zS} {δ δc:Dn} {ds ys:List zS} (h:src δ=.ok ds) (hl:ds.length<=1000) (hc:Dl δ cap=δc) (e:C7 bnd δc tt el ds=.ok ys):D7 src bnd cap tt el δ=.ok ys:=by
 unfold D7;rw [h,B9,if_pos (i6 hl (by decide)),hc,e]
theorem B4 {f g:Dn->Res zS} {op:zS->zS->Option zS} {δ:Dn} {x y d:zS} (h1:f δ=.ok x) (h2:g δ=.ok y) (h3:op x y=some d):b2 f g op δ=.ok d:=by
 unfold b2;rw [h1,B9,h2,B9,h3]; rfl
theorem J2 {f:Dn->Res (List zS)} {δ:Dn} {ds:List zS} (h:f δ=.ok ds):E8 f δ=.ok (.list ds):=by unfold E8; rw [h]; rfl
theorem F8 {i:Nat} {f:Dn->Res zS} {δ:Dn} {d:zS} (h:f δ=.ok d):G6 i f δ=.nx (δ.set i (.sh d)):=by unfold G6; rw [h]; rfl
theorem W3 {c:Dn->Res Bool} {g1 g2:Dn->Out} {δ:Dn} (h:c δ=.ok true):sIf c g1 g2 δ=g1 δ:=by unfold sIf; rw [h]; rfl
theorem P2 {c:Dn->Res Bool} {g1 g2:Dn->Out} {δ:Dn} (h:c δ=.ok false):sIf c g1 g2 δ=g2 δ:=by unfold sIf; rw [h]; rfl
theorem C2 {g1 g2:Dn->Out} {δ δ':Dn} (h:g1 δ=.nx δ'):C5 g1 g2 δ=g2 δ':=by unfold C5; rw [h]
theorem Z4 {g1 g2:Dn->Out} {δ:Dn} {d:zS} (h:g1 δ=.rt d):C5 g1 g2 δ=.rt d:=by unfold C5; rw [h]
theorem D5 {f:Dn->Res zS} {δ:Dn} {d:zS} (h:f δ=.ok d):E2 f δ=.rt d:=by unfold E2; rw [h]; rfl
theorem K4 {N:List Str} {g:Dn->Out} {ds:List zS} {d:zS} (h:g (E9 N ds)=.rt d):fnD N g ds=.ok d:=by rw [Rb,h]; rfl
theorem A6 {f:Dn->Res zS} {fs:Dn->Res (List zS)} {δ:Dn} {d:zS} {ds:List zS} (h:f δ=.ok d) (h2:fs δ=.ok ds):A2 f fs δ=.ok (d::ds):=by unfold A2; rw [h,B9,h2]; rfl
theorem B5 {fs:Dn->Res (List zS)} {m:List zS->Res zS} {δ:Dn} {ds:List zS} {r:Res zS} (h:fs δ=.ok ds) (h2:m ds=r):B6 fs m δ=r:=by unfold B6; rw [h,B9,h2]
theorem T6 {f:Dn->Res (List zS)} {δ:Dn} {ds:List zS} (h:f δ=.ok ds):I9 f δ=.ok (.tuple ds):=by unfold I9; rw [h]; rfl
theorem W1 {f:Dn->Res (List zS)} {op:List zS->Option zS} {δ:Dn} {ds:List zS} {d:zS} (h:f δ=.ok ds) (h2:op ds=some d):vFn f op δ=.ok d:=by unfold vFn; rw [h,B9,h2]; rfl
theorem B8 {f:Dn->Res zS} {δ:Dn} {b:Bool} (h:f δ=.ok (.bool b)):C1 f δ=.ok b:=by unfold C1; rw [h]; rfl
abbrev scr (ns:List Int):zS:=.list (ns.map .int)
theorem sV {n j:Nat} (h:j < n):ixN n (j:Int)=some j:=by
 unfold ixN;rw [if_pos (by omega)];simp [h]
theorem K6 {α:Type} {xs:List α} {j:Nat} (h:j < xs.length):atI xs (j:Int)=some xs[j]:=by
 unfold atI;rw [sV h];simp
theorem On {α:Type} {xs:List α} {i:Int} (h0:0<=i) (h:i < xs.length):∃ x∈xs,atI xs i=some x:=by
 obtain ⟨j,rfl⟩:=Int.eq_ofNat_of_zero_le h0;have hj:j < xs.length:=by omega
 exact ⟨xs[j],CZ _,K6 hj⟩
theorem tM (ns:List Int):g9 (scr ns) (.list [])=ns.isEmpty:=by
 cases ns with
 | nil=>rfl
 | cons n ns=>rfl
theorem fU (ns:List Int):dEq (scr ns) (.list [])=some (.bool ns.isEmpty):=by
 unfold dEq;rw [if_pos (i6 (BU _ _) (by decide)),tM]
theorem aJ {a b:Int} (h:(-(2 ^ 64) < a/\a < 2 ^ 64)\/(-(2 ^ 64) < b/\b < 2 ^ 64)):P4 (.int a) (.int b)=some (.int (a*b)):=by
 show (if _ then _ else _)=_;rw [if_pos h]
theorem mul7 {b:Int}:P4 (.int 7) (.int b)=some (.int (7*b)):=aJ (.inl ⟨by decide,by decide⟩)
theorem sO {b:Int}:P4 (.int 6553) (.int b)=some (.int (6553*b)):=aJ (.inl ⟨by decide,by decide⟩)
theorem iS {b:Int}:P4 (.int 104723) (.int b)=some (.int (104723*b)):=aJ (.inl ⟨by decide,by decide⟩)
theorem nJ {b:Int}:P4 (.int b) (.int 69069)=some (.int (b*69069)):=aJ (.inr ⟨by decide,by decide⟩)
theorem mul2 {b:Int}:P4 (.int 2) (.int b)=some (.int (2*b)):=aJ (.inl ⟨by decide,by decide⟩)
theorem nK {b:Int}:P4 (.int 60) (.int b)=some (.int (60*b)):=aJ (.inl ⟨by decide,by decide⟩)
theorem nL {a b:Int} (h:0 < b):Tr (.int a) (.int b)=some (.int (a % b)):=by
 show (if _ then _ else _)=_;rw [if_pos h]
theorem tU {a b:Int} (h:0 < b) (h2:b < 1073741824):Ng (.int a) (.int b)=some (.int (a / b)):=by
 show (if _ then _ else _)=_;rw [if_pos ⟨h,h2⟩]
theorem W8 {a b:Int}:D3 (.int a) (.int b)=some (.int (a+b)):=rfl
theorem uJ (ns:List Int) (hns:ns.length<=63) (k:Int):∃ c,Ac [scr ns,.int k]=.ok (.int c):=by
 unfold Ac Dh Cy;cases hn:ns with
 | nil =>
   refine ⟨7*k,?_⟩;simp_arith [fU,List.isEmpty_nil,mul7]
 | cons n r =>
   have e1:=fU (n::r); have hl:(0:Int) < ((n::r).length:Int):=by simp
   have hl2:((n::r).length:Int)<=63:=by rw [<- hn]; omega
   obtain ⟨x,hx,e2⟩:=On (xs:=(n::r).map p5) (i:=k % ((n::r).length:Int)) (IC _ (by omega)) (by rw [zZ]; exact GQ _ hl);obtain ⟨c,_,rfl⟩:=j7.mp hx; refine ⟨c+6553*(k / ((n::r).length:Int)),?_⟩; have e3:K7 [scr (n::r)]=some (.int ((n::r).length:Int)):=by simp [K7,scr]
   have e4:dIx (scr (n::r)) (.int (k % ((n::r).length:Int)))=some (.int c):=e2;generalize hS:scr (n::r)=S at *;generalize hL:((n::r).length:Int)=m at *;simp_arith [e1,List.isEmpty_cons,e3,nL hl,tU hl (show m < 1073741824 by omega),sO,e4,W8]
theorem M0 (ns:List Int) (hns:ns.length<=63) (k m:Int) (hm:0 < m):∃ r,B2 [scr ns,.int k,.int m]=.ok (.int r)/\0<=r/\r < m:=by
 obtain ⟨c,hc⟩:=uJ ns hns k;unfold B2 Ch Bg;generalize scr ns=S at *;simp_arith [hc,nL (show (0:Int) < 2147483563 by decide),W8,nJ,iS];generalize hA:(c % 2147483563*69069+104723*(k+1)) % 2147483563=A;have a0:0<=A:=by rw [<- hA]; exact IC _ (by decide)
 have a1:A < 2147483563:=by rw [<- hA]; exact GQ _ (by decide)
 simp_arith [aJ (a:=A) (b:=A) (.inl ⟨Int.lt_of_lt_of_le (by decide) a0,Int.lt_trans a1 (by decide)⟩),tU (show (0:Int) < 3 by decide) (by decide),W8,nL (show (0:Int) < 2147483399 by decide)]
 generalize hB:(A*A+A / 3) % 2147483399=B;have b0:0<=B:=by rw [<- hB]; exact IC _ (by decide)
 have b1:B < 2147483399:=by rw [<- hB]; exact GQ _ (by decide)
 simp_arith [aJ (a:=B) (b:=B) (.inl ⟨Int.lt_of_lt_of_le (by decide) b0,Int.lt_trans b1 (by decide)⟩),tU (show (0:Int) < 7 by decide) (by decide),W8,nL (show (0:Int) < 2147483647 by decide),tU (show (0:Int) < 11 by decide) (by decide),nL hm]
 exact ⟨_,rfl,IC _ (by omega),GQ _ hm⟩
theorem nT {x:Str} {i:Int} (h0:0<=i) (h:i < (x.cps.toList.length:Int)):∃ c∈x.cps.toList,dIx (.str x) (.int i)=some (.str ⟨#[c]⟩):=by
 obtain ⟨c,hc,e⟩:=On (xs:=x.cps.toList) h0 h;exact ⟨c,hc,by show (atI x.cps.toList i).map _=_; rw [e]; rfl⟩
theorem jB (c:Nat):(⟨#[c]⟩:Str).length=1:=rfl
theorem Jk:(1000:Nat)<=sizeLine:=by decide
theorem zL {x y:Str} (h:x.length+y.length<=1000):D3 (.str x) (.str y)=some (.str (x++y)):=by
 show (if _ then _ else _)=_;rw [if_pos (i6 h Jk)]
theorem kH {x y:List zS} (h:x.length+y.length<=1000):D3 (.list x) (.list y)=some (.list (x++y)):=by
 show (if _ then _ else _)=_;rw [if_pos (i6 h Jk)]
theorem addT {x y:List zS} (h:x.length+y.length<=1000):D3 (.tuple x) (.tuple y)=some (.tuple (x++y)):=by
 show (if _ then _ else _)=_;rw [if_pos (i6 h Jk)]
theorem L6 (x y:Str):(x++y).length=x.length+y.length:=by
 show (x.cps++y.cps).size=_;rw [Array.size_append]; rfl
def chOk (lo hi:Nat) (x:Str):Prop:=∀ c∈x.cps.toList,lo<=c/\c<=hi
theorem chOk.app {lo hi:Nat} {x y:Str} (hx:chOk lo hi x) (hy:chOk lo hi y):chOk lo hi (x++y):=fun c hc=>by
 have:c∈(x.cps++y.cps).toList:=hc;rw [CT] at this;exact (i7.mp this).elim (hx c) (hy c)
theorem chOk.one {lo hi c:Nat} (h:lo<=c/\c<=hi):chOk lo hi ⟨#[c]⟩:=fun d hd=>by
 have:d=c:=by simpa using hd
 rw [this]; exact h
theorem chOk.nil {lo hi:Nat}:chOk lo hi "" := fun c hc=>by
 rw [show ("" : Str).cps.toList=[] from rfl] at hc; exact nomatch hc
theorem mulS {c:Nat} {n:Int} (h0:0<=n) (h:n < 2):∃ y:Str,P4 (.str ⟨#[c]⟩) (.int n)=some (.str y)/\y.length<=1/\∀ d∈y.cps.toList,d=c:=by
 have:n=0\/n=1:=by omega
 rcases this with rfl | rfl
 . refine ⟨L5 0 ⟨#[c]⟩,rfl,(show (0:Nat)<=1 by decide),fun d hd=>?_⟩
   simp [L5] at hd
 . refine ⟨L5 1 ⟨#[c]⟩,rfl,by unfold L5; simp; exact f8 _,fun d hd=>?_⟩
   simpa [L5] using hd
def Dk (x:Str):Prop:=1<=x.length/\x.length<=6/\chOk 97 122 x
def Yl (x:Str):Prop:=1<=x.length/\x.length<=4/\chOk 32 126 x
theorem ixL {xs:List zS} {i:Int} (h0:0<=i) (h:i < (xs.length:Int)):∃ x∈xs,dIx (.list xs) (.int i)=some x:=On h0 h
theorem Ih (ns:List Int) (hns:ns.length<=63) (a k:Int) (hk:0<=k) (hk2:k < 3) (fd:List zS) (hf:fd.length < 1000) (s4:Sl):∃ z w:Str,Dk z /\
   (C5 (G6 4 (b2 (b2 (vC (.str "abcdefghijklmnopqrstuvwxyz")) (B6 (A2 (A1 0) (A2 (b2 (A1 1) (b2 (vC (.int 2)) (A1 3) P4) D3) (A2 (vC (.int 26)) A7))) B2) dIx) (B6 (A2 (A1 0) (A2 (b2 (b2 (A1 1) (b2 (vC (.int 2)) (A1 3) P4) D3) (vC (.int 1)) D3) (A2 (vC (.int 2)) A7))) B2) P4)) (Cn 2 (b2 (E8 (A2 (b2 (A1 4) (b2 (vC (.str "xyz")) (A1 3) dIx) D3) (A2 (b2 (b2 (vC (.str "xyz")) (A1 3) dIx) (A1 4) D3) A7))) (B6 (A2 (A1 0) (A2 (b2 (A1 1) (vC (.int 6)) D3) (A2 (vC (.int 2)) A7))) B2) dIx)))
     [.sh (scr ns),.sh (.int a),.ow (.list fd),.sh (.int k),s4]=.nx [.sh (scr ns),.sh (.int a),.ow (.list (fd++[.str z])),.sh (.int k),.sh (.str w)]:=by
 obtain ⟨r1,e1,a1,b1⟩:=M0 ns hns (a+2*k) 26 (by decide);obtain ⟨r2,e2,a2,b2'⟩:=M0 ns hns (a+2*k+1) 2 (by decide);obtain ⟨r3,e3,a3,b3⟩:=M0 ns hns (a+6) 2 (by decide);obtain ⟨c1,hc1,f1⟩:=nT (x := "abcdefghijklmnopqrstuvwxyz") a1 (by rw [show ("abcdefghijklmnopqrstuvwxyz" : Str).cps.toList.length=26 from by decide]; exact b1);obtain ⟨y,f2,l2,hy⟩:=mulS (c:=c1) a2 b2';obtain ⟨c2,hc2,f3⟩:=nT (x := "xyz") hk (by rw [show ("xyz" : Str).cps.toList.length=3 from by decide]; exact hk2);have g1:D3 (.str y) (.str ⟨#[c2]⟩)=_:=zL (x:=y) (y:=⟨#[c2]⟩) (by rw [jB]; omega);have g2:D3 (.str ⟨#[c2]⟩) (.str y)=_:=zL (x:=⟨#[c2]⟩) (y:=y) (by rw [jB]; omega)
 obtain ⟨x,hx,f4⟩:=ixL (xs:=[.str (y++⟨#[c2]⟩),.str (⟨#[c2]⟩++y)]) a3 b3;have o1:chOk 97 122 y:=fun d hd=>by
   rw [hy d hd]; exact (by decide:∀ c∈("abcdefghijklmnopqrstuvwxyz" : Str).cps.toList,97<=c/\c<=122) c1 hc1
 have o2:chOk 97 122 ⟨#[c2]⟩:=.one ((by decide:∀ c∈("xyz" : Str).cps.toList,97<=c/\c<=122) c2 hc2);have:∃ z,x=.str z/\Dk z:=by
   rcases a9.mp hx with h | h
   . exact ⟨_,h,by rw [L6,jB]; omega,by rw [L6,jB]; omega,o1.app o2⟩
   . exact ⟨_,c8.mp h,by rw [L6,jB]; omega,by rw [L6,jB]; omega,o2.app o1⟩
 obtain ⟨z,rfl,hz⟩:=this;refine ⟨z,y,hz,?_⟩;have szB:fd.length < sizeLine:=m3 hf Jk;simp_arith [mul2,W8,e1,e2,e3,f1,f2,f3,g1,g2,f4,Cn,szB]
theorem nG (ns:List Int) (hns:ns.length<=63) (a:Int):∃ x y z:Str,(Dk x/\Dk y/\Dk z)/\U7 [scr ns,.int a]=.ok (.list [.str x,.str y,.str z]):=by
 obtain ⟨x,w1,hx,e1⟩:=Ih ns hns a 0 (by decide) (by decide) [] (by simp) .un;obtain ⟨y,w2,hy,e2⟩:=Ih ns hns a 1 (by decide) (by decide) [.str x] (by simp) (.sh (.str w1));obtain ⟨z,w3,hz,e3⟩:=Ih ns hns a 2 (by decide) (by decide) [.str x,.str y] (by simp) (.sh (.str w2));refine ⟨x,y,z,⟨hx,hy,hz⟩,?_⟩;unfold U7 Cg Ap Ao An O9;have r:Dj [.int 3]=.ok [.int 0,.int 1,.int 2]:=rfl;simp only [Rb,E9,Gu (Nt _ _),Nt,A7,D6,cD,c7,y9,i0,p4,i4,p8,l3,j0,j4,Gu (O3 _ _ _),O3,A2,vC,B9,r,F9,st1,AC,AB]
 rw [e1];simp only [l3,j0,j4];rw [e2];simp only [p8,l3,j0,j4];rw [e3];rfl
theorem Rq {bnd:zS->Res (List Sl)} {δc:Dn} {el:Dn->Res zS} {P:zS->Prop}:∀ (ds:List zS),(∀ d∈ds,∃ sl y,bnd d=.ok sl/\el (sl++δc)=.ok y/\P y)->∃ ys:List zS,C7 bnd δc E5 el ds=.ok ys/\ys.length=ds.length/\∀ y∈ys,P y
 | [],_=>⟨[],rfl,rfl,fun _ h=>nomatch h⟩
 | d::ds,h=>by
   obtain ⟨sl,y,e1,e2,p⟩:=h d (.head _); obtain ⟨ys,e3,e4,e5⟩:=Rq ds fun d' h'=>h d' (.tail _ h');refine ⟨y::ys,?_,by simp [e4],fun z hz=>?_⟩
   . unfold C7
     rw [e1]; simp only [E5,e2,e3]
   . rcases a9.mp hz with rfl | hz
     . exact p
     . exact e5 z hz
theorem eL {P:Str->Prop}:∀ (ys:List zS),(∀ y∈ys,∃ x,y=.str x/\P x)->∃ xs:List Str,De ys=some xs/\xs.length=ys.length/\∀ x∈xs,P x
 | [],_=>⟨[],rfl,rfl,fun _ h=>nomatch h⟩
 | y::ys,h=>by
   obtain ⟨x,rfl,p⟩:=h y (.head _); obtain ⟨xs,e1,e2,e3⟩:=eL ys fun d' h'=>h d' (.tail _ h');exact ⟨x::xs,by show (De ys).map _=_; rw [e1]; rfl,by simp [e2],fun z hz=>by
     rcases a9.mp hz with rfl | hz
     . exact p
     . exact e3 z hz⟩
theorem Bj:∀ (xs:List Str),(∀ x∈xs,x.length=1/\l7 x=true/\chOk 32 126 x)->(AG "" xs).length=xs.length/\l7 (AG "" xs)=true/\chOk 32 126 (AG "" xs)
 | [],_=>⟨rfl,by decide +kernel,chOk.nil⟩
 | [x],h=>⟨(h x (.head _)).1,(h x (.head _)).2.1,(h x (.head _)).2.2⟩
 | x::y::r,h=>by
   obtain ⟨l,o,q⟩:=Bj (y::r) fun z hz=>h z (.tail _ hz);obtain ⟨l1,o1,q1⟩:=h x (.head _); show (x ++ "" ++ AG "" (y::r)).length=_/\l7 (x ++ "" ++ AG "" (y::r))=true/\chOk 32 126 (x ++ "" ++ AG "" (y::r));refine ⟨?_,Em (Em o1 (by decide +kernel)) o,(q1.app chOk.nil).app q⟩;rw [L6,L6]; have:(("" : Str)).length=0:=rfl; simp only [i0] at l ⊢;omega
theorem Pb:∀ (xs:List Str),(∀ x∈xs,x.length=1/\l7 x=true/\chOk 32 126 x)->(xs.map (·.length)).sum=xs.length
 | [],_=>rfl
 | x::r,h=>by
   simp only [c7,EQ,i0,(h x (.head _)).1,Pb r fun z hz=>h z (.tail _ hz)];omega
theorem mB {n:Int} (h0:0<=n) (h:n < 1000):Dj [.int n]=.ok (Ab 0 n):=by
 show (if _ then _ else _)=_;rw [if_pos (by omega)]
theorem Gs {fs:Dn->Res (List zS)} {δ:Dn} {n:Int} (h:fs δ=.ok [.int n]) (h0:0<=n) (h1:n < 1000):(fun δ=>(fs δ).bind Dj) δ=.ok (Ab 0 n):=by
 show (fs δ).bind Dj=_;rw [h,B9,mB h0 h1]
theorem D8 {f:Dn->Res zS} {δ:Dn} {d:zS} {ds:List zS} (h:f δ=.ok d) (h2:D2 d=.ok ds):(fun δ=>(f δ).bind D2) δ=.ok ds:=by
 show (f δ).bind D2=_;rw [h,B9,h2]
theorem kI (ns:List Int) (hns:ns.length<=63) (a:Int):∃ x:Str,U5 [scr ns,.int a]=.ok (.str x)/\Yl x:=by
 obtain ⟨r1,e1,a1,b1⟩:=M0 ns hns (a+4) 4 (by decide);unfold U5 Ce Be;have hr:Dj [.int (1+r1)]=.ok (Ab 0 (1+r1)):=mB (by omega) (by omega);have hlen:(Ab 0 (1+r1)).length<=4/\1<=(Ab 0 (1+r1)).length:=by unfold Ab; simp; omega
 have hall:∀ d∈Ab 0 (1+r1),∃ sl y,C6 d=.ok sl/\(b2 (vC (.str "ab cd~ <")) (B6 (A2 (A1 1) (A2 (b2 (A1 2) (A1 0) D3) (A2 (vC (.int 8)) A7))) B2) dIx) (sl++[.sh (scr ns),.sh (.int a)])=.ok y/\∃ x:Str,y=.str x/\x.length=1/\l7 x=true/\chOk 32 126 x:=fun d hd=>by
   unfold Ab at hd; obtain ⟨i,hi,rfl⟩:=j7.mp hd; have hi':i < 4:=by have:=q9.mp hi; omega
   obtain ⟨r2,e2,a2,b2'⟩:=M0 ns hns (a+(0+(i:Int))) 8 (by decide);obtain ⟨c,hc,f⟩:=nT (x := "ab cd~ <") a2 (by have:("ab cd~ <" : Str).cps.toList.length=8:=(by decide); rw [this]; exact b2');refine ⟨[.sh (.int (0+(i:Int)))],.str ⟨#[c]⟩,rfl,?_,⟨#[c]⟩,rfl,rfl,?_,.one ((by decide:∀ c∈("ab cd~ <" : Str).cps.toList,32<=c/\c<=126) c hc)⟩
   . simp_arith [W8,e2,f]
   . have:∀ c∈("ab cd~ <" : Str).cps.toList,c < 0x110000:=by decide
     unfold l7; simp [this c hc]
 obtain ⟨ys,g1,g2,g3⟩:=Rq (Ab 0 (1+r1)) hall;obtain ⟨xs,g4,g5,g6⟩:=eL ys g3;obtain ⟨l1,o1,q1⟩:=Bj xs g6;have s1:=Pb xs g6;refine ⟨AG "" xs,?_,by omega,by omega,q1⟩;have hj:Rn "" (.list ys)=some (.str (AG "" xs)):=by
   show (De ys).bind _=_;rw [g4]; show (if _ then _ else _)=_;have:(("" : Str)).length=0:=rfl; rw [if_pos ⟨by rw [s1,this]; omega,o1,i6 (show _<=1000 by omega) Jk⟩]
 have hz:(Ab 0 (1+r1)).length<=sizeLine:=i6 (show _<=1000 by omega) Jk;simp_arith [W8,e1,hr,D7,hz,Dl,Option.getD_some,g1,hj]
abbrev idD (t:Int) (h:Str):zS:=.tuple [.int t,.str h]
abbrev IdP:=Int×Str
abbrev idP (p:IdP):zS:=idD p.1 p.2
abbrev sgD (p:IdP) (n:Int):zS:=.tuple [idP p,.int n]
noncomputable def hj (h:Str):Nat:=if h = "a" then 0 else if h = "b" then 1 else 2
noncomputable def key (p:IdP):Int:=3*p.1+hj p.2
def okH (h:Str):Prop:=h = "a" \/ h = "b" \/ h = "c"
def okI (p:IdP):Prop:=1<=p.1/\p.1<=10/\okH p.2
theorem Qy (h:Str):hj h<=2:=by unfold hj; split <;> (try split) <;> omega
def SgOf (T:Int) (ds:List zS) (x:zS):Prop:=∃ (p:IdP) (b:zS) (w:Str) (n:Nat),AD [.str "add",idP p,b,.str w]∈ds/\x=sgD p n/\n < w.length/\p.1 < T/\okI p
theorem SgOf.mono {T:Int} {ds ds':List zS} {x:zS} (h:SgOf T ds x) (k:∀ d∈ds,d∈ds'):SgOf T ds' x:=by
 obtain ⟨p,b,w,n,e,r⟩:=h; exact ⟨p,b,w,n,k _ e,r⟩
def sgR (a b:zS):Prop:=∃ (p q:IdP) (n m:Int),a=sgD p n/\b=sgD q m/\okH p.2/\okH q.2/\(key p < key q\/(p=q/\n < m))
def OrN (S:zS->Prop) (d:zS):Prop:=d=.none\/S d
def nO (x:Str):Prop:=x = "l" \/ x = "r"
def Wf (p:IdP) (S:zS->Prop) (U:IdP->Prop) (d:zS):Prop:=okI p /\
 ((∃ b w,d=.tuple [.str "add",idP p,b,.str w]/\OrN S b/\Yl w) \/
  (∃ sg,d=.tuple [.str "drop",idP p,.tuple sg]/\(∀ x∈sg,S x)/\sg.length<=40/\sg≠[]/\sg.Pairwise sgR) \/
  (∃ n s1 x1 s2 x2,d=.tuple [.str "mark",idP p,.str n,.tuple [s1,.str x1],.tuple [s2,.str x2]]/\OrN S s1/\OrN S s2/\Dk n/\nO x1/\nO x2) \/
  (∃ n,d=.tuple [.str "unmark",idP p,.str n]/\Dk n) \/
  (∃ q,d=.tuple [.str "undo",idP p,idP q]/\U q))
theorem OrN.mono {S S':zS->Prop} {d:zS} (h:OrN S d) (k:∀ x,S x->S' x):OrN S' d:=h.elim .inl fun z=>.inr (k _ z)
theorem Wf.mono {p:IdP} {S S':zS->Prop} {U U':IdP->Prop} {d:zS} (h:Wf p S U d) (k2:∀ x,S x->S' x) (k3:∀ q,U q->U' q):Wf p S' U' d:=by
 obtain ⟨o,r⟩:=h;refine ⟨o,?_⟩;rcases r with ⟨b,w,e,hb,hw⟩ | ⟨sg,e,hs,hl⟩ | ⟨n,s1,x1,s2,x2,e,h1,h2,h3⟩ | ⟨n,e⟩ | ⟨i,e,hi⟩
 . exact .inl ⟨b,w,e,hb.mono k2,hw⟩
 . exact .inr (.inl ⟨sg,e,fun x hx=>k2 x (hs x hx),hl⟩)
 . exact .inr (.inr (.inl ⟨n,s1,x1,s2,x2,e,h1.mono k2,h2.mono k2,h3⟩))
 . exact .inr (.inr (.inr (.inl ⟨n,e⟩)))
 . exact .inr (.inr (.inr (.inr ⟨i,e,k3 _ hi⟩)))
theorem Fl (x y:Str):dEq (.str x) (.str y)=some (.bool (x==y)):=by
 unfold dEq;rw [if_pos (i6 (IA _ _) (by simp [x4]))];rfl
theorem pU:(("add" : Str)==("add" : Str))=true:=by decide +kernel
noncomputable def Vh:Dn->Out:=(sIf (C1 (b2 (b2 (A1 2) (vC (.int 0)) dIx) (vC (.str "add")) dEq)) (G6 1 (b2 (A1 1) (E8 (D7 (fun δ=>((A2 (vFn (A2 (b2 (A1 2) (vC (.int 3)) dIx) A7) K7) A7) δ).bind Dj) C6 [2] E5 (I9 (A2 (b2 (A1 1) (vC (.int 1)) dIx) (A2 (A1 0) A7))))) D3)) E4)
theorem Ku {α:Type} {δc:Dn} {el:Dn->Res zS} (g f:α->zS) (h:∀ y:α,el ([.sh (g y)]++δc)=.ok (f y)):∀ ys:List α,C7 C6 δc E5 el (ys.map g)=.ok (ys.map f)
 | []=>rfl
 | y::ys=>by
   rw [c7,c7]; unfold C7; simp only [C6,E5,h y,Ku g f h ys]
theorem cC {p:IdP} {S:zS->Prop} {U:IdP->Prop} {T:Int} {d:zS} (hd:Wf p S U d) (hT:p.1 < T) (B:zS) (fd:List zS) (hf:fd.length<=100):∃ more:List zS,more.length<=4/\(∀ x∈more,SgOf T [d] x)/\(∀ x∈more,∃ n,x=sgD p n)/\more.Pairwise sgR /\
   Vh [.sh B,.sh (.list fd),.sh d]=.nx [.sh B,.sh (.list (fd++more)),.sh d]:=by
 obtain ⟨o,r⟩:=hd;have ix0:∀ (x:zS) (xs:List zS),dIx (.tuple (x::xs)) (.int 0)=some x:=fun x xs=>K6 (xs:=x::xs) (j:=0) (by simp);have ix1:∀ (x y:zS) (xs:List zS),dIx (.tuple (x::y::xs)) (.int 1)=some y:=fun x y xs=>K6 (xs:=x::y::xs) (j:=1) (by simp);have ix3:∀ (x y z u:zS),dIx (.tuple [x,y,z,u]) (.int 3)=some u:=fun x y z u=>K6 (xs:=[x,y,z,u]) (j:=3) (by simp);have no:∀ d,(C1 (b2 (b2 (A1 2) (vC (.int 0)) dIx) (vC (.str "add")) dEq)) [.sh B,.sh (.list fd),.sh d]=.ok false->∃ more:List zS,more.length<=4/\(∀ x∈more,SgOf T [d] x)/\(∀ x∈more,∃ n,x=sgD p n)/\more.Pairwise sgR/\Vh [.sh B,.sh (.list fd),.sh d]=.nx [.sh B,.sh (.list (fd++more)),.sh d]:=fun d e=>by
   refine ⟨[],by simp,(fun _ h=>nomatch h),(fun _ h=>nomatch h),.nil,?_⟩;unfold Vh; rw [P2 e,m8]; rfl
 rcases r with ⟨b,w,rfl,hb,hw⟩ | ⟨sg,rfl,_⟩ | ⟨n,s1,x1,s2,x2,rfl,_⟩ | ⟨n,rfl,_⟩ | ⟨i,rfl,_⟩
 . have er:Ab 0 (w.length:Int)=(o9 w.length).map fun i:Nat=>p5 (0+(i:Int)):=by unfold Ab; simp
   have g1:=Ku (δc:=[.sh (.tuple [.str "add",idP p,b,.str w])]) (el:=I9 (A2 (b2 (A1 1) (vC (.int 1)) dIx) (A2 (A1 0) A7))) (fun i:Nat=>p5 (0+(i:Int))) (fun i=>sgD p (0+(i:Int))) (fun i=>by simp_arith [ix1]) (o9 w.length);have hl:=hw.2.1; refine ⟨(o9 w.length).map fun i:Nat=>sgD p (0+(i:Int)),by simp; exact hl,fun x hx=>?_,fun x hx=>?_,?_,?_⟩
   . obtain ⟨i,hi,rfl⟩:=j7.mp hx
     exact ⟨p,b,w,i,.head _,by rw [HY],q9.mp hi,hT,o⟩
   . obtain ⟨i,hi,rfl⟩:=j7.mp hx
     exact ⟨_,rfl⟩
   . rw [GW]
     exact (HS).imp fun {a b} h=>⟨p,p,_,_,rfl,rfl,o.2.2,o.2.2,.inr ⟨rfl,by omega⟩⟩
   . have ha:D3 (.list fd) (.list ((o9 w.length).map fun i:Nat=>sgD p (0+(i:Int))))=_:=kH (by simp; omega)
     have e1:K7 [.str w]=some (.int (w.length:Int)):=rfl; unfold Vh; rw [W3 (by simp_arith [ix0,Fl,pU])];refine F8 (B4 rfl (J2 (E1 (ds:=Ab 0 (w.length:Int)) (Gs (by simp_arith [ix3,e1]) (by omega) (by omega)) (by rw [er]; simp; omega) rfl (by rw [er]; exact g1))) ha)
 . exact no _ (by simp_arith [ix0,Fl,show (("drop" : Str)==("add" : Str))=false from by decide +kernel])
 . exact no _ (by simp_arith [ix0,Fl,show (("mark" : Str)==("add" : Str))=false from by decide +kernel])
 . exact no _ (by simp_arith [ix0,Fl,show (("unmark" : Str)==("add" : Str))=false from by decide +kernel])
 . exact no _ (by simp_arith [ix0,Fl,show (("undo" : Str)==("add" : Str))=false from by decide +kernel])
abbrev Dp:=zS×IdP
theorem Pz {S:IdP->zS->Prop} {U:IdP->IdP->Prop} {T:Int} (D:List zS) (B:zS):∀ (ds:List Dp),(∀ e∈ds,Wf e.2 (S e.2) (U e.2) e.1/\e.1∈D/\e.2.1 < T)->ds.Pairwise (fun a b=>key a.2 < key b.2)->∀ (fd:List zS) (s2:Sl),fd.length+4*ds.length<=100->(∀ x∈fd,SgOf T D x) ->
   fd.Pairwise sgR->(∀ x∈fd,∃ q n,x=sgD q n/\okH q.2/\∀ e∈ds,key q < key e.2)->∃ (out:List zS) (s2':Sl),out.length<=fd.length+4*ds.length/\(∀ x∈out,SgOf T D x)/\out.Pairwise sgR /\
   F9 (st1 2) Vh (ds.map (·.1)) [.sh B,.sh (.list fd),s2]=.nx [.sh B,.sh (.list out),s2']
 | [],_,_,fd,s2,_,hs,hp,_=>⟨fd,s2,by omega,hs,hp,rfl⟩
 | e::ds,hd,up,fd,s2,hl,hs,hp,hq=>by
   obtain ⟨w,m,ht⟩:=hd e (.head _); obtain ⟨more,l1,s1,i1,p1,e1⟩:=cC w ht B fd (by simp at hl; omega);have up':=n0.mp up; obtain ⟨out,s2',l2,s3,p3,e2⟩:=Pz D B ds (fun d' h'=>hd d' (.tail _ h')) up'.2 (fd++more) (.sh e.1) (by simp at hl ⊢; omega)
     (fun x hx=>(i7.mp hx).elim (hs x) fun z=>(s1 x z).mono fun q hq=>by rw [c8.mp hq]; exact m)
     (BW.mpr ⟨hp,p1,fun a ha b hb=>by
       obtain ⟨q,n,rfl,o,k⟩:=hq a ha; obtain ⟨n',rfl⟩:=i1 b hb; exact ⟨q,e.2,n,n',rfl,rfl,o,w.1.2.2,.inl (k e (.head _))⟩⟩)
     (fun x hx=>(i7.mp hx).elim (fun z=>by
       obtain ⟨q,n,h1,h2,h3⟩:=hq x z; exact ⟨q,n,h1,h2,fun e' he'=>h3 e' (.tail _ he')⟩) fun z=>by
       obtain ⟨n',rfl⟩:=i1 x z; exact ⟨e.2,n',rfl,w.1.2.2,fun e' he'=>up'.1 e' he'⟩)
   refine ⟨out,s2',by simp at l2 ⊢; omega,s3,p3,?_⟩;rw [c7]; unfold F9; simp only [st1,j0,j4]; rw [e1]; exact e2
theorem lK {S:IdP->zS->Prop} {U:IdP->IdP->Prop} {T:Int} (ds:List Dp) (hd:∀ e∈ds,Wf e.2 (S e.2) (U e.2) e.1/\e.2.1 < T) (up:ds.Pairwise (fun a b=>key a.2 < key b.2)) (hl:ds.length<=9) :
   ∃ out:List zS,U6 [.tuple (ds.map (·.1))]=.ok (.list out)/\out.length<=36/\(∀ x∈out,SgOf T (ds.map (·.1)) x)/\out.Pairwise sgR:=by
 obtain ⟨out,s2',l2,s3,p3,e2⟩:=Pz (ds.map (·.1)) (.tuple (ds.map (·.1))) ds (fun e h=>⟨(hd e h).1,y4 h,(hd e h).2⟩) up [] .un (by simp; omega) (fun _ h=>nomatch h) .nil (fun _ h=>nomatch h);refine ⟨out,?_,by simp at l2; omega,s3,p3⟩;unfold U6 Cf Bf;simp only [Rb,E9,Gu (G6 _ _),G6,E8,A7,D6,B9,cD,c7,y9,i0,p4,i4,p8,l3,j0,j4,Gu (O3 _ _ _),O3,W9,S9,D2,u7,AC,AB];unfold Vh at e2;rw [e2];simp_arith
theorem C9 {c:Dn->Res Bool} {g1 g2:Dn->Out} {δ:Dn} (h:c δ=.ok false):C5 (sIf c g1 E4) g2 δ=g2 δ:=C2 (P2 h)
theorem mulL {xs:List zS} {n:Int} (h : -(2 ^ 63)<=n/\n < 2 ^ 63/\xs.length*n.toNat<=sizeLine):P4 (.list xs) (.int n)=some (.list (i4 n.toNat xs).flatten):=by
 show (if _ then _ else _)=_;rw [if_pos h]
theorem dNeL (xs:List zS):dNe (.list xs) (.list [])=some (.bool (!xs.isEmpty)):=by
 unfold dNe;rw [if_pos (i6 (BU _ _) (by decide))];cases xs <;> rfl
theorem dEqL (xs:List zS):dEq (.list xs) (.list [])=some (.bool xs.isEmpty):=by
 unfold dEq;rw [if_pos (i6 (BU _ _) (by decide))];cases xs <;> rfl
theorem uF (xs:List zS):dNe (.tuple xs) (.tuple [])=some (.bool (!xs.isEmpty)):=by
 unfold dNe;rw [if_pos (i6 (BU _ _) (by decide))];cases xs <;> rfl
theorem ltI (a b:Int):D9 .Lt (.int a) (.int b)=some (.bool (decide (a < b))):=by
 unfold D9;rw [if_pos (by simp [x4])];rfl
theorem pB (a b:Int):dEq (.int a) (.int b)=some (.bool (a==b)):=by
 unfold dEq;rw [if_pos (i6 (IA _ _) (by simp [x4]))];rfl
theorem Xn (t:Int) (h:Str):(idD t h).depth<=2:=by simp [idD,x4,w5]
theorem yD (xs:List zS):K7 [.list xs]=some (.int (xs.length:Int)):=rfl
theorem lenT (xs:List zS):K7 [.tuple xs]=some (.int (xs.length:Int)):=rfl
theorem Vn (ns:List Int) (hns:ns.length<=63) (a:Int) (S:zS->Prop) (sg:List zS) (hs:∀ x∈sg,S x) (hl:sg.length<=36):∃ s x,N2 [scr ns,.int a,.list sg]=.ok (.tuple [s,.str x])/\OrN S s/\nO x:=by
 obtain ⟨r1,e1,a1,b1⟩:=M0 ns hns a ((sg.length:Int)+1) (by omega);obtain ⟨r2,e2,a2,b2'⟩:=M0 ns hns (a+1) 2 (by decide);obtain ⟨c,hc,f2⟩:=nT (x := "lr") a2 (by rw [show ("lr" : Str).cps.toList.length=2 from by decide]; exact b2');have g:=kH (x:=[.none]) (y:=sg) (by simp; omega);obtain ⟨s,hs',f1⟩:=ixL (xs:=[.none]++sg) a1 (by simp; omega);refine ⟨s,⟨#[c]⟩,?_,?_,?_⟩
 . unfold N2 Au Z9
   generalize [PyData.none]++sg=L at *;simp_arith [g,yD,W8,e1,f1,e2,f2]
 . rcases i7.mp hs' with h | h
   . exact .inl (c8.mp h)
   . exact .inr (hs s h)
 . have h':c∈[108,114]:=by rw [show ("lr" : Str).cps.toList=[108,114] from by decide] at hc; exact hc
   simp only [a9,HI,or_false] at h'; rcases h' with rfl | rfl
   . exact .inl (by decide)
   . exact .inr (by decide)
theorem Vb {δc:Dn} {tt:Dn->Res Bool}:∀ (zs:List (zS×zS)),(∀ z∈zs,∃ b,tt ([.sh z.1,.sh z.2]++δc)=.ok b)->∃ ys:List zS,C7 Ay δc tt (A1 1) (zs.map fun z=>.tuple [z.1,z.2])=.ok ys/\ys.Sublist (zs.map (·.2))
 | [],_=>⟨[],rfl,.slnil⟩
 | z::zs,h=>by
   obtain ⟨b,e⟩:=h z (.head _); obtain ⟨ys,e1,e2⟩:=Vb zs fun z' hz=>h z' (.tail _ hz);rw [c7,c7];cases b with
   | true =>
     refine ⟨z.2::ys,?_,e2.cons_cons _⟩; unfold C7; rw [show Ay (.tuple [z.1,z.2])=.ok [.sh z.1,.sh z.2] from rfl];simp only [e,e1]; rfl
   | false =>
     refine ⟨ys,?_,e2.cons _⟩; unfold C7; rw [show Ay (.tuple [z.1,z.2])=.ok [.sh z.1,.sh z.2] from rfl];simp only [e,e1]
theorem tP (xs:List zS):Hr xs=(xs.mapIdx fun i d=>(p5 i,d)).map fun z=>AD [z.1,z.2]:=by
 unfold Hr;apply FI;intro i;simp [Function.comp_def]
theorem oQ (xs:List zS):(xs.mapIdx fun i d=>(p5 i,d)).map (·.2)=xs:=by
 apply FI;intro i;simp only [j8,NV,Option.map_map];cases xs[i]? <;> rfl
theorem kT {xs:List zS} {x:zS} (h:x∈Fo xs (some (-3)) none):x∈xs:=by
 unfold Fo at h;exact NT (List.mem_of_mem_take h)
theorem uH (xs:List zS) (lo hi:Option Int):(Fo xs lo hi).length<=xs.length:=by
 unfold Fo;rw [HJ,KJ]; exact i6 (BU _ _) (Nat.sub_le _ _)
theorem Xk {o:Out} {d:zS} (h:o=.rt d):o.fin=.ok d:=by rw [h]; rfl
theorem iY {a b:Int} (h:a < b):D9 .Lt (.int a) (.int b)=some (.bool true):=by rw [ltI,decide_eq_true h]
theorem iZ {a b:Int} (h:¬ a < b):D9 .Lt (.int a) (.int b)=some (.bool false):=by rw [ltI,decide_eq_false h]
theorem Kw {f g:Dn->Res Bool} {δ:Dn} (h1:f δ=.ok true) (h2:g δ=.ok true):Ag f g δ=.ok true:=by unfold Ag; rw [h1,B9,if_pos rfl,h2]
theorem Rt {f g:Dn->Res Bool} {δ:Dn} (h1:f δ=.ok false):Ag f g δ=.ok false:=by unfold Ag; rw [h1,B9,if_neg (by decide)]
theorem Kx {f g:Dn->Res Bool} {δ:Dn} (h1:f δ=.ok true) (h2:g δ=.ok false):Ag f g δ=.ok false:=by unfold Ag; rw [h1,B9,if_pos rfl,h2]
theorem Vr {f:Dn->Res zS} {lo hi:Dn->Res (Option Int)} {δ:Dn} {x y:zS} {l u:Option Int} (h1:f δ=.ok x) (h2:lo δ=.ok l) (h3:hi δ=.ok u) (h4:Xs x l u=some y):vSl f lo hi δ=.ok y:=by unfold vSl; rw [h1,B9,h2,B9,h3,B9,h4]; rfl
theorem uA (ns:List Int) (hns:ns.length<=63) {S:IdP->zS->Prop} {U:IdP->IdP->Prop} (a:Int) (p:IdP) (ho:okI p) (kn0:List Dp) (hk:∀ e∈kn0,Wf e.2 (S e.2) (U e.2) e.1/\e.2.1 < p.1) (up:kn0.Pairwise (fun a b=>key a.2 < key b.2)) (hkl:kn0.length<=9) (x y z:Str) (hxyz:Dk x/\Dk y/\Dk z) :
   ∃ d,N8 [scr ns,.int a,idP p,.tuple (kn0.map (·.1)),.list [.str x,.str y,.str z]]=.ok d/\Wf p (SgOf p.1 (kn0.map (·.1))) (fun q=>∃ e∈kn0,e.2=q) d:=by
 have hids:∀ d∈kn0.map (·.1),∃ q:IdP,dIx d (.int 1)=some (idP q)/\∃ e∈kn0,e.2=q:=fun d hd=>by
   obtain ⟨e,he,rfl⟩:=j7.mp hd; obtain ⟨_,hf⟩:=(hk e he).1; refine ⟨e.2,?_,e,he,rfl⟩; rcases hf with ⟨_,_,q,_⟩ | ⟨_,q,_⟩ | ⟨_,_,_,_,_,q,_⟩ | ⟨_,q,_⟩ | ⟨_,q,_⟩ <;> rw [q] <;> exact K6 (j:=1) (by simp)
 obtain ⟨sg,es,hsl,hsg,hsr⟩:=lK (T:=p.1) kn0 hk up hkl;have hkl':(kn0.map (·.1)).length<=9:=by rw [zZ]; exact hkl
 generalize kn0.map (·.1)=kn at *;obtain ⟨way,ew,w0,w1⟩:=M0 ns hns a 12 (by decide);obtain ⟨r5,e5,a5,b5⟩:=M0 ns hns (a+5) 3 (by decide);obtain ⟨nm,hnm,f5⟩:=ixL (xs:=[.str x,.str y,.str z]) a5 b5;have:∃ q,nm=.str q/\Dk q:=by
   simp only [a9,HI,or_false] at hnm; rcases hnm with rfl | rfl | rfl
   . exact ⟨_,rfl,hxyz.1⟩
   . exact ⟨_,rfl,hxyz.2.1⟩
   . exact ⟨_,rfl,hxyz.2.2⟩
 obtain ⟨q,rfl,hq⟩:=this;unfold N8 Dg Bu Bt Bs Br Bq Bp Bo Bn K5;rw [Rb];simp only [E9,c7,y9,i0,p4,i4,p8,l3,AC,AB];rw [C2 (F8 (B5 (A6 rfl rfl) es)),C2 (F8 (B5 (A6 rfl (A6 rfl (A6 rfl rfl))) ew))];simp only [j0,j4];by_cases c1:way < 2/\sg≠[]
 . have t1 : (Ag (C1 (b2 (A1 6) (vC (.int 2)) (D9 .Lt))) (C1 (b2 (A1 5) (E8 A7) dNe))) [.sh (scr ns), .sh (.int a), .sh (idP p), .sh (.tuple kn), .sh (.list [.str x, .str y, .str z]), .sh (.list sg), .sh (.int way), .un, .un, .un] = .ok true := by
     have:sg.isEmpty=false:=by cases sg with | nil=>exact absurd rfl c1.2 | cons _ _=>rfl
     exact Kw (B8 (B4 rfl rfl (iY c1.1))) (B8 (B4 rfl rfl (by rw [dNeL,this]; rfl)))
   have hall:∀ z∈sg.mapIdx (fun i d=>(p5 i,d)),∃ b,(C1 (b2 (B6 (A2 (A1 2) (A2 (b2 (b2 (A1 3) (vC (.int 20)) D3) (A1 0) D3) (A2 (vC (.int 4)) A7))) B2) (vC (.int 0)) dEq)) ([.sh z.1,.sh z.2]++[.sh (scr ns),.sh (.int a)])=.ok b:=fun z hz=>by
     rw [List.mem_mapIdx] at hz; obtain ⟨i,hi,rfl⟩:=hz; obtain ⟨r,er,_,_⟩:=M0 ns hns (a+20+(i:Int)) 4 (by decide);refine ⟨r==0,?_⟩;simp_arith [W8,er,pB]
   obtain ⟨ys,g1,g2'⟩:=Vb _ hall; rw [oQ] at g2'; rw [<- tP] at g1; have g2:=g2'.length_le; have hel:(Hr sg).length=sg.length:=by unfold Hr; simp
   have n1:D7 (fun δ=>((A2 (A1 5) A7) δ).bind Re) Ay [0,1] (C1 (b2 (B6 (A2 (A1 2) (A2 (b2 (b2 (A1 3) (vC (.int 20)) D3) (A1 0) D3) (A2 (vC (.int 4)) A7))) B2) (vC (.int 0)) dEq)) (A1 1) [.sh (scr ns),.sh (.int a),.sh (idP p),.sh (.tuple kn),.sh (.list [.str x,.str y,.str z]),.sh (.list sg),.sh (.int way),.un,.un,.un]=.ok ys :=
     E1 (ds:=Hr sg) (by show ((A2 (A1 5) A7) _).bind Re=_; rw [A6 (d:=.list sg) (ds:=[]) rfl rfl]; rfl) (by omega) rfl g1
   have hex:∃ ex:List zS,ex.length<=1/\((ys++ex).Sublist sg/\ys++ex≠[])/\P4 (.list (sg.take 1)) (.int (if ys.isEmpty=true then 1 else 0))=some (.list ex):=by
     have lt:(sg.take 1).length<=1:=by simp; omega
     cases ey:ys with
     | nil =>
       refine ⟨(i4 1 (sg.take 1)).flatten,by simpa using lt,⟨by simpa using JU 1 sg,fun z=>c1.2 ?_⟩,?_⟩
       . cases sg with
         | nil=>rfl
         | cons _ _=>simp at z
       . rw [if_pos (show List.isEmpty []=true from rfl)]
         exact mulL ⟨by decide,by decide,i6 (show _<=1 by simpa using lt) (by decide)⟩
     | cons y0 yr =>
       refine ⟨[],by simp,⟨by rw [m8,<- ey]; exact g2',by simp⟩,?_⟩;rw [if_neg (by simp)]; exact mulL ⟨by decide,by decide,by simp⟩
   obtain ⟨ex,exl,exs,hmul⟩:=hex; have hadd:=kH (x:=ys) (y:=ex) (by omega);have cut1:Xs (.list sg) none (some 1)=some (.list (sg.take 1)):=by
     show some (FV (Fo sg none (some 1)))=_;congr 2;cases sg with
     | nil=>rfl
     | cons s r =>
       unfold Fo HT.sIx; simp
   have hint:Va [.bool ys.isEmpty]=some (.int (if ys.isEmpty=true then 1 else 0)):=rfl;have htup:∀ l,Gk [.list l]=some (.tuple l):=fun _=>rfl;have hnew:Zs 8 (D7 (fun δ=>((A2 (A1 5) A7) δ).bind Re) Ay [0,1] (C1 (b2 (B6 (A2 (A1 2) (A2 (b2 (b2 (A1 3) (vC (.int 20)) D3) (A1 0) D3) (A2 (vC (.int 4)) A7))) B2) (vC (.int 0)) dEq)) (A1 1)) [.sh (scr ns),.sh (.int a),.sh (idP p),.sh (.tuple kn),.sh (.list [.str x,.str y,.str z]),.sh (.list sg),.sh (.int way),.un,.un,.un]=.nx [.sh (scr ns),.sh (.int a),.sh (idP p),.sh (.tuple kn),.sh (.list [.str x,.str y,.str z]),.sh (.list sg),.sh (.int way),.un,.sh (.list ys),.un]:=by
     unfold Zs; rw [n1]; rfl
   have t2:(E2 (I9 (A2 (vC (.str "drop")) (A2 (A1 2) (A2 (vFn (A2 (b2 (A1 8) (b2 (vSl (A1 5) Ax (X9 (vC (.int 1)))) (vFn (A2 (b2 (A1 8) (E8 A7) dEq) A7) Va) P4) D3) A7) Gk) A7))))) [.sh (scr ns),.sh (.int a),.sh (idP p),.sh (.tuple kn),.sh (.list [.str x,.str y,.str z]),.sh (.list sg),.sh (.int way),.un,.sh (.list ys),.un]=.rt (.tuple [.str "drop",idP p,.tuple (ys++ex)]):=by
     simp_arith [dEqL,hint,cut1,hmul,hadd,htup]
   rw [Z4 ((W3 t1).trans ((C2 hnew).trans t2))]; refine ⟨_,rfl,ho,.inr (.inl ⟨_,rfl,fun s hs=>hsg s (exs.1.subset hs),?_,exs.2,hsr.sublist exs.1⟩)⟩;rw [l8]; omega
 . have t1 : (Ag (C1 (b2 (A1 6) (vC (.int 2)) (D9 .Lt))) (C1 (b2 (A1 5) (E8 A7) dNe))) [.sh (scr ns), .sh (.int a), .sh (idP p), .sh (.tuple kn), .sh (.list [.str x, .str y, .str z]), .sh (.list sg), .sh (.int way), .un, .un, .un] = .ok false := by
     by_cases h2:way < 2
     . have:sg=[]:=EA fun z=>c1 ⟨h2,z⟩
       subst this; exact Kx (B8 (B4 rfl rfl (iY h2))) (B8 (B4 rfl rfl (dNeL [])))
     . exact Rt (B8 (B4 rfl rfl (iZ h2)))
   rw [C9 t1];by_cases c2:way < 5
   . obtain ⟨s1,x1,f1,g1,l1⟩:=Vn ns hns (a+1) (SgOf p.1 kn) sg hsg hsl
     obtain ⟨s2,x2,f2,g2,l2⟩:=Vn ns hns (a+3) (SgOf p.1 kn) sg hsg hsl; have hadd:=addT (x:=[.str "mark",idP p,.str q]) (y:=[.tuple [s1,.str x1],.tuple [s2,.str x2]]) (by simp);refine ⟨.tuple [.str "mark",idP p,.str q,.tuple [s1,.str x1],.tuple [s2,.str x2]],?_,ho,.inr (.inr (.inl ⟨q,s1,x1,s2,x2,rfl,g1,g2,hq,l1,l2⟩))⟩; exact Xk (Z4 ((W3 (B8 (B4 rfl rfl (iY c2)))).trans ((C2 (F8 (T6 (A6 (B5 (A6 rfl (A6 (B4 rfl rfl W8) (A6 rfl rfl))) f1) (A6 (B5 (A6 rfl (A6 (B4 rfl rfl W8) (A6 rfl rfl))) f2) rfl))))).trans (D5 (B4 (T6 (A6 rfl (A6 rfl (A6 (B4 rfl (B5 (A6 rfl (A6 (B4 rfl rfl W8) (A6 rfl rfl))) e5) f5) rfl)))) rfl hadd)))))
   . by_cases c3:way=5
     . refine ⟨.tuple [.str "unmark",idP p,.str q],?_,ho,.inr (.inr (.inr (.inl ⟨q,rfl,hq⟩)))⟩
       rw [C9 (B8 (B4 rfl rfl (iZ c2)))]; exact Xk (Z4 ((W3 (B8 (B4 rfl rfl (by rw [pB,c3]; rfl)))).trans (D5 (T6 (A6 rfl (A6 rfl (A6 (B4 rfl (B5 (A6 rfl (A6 (B4 rfl rfl W8) (A6 rfl rfl))) e5) f5) rfl)))))))
     . have c3':(way==5)=false:=by simpa using c3
       by_cases c4:way < 8/\kn≠[]
       . have hne:kn.isEmpty=false:=by cases kn with | nil=>exact absurd rfl c4.2 | cons _ _=>rfl
         have hpos:(0:Int) < kn.length:=by cases kn with | nil=>exact absurd rfl c4.2 | cons _ _=>simp
         obtain ⟨r6,e6,a6,b6⟩:=M0 ns hns (a+6) (kn.length:Int) hpos; obtain ⟨d,hd,f6⟩:=On (xs:=kn) a6 b6; obtain ⟨qi,f7,hu⟩:=hids d hd; have f6':dIx (.tuple kn) (.int r6)=some d:=f6; refine ⟨.tuple [.str "undo",idP p,idP qi],?_,ho,.inr (.inr (.inr (.inr ⟨_,rfl,hu⟩)))⟩; rw [C9 (B8 (B4 rfl rfl (iZ c2))),C9 (B8 (B4 rfl rfl (by rw [pB,c3'])))];exact Xk (Z4 ((W3 (Kw (B8 (B4 rfl rfl (iY c4.1))) (B8 (B4 rfl rfl (by rw [uF,hne]; rfl))))).trans (D5 (T6 (A6 rfl (A6 rfl (A6 (B4 (B4 rfl (B5 (A6 rfl (A6 (B4 rfl rfl W8) (A6 (W1 (A6 rfl rfl) (lenT _)) rfl))) e6) f6') rfl f7) rfl)))))))
       . have t4 : (Ag (C1 (b2 (A1 6) (vC (.int 8)) (D9 .Lt))) (C1 (b2 (A1 3) (I9 A7) dNe))) [.sh (scr ns), .sh (.int a), .sh (idP p), .sh (.tuple kn), .sh (.list [.str x, .str y, .str z]), .sh (.list sg), .sh (.int way), .un, .un, .un] = .ok false := by
           by_cases h2:way < 8
           . have:kn=[]:=EA fun z=>c4 ⟨h2,z⟩
             subst this; exact Kx (B8 (B4 rfl rfl (iY h2))) (B8 (B4 rfl rfl (uF [])))
           . exact Rt (B8 (B4 rfl rfl (iZ h2)))
         obtain ⟨w,ew2,wl⟩:=kI ns hns (a+8); have g1:=kH (x:=[.none]) (y:=sg) (by simp; omega);have hc:Xs (.list sg) (some (-3)) none=some (.list (Fo sg (some (-3)) none)):=rfl; have hcl:=uH sg (some (-3)) none; have hcm:∀ s∈Fo sg (some (-3)) none,SgOf p.1 kn s:=fun s hs=>hsg s (kT hs);generalize Fo sg (some (-3)) none=ct at *;have g2:=kH (x:=[.none]++sg) (y:=ct) (by simp; omega);obtain ⟨r7,e7,a7,b7⟩:=M0 ns hns (a+7) ((sg.length:Int)+1+(ct.length:Int)) (by omega);obtain ⟨bh,hbh,f7⟩:=ixL (xs:=[.none]++sg++ct) a7 (by simp; omega);have hneg:Fk (.int 3)=some (.int (-3)):=rfl; have hb:OrN (SgOf p.1 kn) bh:=by
           rcases i7.mp hbh with h | h
           . rcases i7.mp h with h | h
             . exact .inl (c8.mp h)
             . exact .inr (hsg bh h)
           . exact .inr (hcm bh h)
         generalize [PyData.none]++sg=L1 at *;generalize L1++ct=L2' at *;refine ⟨.tuple [.str "add",idP p,bh,.str w],?_,ho,.inl ⟨bh,w,rfl,hb,wl⟩⟩; rw [C9 (B8 (B4 rfl rfl (iZ c2))),C9 (B8 (B4 rfl rfl (by rw [pB,c3']))),C9 t4];have sl:vSl (A1 5) (X9 (b1 (vC (.int 3)) Fk)) Ax [.sh (scr ns),.sh (.int a),.sh (idP p),.sh (.tuple kn),.sh (.list [.str x,.str y,.str z]),.sh (.list sg),.sh (.int way),.un,.un,.un]=.ok (.list ct):=Vr rfl rfl rfl hc; exact Xk ((C2 (F8 (B4 (B4 (B4 rfl rfl g1) sl g2) (B5 (A6 rfl (A6 (B4 rfl rfl W8) (A6 (B4 (B4 (W1 (A6 rfl rfl) (yD _)) rfl W8) (W1 (A6 sl rfl) (yD _)) W8) rfl))) e7) f7))).trans (D5 (T6 (A6 rfl (A6 rfl (A6 rfl (A6 (B5 (A6 rfl (A6 (B4 rfl rfl W8) rfl)) ew2) rfl)))))))
noncomputable def gB:Dn->Out:=(C5 (G6 7 (b2 (b2 (A1 5) (vC (.int 0)) dIx) (B6 (A2 (A1 0) (A2 (b2 (b2 (A1 1) (vC (.int 1)) D3) (b2 (vC (.int 60)) (A1 6) P4) D3) (A2 (vC (.int 2)) A7))) B2) D3)) (C5 (G6 8 (b2 (vC (.str "abc")) (B6 (A2 (A1 0) (A2 (b2 (b2 (A1 1) (vC (.int 2)) D3) (b2 (vC (.int 60)) (A1 6) P4) D3) (A2 (vC (.int 3)) A7))) B2) dIx)) (C5 (sIf (Ag (C1 (b2 (A1 4) (I9 A7) dNe)) (C1 (b2 (I9 (A2 (A1 7) (A2 (A1 8) A7))) (A1 5) (D9 .LtE)))) (G6 7 (b2 (b2 (A1 5) (vC (.int 0)) dIx) (vC (.int 1)) D3)) E4) (C5 (G6 5 (I9 (A2 (A1 7) (A2 (A1 8) A7)))) (C5 (G6 9 (vFn (A2 (E8 (D7 (fun δ=>((A1 4) δ).bind D2) C6 [7] (C1 (b2 (b2 (b2 (A1 0) (vC (.int 1)) dIx) (vC (.int 0)) dIx) (A1 1) (D9 .Lt))) (A1 0))) A7) Gk)) (G6 4 (b2 (A1 4) (I9 (A2 (B6 (A2 (A1 0) (A2 (b2 (b2 (A1 1) (vC (.int 3)) D3) (b2 (vC (.int 60)) (A1 6) P4) D3) (A2 (A1 5) (A2 (A1 9) (A2 (A1 3) A7))))) N8) A7)) D3)))))))
theorem leS (h h':Str) (k:okH h) (k':okH h'):(h==h')=decide (hj h=hj h')/\Qj .LtE h h'=decide (hj h<=hj h'):=by
 rcases k with rfl | rfl | rfl <;> rcases k' with rfl | rfl | rfl <;> exact ⟨by decide +kernel,by decide +kernel⟩
theorem leIdE {t t':Int} {h h':Str} (k:okH h) (k':okH h'):D9 .LtE (idD t h) (idD t' h')=some (.bool (decide (key (t,h)<=key (t',h')))):=by
 obtain ⟨e1,e2⟩:=leS h h' k k';have l1:=Qy h;have l2:=Qy h';unfold D9 key;rw [if_pos (i6 (Xn t h) (by decide))];show (Dy .LtE [.int t,.str h] [.int t',.str h']).map x5=_;simp only [Dy];have f1:g9 (.int t) (.int t')=(t==t'):=rfl;have f2:g9 (.str h) (.str h')=(h==h'):=rfl;rw [f1,f2,e1];by_cases c1:t=t'
 . subst c1
   rw [if_pos (by simp)];by_cases c2:hj h=hj h'
   . rw [if_pos (by simp [c2])]
     simp [bL,c2]
   . rw [if_neg (by simp [c2])]
     show (some (Qj .LtE h h')).map x5=_;rw [e2]; simp only [GB];congr 3;apply propext; omega
 . rw [if_neg (by simp [c1])]
   show (some (decide (t<=t'))).map x5=_;simp only [GB];congr 3;apply propext; omega
theorem Wf.id {p:IdP} {S:zS->Prop} {U:IdP->Prop} {d:zS} (w:Wf p S U d):dIx d (.int 1)=some (idP p):=by
 obtain ⟨_,hf⟩:=w;rcases hf with ⟨_,_,q,_⟩ | ⟨_,q,_⟩ | ⟨_,_,_,_,_,q,_⟩ | ⟨_,q,_⟩ | ⟨_,q,_⟩ <;> rw [q] <;> exact K6 (j:=1) (by simp)
theorem ix0 (x:zS) (xs:List zS):dIx (.tuple (x::xs)) (.int 0)=some x:=K6 (xs:=x::xs) (j:=0) (by simp)
theorem abc {c:Nat} (h:c∈("abc" : Str).cps.toList):(⟨#[c]⟩:Str) = "a" \/ (⟨#[c]⟩:Str) = "b" \/ (⟨#[c]⟩:Str) = "c" := by
 have h':c∈[97,98,99]:=by
   have:("abc" : Str).cps.toList=[97,98,99]:=by decide
   rw [this] at h; exact h
 simp only [a9,HI,or_false] at h';rcases h' with rfl | rfl | rfl
 . exact .inl (by decide)
 . exact .inr (.inl (by decide))
 . exact .inr (.inr (by decide))
theorem fX {δc:Dn} {tt:Dn->Res Bool} (f:Dp->Bool):∀ L:List Dp,(∀ e∈L,tt ([.sh e.1]++δc)=.ok (f e))->C7 C6 δc tt (A1 0) (L.map (·.1))=.ok ((L.filter f).map (·.1))
 | [],_=>rfl
 | e::L,h=>by
   have h1:=h e (.head _); have ih:=fX f L fun e' he=>h e' (.tail _ he);rw [c7]; unfold C7; rw [show C6 e.1=.ok [.sh e.1] from rfl];simp only [h1,ih];cases hf:f e with
   | true=>rw [DB hf]; rfl
   | false=>rw [FA (by rw [hf]; decide)]
def Upk (L:List Dp):Prop:=L.Pairwise fun a b=>key a.2 < key b.2
def WfIn (L:List Dp) (e:Dp):Prop:=Wf e.2 (SgOf e.2.1 (L.map (·.1))) (fun q=>(∃ e'∈L,e'.2=q)/\q.1 < e.2.1) e.1
def BkW (L:List Dp):Prop:=(∀ e∈L,WfIn L e)/\Upk L
theorem WfIn.mono {L L':List Dp} {e:Dp} (h:WfIn L e) (k:∀ x∈L,x∈L'):WfIn L' e :=
 Wf.mono h (fun x hx=>hx.mono fun d hd=>by obtain ⟨y,hy,rfl⟩:=j7.mp hd; exact y4 (k y hy)) fun q ⟨⟨y,hy,e⟩,hq⟩=>⟨⟨y,k y hy,e⟩,hq⟩
theorem kA (ns:List Int) (hns:ns.length<=63) (x y z:Str) (hxyz:Dk x/\Dk y/\Dk z) (k:Int) (hk:0<=k) (hk2:k < 9) (j:Nat) (hj:j < 9) (L:List Dp) (hl:L.length=j) (hd:BkW L) (t:Int) (h:Str) (ht:1<=t) (ht2:t<=j+1) (hth:okH h) (s7 s8 s9:Sl) :
   ∃ (d:zS) (t':Int) (h':Str) (s7' s8' s9':Sl),WfIn L (d,(t',h'))/\1<=t'/\t'<=((j+1:Nat):Int)+1/\okH h'/\(L=[]\/key (t,h) < key (t',h'))/\gB [.sh (scr ns),.sh (.int 10),.sh (.int 9),.sh (.list [.str x,.str y,.str z]),.sh (.tuple (L.map (·.1))),.sh (idD t h),.sh (.int k),s7,s8,s9]
     = .nx [.sh (scr ns),.sh (.int 10),.sh (.int 9),.sh (.list [.str x,.str y,.str z]),.sh (.tuple (L.map (·.1)++[d])),.sh (idD t' h'),.sh (.int k),s7',s8',s9']:=by
 obtain ⟨r1,e1,a1,b1⟩:=M0 ns hns (10+1+60*k) 2 (by decide);obtain ⟨r2,e2,a2,b2'⟩:=M0 ns hns (10+2+60*k) 3 (by decide);obtain ⟨c,hc,f2⟩:=nT (x := "abc") a2 (by have:("abc" : Str).cps.toList.length=3:=(by decide); rw [this]; exact b2');have hh:=abc hc;generalize (⟨#[c]⟩:Str)=hd' at *;have eb:=leIdE (t:=t+r1) (t':=t) (show okH hd' from hh) hth;have go : ∀ tt : Int, 1 <= tt -> tt <= j + 2 -> ∃ d, WfIn L (d, (tt, hd')) /\ ∃ kn, (C5 (G6 5 (I9 (A2 (A1 7) (A2 (A1 8) A7)))) (C5 (G6 9 (vFn (A2 (E8 (D7 (fun δ => ((A1 4) δ).bind D2) C6 [7] (C1 (b2 (b2 (b2 (A1 0) (vC (.int 1)) dIx) (vC (.int 0)) dIx) (A1 1) (D9 .Lt))) (A1 0))) A7) Gk)) (G6 4 (b2 (A1 4) (I9 (A2 (B6 (A2 (A1 0) (A2 (b2 (b2 (A1 1) (vC (.int 3)) D3) (b2 (vC (.int 60)) (A1 6) P4) D3) (A2 (A1 5) (A2 (A1 9) (A2 (A1 3) A7))))) N8) A7)) D3))))
     [.sh (scr ns),.sh (.int 10),.sh (.int 9),.sh (.list [.str x,.str y,.str z]),.sh (.tuple (L.map (·.1))),.sh (idD t h),.sh (.int k),.sh (.int tt),.sh (.str hd'),s9]
     = .nx [.sh (scr ns),.sh (.int 10),.sh (.int 9),.sh (.list [.str x,.str y,.str z]),.sh (.tuple (L.map (·.1)++[d])),.sh (idD tt hd'),.sh (.int k),.sh (.int tt),.sh (.str hd'),.sh (.tuple kn)]:=fun tt h1 h2=>by
   have g1:=fX (δc:=[.sh (.int tt)]) (tt:=C1 (b2 (b2 (b2 (A1 0) (vC (.int 1)) dIx) (vC (.int 0)) dIx) (A1 1) (D9 .Lt))) (fun e=>decide (e.2.1 < tt)) L fun e he=>by
     have:=(hd.1 e he).id;simp_arith [this,ix0,ltI]
   have fm:∀ e∈L.filter fun e=>decide (e.2.1 < tt),e∈L/\e.2.1 < tt:=fun e he=>by
     obtain ⟨m,q⟩:=o6.mp he; exact ⟨m,of_decide_eq_true q⟩
   have fl:=w6 (fun e:Dp=>decide (e.2.1 < tt)) L;obtain ⟨d,ed,wd'⟩:=uA ns hns (S:=fun p=>SgOf p.1 (L.map (·.1))) (U:=fun p q=>(∃ e'∈L,e'.2=q)/\q.1 < p.1) (10+3+60*k) (tt,hd') ⟨h1,by simp only; omega,hh⟩ (L.filter fun e=>decide (e.2.1 < tt)) (fun e he=>⟨hd.1 e (fm e he).1,(fm e he).2⟩) (hd.2.filter _) (by omega) x y z hxyz;have wd:WfIn L (d,(tt,hd')):=wd'.mono (fun x hx=>hx.mono fun q hq=>by obtain ⟨e,he,rfl⟩:=j7.mp hq; exact y4 (fm e he).1) fun q ⟨e,he,hq⟩=>⟨⟨e,(fm e he).1,hq⟩,hq▸(fm e he).2⟩;have ll:(L.map (·.1)).length=j:=by rw [zZ]; exact hl
   generalize (L.filter fun e=>decide (e.2.1 < tt)).map (·.1)=kn at *;refine ⟨d,wd,kn,?_⟩; have hadd:=addT (x:=L.map (·.1)) (y:=[d]) (by simp; omega);have htup:Gk [.list kn]=some (.tuple kn):=rfl; rw [C2 (F8 (T6 (A6 rfl (A6 rfl rfl))))]; simp only [j0,j4]; rw [C2 (F8 (W1 (A6 (J2 (E1 (D8 rfl rfl) (by omega) rfl g1)) rfl) htup))]; simp only [j0,j4];simp_arith [W8,nK,ed,hadd]
 unfold gB;rw [C2 (F8 (d:=.int (t+r1)) (by simp_arith [ix0,W8,nK,e1]))];simp only [j0,j4];rw [C2 (F8 (d:=.str hd') (by simp_arith [W8,nK,e2,f2]))];simp only [j0,j4];have hc1:∃ b,(b=false->L=[]\/key (t,h) < key (t+r1,hd'))/\(Ag (C1 (b2 (A1 4) (I9 A7) dNe)) (C1 (b2 (I9 (A2 (A1 7) (A2 (A1 8) A7))) (A1 5) (D9 .LtE)))) [.sh (scr ns),.sh (.int 10),.sh (.int 9),.sh (.list [.str x,.str y,.str z]),.sh (.tuple (L.map (·.1))),.sh (idD t h),.sh (.int k),.sh (.int (t+r1)),.sh (.str hd'),s9]=.ok b:=by
   cases he:(L.map (·.1)).isEmpty with
   | true=>exact ⟨false,fun _=>.inl (by cases L with | nil=>rfl | cons _ _=>cases he),by simp_arith [uF,he,HD]⟩
   | false=>exact ⟨decide (key (t+r1,hd')<=key (t,h)),fun z=>.inr (by have:=of_decide_eq_false z; omega),by simp_arith [uF,he,IL,eb]⟩
 obtain ⟨b,hbk,hb⟩:=hc1;cases b with
 | true =>
   obtain ⟨d,wd,kn,ek⟩:=go (t+1) (by omega) (by omega);refine ⟨d,t+1,hd',.sh (.int (t+1)),.sh (.str hd'),.sh (.tuple kn),wd,by omega,by omega,hh,.inr (by have:=Qy h; unfold key; simp only; omega),?_⟩;rw [C2 ((W3 hb).trans (F8 (d:=.int (t+1)) (by simp_arith [ix0,W8])))];simp only [j0,j4]; exact ek
 | false =>
   obtain ⟨d,wd,kn,ek⟩:=go (t+r1) (by omega) (by omega);refine ⟨d,t+r1,hd',.sh (.int (t+r1)),.sh (.str hd'),.sh (.tuple kn),wd,by omega,by omega,hh,hbk rfl,?_⟩;rw [C9 hb]; exact ek
theorem BkW.snoc {L:List Dp} {d:zS} {p q:IdP} (h:BkW L) (w:WfIn L (d,q)) (hk:∀ e∈L,key e.2<=key p) (hq:L=[]\/key p < key q):BkW (L++[(d,q)])/\∀ e∈L++[(d,q)],key e.2<=key q:=by
 have lt:∀ e∈L,key e.2 < key q:=fun e he=>by
   rcases hq with z | z
   . rw [z] at he; exact nomatch he
   . have:=hk e he; omega
 have up:∀ x∈L,x∈L++[(d,q)]:=fun x hx=>EG _ hx;refine ⟨⟨fun e he=>?_,?_⟩,fun e he=>?_⟩
 . rcases i7.mp he with z | z
   . exact (h.1 e z).mono up
   . rw [c8.mp z]; exact w.mono up
 . exact BW.mpr ⟨h.2,CY _ _,fun a ha b hb=>by rw [c8.mp hb]; exact lt a ha⟩
 . rcases i7.mp he with z | z
   . exact Int.le_of_lt (lt e z)
   . rw [c8.mp z]; exact Int.le_refl _
theorem Vf (ns:List Int) (hns:ns.length<=63) (x y z:Str) (hxyz:Dk x/\Dk y/\Dk z):∀ (l:List zS),(∀ d∈l,∃ k:Int,d=.int k/\0<=k/\k < 9)->∀ (j:Nat) (L:List Dp) (t:Int) (h:Str) (s6 s7 s8 s9:Sl),j+l.length<=9->L.length=j->BkW L->(∀ e∈L,key e.2<=key (t,h))->1<=t->t<=j+1->okH h ->
   ∃ L' s5 s6' s7' s8' s9',BkW L'/\L'.length<=9/\F9 (st1 6) gB l [.sh (scr ns),.sh (.int 10),.sh (.int 9),.sh (.list [.str x,.str y,.str z]),.sh (.tuple (L.map (·.1))),.sh (idD t h),s6,s7,s8,s9]=.nx [.sh (scr ns),.sh (.int 10),.sh (.int 9),.sh (.list [.str x,.str y,.str z]),.sh (.tuple (L'.map (·.1))),s5,s6',s7',s8',s9']
 | [],_,j,L,t,h,s6,s7,s8,s9,hj,hl,hd,_,_,_,_=>⟨L,_,_,_,_,_,hd,by simp at hj; omega,rfl⟩
 | d0::l,hk,j,L,t,h,s6,s7,s8,s9,hj,hl,hd,hb,h1,h2,h3=>by
   obtain ⟨k,rfl,k0,k1⟩:=hk d0 (.head _); simp only [i0] at hj; obtain ⟨d,t',h',s7',s8',s9',wd,t1,t2,t3,kk,e⟩:=kA ns hns x y z hxyz k k0 k1 j (by omega) L hl hd t h h1 h2 h3 s7 s8 s9;obtain ⟨hB,hB2⟩:=hd.snoc wd hb kk; obtain ⟨L',s5,s6',s7'',s8'',s9'',w',l',e'⟩:=Vf ns hns x y z hxyz l (fun d hd=>hk d (.tail _ hd)) (j+1) (L++[(d,(t',h'))]) t' h' (.sh (.int k)) s7' s8' s9' (by omega) (by simp [hl]) hB hB2 t1 t2 t3;refine ⟨L',s5,s6',s7'',s8'',s9'',w',l',?_⟩; unfold F9; simp only [st1,j0,j4]; rw [e]; rw [m4] at e'; exact e'
theorem uN (ns:List Int) (hns:ns.length<=63) (x y z:Str) (hxyz:Dk x/\Dk y/\Dk z):∃ L,Ae [scr ns,.int 10,.int 9,.list [.str x,.str y,.str z]]=.ok (.tuple (L.map (·.1)))/\L.length<=9/\BkW L:=by
 obtain ⟨r,e,a,b⟩:=M0 ns hns 10 (9+1) (by decide);have hmem:∀ d∈Ab 0 r,∃ k:Int,d=.int k/\0<=k/\k < 9:=fun d hd=>by
   unfold Ab at hd; obtain ⟨i,hi,rfl⟩:=j7.mp hd; have:=q9.mp hi; exact ⟨_,rfl,by omega,by omega⟩
 have hlen:(Ab 0 r).length<=9:=by unfold Ab; simp; omega
 obtain ⟨L,s5,s6,s7,s8,s9,w,l,e'⟩:=Vf ns hns x y z hxyz (Ab 0 r) hmem 0 [] 1 "a" .un .un .un .un (by omega) rfl ⟨(fun _ h=>nomatch h),.nil⟩ (fun _ h=>nomatch h) (by decide) (by decide) (.inl rfl);refine ⟨L,K4 ?_,l,w⟩;unfold Di Bz Bx Bw Bv O0;simp only [E9,c7,y9,i0,p4,i4,p8,l3,AC,AB];rw [C2 (F8 (d:=.tuple []) rfl),C2 (F8 (d:=idD 1 "a") rfl)];simp only [j0,j4];have hfor:O3 (fun δ=>((A2 (B6 (A2 (A1 0) (A2 (A1 1) (A2 (b2 (A1 2) (vC (.int 1)) D3) A7))) B2) A7) δ).bind Dj) (st1 6) gB [.sh (scr ns),.sh (.int 10),.sh (.int 9),.sh (.list [.str x,.str y,.str z]),.sh (.tuple []),.sh (idD 1 "a"),.un,.un,.un,.un]=.nx [.sh (scr ns),.sh (.int 10),.sh (.int 9),.sh (.list [.str x,.str y,.str z]),.sh (.tuple (L.map (·.1))),s5,s6,s7,s8,s9]:=by
   unfold O3; have:=Gs (fs:=A2 (B6 (A2 (A1 0) (A2 (A1 1) (A2 (b2 (A1 2) (vC (.int 1)) D3) A7))) B2) A7) (δ:=[.sh (scr ns),.sh (.int 10),.sh (.int 9),.sh (.list [.str x,.str y,.str z]),.sh (.tuple []),.sh (idD 1 "a"),.un,.un,.un,.un]) (n:=r) (by simp_arith [W8,e]) a (by omega);rw [this,D6]; exact e'
 exact (C2 hfor).trans (D5 rfl)
structure Ad where
 p:IdP
 b:Option (IdP×Nat)
 w:Str
abbrev As:=Ad×Nat
abbrev sgn (u:As):IdP×Nat:=(u.1.p,u.2)
noncomputable def blk (e:Ad):List As:=(o9 e.w.length).map fun k=>(e,k)
noncomputable def aQ (s:IdP×Nat) (l:List As):List As->List As
 | []=>[]
 | u::r=>if sgn u=s then u::(l++r) else u::aQ s l r
noncomputable def sZ (x:Option (IdP×Nat)) (l L:List As):List As:=match x with
 | none=>l++L
 | some s=>aQ s l L
noncomputable def ord (B:List Ad):List As:=B.foldl (fun L a=>sZ a.b (blk a) L) []
theorem Kj (B:List Ad) (e:Ad):ord (B++[e])=sZ e.b (blk e) (ord B):=by unfold ord; rw [JV]; rfl
inductive Bk:List Ad->Prop where
 | nil:Bk []
 | snoc {B:List Ad} {e:Ad}:Bk B->0 < e.w.length->(∀ a∈B,key a.p < key e.p)->(e.b=none\/∃ a∈B,∃ n,n < a.w.length/\e.b=some (a.p,n))->Bk (B++[e])
theorem fE {e:Ad} {u:As}:u∈blk e↔u.1=e/\u.2 < e.w.length:=by
 unfold blk;rw [j7];constructor
 . rintro ⟨k,hk,rfl⟩; exact ⟨rfl,q9.mp hk⟩
 . rintro ⟨h1,h2⟩; exact ⟨u.2,q9.mpr h2,by rw [<- h1]⟩
theorem aP {s:IdP×Nat} {l:List As} {v:As}:∀ {L:List As},(∃ u∈L,sgn u=s)->(v∈aQ s l L↔v∈l\/v∈L)
 | [],h=>by obtain ⟨u,hu,_⟩:=h; cases hu
 | u::r,h=>by
   unfold aQ;split
   . rw [a9,i7,a9]
     constructor
     . rintro (h | h | h)
       . exact .inr (.inl h)
       . exact .inl h
       . exact .inr (.inr h)
     . rintro (h | h | h)
       . exact .inr (.inl h)
       . exact .inl h
       . exact .inr (.inr h)
   . rename_i hn
     have h':∃ u∈r,sgn u=s:=by
       obtain ⟨x,hx,e⟩:=h; rcases a9.mp hx with rfl | hx
       . exact absurd e hn
       . exact ⟨x,hx,e⟩
     rw [a9,aP h',a9];constructor
     . rintro (h | h | h)
       . exact .inr (.inl h)
       . exact .inl h
       . exact .inr (.inr h)
     . rintro (h | h | h)
       . exact .inr (.inl h)
       . exact .inl h
       . exact .inr (.inr h)
theorem Bk.pos {B:List Ad} (h:Bk B):∀ a∈B,0 < a.w.length:=by
 induction h with
 | nil=>intro a h; cases h
 | snoc _ h0 _ _ ih =>
   intro a ha; rcases i7.mp ha with ha | ha
   . exact ih a ha
   . rw [c8.mp ha]; exact h0
theorem Bk.refs {B:List Ad} (h:Bk B):∀ c∈B,∀ q n,c.b=some (q,n)->∃ a∈B,a.p=q/\n < a.w.length:=by
 induction h with
 | nil=>intro a h; cases h
 | @snoc B e _ h0 _ hb ih =>
   intro c hc q n e1; rcases i7.mp hc with hc | hc
   . obtain ⟨a,ha,r⟩:=ih c hc q n e1; exact ⟨a,i7.mpr (.inl ha),r⟩
   . rw [c8.mp hc] at e1
     rcases hb with hb | ⟨a,ha,n',hn,hb⟩
     . rw [hb] at e1; cases e1
     . rw [hb] at e1; cases e1; exact ⟨a,i7.mpr (.inl ha),rfl,hn⟩
theorem Bk.nokid {B:List Ad} {e:Ad} (h:Bk B) (hk:∀ a∈B,key a.p < key e.p) (hb:e.b=none\/∃ a∈B,∃ n,n < a.w.length/\e.b=some (a.p,n)):∀ c∈B++[e],∀ n,c.b≠some (e.p,n):=by
 intro c hc n z;have:∃ a∈B,a.p=e.p:=by
   rcases i7.mp hc with hc | hc
   . obtain ⟨a,ha,r,_⟩:=h.refs c hc _ _ z; exact ⟨a,ha,r⟩
   . rw [c8.mp hc] at z
     rcases hb with hb | ⟨a,ha,n',hn,hb⟩
     . rw [hb] at z; cases z
     . rw [hb] at z; exact ⟨a,ha,congrArg Prod.fst (u6 z)⟩
 obtain ⟨a,ha,r⟩:=this;have:=hk a ha;rw [r] at this;omega
theorem Es {B:List Ad} (h:Bk B):∀ u,u∈ord B↔u.1∈B/\u.2 < u.1.w.length:=by
 induction h with
 | nil=>intro u; constructor <;> intro h <;> simp [ord] at h
 | @snoc B e hB h0 hk hb ih =>
   intro u; have key:u∈sZ e.b (blk e) (ord B)↔u∈blk e\/u∈ord B:=by
     rcases hb with hb | ⟨a,ha,n,hn,hb⟩
     . rw [hb]; exact i7
     . rw [hb]; exact aP ⟨(a,n),(ih (a,n)).mpr ⟨ha,hn⟩,rfl⟩
   rw [Kj,key,fE,ih,i7,c8];constructor
   . rintro (⟨h1,h2⟩ | ⟨h1,h2⟩)
     . exact ⟨.inr h1,by rw [h1]; exact h2⟩
     . exact ⟨.inl h1,h2⟩
   . rintro ⟨h1 | h1,h2⟩
     . exact .inr ⟨h1,h2⟩
     . exact .inl ⟨h1,by rw [<- h1]; exact h2⟩
theorem Uv {s:IdP×Nat} {l:List As}:∀ {L:List As},(∃ u∈L,sgn u=s)->(aQ s l L).Perm (l++L)
 | [],h=>by obtain ⟨u,hu,_⟩:=h; cases hu
 | u::r,h=>by
   unfold aQ;split
   . exact (List.perm_middle (l₁:=l) (a:=u) (l₂:=r)).symm
   . rename_i hn
     have h':∃ u∈r,sgn u=s:=by
       obtain ⟨x,hx,e⟩:=h; rcases a9.mp hx with rfl | hx
       . exact absurd e hn
       . exact ⟨x,hx,e⟩
     exact ((Uv h').cons u).trans (List.perm_middle (l₁:=l) (a:=u) (l₂:=r)).symm
theorem Uw {B:List Ad} {e:Ad} (hB:Bk B) (hb:e.b=none\/∃ a∈B,∃ n,n < a.w.length/\e.b=some (a.p,n)):(sZ e.b (blk e) (ord B)).Perm (blk e++ord B):=by
 rcases hb with hb | ⟨a,ha,n,hn,hb⟩
 . rw [hb]; exact AH _
 . rw [hb]; exact Uv ⟨(a,n),(Es hB (a,n)).mpr ⟨ha,hn⟩,rfl⟩
noncomputable def sgs (B:List Ad):List As:=B.flatMap blk
theorem mW {B:List Ad} (h:Bk B):(ord B).Perm (sgs B):=by
 induction h with
 | nil=>exact AH _
 | @snoc B e hB h0 hk hb ih =>
   rw [Kj]; unfold sgs; rw [List.flatMap_append]; refine (Uw hB hb).trans ?_; refine List.perm_append_comm.trans ?_; rw [List.flatMap_cons,List.flatMap_nil,m8]; exact List.Perm.append_right _ ih
theorem kC (e:Ad):((blk e).map sgn).Nodup:=by
 unfold blk;rw [BE,LQ,GW];refine List.Pairwise.imp ?_ (LQ.mp List.nodup_range);intro a b h z;exact h (congrArg Prod.snd z)
theorem iM {B:List Ad} (h:Bk B):((ord B).map sgn).Nodup:=by
 induction h with
 | nil=>exact .nil
 | @snoc B e hB h0 hk hb ih =>
   rw [Kj]; refine ((Uw hB hb).map sgn).nodup_iff.mpr ?_; rw [m4,FH]; refine ⟨kC e,ih,fun x hx y hy z=>?_⟩;obtain ⟨u,hu,rfl⟩:=j7.mp hx; obtain ⟨v,hv,rfl⟩:=j7.mp hy; have h1:=(fE.mp hu).1; have h2:=((Es hB v).mp hv).1; have h3:=hk v.1 h2; have h4:u.1.p=v.1.p:=congrArg Prod.fst z; rw [h1] at h4; rw [<- h4] at h3; omega
noncomputable def Ik (B:List Ad) (u:As):List As:=(B.filter fun c=>c.b=some (sgn u)).map fun c=>(c,0)
noncomputable def Nc (B:List Ad):List As:=(B.filter fun c=>c.b=none).map fun c=>(c,0)
noncomputable def nxt (u:As):List As:=if u.2+1 < u.1.w.length then [(u.1,u.2+1)] else []
inductive Run (B:List Ad):List As->List As->Prop where
 | nil:Run B [] []
 | step {u:As} {st out:List As}:Run B ((Ik B u).reverse++(nxt u++st)) out->Run B (u::st) (u::out)
theorem Run.blk {B:List Ad} {e:Ad} (hn:∀ c∈B,∀ n,c.b≠some (e.p,n)) {st out:List As} (h:Run B st out):∀ (j k:Nat),k+j+1=e.w.length->Run B ((e,k)::st) (((o9 e.w.length).drop k).map (fun i=>(e,i))++out):=by
 have nk:∀ k,Ik B (e,k)=[]:=fun k=>by
   unfold Ik; rw [BG.mpr (fun c hc=>by simpa using hn c hc k),y9]
 intro j;induction j with
 | zero =>
   intro k hk; have hd:(o9 e.w.length).drop k=[k]:=by
     rw [BP (by simp; omega),JI,FJ (by simp; omega)]
   rw [hd]; refine .step ?_; rw [nk,List.reverse_nil,l3]; unfold nxt; rw [if_neg (by show ¬ (k+1 < e.w.length); omega),l3];exact h
 | succ j ih =>
   intro k hk; have hd:(o9 e.w.length).drop k=k::(o9 e.w.length).drop (k+1):=by
     rw [BP (by simp; omega),JI]
   rw [hd]; refine .step ?_; rw [nk,List.reverse_nil,l3]; unfold nxt; rw [if_pos (by show k+1 < e.w.length; omega)];exact ih (k+1) (by omega)
theorem Run.new {B:List Ad} {e:Ad} (hp:0 < e.w.length) (hn:∀ c∈B,∀ n,c.b≠some (e.p,n)) {st out:List As} (h:Run B st out):Run B ((e,0)::st) (Sm.blk e++out):=by
 have:=h.blk hn (e.w.length - 1) 0 (by omega);rw [GN] at this;exact this
theorem Mf (B:List Ad) (e:Ad) (u:As):Ik (B++[e]) u=Ik B u++if e.b=some (sgn u) then [(e,0)] else []:=by
 unfold Ik;rw [JL,m4];congr 1;by_cases c:e.b=some (sgn u)
 . rw [if_pos c,BR,if_pos (by simpa using c)]; rfl
 . rw [if_neg c,BR,if_neg (by simpa using c)]; rfl
theorem Run.old {B:List Ad} {e:Ad} {st out:List As} (h:Run B st out) (hn:∀ u∈out,e.b≠some (sgn u)):Run (B++[e]) st out:=by
 induction h with
 | nil=>exact .nil
 | @step u st out h ih =>
   refine .step ?_; rw [Mf,if_neg (hn u (.head _)),m8]; exact ih fun v hv=>hn v (.tail _ hv)
theorem Run.ins {B:List Ad} {e:Ad} {s:IdP×Nat} (he:e.b=some s) (hp:0 < e.w.length) (hk:∀ c∈B++[e],∀ n,c.b≠some (e.p,n)) {st out:List As} (h:Run B st out) (hs:∃ u∈out,sgn u=s) (nd:(out.map sgn).Nodup):Run (B++[e]) st (aQ s (Sm.blk e) out):=by
 induction h with
 | nil=>obtain ⟨u,hu,_⟩:=hs; cases hu
 | @step u st out h ih =>
   rw [c7,AU] at nd; unfold aQ;split
   . rename_i c
     refine .step ?_; rw [Mf,if_pos (by rw [he,c]),GI,z4];refine Run.new hp hk (h.old fun v hv z=>nd.1 ?_);rw [he] at z; cases z; rw [c]; exact y4 hv
   . rename_i c
     refine .step ?_; rw [Mf,if_neg (by rw [he]; intro z; cases z; exact c rfl),m8];refine ih ?_ nd.2; obtain ⟨x,hx,e1⟩:=hs; rcases a9.mp hx with rfl | hx
     . exact absurd e1 c
     . exact ⟨x,hx,e1⟩
theorem eS {B:List Ad} (h:Bk B):Run B (Nc B).reverse (ord B):=by
 induction h with
 | nil=>exact .nil
 | @snoc B e hB h0 hk hb ih =>
   have nk:=hB.nokid hk hb; rw [Kj]; unfold Nc at ih ⊢;rw [JL,m4,GI]; rcases hb with hb | ⟨a,ha,n,hn,hb⟩
   . rw [hb,BR,if_pos (by simpa using hb)]
     exact Run.new h0 nk (ih.old fun u _ z=>by rw [hb] at z; cases z)
   . rw [hb,BR,if_neg (by rw [hb]; simp)]
     exact ih.ins hb h0 nk ⟨(a,n),(Es hB (a,n)).mpr ⟨ha,hn⟩,rfl⟩ (iM hB)
noncomputable def anD (x:Option (IdP×Nat)):zS:=match x with
 | none=>.none
 | some s=>sgD s.1 s.2
noncomputable def Ad.d (a:Ad):zS:=.tuple [.str "add",idP a.p,anD a.b,.str a.w]
inductive Adds:List Dp->List Ad->Prop where
 | nil:Adds [] []
 | add {L:List Dp} {B:List Ad} (a:Ad):Adds L B->Adds ((a.d,a.p)::L) (a::B)
 | oth {L:List Dp} {B:List Ad} {e:Dp} (k:Str) (x:zS) (xs:List zS):e.1=.tuple (.str k::idP e.2::x::xs)->k ≠ "add" -> Adds L B->Adds (e::L) B
theorem Adds.snoc {L:List Dp} {B:List Ad} (h:Adds L B) (a:Ad):Adds (L++[(a.d,a.p)]) (B++[a]):=by
 induction h with
 | nil=>exact .add a .nil
 | add c _ ih=>exact .add c ih
 | oth k x xs e n _ ih=>exact .oth k x xs e n ih
theorem Adds.snocO {L:List Dp} {B:List Ad} {e:Dp} (h:Adds L B) (k:Str) (x:zS) (xs:List zS) (h1:e.1=.tuple (.str k::idP e.2::x::xs)) (h2:k ≠ "add"):Adds (L++[e]) B:=by
 induction h with
 | nil=>exact .oth k x xs h1 h2 .nil
 | add c _ ih=>exact .add c ih
 | oth k' x' xs' e' n _ ih=>exact .oth k' x' xs' e' n ih
theorem Xi {p q:IdP} (h:idP p=idP q):p=q:=by
 simp only [idP,idD,CO,BC,FC,FB,and_true] at h;exact JT h.1 h.2
theorem Adds.of {L:List Dp} {B:List Ad} (h:Adds L B) {p:IdP} {b:zS} {w:Str} (m:AD [.str "add",idP p,b,.str w]∈L.map (·.1)):∃ a∈B,a.p=p/\a.w=w:=by
 induction h with
 | nil=>cases m
 | add c _ ih =>
   rcases a9.mp m with e | m
   . have e':AD [.str "add",idP p,b,.str w]=.tuple [.str "add",idP c.p,anD c.b,.str c.w]:=e
     injection e' with e'
     injection e' with _ e'
     injection e' with e1 e'
     injection e' with _ e'
     injection e' with e2 _
     injection e2 with e2
     exact ⟨c,.head _,(Xi e1).symm,e2.symm⟩
   . obtain ⟨a,ha,r⟩:=ih m; exact ⟨a,.tail _ ha,r⟩
 | oth k x xs e n _ ih =>
   rcases a9.mp m with e1 | m
   . replace e1:=e1.trans e
     injection e1 with e1
     injection e1 with e1 _
     injection e1 with e1
     exact absurd e1.symm n
   . exact ih m
theorem Wf.shape {p:IdP} {S:zS->Prop} {U:IdP->Prop} {d:zS} (w:Wf p S U d):(∃ b w,d=.tuple [.str "add",idP p,b,.str w]/\OrN S b/\Yl w)\/∃ k x xs,d=.tuple (.str k::idP p::x::xs)/\k ≠ "add" := by
 obtain ⟨o,r⟩:=w;rcases r with h | ⟨sg,rfl,_⟩ | ⟨n,s1,x1,s2,x2,rfl,_⟩ | ⟨n,rfl,_⟩ | ⟨i,rfl,_⟩
 . exact .inl h
 . exact .inr ⟨"drop",_,_,rfl,by decide⟩
 . exact .inr ⟨"mark",_,_,rfl,by decide⟩
 . exact .inr ⟨"unmark",_,_,rfl,by decide⟩
 . exact .inr ⟨"undo",_,_,rfl,by decide⟩
theorem aO {p q:IdP} (h:key p < key q):p.1<=q.1:=by
 have h1:=Qy p.2;have h2:=Qy q.2;unfold key at h;omega
theorem BkW.init {L:List Dp} {e:Dp} (h:BkW (L++[e])):BkW L:=by
 obtain ⟨hw,hu⟩:=h;have hu':=BW.mp hu;refine ⟨fun x hx=>?_,hu'.1⟩;have hxe:key x.2 < key e.2:=hu'.2.2 x hx e (c8.mpr rfl);have ht:=aO hxe;refine Wf.mono (hw x (i7.mpr (.inl hx))) (fun y hy=>?_) fun q hq=>?_
 . obtain ⟨p,b,w,n,hm,e1,hn,hp,ho⟩:=hy
   refine ⟨p,b,w,n,?_,e1,hn,hp,ho⟩; rw [m4] at hm; rcases i7.mp hm with hm | hm
   . exact hm
   . exfalso
     have he:AD [.str "add",idP p,b,.str w]=e.1:=by simpa using hm
     have hid:p=e.2:=by
       have w1:=(hw e (i7.mpr (.inr (.head _)))).id; rw [<- he] at w1; have w2:dIx (AD [.str "add",idP p,b,.str w]) (.int 1)=some (idP p):=K6 (xs:=[.str "add",idP p,b,.str w]) (j:=1) (by simp);rw [w2] at w1; exact Xi (u6 w1)
     rw [hid] at hp; omega
 . obtain ⟨⟨e',he',rfl⟩,hq⟩:=hq
   refine ⟨?_,hq⟩; rcases i7.mp he' with he' | he'
   . exact ⟨e',he',rfl⟩
   . rw [c8.mp he'] at hq
     omega
structure BkA (L:List Dp) (B:List Ad):Prop where
 ad:Adds L B
 bk:Bk B
 wd:∀ a∈B,Yl a.w
 id:∀ a∈B,okI a.p
 inL:∀ a∈B,(a.d,a.p)∈L
 len:B.length<=L.length
theorem bka:∀ (n:Nat) (L:List Dp),L.length=n->BkW L->∃ B,BkA L B
 | 0,L,hn,_=>by
   rw [w8.mp hn]; exact ⟨[],.nil,.nil,(fun _ h=>nomatch h),(fun _ h=>nomatch h),(fun _ h=>nomatch h),f8 _⟩
 | n+1,L,hn,h=>by
   have hne:L≠[]:=fun z=>by rw [z] at hn; cases hn
   obtain ⟨L',e,rfl⟩:∃ L' e,L=L'++[e]:=⟨L.dropLast,L.getLast hne,(KZ hne).symm⟩; have h':=h.init; obtain ⟨B,A⟩:=bka n L' (by simpa using hn) h';have hu':=BW.mp h.2; have we:=h.1 e (i7.mpr (.inr (.head _))); rcases we.shape with ⟨b,w,e1,hb,hw⟩ | ⟨k,x,xs,e1,hk⟩
   . have hx : ∃ x : Option (IdP × Nat), b = anD x /\ (x = none \/ ∃ a ∈ B, ∃ n, n < a.w.length /\ x = some (a.p, n)) := by
       rcases hb with rfl | ⟨p,b',w',n',hm,rfl,hn',hp,ho⟩
       . exact ⟨none,rfl,.inl rfl⟩
       . rw [m4] at hm
         rcases i7.mp hm with hm | hm
         . obtain ⟨a,ha,rfl,rfl⟩:=A.ad.of hm
           exact ⟨some (a.p,n'),rfl,.inr ⟨a,ha,n',hn',rfl⟩⟩
         . exfalso
           have he:AD [.str "add",idP p,b',.str w']=e.1:=by simpa using hm
           rw [e1] at he;injection he with he
           injection he with _ he
           injection he with he _
           rw [Xi he] at hp; omega
     obtain ⟨x,rfl,hx⟩:=hx; have ee:e=((⟨e.2,x,w⟩:Ad).d,(⟨e.2,x,w⟩:Ad).p):=JT e1 rfl; refine ⟨B++[⟨e.2,x,w⟩],?_,.snoc A.bk (by have:=hw.1; show 0 < w.length; omega) (fun a ha=>hu'.2.2 _ (A.inL a ha) e (c8.mpr rfl)) hx,fun a ha=>?_,fun a ha=>?_,fun a ha=>?_,by simp; exact A.len⟩
     . rw [ee]; exact A.ad.snoc _
     . rcases i7.mp ha with ha | ha
       . exact A.wd a ha
       . rw [c8.mp ha]; exact hw
     . rcases i7.mp ha with ha | ha
       . exact A.id a ha
       . rw [c8.mp ha]; exact we.1
     . rcases i7.mp ha with ha | ha
       . exact i7.mpr (.inl (A.inL a ha))
       . rw [c8.mp ha,<- ee]; exact i7.mpr (.inr (.head _))
   . refine ⟨B,A.ad.snocO k x xs e1 hk,A.bk,A.wd,A.id,fun a ha=>i7.mpr (.inl (A.inL a ha)),by simp; have:=A.len; omega⟩
theorem zI {L:List Dp} (h:BkW L):∃ B,BkA L B:=bka _ L rfl h
theorem Da (x:zS) (xs:List zS):dIx (.tuple (x::xs)) (.int 0)=some x:=K6 (xs:=x::xs) (j:=0) (by simp)
theorem La (x y:zS) (xs:List zS):dIx (.tuple (x::y::xs)) (.int 1)=some y:=K6 (xs:=x::y::xs) (j:=1) (by simp)
theorem wA (x y z:zS) (xs:List zS):dIx (.tuple (x::y::z::xs)) (.int 2)=some z:=K6 (xs:=x::y::z::xs) (j:=2) (by simp)
theorem bT (x y z u:zS) (xs:List zS):dIx (.tuple (x::y::z::u::xs)) (.int 3)=some u:=K6 (xs:=x::y::z::u::xs) (j:=3) (by simp)
theorem yC (w:Str):K7 [.str w]=some (.int (w.length:Int)):=rfl
theorem lU (a:Ad):D4 [a.d]=.ok (.int (a.w.length:Int)):=by
 unfold D4 P1 Q4 Ad.d;simp_arith [vIf,Da,bT,Fl,pU,yC]
theorem lT {k:Str} {i:zS} {xs:List zS} (h:k ≠ "add"):D4 [.tuple (.str k::i::xs)]=.ok (.int 0):=by
 unfold D4 P1 Q4;have:(k==("add" : Str))=false:=beq_eq_false_iff_ne.mpr h;simp_arith [vIf,Da,Fl,this]
noncomputable def Xd (kvs:Kvs) (x:zS):zS:=(Q8 kvs x).getD (.list [])
theorem Bb (x y:Option (IdP×Nat)):g9 (anD x) (anD y)=decide (x=y):=by
 cases x with
 | none=>cases y with
   | none=>rfl
   | some s=>rfl
 | some s=>cases y with
   | none=>rfl
   | some t =>
     show ((g9 (idP s.1) (idP t.1))&&((g9 (.int s.2) (.int t.2))&&true))=_;show (((s.1.1==t.1.1)&&((s.1.2==t.1.2)&&true))&&(((s.2:Int)==(t.2:Int))&&true))=_;rw [BM]; obtain ⟨⟨a,b⟩,c⟩:=s; obtain ⟨⟨a',b'⟩,c'⟩:=t; simp;intro _ _; omega
def pX (kvs:Kvs):Prop:=∀ p∈kvs,(∃ x,p.1=anD x)/\∃ ds,p.2=.list ds
theorem gE {kvs:Kvs} (h:pX kvs) (x:Option (IdP×Nat)) (v:zS):pX (Hf kvs (anD x) v)/\∀ y,∃ ds,Xd kvs (anD y)=.list ds/\Xd (Hf kvs (anD x) v) (anD y)=.list (if x=y then ds++[v] else ds):=by
 induction kvs with
 | nil =>
   refine ⟨fun p hp=>?_,fun y=>⟨[],rfl,?_⟩⟩
   . rw [c8.mp hp]; exact ⟨⟨x,rfl⟩,_,rfl⟩
   . show ((List.find? (fun p=>g9 p.1 (anD y)) [(anD x,FV [v])]).map (·.2)).getD (.list [])=_
     rw [m7,Bb];by_cases c:x=y
     . rw [decide_eq_true c,if_pos c]; rfl
     . rw [decide_eq_false c,if_neg c]; rfl
 | cons p r ih =>
   obtain ⟨⟨z,hz⟩,ds0,hd⟩:=h p (.head _); obtain ⟨i1,i2⟩:=ih fun q hq=>h q (.tail _ hq);unfold Hf; rw [hz,Bb];by_cases c:z=x
   . rw [if_pos (decide_eq_true c),hd]
     refine ⟨fun q hq=>?_,fun y=>?_⟩
     . rcases a9.mp hq with rfl | hq
       . exact ⟨⟨z,rfl⟩,_,rfl⟩
       . exact h q (.tail _ hq)
     . unfold Xd Q8
       rw [m7,m7,hz,Bb];by_cases c2:z=y
       . rw [decide_eq_true c2]
         exact ⟨ds0,by rw [show (some p:Option (zS×zS)).map (·.2)=some p.2 from rfl,hd]; rfl,by rw [if_pos (c.symm.trans c2)]; rfl⟩
       . rw [decide_eq_false c2]
         obtain ⟨ds,e1,_⟩:=i2 y; exact ⟨ds,e1,by rw [if_neg (fun w=>c2 (c.trans w))]; exact e1⟩
   . rw [if_neg (by rw [decide_eq_false c]; decide)]
     refine ⟨fun q hq=>?_,fun y=>?_⟩
     . rcases a9.mp hq with rfl | hq
       . exact ⟨⟨z,hz⟩,_,hd⟩
       . exact i1 q hq
     . unfold Xd Q8
       rw [m7,m7,hz,Bb];by_cases c2:z=y
       . rw [decide_eq_true c2]
         exact ⟨ds0,by rw [show (some p:Option (zS×zS)).map (·.2)=some p.2 from rfl,hd]; rfl,by rw [if_neg (fun w=>c (c2.trans w.symm)),show (some p:Option (zS×zS)).map (·.2)=some p.2 from rfl,hd]; rfl⟩
       . rw [decide_eq_false c2]
         exact i2 y
theorem Yi (x:Option (IdP×Nat)):nkD (anD x)=true:=by
 cases x with
 | none=>rfl
 | some s=>simp [anD,nkD,Hd,isK,x4,w5]
theorem yS {L:List Dp} {B:List Ad} (h:Adds L B) (hp:∀ a∈B,0 < a.w.length) (bk:zS):∀ (kvs:Kvs),pX kvs->∃ out,Ko [.sh bk,.un,.un] 2 (C1 (b2 (B6 (A2 (A1 2) A7) D4) (vC (.int 0)) (Cv .Gt))) (b2 (A1 2) (vC (.int 2)) dIx) (A1 2) (L.map (·.1)) kvs=.ok out /\
   ∀ y,∃ ds,Xd kvs (anD y)=.list ds/\Xd out (anD y)=.list (ds++(B.filter fun a=>a.b=y).map Ad.d):=by
 induction h with
 | nil =>
   intro kvs g; refine ⟨kvs,rfl,fun y=>?_⟩;obtain ⟨ds,e,_⟩:=(gE g none .none).2 y; exact ⟨ds,e,by simpa using e⟩
 | @add L B a _ ih =>
   intro kvs g; obtain ⟨g1,g2⟩:=gE g a.b a.d; obtain ⟨out,e,k⟩:=ih (fun c hc=>hp c (.tail _ hc)) _ g1;have ha:=hp a (.head _); have gt:Cv .Gt (.int (a.w.length:Int)) (.int 0)=some (.bool true):=by
     show some (x5 (decide ((0:Int) < a.w.length)))=_;rw [decide_eq_true (by omega)]
   refine ⟨out,?_,fun y=>?_⟩
   . rw [c7]
     unfold Ko; have e1:(C1 (b2 (B6 (A2 (A1 2) A7) D4) (vC (.int 0)) (Cv .Gt))) ([Sl.sh bk,.un,.un].set 2 (.sh a.d))=.ok true:=by simp_arith [lU,gt]
     have e2:(b2 (A1 2) (vC (.int 2)) dIx) ([Sl.sh bk,.un,.un].set 2 (.sh a.d))=.ok (anD a.b):=by unfold Ad.d; simp_arith [wA]
     rw [e1,e2]; show (if nkD (anD a.b)=true then _ else _)=_;rw [if_pos (Yi _)]; exact e
   . obtain ⟨ds,e3,e4⟩:=g2 y
     obtain ⟨ds',e5,e6⟩:=k y; rw [e4] at e5; cases e5; refine ⟨ds,e3,?_⟩; rw [e6];by_cases c:a.b=y
     . rw [if_pos c,BR,if_pos (by simpa using c)]; simp
     . rw [if_neg c,BR,if_neg (by simpa using c)]
 | @oth L B e k x xs he hk _ ih =>
   intro kvs g; obtain ⟨out,e2,kk⟩:=ih hp kvs g; refine ⟨out,?_,kk⟩; rw [c7]; unfold Ko; have gt:Cv .Gt (.int 0) (.int 0)=some (.bool false):=rfl; have e1:(C1 (b2 (B6 (A2 (A1 2) A7) D4) (vC (.int 0)) (Cv .Gt))) ([Sl.sh bk,.un,.un].set 2 (.sh e.1))=.ok false:=by rw [he]; simp_arith [lT hk,gt]
   rw [e1]; exact e2
theorem kD {L:List Dp} {B:List Ad} (A:BkA L B) (hl:L.length<=9):∃ out,Q2 [.tuple (L.map (·.1))]=.ok out/\∀ y,Xd out (anD y)=.list ((B.filter fun a=>a.b=y).map Ad.d):=by
 obtain ⟨out,e,k⟩:=yS A.ad A.bk.pos (.tuple (L.map (·.1))) [] (fun _ h=>nomatch h);refine ⟨out,?_,fun y=>?_⟩
 . unfold Q2 Ar Z8 fnW E9 Ou Ga iC aI
   simp only [c7,y9,i0,p4,AC,AB,i4,p8,l3,j0,j4,u7,MK,W9,S9,B9,D2,D6]; rw [if_pos ⟨by rw [zZ]; omega,by decide⟩,e];rfl
 . obtain ⟨ds,e1,e2⟩:=k y
   cases e1; exact e2
noncomputable def bG:Dn->Out:=(C5 (iB 2 4) (C5 (G6 5 (b2 (A1 4) (vC (.int 0)) dIx)) (C5 (G6 6 (b2 (A1 4) (vC (.int 1)) dIx)) (C5 (G6 7 (I9 (A2 (b2 (A1 5) (vC (.int 1)) dIx) (A2 (A1 6) A7)))) (C5 (Cn 3 (I9 (A2 (A1 7) (A2 (b2 (b2 (A1 5) (vC (.int 3)) dIx) (A1 6) dIx) A7)))) (C5 (sIf (C1 (b2 (b2 (A1 6) (vC (.int 1)) D3) (vFn (A2 (b2 (A1 5) (vC (.int 3)) dIx) A7) K7) (D9 .Lt))) (Cn 2 (I9 (A2 (A1 5) (A2 (b2 (A1 6) (vC (.int 1)) D3) A7)))) E4) (iD 2 (D7 (fun δ=>((Ow 1 (A1 7) (E8 A7)) δ).bind D2) C6 [] E5 (I9 (A2 (A1 0) (A2 (vC (.int 0)) A7)))))))))))
abbrev wt (u:As):zS:=.tuple [u.1.d,.int (u.2:Int)]
noncomputable def ltr (u:As):Str:=⟨#[u.1.w.cps.toList.getD u.2 0]⟩
abbrev sgA (u:As):zS:=sgD u.1.p (u.2:Int)
abbrev tl (u:As):zS:=.tuple [sgA u,.str (ltr u)]
theorem Pe (x:Str):x.length=x.cps.toList.length:=by unfold Str.length; simp
theorem nN {u:As} (h:u.2 < u.1.w.length):dIx (.str u.1.w) (.int (u.2:Int))=some (.str (ltr u)):=by
 have h':u.2 < u.1.w.cps.toList.length:=by rw [<- Pe]; exact h
 show (atI u.1.w.cps.toList (u.2:Int)).map _=_;rw [K6 h'];unfold ltr;rw [BF,l0 h'];rfl
theorem qW {i j:Nat} {δ:Dn} {W:List zS} {d:zS} (h:δ[i]? = some (.ow (.list (W++[d])))) (hij:i≠j):iB i j δ=.nx ((δ.set i (.ow (.list W))).set j (.sh d)):=by
 unfold iB;rw [h];simp [hij]
theorem Gv {i:Nat} {δ:Dn} {f:Dn->Res zS} {W:List zS} {d:zS} (h:δ[i]? = some (.ow (.list W))) (hf:f δ=.ok d) (hl:W.length<=1000):Cn i f δ=.nx (δ.set i (.ow (.list (W++[d])))):=by
 unfold Cn;rw [h];show M1 (f δ) _=_;rw [hf,D6,if_pos (EZ hl (by decide))]
theorem qY {i:Nat} {δ:Dn} {f:Dn->Res (List zS)} {W ds:List zS} (h:δ[i]? = some (.ow (.list W))) (hf:f δ=.ok ds) (hl:W.length+ds.length<=1000):iD i f δ=.nx (δ.set i (.ow (.list (W++ds)))):=by
 unfold iD;rw [h];show M1 (f δ) _=_;rw [hf,D6,if_pos (i6 hl (by decide))]
theorem fW (δc:Dn):∀ ds:List Ad,C7 C6 δc E5 (I9 (A2 (A1 0) (A2 (vC (.int 0)) A7))) (ds.map Ad.d)=.ok (ds.map fun a=>wt (a,0))
 | ds=>Ku Ad.d (fun a=>wt (a,0)) (fun a=>by simp_arith; rfl) ds
theorem Run.len {B:List Ad} {st out:List As} (h:Run B st out):st.length<=out.length:=by
 induction h with
 | nil=>exact f8 _
 | step _ ih=>simp only [l8,i0] at ih ⊢; omega
theorem sS (B:List Ad) (u:As):(Ik B u).map wt=((B.filter fun a=>a.b=some (sgn u)).map fun a=>wt (a,0)):=by
 unfold Ik;rw [BE]; rfl
theorem qO {B:List Ad} {b:zS} {kvs:Kvs} (hk:∀ y,Xd kvs (anD y)=.list ((B.filter fun a=>a.b=y).map Ad.d)) {u:As} (hu:u.2 < u.1.w.length) (W T:List zS) (hl:W.length+1+(Ik B u).length<=900) (hT:T.length<=900) (s4 s5 s6 s7:Sl) :
   ∃ t4 t5 t6 t7,bG [.sh b,.ow (.tuple [.dict kvs,.none]),.ow (.list (W++[wt u])),.ow (.list T),s4,s5,s6,s7]=.nx [.sh b,.ow (.tuple [.dict kvs,.none]),.ow (.list (W++(nxt u).map wt++(Ik B u).map wt)),.ow (.list (T++[tl u])),t4,t5,t6,t7]:=by
 refine ⟨.sh (wt u),.sh u.1.d,.sh (.int u.2),.sh (sgA u),?_⟩;unfold bG;rw [C2 (qW (W:=W) rfl (by decide))];simp only [j0,j4];rw [C2 (F8 (d:=u.1.d) (by simp_arith [Da]))];simp only [j0,j4];rw [C2 (F8 (d:=.int (u.2:Int)) (by simp_arith [La]))];simp only [j0,j4];rw [C2 (F8 (d:=sgA u) (by unfold Ad.d; simp_arith [La]))];simp only [j0,j4];rw [C2 (Gv (W:=T) (d:=tl u) rfl (by unfold Ad.d; simp_arith [bT,nN hu]) (by omega))];simp only [j0,j4];have hif : sIf (C1 (b2 (b2 (A1 6) (vC (.int 1)) D3) (vFn (A2 (b2 (A1 5) (vC (.int 3)) dIx) A7) K7) (D9 .Lt))) (Cn 2 (I9 (A2 (A1 5) (A2 (b2 (A1 6) (vC (.int 1)) D3) A7)))) E4 [.sh b, .ow (.tuple [.dict kvs, .none]), .ow (.list W), .ow (.list (T ++ [tl u])), .sh (wt u), .sh u.1.d, .sh (.int u.2), .sh (sgA u)]
     = .nx [.sh b,.ow (.tuple [.dict kvs,.none]),.ow (.list (W++(nxt u).map wt)),.ow (.list (T++[tl u])),.sh (wt u),.sh u.1.d,.sh (.int u.2),.sh (sgA u)]:=by
   unfold nxt;by_cases c:u.2+1 < u.1.w.length
   . rw [if_pos c,W3 (by unfold Ad.d; simp_arith [bT,yC,W8,iY (show (u.2:Int)+1 < (u.1.w.length:Int) by omega)])]
     rw [Gv (W:=W) (d:=wt (u.1,u.2+1)) rfl (by simp_arith [W8]; rfl) (by omega)];rfl
   . rw [if_neg c,P2 (by unfold Ad.d; simp_arith [bT,yC,W8,iZ (show ¬ (u.2:Int)+1 < (u.1.w.length:Int) by omega)])]
     simp [E4]
 rw [C2 hif];have hnl:(nxt u).length<=1:=by unfold nxt; split <;> simp
 have hgl:(B.filter fun a=>a.b=some (sgn u)).length=(Ik B u).length:=by unfold Ik; rw [zZ]
 have hget:(fun δ=>((Ow 1 (A1 7) (E8 A7)) δ).bind D2) [.sh b,.ow (.tuple [.dict kvs,.none]),.ow (.list (W++(nxt u).map wt)),.ow (.list (T++[tl u])),.sh (wt u),.sh u.1.d,.sh (.int u.2),.sh (sgA u)]=.ok ((B.filter fun a=>a.b=some (sgn u)).map Ad.d):=by
   refine D8 (d:=.list ((B.filter fun a=>a.b=some (sgn u)).map Ad.d)) ?_ rfl;rw [<- hk (some (sgn u))]; show (if nkD (anD (some (sgn u)))=true then Res.ok ((Q8 kvs (anD (some (sgn u)))).getD (.list [])) else Res.no)=_;rw [if_pos (Yi (some (sgn u)))]; rfl
 rw [qY (W:=W++(nxt u).map wt) (ds:=(Ik B u).map wt) rfl (E1 hget (by rw [zZ,hgl]; omega) rfl (by rw [sS]; exact fW _ _)) (by simp only [l8,zZ]; omega)];rfl
theorem kJ {B:List Ad} {b:zS} {kvs:Kvs} (hk:∀ y,Xd kvs (anD y)=.list ((B.filter fun a=>a.b=y).map Ad.d)) {st out:List As} (h:Run B st out):(∀ u∈out,u.2 < u.1.w.length)->∀ (n:Nat) (T:List zS) (s4 s5 s6 s7:Sl),out.length < n->T.length+out.length<=800 ->
   ∃ t4 t5 t6 t7,Aa (bD 2) bG n [.sh b,.ow (.tuple [.dict kvs,.none]),.ow (.list (st.reverse.map wt)),.ow (.list T),s4,s5,s6,s7]=.nx [.sh b,.ow (.tuple [.dict kvs,.none]),.ow (.list []),.ow (.list (T++out.map tl)),t4,t5,t6,t7]:=by
 induction h with
 | nil =>
   intro _ n T s4 s5 s6 s7 hn _;cases n with
   | zero=>cases hn
   | succ n =>
     refine ⟨s4,s5,s6,s7,?_⟩; unfold Aa; rw [show bD 2 [Sl.sh b,.ow (.tuple [.dict kvs,.none]),.ow (.list (([]:List As).reverse.map wt)),.ow (.list T),s4,s5,s6,s7]=.ok false from rfl,D6,if_neg (by decide)];simp
 | @step u st out h ih =>
   intro hu n T s4 s5 s6 s7 hn hT; have hlen:=h.len; simp only [l8,IT,i0] at hlen hn hT;cases n with
   | zero=>cases hn
   | succ n =>
     have e1:(u::st).reverse.map wt=st.reverse.map wt++[wt u]:=by rw [List.reverse_cons,m4]; rfl
     rw [e1]; obtain ⟨a4,a5,a6,a7,e2⟩:=qO (b:=b) hk (hu u (.head _)) (st.reverse.map wt) T (by rw [zZ,IT]; omega) (by omega) s4 s5 s6 s7;have e3:(st.reverse.map wt++(nxt u).map wt++(Ik B u).map wt)=((Ik B u).reverse++(nxt u++st)).reverse.map wt:=by
       have hr:(nxt u).reverse=nxt u:=by unfold nxt; split <;> rfl
       rw [GI,GI,NR,hr,m4,m4]
     rw [e3] at e2; obtain ⟨t4,t5,t6,t7,e4⟩:=ih (fun v hv=>hu v (.tail _ hv)) n (T++[tl u]) a4 a5 a6 a7 (by omega) (by rw [l8]; simp; omega);refine ⟨t4,t5,t6,t7,?_⟩; unfold Aa; have ec:bD 2 [Sl.sh b,.ow (.tuple [.dict kvs,.none]),.ow (.list (st.reverse.map wt++[wt u])),.ow (.list T),s4,s5,s6,s7]=.ok true:=by
       show Res.ok (!(st.reverse.map wt++[wt u]).isEmpty)=_;simp
     rw [ec,D6,if_pos rfl,e2]; show Aa (bD 2) bG n _=_;rw [e4,z4]; rfl
theorem qT {B:List Ad} (h:∀ a∈B,Yl a.w):(sgs B).length<=4*B.length:=by
 unfold sgs;induction B with
 | nil=>exact f8 _
 | cons a B ih =>
   rw [List.flatMap_cons,l8,i0]; have:=ih fun c hc=>h c (.tail _ hc);have h2:=(h a (.head _)).2.1; have h3:(blk a).length=a.w.length:=by unfold blk; simp
   omega
theorem Az {L:List Dp} {B:List Ad} (A:BkA L B):(ord B).length<=4*L.length:=by
 have h1:=(mW A.bk).length_eq;have h2:=qT A.wd;have h3:=A.len;omega
theorem Zg {L:List Dp} {B:List Ad} (A:BkA L B) (hl:L.length<=9):Y4 [.tuple (L.map (·.1))]=.ok (.list ((ord B).map tl)):=by
 obtain ⟨kvs,e1,hk⟩:=kD A hl;have hol:=Az A;unfold Y4 Ep O5;refine K4 ?_;unfold E9;simp only [c7,y9,i0,p4,AC,AB,i4,p8,l3];rw [C2 (δ':=[.sh (.tuple (L.map (·.1))),.ow (.tuple [.dict kvs,.none]),.un,.un,.un,.un,.un,.un]) (by unfold Dd X8 Fq; simp_arith [e1])];have hrl:(Nc B).length<=36:=by
   have:=(eS A.bk).len; rw [IT] at this; omega
 have hgl:(B.filter fun a=>a.b=none).length=(Nc B).length:=by unfold Nc; rw [zZ]
 have hget:(fun δ=>((Ow 1 (vC .none) (E8 A7)) δ).bind D2) [.sh (.tuple (L.map (·.1))),.ow (.tuple [.dict kvs,.none]),.un,.un,.un,.un,.un,.un]=.ok ((B.filter fun a=>a.b=none).map Ad.d):=by
   refine D8 (d:=.list ((B.filter fun a=>a.b=none).map Ad.d)) ?_ rfl;rw [<- hk none]; rfl
 rw [C2 (δ':=[.sh (.tuple (L.map (·.1))),.ow (.tuple [.dict kvs,.none]),.ow (.list (((Nc B).reverse).reverse.map wt)),.un,.un,.un,.un,.un]) (by
   unfold Dc Nt; rw [E1 hget (by rw [zZ,hgl]; omega) rfl (fW _ _),D6,NR];unfold Nc; rw [BE]; rfl)]
 rw [C2 (δ':=[.sh (.tuple (L.map (·.1))),.ow (.tuple [.dict kvs,.none]),.ow (.list (((Nc B).reverse).reverse.map wt)),.ow (.list []),.un,.un,.un,.un]) (by rfl)];obtain ⟨t4,t5,t6,t7,e2⟩:=kJ (b:=.tuple (L.map (·.1))) hk (eS A.bk) (fun u hu=>((Es A.bk u).mp hu).2) 4096 [] .un .un .un .un (by omega) (by simp; omega);rw [l3] at e2;have e3:Db=Aa (bD 2) bG 4096:=rfl;rw [e3,C2 e2];rfl
noncomputable def Vg:Dn->Out:=(sIf (Ag (C1 (b2 (b2 (A1 2) (vC (.int 0)) dIx) (vC (.str "undo")) dEq)) (C1 (Q6 true 1 (b2 (A1 2) (vC (.int 1)) dIx)))) (Kb 1 (b2 (A1 2) (vC (.int 2)) dIx) (vC (.bool true))) E4)
noncomputable def Mq:Dn->Out:=(sIf (Ag (C1 (b2 (b2 (A1 3) (vC (.int 0)) dIx) (vC (.str "drop")) dEq)) (C1 (Q6 true 1 (b2 (A1 3) (vC (.int 1)) dIx)))) (O3 (fun δ=>((b2 (A1 3) (vC (.int 2)) dIx) δ).bind D2) (st1 4) (Kb 2 (A1 4) (vC (.bool true)))) E4)
abbrev sgO (s:IdP×Nat):zS:=anD (some s)
inductive Kd (e:Dp):Prop where
 | drop (ss:List (IdP×Nat)):e.1=.tuple [.str "drop",idP e.2,.tuple (ss.map sgO)]->ss.length<=40->Kd e
 | undo (q:IdP):e.1=.tuple [.str "undo",idP e.2,idP q]->Kd e
 | oth (k:Str) (x:zS) (xs:List zS):e.1=.tuple (.str k::idP e.2::x::xs)->k ≠ "drop" -> k ≠ "undo" -> Kd e
theorem Zi {T:Int} {D:List zS}:∀ (sg:List zS),(∀ x∈sg,SgOf T D x)->∃ ss:List (IdP×Nat),sg=ss.map sgO
 | [],_=>⟨[],rfl⟩
 | x::sg,h=>by
   obtain ⟨ss,e⟩:=Zi sg fun y hy=>h y (.tail _ hy);obtain ⟨p,b,w,n,_,e1,_⟩:=h x (.head _); exact ⟨(p,n)::ss,by rw [c7,<- e,e1]; rfl⟩
theorem WfIn.kd {L:List Dp} {e:Dp} (h:WfIn L e):Kd e:=by
 obtain ⟨o,r⟩:=(show Wf _ _ _ _ from h);rcases r with ⟨b,w,e1,_⟩ | ⟨sg,e1,hs,hl,_⟩ | ⟨n,s1,x1,s2,x2,e1,_⟩ | ⟨n,e1,_⟩ | ⟨q,e1,_⟩
 . exact .oth "add" _ _ e1 (by decide) (by decide)
 . obtain ⟨ss,rfl⟩:=Zi sg hs
   exact .drop ss e1 (by simpa using hl)
 . exact .oth "mark" _ _ e1 (by decide) (by decide)
 . exact .oth "unmark" _ _ e1 (by decide) (by decide)
 . exact .undo q e1
theorem Kd.id {e:Dp} (h:Kd e):∃ k x xs,e.1=.tuple (.str k::idP e.2::x::xs):=by
 cases h with
 | drop ss h _=>exact ⟨_,_,_,h⟩
 | undo q h=>exact ⟨_,_,_,h⟩
 | oth k x xs h _ _=>exact ⟨_,_,_,h⟩
abbrev oN (kvs:Kvs):Sl:=.ow (.tuple [.dict kvs,.none])
abbrev fN (kvs:Kvs):Sl:=.fd ((.dict [],.none)::kvs)
theorem Ed {b:Bool} {i:Nat} {f:Dn->Res zS} {δ:Dn} {kvs:Kvs} {kd:zS} (h:kvN δ i=some kvs) (hf:f δ=.ok kd) (hk:nkD kd=true):Q6 b i f δ=.ok (.bool ((Q8 kvs kd).isSome != b)):=by
 unfold Q6;rw [hf,B9,h];show (if nkD kd=true then _ else _)=_;rw [if_pos hk]
theorem X5 (p:IdP):nkD (idP p)=true:=by simp [nkD,Hd,isK,x4,w5]
theorem Zr {i:Nat} {fk fv:Dn->Res zS} {δ:Dn} {kvs:Kvs} {kd v:zS} (h:δ[i]? = some (oN kvs)) (hv:fv δ=.ok v) (hk:fk δ=.ok kd) (hn:nkD kd=true) (hl:kvs.length<=1000):Kb i fk fv δ=.nx (δ.set i (oN (V0 kvs kd v))):=by
 unfold Kb;rw [h];show M1 (fv δ) _=_;rw [hv,D6,hk,D6,if_pos ⟨hn,EZ hl (by decide)⟩]
theorem Za {x y:Str} (h:x≠y):(x==y)=false:=beq_eq_false_iff_ne.mpr h
theorem eM (x:Str):(x==x)=true:=beq_self_eq_true x
abbrev has (kvs:Kvs) (y:Option (IdP×Nat)):Bool:=(Q8 kvs (anD y)).isSome
abbrev Kz (kvs:Kvs):Prop:=∀ p∈kvs,∃ x,p.1=anD x
theorem mG {kvs:Kvs} (h:Kz kvs) (x:Option (IdP×Nat)) (v:zS):Kz (V0 kvs (anD x) v)/\∀ y,has (V0 kvs (anD x) v) y=(decide (x=y)||has kvs y):=by
 induction kvs with
 | nil =>
   refine ⟨fun p hp=>?_,fun y=>?_⟩
   . rw [c8.mp hp]; exact ⟨x,rfl⟩
   . show ((List.find? (fun p=>g9 p.1 (anD y)) [(anD x,v)]).map (·.2)).isSome=_
     rw [m7,Bb];cases decide (x=y) <;> rfl
 | cons p r ih =>
   obtain ⟨z,hz⟩:=h p (.head _); obtain ⟨i1,i2⟩:=ih fun q hq=>h q (.tail _ hq);unfold V0; rw [hz,Bb];by_cases c:z=x
   . rw [if_pos (decide_eq_true c)]
     refine ⟨fun q hq=>?_,fun y=>?_⟩
     . rcases a9.mp hq with rfl | hq
       . exact ⟨z,rfl⟩
       . exact h q (.tail _ hq)
     . unfold has Q8
       rw [m7,m7,hz,Bb,c];cases decide (x=y) <;> rfl
   . rw [if_neg (by rw [decide_eq_false c]; decide)]
     refine ⟨fun q hq=>?_,fun y=>?_⟩
     . rcases a9.mp hq with rfl | hq
       . exact ⟨z,hz⟩
       . exact i1 q hq
     . unfold has Q8
       rw [m7,m7,hz,Bb];cases hd:decide (z=y) with
       | true=>simp
       | false=>exact i2 y
noncomputable def Ks (un:IdP->Bool) (e:Dp) (s:IdP×Nat):Bool:=match e.1 with
 | .tuple (.str k::_::.tuple xs::_)=>(k == "drop")&&(!un e.2)&&(xs.any fun y=>g9 y (sgO s))
 | _=>false
theorem jS {un:IdP->Bool} {e:Dp} {s:IdP×Nat} {k:Str} {i x:zS} {xs:List zS} (h:e.1=.tuple (.str k::i::x::xs)) (hk:k ≠ "drop"):Ks un e s=false:=by
 unfold Ks;rw [h];split
 . rename_i heq
   injection heq with heq
   injection heq with h1 _
   injection h1 with h1
   rw [<- h1,Za hk]; rfl
 . rfl
theorem Zy (b:zS) (ku:Kvs) (s3:Sl):∀ (ss:List (IdP×Nat)) (kvs:Kvs) (s4:Sl),Kz kvs->kvs.length+ss.length<=900->∃ kvs' s4',Kz kvs'/\kvs'.length<=kvs.length+ss.length/\(∀ y,has kvs' y=(has kvs y||ss.any fun s=>decide (some s=y))) /\
   F9 (st1 4) (Kb 2 (A1 4) (vC (.bool true))) (ss.map sgO) [.sh b,fN ku,oN kvs,s3,s4]=.nx [.sh b,fN ku,oN kvs',s3,s4']
 | [],kvs,s4,hk,_=>⟨kvs,s4,hk,by simp,fun y=>by simp,rfl⟩
 | s::ss,kvs,s4,hk,hl=>by
   rw [i0] at hl; obtain ⟨g1,g2⟩:=mG hk (some s) (.bool true); have l1:=Gd (k:=sgO s) (v:=x5 true) kvs; obtain ⟨kvs',s4',k1,k2,k3,k4⟩:=Zy b ku s3 ss (V0 kvs (sgO s) (.bool true)) (.sh (sgO s)) g1 (by omega);refine ⟨kvs',s4',k1,by rw [i0]; omega,fun y=>?_,?_⟩
   . rw [k3,g2,JC]
     cases decide (some s=y) <;> simp
   . rw [c7]
     unfold F9; simp only [st1,j0,j4]; rw [Zr (kd:=sgO s) (v:=.bool true) rfl rfl rfl (Yi _) (by omega)]; exact k4
theorem oT {e:Dp} (h:Kd e) (b:zS) (ku kvs:Kvs) (s4:Sl) (hk:Kz kvs) (hl:kvs.length<=800):∃ kvs' s4',Kz kvs'/\kvs'.length<=kvs.length+40/\(∀ s,has kvs' (some s)=(has kvs (some s)||Ks (fun p=>(Q8 ku (idP p)).isSome) e s)) /\
   Mq [.sh b,fN ku,oN kvs,.sh e.1,s4]=.nx [.sh b,fN ku,oN kvs',.sh e.1,s4']:=by
 have no : ∀ k x xs, e.1 = .tuple (.str k :: idP e.2 :: x :: xs) -> k ≠ "drop" -> ∃ kvs' s4', Kz kvs' /\ kvs'.length <= kvs.length + 40 /\ (∀ s, has kvs' (some s) = (has kvs (some s) || Ks (fun p => (Q8 ku (idP p)).isSome) e s)) /\
     Mq [.sh b,fN ku,oN kvs,.sh e.1,s4]=.nx [.sh b,fN ku,oN kvs',.sh e.1,s4']:=fun k x xs e1 hn=>by
   refine ⟨kvs,s4,hk,by omega,fun s=>by rw [jS e1 hn,MG],?_⟩;unfold Mq; rw [P2 (Rt (by rw [e1]; simp_arith [Da,Fl,Za hn]))];rfl
 cases h with
 | undo q h=>exact no _ _ _ h (by decide)
 | oth k x xs h h1 _=>exact no _ _ _ h h1
 | drop ss h hss =>
   have c1:(C1 (b2 (b2 (A1 3) (vC (.int 0)) dIx) (vC (.str "drop")) dEq)) [.sh b,fN ku,oN kvs,.sh e.1,s4]=.ok true:=by rw [h]; simp_arith [Da,Fl,eM]
   have c2:(C1 (Q6 true 1 (b2 (A1 3) (vC (.int 1)) dIx))) [.sh b,fN ku,oN kvs,.sh e.1,s4]=.ok ((Q8 ku (idP e.2)).isSome != true):=by
     refine B8 (Ed rfl ?_ (X5 e.2)); rw [h]; simp_arith [La]
   have hd:∀ s,Ks (fun p=>(Q8 ku (idP p)).isSome) e s=(!(Q8 ku (idP e.2)).isSome&&ss.any fun t=>decide (some t=some s)):=fun s=>by
     unfold Ks; rw [h]; show (("drop" : Str) == "drop" && (!(Q8 ku (idP e.2)).isSome)&&((ss.map sgO).any fun y=>g9 y (sgO s)))=_;rw [eM,Bool.true_and,MR];congr 1;congr 1;funext t;exact Bb _ _
   unfold Mq;cases c:(Q8 ku (idP e.2)).isSome with
   | true =>
     rw [c] at c2 hd; rw [P2 (Kx c1 c2)]; exact ⟨kvs,s4,hk,by omega,fun s=>by rw [hd]; simp,rfl⟩
   | false =>
     rw [c] at c2 hd; obtain ⟨kvs',s4',k1,k2,k3,k4⟩:=Zy b ku (.sh e.1) ss kvs s4 hk (by omega);refine ⟨kvs',s4',k1,by omega,fun s=>by rw [k3,hd]; simp,?_⟩;rw [W3 (Kw c1 c2)]; unfold O3; rw [D8 (d:=.tuple (ss.map sgO)) (ds:=ss.map sgO) (by rw [h]; simp_arith [wA]) rfl,D6];exact k4
theorem aU (b:zS) (ku:Kvs):∀ (ds:List Dp),(∀ e∈ds,Kd e)->∀ (kvs:Kvs) (s3 s4:Sl),Kz kvs->kvs.length+40*ds.length<=800->∃ kvs' s3' s4',Kz kvs'/\(∀ s,has kvs' (some s)=(has kvs (some s)||ds.any fun e=>Ks (fun p=>(Q8 ku (idP p)).isSome) e s)) /\
   F9 (st1 3) Mq (ds.map (·.1)) [.sh b,fN ku,oN kvs,s3,s4]=.nx [.sh b,fN ku,oN kvs',s3',s4']
 | [],_,kvs,s3,s4,hk,_=>⟨kvs,s3,s4,hk,fun s=>by simp,rfl⟩
 | e::ds,h,kvs,s3,s4,hk,hl=>by
   rw [i0] at hl; obtain ⟨kvs1,t4,g1,g2,g3,g4⟩:=oT (h e (.head _)) b ku kvs s4 hk (by omega);obtain ⟨kvs2,u3,u4,k1,k2,k3⟩:=aU b ku ds (fun d hd=>h d (.tail _ hd)) kvs1 (.sh e.1) t4 g1 (by omega);refine ⟨kvs2,u3,u4,k1,fun s=>by rw [k2,g3,JC,Bool.or_assoc],?_⟩;rw [c7]; unfold F9; simp only [st1,j0,j4]; rw [g4]; exact k3
theorem yX {L:List Dp} (h:∀ e∈L,Kd e) (hl:L.length<=9) (ku:Kvs):∃ kd,M7 [.sh (.tuple (L.map (·.1))),fN ku]=.ok kd/\∀ s,has kd (some s)=L.any fun e=>Ks (fun p=>(Q8 ku (idP p)).isSome) e s:=by
 obtain ⟨kd,s3,s4,k1,k2,k3⟩:=aU (.tuple (L.map (·.1))) ku L h [] .un .un (fun _ h=>nomatch h) (by simp; omega);refine ⟨kd,?_,fun s=>by rw [k2]; rfl⟩;unfold M7 Cc Bd tJ En Ou Ga O3 aI;simp only [i0,p4,AC,AB,i4,p8,l3,j0,j4,W9,u7,S9,B9,D2,D6];have k3':=k3;unfold Mq at k3';unfold O3 at k3';rw [k3'];rfl
noncomputable def gA:Dn->Out:=(Cn 3 (I9 (A2 (A1 4) (A2 (X0 (Q6 true 1 (b2 (b2 (A1 4) (vC (.int 0)) dIx) (vC (.int 0)) dIx)) (Q6 true 2 (b2 (A1 4) (vC (.int 0)) dIx))) A7))))
abbrev bkD (L:List Dp):zS:=.tuple (L.map (·.1))
structure Pr (L:List Dp) (ku kd:Kvs):Prop where
 u:G9 [bkD L]=.ok ku
 d:M7 [.sh (bkD L),fN ku]=.ok kd
 h:∀ s,has kd (some s)=L.any fun e=>Ks (fun p=>(Q8 ku (idP p)).isSome) e s
noncomputable def un (ku:Kvs) (p:IdP):Bool:=(Q8 ku (idP p)).isSome
noncomputable def N6 (ku kd:Kvs) (u:As):Bool := !(un ku u.1.p) && !(has kd (some (sgn u)))
theorem bne_true (b:Bool):(b != true) = !b:=by cases b <;> rfl
theorem qF {f g:Dn->Res zS} {δ:Dn} {a b:Bool} (h1:f δ=.ok (.bool a)) (h2:g δ=.ok (.bool b)):X0 f g δ=.ok (.bool (a&&b)):=by
 unfold X0;rw [h1,B9];cases a with
 | true=>exact h2
 | false=>rfl
theorem Ul (b:zS) (ku kd:Kvs):∀ (us:List As) (T:List zS) (s4:Sl),T.length+us.length<=800->∃ s4',F9 (st1 4) gA (us.map tl) [.sh b,fN ku,oN kd,.ow (.list T),s4]=.nx [.sh b,fN ku,oN kd,.ow (.list (T++us.map fun u=>.tuple [tl u,.bool (N6 ku kd u)])),s4']
 | [],T,s4,_=>⟨s4,by simp [F9]⟩
 | u::us,T,s4,hl=>by
   rw [i0] at hl; obtain ⟨s4',e⟩:=Ul b ku kd us (T++[.tuple [tl u,.bool (N6 ku kd u)]]) (.sh (tl u)) (by simp; omega);refine ⟨s4',?_⟩; rw [c7]; unfold F9; simp only [st1,j0,j4]; have e1:(Q6 true 1 (b2 (b2 (A1 4) (vC (.int 0)) dIx) (vC (.int 0)) dIx)) [.sh b,fN ku,oN kd,.ow (.list T),.sh (tl u)]=.ok (.bool (!(un ku u.1.p))):=by
     rw [Ed (kvs:=ku) (kd:=idP u.1.p) rfl (by simp_arith [Da]) (X5 _),bne_true]; rfl
   have e2:(Q6 true 2 (b2 (A1 4) (vC (.int 0)) dIx)) [.sh b,fN ku,oN kd,.ow (.list T),.sh (tl u)]=.ok (.bool (!(has kd (some (sgn u))))):=by
     rw [Ed (kvs:=kd) (kd:=sgA u) rfl (by simp_arith [Da]) (Yi (some (sgn u))),bne_true]; rfl
   have e3:gA [.sh b,fN ku,oN kd,.ow (.list T),.sh (tl u)]=.nx [.sh b,fN ku,oN kd,.ow (.list (T++[.tuple [tl u,.bool (N6 ku kd u)]])),.sh (tl u)]:=by
     unfold gA; exact Gv rfl (T6 (A6 (d:=tl u) (by simp_arith) (A6 (qF e1 e2) rfl))) (by omega)
   rw [e3]; show F9 (st1 4) gA (us.map tl) _=_;rw [e,z4]; rfl
theorem rV {L:List Dp} {B:List Ad} (A:BkA L B) (hl:L.length<=9) {ku kd:Kvs} (P:Pr L ku kd):V2 [bkD L]=.ok (.list ((ord B).map fun u=>.tuple [tl u,.bool (N6 ku kd u)])):=by
 have hol:=Az A;obtain ⟨s4,e⟩:=Ul (bkD L) ku kd (ord B) [] .un (by simp; omega);unfold V2 Aq K9;refine K4 ?_;unfold E9;simp only [c7,y9,i0,p4,AC,AB,i4,p8,l3];rw [C2 (δ':=[.sh (bkD L),oN ku,.un,.un,.un]) (by unfold Y2 X8 Fq; simp_arith [P.u])];rw [C2 (δ':=[.sh (bkD L),fN ku,oN kd,.un,.un]) (by
   unfold Y1 qX X8 Vo; show M1 (Res.bind (Res.ok (bkD L)) fun d=>M7 [.sh d,fN ku]) _=_;rw [B9,P.d]; rfl)]
 rw [C2 (δ':=[.sh (bkD L),fN ku,oN kd,.ow (.list []),.un]) (by rfl)];rw [l3] at e;have e3:U1 [.sh (bkD L),fN ku,oN kd,.ow (.list []),.un]=.nx [.sh (bkD L),fN ku,oN kd,.ow (.list ((ord B).map fun u=>.tuple [tl u,.bool (N6 ku kd u)])),s4]:=by
   unfold U1 O3; rw [D8 (d:=.list ((ord B).map tl)) (ds:=(ord B).map tl) (by simp_arith [Zg A hl]) rfl,D6];exact e
 rw [C2 e3];rfl
theorem W0 {α:Type} {δc:Dn} {tt:Dn->Res Bool} {el:Dn->Res zS} (g h:α->zS) (f:α->Bool):∀ xs:List α,(∀ x∈xs,tt ([.sh (g x)]++δc)=.ok (f x))->(∀ x∈xs,el ([.sh (g x)]++δc)=.ok (h x))->C7 C6 δc tt el (xs.map g)=.ok ((xs.filter f).map h)
 | [],_,_=>rfl
 | x::xs,ht,he=>by
   have ih:=W0 g h f xs (fun y hy=>ht y (.tail _ hy)) fun y hy=>he y (.tail _ hy);have h1:=ht x (.head _); have h2:=he x (.head _); rw [c7]; unfold C7;cases c:f x with
   | true =>
     rw [c] at h1; simp only [C6,h1,h2,ih]; rw [BR,c,if_pos rfl,c7]
   | false =>
     rw [c] at h1; simp only [C6,h1,ih]; rw [BR,c,if_neg (by decide)]
theorem Jw {L:List Dp} {B:List Ad} (A:BkA L B) (hl:L.length<=9) {ku kd:Kvs} (P:Pr L ku kd):J3 [bkD L]=.ok (.list (((ord B).filter (N6 ku kd)).map tl)):=by
 have hol:=Az A;have hp:=rV A hl P;unfold J3 Er Ex;refine K4 (D5 (J2 (E1 (D8 (d:=.list ((ord B).map fun u=>.tuple [tl u,.bool (N6 ku kd u)])) (by simp_arith [hp]) rfl) (by simp; omega) rfl ?_)));exact W0 (fun u=>.tuple [tl u,.bool (N6 ku kd u)]) tl (N6 ku kd) (ord B) (fun u _=>by
   unfold Dl; exact B8 (by simp_arith [La])) fun u _=>by unfold Dl; simp_arith [Da]
theorem Ol (u:As):(ltr u).length=1:=rfl
theorem dE {u:As} (hw:Yl u.1.w) (h:u.2 < u.1.w.length):(ltr u).length=1/\l7 (ltr u)=true/\chOk 32 126 (ltr u):=by
 have h':u.2 < u.1.w.cps.toList.length:=by rw [<- Pe]; exact h
 have hc:=hw.2.2 _ (CZ h');have e:u.1.w.cps.toList.getD u.2 0=u.1.w.cps.toList[u.2]:=by rw [BF,l0 h']; rfl
 refine ⟨rfl,?_,?_⟩
 . unfold ltr
   rw [e];generalize u.1.w.cps.toList[u.2]=c at hc;unfold l7; simp;omega
 . unfold ltr
   rw [e]; exact .one hc
theorem Hw {α:Type} (f:α->Str):∀ us:List α,De (us.map fun u=>AK (f u))=some (us.map f)
 | []=>rfl
 | u::us=>by
   show (De (us.map fun u=>AK (f u))).map _=_;rw [Hw f us]; rfl
theorem nS {us:List As} (h:∀ u∈us,Yl u.1.w/\u.2 < u.1.w.length) (hl:us.length<=100):Rn "" (.list (us.map fun u=>AK (ltr u)))=some (.str (AG "" (us.map ltr))):=by
 have hx:∀ x∈us.map ltr,x.length=1/\l7 x=true/\chOk 32 126 x:=fun x hx=>by
   obtain ⟨u,hu,rfl⟩:=j7.mp hx; exact dE (h u hu).1 (h u hu).2
 obtain ⟨l1,o1,_⟩:=Bj _ hx;have s1:=Pb _ hx;rw [zZ] at l1 s1;show (De (us.map fun u=>AK (ltr u))).bind _=_;rw [Hw ltr us];show (if _ then _ else _)=_;have:(("" : Str)).length=0:=rfl;rw [if_pos ⟨by rw [s1,this]; omega,o1,i6 (show _<=1000 by omega) Jk⟩]
theorem Vv {L:List Dp} {B:List Ad} (A:BkA L B) (hl:L.length<=9) {ku kd:Kvs} (P:Pr L ku kd):L8 [bkD L]=.ok (.str (AG "" (((ord B).filter (N6 ku kd)).map ltr))):=by
 have hol:=Az A;have hf:=w6 (N6 ku kd) (ord B);have hs:=Jw A hl P;have hj:=nS (us:=(ord B).filter (N6 ku kd)) (fun u hu=>by
   have:=(Es A.bk u).mp (o6.mp hu).1; exact ⟨A.wd _ this.1,this.2⟩) (by omega)
 have hc:D7 (fun δ=>((B6 (A2 (A1 0) A7) J3) δ).bind D2) C6 [] E5 (b2 (A1 0) (vC (.int 1)) dIx) [.sh (bkD L)]=.ok (((ord B).filter (N6 ku kd)).map fun u=>AK (ltr u)) :=
   E1 (D8 (d:=.list (((ord B).filter (N6 ku kd)).map tl)) (by simp_arith [hs]) rfl) (by simp; omega) rfl (Ku tl (fun u=>AK (ltr u)) (fun u=>by unfold Dl; simp_arith [La]) _)
 unfold L8 Fu Hb;refine K4 (D5 ?_);show (Cp "" _ [.sh (bkD L)])=_;unfold Cp;rw [J2 hc,B9,hj]; rfl
theorem W4 {st:zS->Dn->Option Dn} {body:Dn->Out} {d:zS} {ds:List zS} {δ δ1 δ':Dn} (h1:st d δ=some δ1) (h2:body δ1=.nx δ'):F9 st body (d::ds) δ=F9 st body ds δ':=by
 conv=>lhs; unfold F9
 rw [h1];show (match body δ1 with | .nx δ'=>_ | .ct δ'=>_ | .bk δ'=>_ | o=>_)=_;rw [h2]
theorem Tp (p q:IdP):g9 (idP p) (idP q)=decide (p=q):=by
 show ((p.1==q.1)&&((p.2==q.2)&&true))=_;rw [BM];simp [Prod.ext_iff]
theorem yY (p:IdP):(idP p).depth<=2:=Xn p.1 p.2
noncomputable def Ox (d:zS):Option IdP:=match d with
 | .tuple [.str k,_,.tuple [.int t,.str h]]=>if k = "undo" then some (t,h) else none
 | _=>none
theorem bP {k:Str} {i x:zS} {xs:List zS} (h:k ≠ "undo"):Ox (.tuple (.str k::i::x::xs))=none:=by
 unfold Ox;split
 . rename_i heq
   injection heq with heq
   injection heq with h1 _
   injection h1 with h1
   rw [<- h1,if_neg h]
 . rfl
theorem Yo (i:zS) (q:IdP):Ox (.tuple [.str "undo",i,idP q])=some q:=by
 unfold Ox;exact if_pos rfl
noncomputable def dA (e:Dp) (o:List IdP):List IdP:=match Ox e.1 with
 | some q=>if e.2∈o then o else o++[q]
 | none=>o
theorem iP {e:Dp} {q:IdP} (h:e.1=.tuple [.str "undo",idP e.2,idP q]) (o:List IdP):dA e o=if e.2∈o then o else o++[q]:=by
 unfold dA; rw [h,Yo]
theorem nB {e:Dp} {k:Str} {i x:zS} {xs:List zS} (h:e.1=.tuple (.str k::i::x::xs)) (hk:k ≠ "undo") (o:List IdP):dA e o=o:=by
 unfold dA; rw [h,bP hk]
noncomputable def xU:List Dp->List IdP->List IdP
 | [],o=>o
 | e::r,o=>xU r (dA e o)
abbrev off (L:List Dp):List IdP:=xU L.reverse []
abbrev Se (kvs:Kvs):Prop:=∀ p∈kvs,∃ x:IdP,p.1=idP x
theorem Uk {kvs:Kvs} (h:Se kvs) (x:IdP) (v:zS):Se (V0 kvs (idP x) v)/\∀ y,un (V0 kvs (idP x) v) y=(decide (x=y)||un kvs y):=by
 induction kvs with
 | nil =>
   refine ⟨fun p hp=>?_,fun y=>?_⟩
   . rw [c8.mp hp]; exact ⟨x,rfl⟩
   . show ((List.find? (fun p=>g9 p.1 (idP y)) [(idP x,v)]).map (·.2)).isSome=_
     rw [m7,Tp];cases decide (x=y) <;> rfl
 | cons p r ih =>
   obtain ⟨z,hz⟩:=h p (.head _); obtain ⟨i1,i2⟩:=ih fun q hq=>h q (.tail _ hq);unfold V0; rw [hz,Tp];by_cases c:z=x
   . rw [if_pos (decide_eq_true c)]
     refine ⟨fun q hq=>?_,fun y=>?_⟩
     . rcases a9.mp hq with rfl | hq
       . exact ⟨z,rfl⟩
       . exact h q (.tail _ hq)
     . unfold un Q8
       rw [m7,m7,hz,Tp,c];cases decide (x=y) <;> rfl
   . rw [if_neg (by rw [decide_eq_false c]; decide)]
     refine ⟨fun q hq=>?_,fun y=>?_⟩
     . rcases a9.mp hq with rfl | hq
       . exact ⟨z,hz⟩
       . exact i1 q hq
     . unfold un Q8
       rw [m7,m7,hz,Tp];cases hd:decide (z=y) with
       | true=>simp
       | false=>exact i2 y
theorem gL {e:Dp} (h:Kd e) (b:zS) (kvs:Kvs) (o:List IdP) (hk:Se kvs) (ho:∀ p,un kvs p=decide (p∈o)) (hl:kvs.length<=900):∃ kvs',Se kvs'/\kvs'.length<=kvs.length+1/\(∀ p,un kvs' p=decide (p∈dA e o))/\Vg [.sh b,oN kvs,.sh e.1]=.nx [.sh b,oN kvs',.sh e.1]:=by
 have no:∀ k x xs,e.1=.tuple (.str k::idP e.2::x::xs)->k ≠ "undo" -> ∃ kvs',Se kvs'/\kvs'.length<=kvs.length+1/\(∀ p,un kvs' p=decide (p∈dA e o))/\Vg [.sh b,oN kvs,.sh e.1]=.nx [.sh b,oN kvs',.sh e.1]:=fun k x xs e1 hk2=>by
   refine ⟨kvs,hk,FD _,by rw [nB e1 hk2]; exact ho,?_⟩;unfold Vg; rw [P2 (Rt (by rw [e1]; simp_arith [Da,Fl,Za hk2]))];rfl
 cases h with
 | drop ss h _=>exact no _ _ _ h (by decide)
 | oth k x xs h _ h2=>exact no _ _ _ h h2
 | undo q h =>
   have c1:(C1 (b2 (b2 (A1 2) (vC (.int 0)) dIx) (vC (.str "undo")) dEq)) [.sh b,oN kvs,.sh e.1]=.ok true:=by rw [h]; simp_arith [Da,Fl,eM]
   have c2:(C1 (Q6 true 1 (b2 (A1 2) (vC (.int 1)) dIx))) [.sh b,oN kvs,.sh e.1]=.ok (!(decide (e.2∈o))):=by
     refine B8 ?_; rw [Ed (kvs:=kvs) (kd:=idP e.2) rfl (by rw [h]; simp_arith [La]) (X5 e.2),bne_true];exact congrArg (fun z=>Res.ok (x5 (!z))) (ho e.2)
   rw [iP h]; unfold Vg;by_cases c:e.2∈o
   . rw [decide_eq_true c] at c2
     rw [P2 (Kx c1 c2),if_pos c]; exact ⟨kvs,hk,FD _,ho,rfl⟩
   . rw [decide_eq_false c] at c2
     obtain ⟨g1,g2⟩:=Uk hk q (.bool true); rw [W3 (Kw c1 c2),Zr (kd:=idP q) (v:=.bool true) rfl rfl (by rw [h]; simp_arith [wA]) (X5 q) (by lia),if_neg c];refine ⟨_,g1,Gd kvs,fun p=>?_,rfl⟩;rw [g2,ho]; rw [BM]; simp;constructor
     . rintro (h | h)
       . exact .inr h.symm
       . exact .inl h
     . rintro (h | h)
       . exact .inr h
       . exact .inl h.symm
theorem Tz (b:zS):∀ (ds:List Dp),(∀ e∈ds,Kd e)->∀ (kvs:Kvs) (o:List IdP) (s2:Sl),Se kvs->(∀ p,un kvs p=decide (p∈o))->kvs.length+ds.length<=900->∃ kvs' s2',(∀ p,un kvs' p=decide (p∈xU ds o))/\F9 (st1 2) Vg (ds.map (·.1)) [.sh b,oN kvs,s2]=.nx [.sh b,oN kvs',s2']
 | [],_,kvs,o,s2,_,ho,_=>⟨kvs,s2,ho,rfl⟩
 | e::ds,h,kvs,o,s2,hk,ho,hl=>by
   rw [i0] at hl; obtain ⟨kvs1,k1,l1,o1,e1⟩:=gL (h e (.head _)) b kvs o hk ho (by lia);obtain ⟨kvs2,s2',o2,e2⟩:=Tz b ds (fun d hd=>h d (.tail _ hd)) kvs1 _ (.sh e.1) k1 o1 (by lia);exact ⟨kvs2,s2',o2,(W4 rfl e1).trans e2⟩
theorem qI {L:List Dp} (h:∀ e∈L,Kd e) (hl:L.length<=9):∃ kvs,G9 [.tuple (L.map (·.1))]=.ok kvs/\∀ p,un kvs p=decide (p∈off L):=by
 obtain ⟨kvs,s2,o,e⟩:=Tz (.tuple (L.map (·.1))) L.reverse (fun e he=>h e (List.mem_reverse.mp he)) [] [] .un (fun _ h=>nomatch h) (fun _=>rfl) (by simp; lia);refine ⟨kvs,?_,o⟩;rw [List.map_reverse] at e;unfold G9 Df Cw fnW E9 Ou Ga O3 aI;simp only [c7,y9,i0,p4,AC,AB,i4,p8,l3,j0,j4,W9,u7,S9,B9,Zt,D6];have e':=e;unfold Vg at e';rw [e'];rfl
structure Pq (L:List Dp) (ku kd:Kvs):Prop where
 P:Pr L ku kd
 o:∀ p,un ku p=decide (p∈off L)
theorem mL {L:List Dp} (h:∀ e∈L,Kd e) (hl:L.length<=9):∃ ku kd,Pq L ku kd:=by
 obtain ⟨ku,e1,e4⟩:=qI h hl;obtain ⟨kd,e2,e3⟩:=yX h hl ku;exact ⟨ku,kd,⟨e1,e2,e3⟩,e4⟩
theorem yP (t:Bool) (p:IdP) (o:List IdP):dIn t (idP p) (.list (o.map idP))=some (.bool (t != decide (p∈o))):=by
 show (if _ then _ else _)=_;rw [if_pos (i6 (BU _ _) (i6 (yY p) (by decide)))];have:((o.map idP).any fun y=>g9 y (idP p))=decide (p∈o):=by
   rw [MR,BM,EM,decide_eq_true_iff];constructor
   . rintro ⟨q,hq,e⟩
     have e:g9 (idP q) (idP p)=true:=e; rw [Tp] at e; rw [<- of_decide_eq_true e]; exact hq
   . intro h
     exact ⟨p,h,by show g9 (idP p) (idP p)=true; rw [Tp]; simp⟩
 rw [this];cases t <;> cases decide (p∈o) <;> rfl
theorem Xz {i:Nat} {c:Dn->Res Bool} {δ δ':Dn} {r:Res Bool} (h:fz i δ=δ') (h2:c δ'=r):cFz i c δ=r:=by unfold cFz; rw [h,h2]
theorem Kd.tid {e:Dp} (h:Kd e):dIx e.1 (.int 1)=some (idP e.2):=by
 obtain ⟨k,x,xs,e1⟩:=h.id;rw [e1]; exact La _ _ _
theorem uG (xs:List zS) (k:Nat) (h:k<=xs.length):Fo xs none (some (k:Int))=xs.take k:=by
 unfold Fo;rw [HT.sIx_nat,HT.sIx_none];rw [Nat.min_eq_left h]; rfl
theorem pC {δc:Dn} {tt:Dn->Res Bool} {el:Dn->Res zS} {d y:zS} {ds ys:List zS} (h1:tt ([.sh d]++δc)=.ok true) (h2:el ([.sh d]++δc)=.ok y) (h3:C7 C6 δc tt el ds=.ok ys):C7 C6 δc tt el (d::ds)=.ok (y::ys):=by
 unfold C7;simp only [C6,h1,h2,h3]
theorem zD {δc:Dn} {tt:Dn->Res Bool} {el:Dn->Res zS} {d:zS} {ds ys:List zS} (h1:tt ([.sh d]++δc)=.ok false) (h3:C7 C6 δc tt el ds=.ok ys):C7 C6 δc tt el (d::ds)=.ok ys:=by
 unfold C7;simp only [C6,h1,h3]
theorem Qn {k v:zS}:∀ {kvs:Kvs},(∀ p∈kvs,g9 p.1 k=false)->V0 kvs k v=kvs++[(k,v)]
 | [],_=>rfl
 | p::r,h=>by
   unfold V0; rw [if_neg (by rw [h p (.head _)]; decide),Qn fun q hq=>h q (.tail _ hq)]; rfl
theorem Lz {α:Type} (f:α->zS×zS) (hk:∀ a,nkD (f a).1=true):∀ (us vs:List α),(vs++us).Pairwise (fun a b=>g9 (f a).1 (f b).1=false)->Ge (us.map fun a=>.tuple [(f a).1,(f a).2]) (vs.map f)=some ((vs++us).map f)
 | [],vs,_=>by rw [m8]; rfl
 | u::us,vs,pw=>by
   rw [c7]; unfold Ge; rw [if_pos (hk u),Qn (fun p hp=>by
     obtain ⟨a,ha,rfl⟩:=j7.mp hp; exact (BW.mp pw).2.2 a ha u (.head _))]
   have:=Lz f hk us (vs++[u]) (by rw [z4]; exact pw);rw [m4,z4] at this; exact this
theorem Ra {α:Type} (f:α->zS×zS) {u:α} (hu:g9 (f u).1 (f u).1=true):∀ {us:List α} {more:Kvs},u∈us->us.Pairwise (fun a b=>g9 (f a).1 (f b).1=false)->Q8 (us.map f++more) (f u).1=some (f u).2
 | x::us,more,h,pw=>by
   rw [n0] at pw; unfold Q8; rw [c7,p8,m7]; rcases a9.mp h with rfl | h
   . rw [hu]; rfl
   . rw [pw.1 u h]; exact Ra f hu h pw.2
abbrev adE (a:Ad):zS×zS:=(idP a.p,.str a.w)
theorem kG {L:List Dp} {B:List Ad} (h:Adds L B):C7 C6 [] (C1 (b2 (b2 (A1 0) (vC (.int 0)) dIx) (vC (.str "add")) dEq)) (I9 (A2 (b2 (A1 0) (vC (.int 1)) dIx) (A2 (b2 (A1 0) (vC (.int 3)) dIx) A7))) (L.map (·.1))=.ok (B.map fun a=>.tuple [(adE a).1,(adE a).2]):=by
 induction h with
 | nil=>rfl
 | @add L B a _ ih=>exact pC (by unfold Ad.d; simp_arith [Da,Fl,pU]) (by unfold Ad.d; simp_arith [La,bT]) ih
 | @oth L B e k x xs he hk _ ih=>exact zD (by show C1 _ ([.sh e.1]++[])=_; rw [he]; simp_arith [Da,Fl,Za hk]) ih
theorem Bk.ids {B:List Ad} (h:Bk B):B.Pairwise (fun a b=>g9 (adE a).1 (adE b).1=false):=by
 induction h with
 | nil=>exact .nil
 | @snoc B e _ _ hk _ ih =>
   refine BW.mpr ⟨ih,CY _ _,fun a ha b hb=>?_⟩;rw [c8.mp hb]; show g9 (idP a.p) (idP e.p)=false;rw [Tp,decide_eq_false]; intro z; have:=hk a ha; rw [z] at this;lia
theorem iF {st:zS->Dn->Option Dn} {body:Dn->Out} {d r:zS} {ds:List zS} {δ δ1:Dn} (h1:st d δ=some δ1) (h2:body δ1=.rt r):F9 st body (d::ds) δ=.rt r:=by
 conv=>lhs; unfold F9
 rw [h1];show (match body δ1 with | .nx δ'=>_ | .ct δ'=>_ | .bk δ'=>_ | o=>_)=_;rw [h2]
theorem Iu {c c':Dn->Res Bool} {δ:Dn} (h1:c δ=.ok false) (h2:c' δ=.ok false):cOr c c' δ=.ok false:=by unfold cOr; rw [h1,B9,if_neg (by decide),h2]
def Rf (n:Nat) (d:zS):Prop:=g9 d d=true/\d.depth<=n
theorem Rf.all {n:Nat}:∀ {xs:List zS},(∀ x∈xs,Rf n x)->EN xs xs=true/\w5 xs<=n:=by
 intro xs;induction xs with
 | nil=>intro _; exact ⟨rfl,BY _⟩
 | cons x xs ih =>
   intro h; obtain ⟨i1,i2⟩:=ih fun y hy=>h y (.tail _ hy);obtain ⟨j1,j2⟩:=h x (.head _); rw [EN,w5,i1,j1]; exact ⟨rfl,by lia⟩
theorem Rf.list {n:Nat} {xs:List zS} (h:∀ x∈xs,Rf n x):Rf (n+1) (.list xs):=by
 obtain ⟨h1,h2⟩:=Rf.all h;exact ⟨h1,by rw [x4]; lia⟩
theorem Rf.tup {n:Nat} {xs:List zS} (h:∀ x∈xs,Rf n x):Rf (n+1) (.tuple xs):=by
 obtain ⟨h1,h2⟩:=Rf.all h;exact ⟨h1,by rw [x4]; lia⟩
theorem Rf.mono {n m:Nat} {d:zS} (h:Rf n d) (k:n<=m):Rf m d:=⟨h.1,i6 h.2 k⟩
theorem Rf.ne {n:Nat} {d:zS} (h:Rf n d) (hn:n<=62):dNe d d=some (.bool false):=by
 unfold dNe;rw [if_pos (i6 (IA _ _) (i6 h.2 (i6 hn (by decide)))),h.1]; rfl
theorem Rf.str {n:Nat} (x:Str):Rf n (.str x):=⟨by simp [g9],by simp [x4]⟩
theorem Rf.int {n:Nat} (x:Int):Rf n (.int x):=⟨by simp [g9],by simp [x4]⟩
theorem Rf.none {n:Nat}:Rf n .none:=⟨rfl,by simp [x4]⟩
theorem Rf.nil {n:Nat} {x:zS} (h:x∈([]:List zS)):Rf n x:=nomatch h
theorem Rf.cs {n:Nat} {y:zS} {ys:List zS} (h:Rf n y) (h2:∀ x∈ys,Rf n x):∀ x∈y::ys,Rf n x:=fun x hx=>by
 rcases a9.mp hx with rfl | hx
 . exact h
 . exact h2 x hx
theorem Rf.id (p:IdP):Rf 1 (idP p):=Rf.tup (.cs (.int _) (.cs (.str _) fun _=>.nil))
theorem Rf.sg (p:IdP) (n:Int):Rf 2 (sgD p n):=Rf.tup (.cs (.id p) (.cs (.int _) fun _=>.nil))
theorem Rf.orN {T:Int} {D:List zS} {d:zS} (h:OrN (SgOf T D) d):Rf 2 d:=by
 rcases h with rfl | ⟨p,b,w,n,_,rfl,_⟩
 . exact .none
 . exact .sg p _
theorem Rf.dd {L:List Dp} {e:Dp} (h:WfIn L e):Rf 4 e.1:=by
 obtain ⟨_,h⟩:=(show Wf _ _ _ _ from h);rcases h with ⟨b,w,e1,hb,_⟩ | ⟨sg,e1,hs,_⟩ | ⟨n,s1,x1,s2,x2,e1,h1,h2,_⟩ | ⟨n,e1,_⟩ | ⟨q,e1,_⟩ <;> rw [e1]
 . exact .tup (.cs (.str _) (.cs ((Rf.id _).mono (by decide)) (.cs ((Rf.orN hb).mono (by decide)) (.cs (.str _) fun _=>.nil))))
 . exact .tup (.cs (.str _) (.cs ((Rf.id _).mono (by decide)) (.cs (.tup fun x hx=>Rf.orN (.inr (hs x hx))) fun _=>.nil)))
 . exact .tup (.cs (.str _) (.cs ((Rf.id _).mono (by decide)) (.cs (.str _) (.cs (.tup (.cs (.orN h1) (.cs (.str _) fun _=>.nil))) (.cs (.tup (.cs (.orN h2) (.cs (.str _) fun _=>.nil))) fun _=>.nil)))))
 . exact .tup (.cs (.str _) (.cs ((Rf.id _).mono (by decide)) (.cs (.str _) fun _=>.nil)))
 . exact .tup (.cs (.str _) (.cs ((Rf.id _).mono (by decide)) (.cs ((Rf.id _).mono (by decide)) fun _=>.nil)))
theorem Rf.bk {L:List Dp} (W:BkW L):Rf 5 (bkD L):=Rf.tup fun x hx=>by
 obtain ⟨e,he,rfl⟩:=j7.mp hx;exact .dd (W.1 e he)
theorem BkW.pre {L1:List Dp}:∀ (n:Nat) (L2:List Dp),L2.length=n->BkW (L1++L2)->BkW L1:=by
 intro n;induction n with
 | zero=>intro L2 h W; cases DH h; rw [m8] at W; exact W
 | succ n ih =>
   intro L2 h W; have hne:L2≠[]:=fun z=>by rw [z] at h; cases h
   rw [<- KZ hne,<- z4] at W; exact ih L2.dropLast (by rw [NU]; lia) W.init
abbrev upT (L:List Dp) (t:Int):List Dp:=L.filter fun e=>decide (e.2.1<=t)
theorem fY (a b:Int):D9 .LtE (.int a) (.int b)=some (.bool (decide (a<=b))):=rfl
theorem vR (a b:Int):D9 .Lt (.int a) (.int b)=some (.bool (decide (a < b))):=rfl
theorem eI {e:Dp} (h:Kd e) (δ:Dn):(b2 (b2 (A1 0) (vC (.int 1)) dIx) (vC (.int 0)) dIx) ([.sh e.1]++δ)=.ok (.int e.2.1) :=
 B4 (x:=idP e.2) (y:=.int 0) (B4 (x:=e.1) (y:=.int 1) rfl rfl h.tid) rfl (Da _ _)
theorem qG {L:List Dp} (hk:∀ e∈L,Kd e) (t:Int):C7 C6 [.sh (.int t)] (C1 (b2 (b2 (b2 (A1 0) (vC (.int 1)) dIx) (vC (.int 0)) dIx) (A1 1) (D9 .LtE))) (A1 0) (L.map (·.1))=.ok ((upT L t).map (·.1)) :=
 W0 (fun e:Dp=>e.1) (fun e=>e.1) (fun e=>decide (e.2.1<=t)) L (fun e he=>B8 (B4 (eI (hk e he) _) rfl (fY _ _))) fun e _=>rfl
theorem gD {L:List Dp} (hk:∀ e∈L,Kd e) (hl:L.length<=9) (t:Int):V9 [bkD L,.int t]=.ok (bkD (upT L t)) :=
 K4 (D5 (W1 (ds:=[.list ((upT L t).map (·.1))]) (A6 (J2 (E1 (δc:=[.sh (.int t)]) (D8 (d:=bkD L) rfl rfl) (by simp; lia) rfl (qG hk t))) rfl) rfl))
theorem vU {L:List Dp} (hp:L.Pairwise fun a b=>key a.2 < key b.2) (t:Int):∃ R,L=upT L t++R:=by
 induction L with
 | nil=>exact ⟨[],rfl⟩
 | cons e L ih =>
   rw [n0] at hp;by_cases c:e.2.1<=t
   . obtain ⟨R,e1⟩:=ih hp.2
     refine ⟨R,?_⟩; unfold upT; rw [DB (by simpa using c),p8,<- e1]
   . refine ⟨e::L,?_⟩
     have:upT (e::L) t=[]:=BG.mpr fun x hx=>by
       have hn:t < x.2.1:=by
         rcases a9.mp hx with rfl | hx
         . lia
         . have:=aO (hp.1 x hx); lia
       simp; lia
     rw [this]; rfl
theorem vV {L:List Dp} {t:Int} (h:∀ e∈L,e.2.1<=t):upT L t=L:=BL.mpr fun e he=>by simpa using h e he
theorem qH {L:List Dp} (W:BkW L) (t:Int):BkW (upT L t):=by
 obtain ⟨R,e⟩:=vU W.2 t;rw [e] at W;exact BkW.pre _ R rfl W
theorem bO {L:List Dp} (hl:L.length<=9) (t:Int):(upT L t).length<=9:=i6 (w6 _ _) hl
noncomputable def txs (L:List Dp) (t:Int):Str:=match L8 [bkD (upT L t)] with
 | .ok (.str x)=>x
 | _ => ""
structure TxA (L:List Dp) (t:Int):Prop where
 p:L8 [bkD (upT L t)]=.ok (.str (txs L t))
 c:chOk 32 126 (txs L t)
 n:(txs L t).length<=36
theorem kN {L:List Dp} (W:BkW L) (hl:L.length<=9) (t:Int):TxA L t:=by
 have Wt:=qH W t;have hk:∀ e∈upT L t,Kd e:=fun e he=>(Wt.1 e he).kd;have hlt:=bO hl t;obtain ⟨B,A⟩:=zI Wt;obtain ⟨ku,kd,P⟩:=mL hk hlt;have ht:=Vv A hlt P.P;have e:txs L t=AG "" (((ord B).filter (N6 ku kd)).map ltr):=by unfold txs; rw [ht]
 have hol:=Az A;have hf:=w6 (N6 ku kd) (ord B);have hO:∀ u∈(ord B).filter (N6 ku kd),u∈ord B:=fun u hu=>(o6.mp hu).1;obtain ⟨j1,_,j3⟩:=Bj (((ord B).filter (N6 ku kd)).map ltr) fun x hx=>by
   obtain ⟨u,hu,rfl⟩:=j7.mp hx; have:=(Es A.bk u).mp (hO u hu); exact dE (A.wd _ this.1) this.2
 rw [<- e] at ht j1 j3;exact ⟨ht,j3,by rw [j1,zZ]; lia⟩
theorem Oz {L:List Dp} (W:BkW L) (hl:L.length<=9) (t:Int):U4 [bkD L,.int t]=.ok (.str (txs L t)) :=
 K4 (D5 (B5 (A6 (B5 (A6 rfl (A6 rfl rfl)) (gD (fun e he=>(W.1 e he).kd) hl t)) rfl) (kN W hl t).p))
theorem Yp {L:List Dp} {s t:Int} (h:∀ e∈L,e.2.1<=s↔e.2.1<=t):txs L s=txs L t:=by
 have:upT L s=upT L t:=JW fun e he=>decide_eq_decide.mpr (h e he);unfold txs;rw [this]
theorem uQ {W:List zS} {x:zS}:dIx (.list (W++[x])) (.int (-1))=some x:=by
 show atI (W++[x]) (-1)=_;unfold atI ixN;rw [l8,if_neg (by lia),if_pos (by simp; lia)];show (W++[x])[_]? = _;rw [show (-1+((W.length+[x].length:Nat):Int)).toNat=W.length by simp; lia];simp
theorem Ur:∀ ns:List Int,Ho (ns.map .int)=some ns
 | []=>rfl
 | n::ns=>by show (Ho (ns.map .int)).map (n::·)=_; rw [Ur ns]; rfl
theorem qU (ns:List Int) (h:ns.length < 64):Gm [.list (ns.map .int)]=some (.list ((Ft (Cj ns)).map .int)):=by
 show (if (ns.map p5).length < 64 then (match Ho (ns.map .int) with | some ns=>some (FV ((Ft (Cj ns)).map .int)) | none=>_) else none)=_;rw [if_pos (by simpa using h),Ur]
theorem Ip {K:Type} [DecidableEq K] (l:List K):(Cj l).Nodup:=by
 have:∀ (l m:List K),m.Nodup->(l.foldl Fc m).Nodup:=fun l=>by
   induction l with
   | nil=>exact fun m h=>h
   | cons y l ih =>
     intro m h; refine ih _ ?_; unfold Fc;split
     . exact h
     . rename_i hy
       rw [FH]; exact ⟨h,by simp,fun a ha b hb e=>by rw [c8.mp hb] at e; exact hy (e▸ha)⟩
 exact this l [] List.nodup_nil
noncomputable def tms (L:List Dp):List Int:=Ft (Cj (0::L.map fun e=>e.2.1))
theorem Ee {L:List Dp} {x:Int}:x∈tms L↔x=0\/∃ e∈L,e.2.1=x:=by
 unfold tms;rw [(Eo _).mem_iff,Gj,a9,j7]
theorem kR (L:List Dp):(tms L).Pairwise (· < ·):=by
 have h1:=Zf (Cj (0::L.map fun e=>e.2.1));have h2:(tms L).Nodup:=(Eo _).nodup_iff.mpr (Ip _);refine (h1.and h2).imp fun {a b} h=>?_;have:=h.1; have:=h.2; lia
theorem Yq {L:List Dp} (hk:∀ e∈L,Kd e) (hl:L.length<=9):W2 [bkD L]=.ok (.list ((tms L).map .int)):=by
 refine K4 (D5 (W1 (ds:=[.list ((0::L.map fun e=>e.2.1).map .int)]) (A6 (B4 (x:=.list [.int 0]) (y:=.list (L.map fun e=>.int e.2.1)) rfl (J2 (E1 (δc:=[]) (D8 (d:=bkD L) rfl rfl) (by simp; lia) rfl ?_)) ?_) rfl) ?_))
 . have:=W0 (tt:=E5) (el:=b2 (b2 (A1 0) (vC (.int 1)) dIx) (vC (.int 0)) dIx) (δc:=[]) (fun e:Dp=>e.1) (fun e=>.int e.2.1) (fun _=>true) L (fun _ _=>rfl) fun e he=>eI (hk e he) _
   rw [BL.mpr (fun _ _=>rfl)] at this;exact this
 . rw [kH (by simp; lia),c7,BE]; rfl
 . exact qU _ (by simp; lia)
noncomputable def cW:Dn->Res Bool:=(cFz 1 (C1 (b2 (vFn (A2 (A1 1) A7) K7) (A1 2) (D9 .Lt))))
noncomputable def bW:Dn->Out:=(Cn 1 (vFz 1 (b2 (A1 1) (b1 (vC (.int 1)) Fk) dIx)))
theorem pE (bk:zS) (W:List zS) (b:Int):cW [.sh bk,.ow (.list W),.sh (.int b)]=.ok (decide ((W.length:Int) < b)) :=
 Xz rfl (B8 (B4 (x:=.int (W.length:Int)) (y:=.int b) (W1 (A6 rfl rfl) rfl) rfl (vR _ _)))
theorem pad (bk:zS) (y:zS) (hy:Il y=true):∀ (m fuel:Nat) (W:List zS) (b:Int),m < fuel->(W.length:Int)+1+m=b->W.length+m<=900->Aa cW bW fuel [.sh bk,.ow (.list (W++[y])),.sh (.int b)]=.nx [.sh bk,.ow (.list (W++[y]++i4 m y)),.sh (.int b)]
 | _,0,_,_,h,_,_=>by cases h
 | 0,fuel+1,W,b,_,hb,_=>by
   unfold Aa; rw [pE,decide_eq_false (by simp; lia),D6,if_neg (by decide)]; simp
 | m+1,fuel+1,W,b,hf,hb,hl=>by
   unfold Aa; rw [pE,decide_eq_true (by simp; lia),D6,if_pos rfl];have e:bW [.sh bk,.ow (.list (W++[y])),.sh (.int b)]=.nx [.sh bk,.ow (.list (W++[y]++[y])),.sh (.int b)]:=by
     refine Gv (W:=W++[y]) (d:=y) rfl ?_ (by simp; lia);unfold vFz; have:(b2 (A1 1) (b1 (vC (.int 1)) Fk) dIx) (fz 1 [.sh bk,.ow (.list (W++[y])),.sh (.int b)])=.ok y:=B4 (x:=.list (W++[y])) (y:=.int (-1)) rfl rfl uQ; rw [this,B9,if_pos hy]
   rw [e]; show Aa cW bW fuel _=_;rw [pad bk y hy m fuel (W++[y]) b (by lia) (by simp; lia) (by simp; lia),z4 (W++[y]),NH,<- BJ]
theorem pad0 (bk:zS) (W:List zS) (b:Int) (fuel:Nat) (h:b<=W.length):Aa cW bW (fuel+1) [.sh bk,.ow (.list W),.sh (.int b)]=.nx [.sh bk,.ow (.list W),.sh (.int b)]:=by
 unfold Aa;rw [pE,decide_eq_false (by lia),D6,if_neg (by decide)]
noncomputable abbrev TX (L:List Dp) (n:Nat):List zS:=(o9 n).map fun (t:Nat)=>AK (txs L (t:Int))
theorem Oq (L:List Dp) (n:Nat):TX L (n+1)=TX L n++[.str (txs L (n:Int))]:=by unfold TX; rw [List.range_succ,m4]; rfl
theorem Ew (L:List Dp) (n:Nat):(TX L n).length=n:=by simp
theorem gF {L:List Dp} {n:Nat} (x:zS):∀ m,(∀ k,k < m->AK (txs L ((n+k:Nat):Int))=x)->TX L (n+m)=TX L n++i4 m x
 | 0,_=>by simp
 | m+1,h=>by
   rw [show n+(m+1)=(n+m)+1 by lia,Oq,gF x m (fun k hk=>h k (by lia)),h m (by lia),NS,z4]
noncomputable def dZ:Dn->Out:=(C5 (Qi (cFz 1 (C1 (b2 (vFn (A2 (A1 1) A7) K7) (A1 2) (D9 .Lt)))) (Cn 1 (vFz 1 (b2 (A1 1) (b1 (vC (.int 1)) Fk) dIx)))) (Cn 1 (B6 (A2 (A1 0) (A2 (A1 2) A7)) U4)))
theorem qJ {L:List Dp} (W:BkW L) (hl:L.length<=9) {n:Nat} {b:Nat} (hn:n<=b) (hb:b<=20) (hz:n=0->b=0) (hg:∀ e∈L,e.2.1 < n\/(b:Int)<=e.2.1):dZ [.sh (bkD L),.ow (.list (TX L n)),.sh (.int (b:Int))]=.nx [.sh (bkD L),.ow (.list (TX L (b+1))),.sh (.int (b:Int))]:=by
 have e1:Qi cW bW [.sh (bkD L),.ow (.list (TX L n)),.sh (.int (b:Int))]=.nx [.sh (bkD L),.ow (.list (TX L b)),.sh (.int (b:Int))]:=by
   by_cases c:n=b
   . subst c
     exact pad0 _ _ _ 4095 (by rw [Ew]; lia)
   . obtain ⟨n',rfl⟩:∃ n',n=n'+1:=⟨n - 1,by lia⟩
     obtain ⟨m,rfl⟩:∃ m,b=n'+1+m:=⟨b - (n'+1),by lia⟩;have same:∀ k,k < m->AK (txs L ((n'+1+k:Nat):Int))=.str (txs L (n':Int)):=fun k hk=>by
       rw [Yp (s:=((n'+1+k:Nat):Int)) (t:=(n':Int)) fun e he=>by
         rcases hg e he with z | z
         . exact ⟨fun _=>by lia,fun _=>by lia⟩
         . exact ⟨fun _=>by lia,fun _=>by lia⟩]
     rw [gF _ m same,Oq]; exact pad _ _ rfl m 4096 (TX L n') _ (by lia) (by rw [Ew]; lia) (by rw [Ew]; lia)
 unfold dZ;refine (C2 e1).trans ?_;rw [Oq];exact Gv rfl (B5 (A6 rfl (A6 rfl rfl)) (Oz W hl b)) (by rw [Ew]; lia)
theorem eH {L:List Dp} (W:BkW L) (hl:L.length<=9):∀ (I8:List Int) (n:Nat) (s2:Sl),I8.Pairwise (· < ·)->(∀ x∈I8,(n:Int)<=x/\x<=20)->(∀ e∈L,e.2.1 < n\/e.2.1∈I8)->(n=0->∃ r,I8=0::r)->n<=21->∃ (N:Nat) (t2:Sl),1<=N/\N<=21/\(∀ e∈L,e.2.1 < N)/\(N=n\/(N:Int) - 1∈I8) /\
   F9 (st1 2) dZ (I8.map .int) [.sh (bkD L),.ow (.list (TX L n)),s2]=.nx [.sh (bkD L),.ow (.list (TX L N)),t2]
 | [],n,s2,_,_,hg,hz,hn=>by
   refine ⟨n,s2,?_,hn,fun e he=>(hg e he).elim id (fun h=>nomatch h),.inl rfl,rfl⟩;cases n with
   | zero=>obtain ⟨r,h⟩:=hz rfl; cases h
   | succ n=>lia
 | x::r,n,s2,hp,hx,hg,hz,hn=>by
   rw [n0] at hp; obtain ⟨x1,x2⟩:=hx x (.head _); obtain ⟨b,rfl⟩:∃ b:Nat,x=(b:Int):=⟨x.toNat,by lia⟩;have st:=qJ W hl (n:=n) (b:=b) (by lia) (by lia) (fun z=>by obtain ⟨r',h⟩:=hz z; injection h with h; lia) fun e he=>by
     rcases hg e he with z | z
     . exact .inl z
     . rcases a9.mp z with z | z
       . exact .inr (by lia)
       . have:=hp.1 _ z; exact .inr (by lia)
   obtain ⟨N,t2,h1,h2,h3,h5,h4⟩:=eH W hl r (b+1) (.sh (.int (b:Int))) hp.2 (fun y hy=>⟨by have:=hp.1 y hy; lia,(hx y (.tail _ hy)).2⟩) (fun e he=>by
     rcases hg e he with z | z
     . exact .inl (by lia)
     . rcases a9.mp z with z | z
       . exact .inl (by lia)
       . exact .inr z) (fun z=>by cases z) (by lia)
   exact ⟨N,t2,h1,h2,h3,.inr (h5.elim (fun z=>by rw [show (N:Int) - 1=b by lia]; exact .head _) fun z=>.tail _ z),(W4 rfl st).trans h4⟩
theorem Yr {L:List Dp} (W:BkW L) (hl:L.length<=9):∃ N:Nat,1<=N/\N<=21/\(∀ e∈L,e.2.1 < N)/\(N:Int) - 1∈tms L/\N1 [bkD L]=.ok (.list (TX L N)):=by
 have ok:∀ e∈L,okI e.2:=fun e he=>(show Wf _ _ _ _ from W.1 e he).1;have h0:(0:Int)∈tms L:=Ee.mpr (.inl rfl);have hge:∀ x∈tms L,0<=x/\x<=20:=fun x hx=>by
   rcases Ee.mp hx with rfl | ⟨e,he,rfl⟩
   . lia
   . have:=ok e he; exact ⟨by have:=this.1; lia,by have:=this.2.1; lia⟩
 have hup:=kR L;obtain ⟨N,t2,h1,h2,h3,h5,h4⟩:=eH W hl (tms L) 0 .un hup (fun x hx=>by have:=hge x hx; exact ⟨by lia,this.2⟩) (fun e he=>.inr (Ee.mpr (.inr ⟨e,he,rfl⟩))) (fun _=>by
   cases ht:tms L with
   | nil=>rw [ht] at h0; cases h0
   | cons x r =>
     rw [ht] at h0 hup hge; rcases a9.mp h0 with z | z
     . exact ⟨r,by rw [z]⟩
     . have:=(n0.mp hup).1 0 z
       have:=hge x (.head _);lia) (by lia)
 refine ⟨N,h1,h2,h3,h5.elim (fun z=>by lia) id,K4 ?_⟩;show C5 _ _ [.sh (bkD L),.un,.un]=_;refine (C2 (δ':=[.sh (bkD L),.ow (.list (TX L 0)),.un]) rfl).trans ?_;refine (C2 (δ':=[.sh (bkD L),.ow (.list (TX L N)),t2]) ?_).trans rfl;unfold O3;rw [D8 (d:=.list ((tms L).map .int)) (ds:=(tms L).map .int) (B5 (A6 rfl rfl) (Yq (fun e he=>(W.1 e he).kd) hl)) rfl,D6];exact h4
noncomputable section
variable {L:List Dp} {kd:Kvs}
theorem tL {f:Int->Bool} {t:Int}:∀ {ts:List Int},ts.Pairwise (· < ·)->t∈ts->f t=true->(∀ x∈ts,x < t->f x=false)->ts.find? f=some t:=by
 intro ts;induction ts with
 | nil=>intro _ h; cases h
 | cons x ts ih =>
   intro hp hm h1 h2; rw [n0] at hp; rw [m7]; rcases a9.mp hm with rfl | hm
   . rw [h1]
   . rw [h2 x (.head _) (hp.1 t hm)]
     exact ih hp.2 hm h1 fun y hy=>h2 y (.tail _ hy)
theorem oO {N:Nat} (h0:1<=N) (h1:∀ e∈L,e.2.1 < N/\0<=e.2.1) (f:Int->Bool) (hf:∀ s t:Int,(∀ e∈L,e.2.1<=s↔e.2.1<=t)->f s=f t):(tms L).find? f=((o9 N).find? fun t:Nat=>f (t:Int)).map fun t:Nat=>(t:Int):=by
 have hin:∀ x∈tms L,∃ n:Nat,n < N/\x=(n:Int):=fun x hx=>by
   rcases Ee.mp hx with z | ⟨e,he,z⟩
   . exact ⟨0,by lia,z⟩
   . have:=h1 e he
     exact ⟨x.toNat,by lia,by lia⟩
 cases e:(o9 N).find? fun t:Nat=>f (t:Int) with
 | none =>
   refine JK.mpr fun x hx=>?_;obtain ⟨n,hn,rfl⟩:=hin x hx; exact JK.mp e n (q9.mpr hn)
 | some t =>
   obtain ⟨g1,g2,g3⟩:=MF.mp e; have g3':∀ j:Nat,j < t->f (j:Int)=false:=fun j hj=>by simpa using g3 j hj
   refine tL (kR L) ?_ g1 fun x hx hlt=>?_
   . refine KM fun hn=>?_
     have ht:t≠0:=fun z=>hn (Ee.mpr (.inl (by rw [z]; rfl)));have hs:=hf ((t - 1:Nat):Int) (t:Int) fun e he=>by
       have:e.2.1≠(t:Int):=fun z=>hn (Ee.mpr (.inr ⟨e,he,z⟩));lia
     rw [g3' (t - 1) (by lia),g1] at hs; cases hs
   . obtain ⟨n,hn,rfl⟩:=hin x hx
     exact g3' n (by lia)
noncomputable def bH:Dn->Out:=(sIf (C1 (b2 (A1 1) (B6 (A2 (A1 0) (A2 (A1 2) A7)) U4) (dIn false))) (E2 (A1 2)) E4)
noncomputable abbrev Dt (L:List Dp) (w:Str) (t:Int):Bool:=Kn w (txs L t)
theorem tH (W:BkW L) (hl:L.length<=9) (w:Str):∀ (ts:List Int) (s2:Sl),∃ t2,F9 (st1 2) bH (ts.map .int) [.sh (bkD L),.sh (.str w),s2]=(match ts.find? (Dt L w) with | some t=>.rt (.int t) | none=>.nx [.sh (bkD L),.sh (.str w),t2]):=by
 intro ts;induction ts with
 | nil=>intro s2; exact ⟨s2,rfl⟩
 | cons t ts ih =>
   intro s2; have c:(C1 (b2 (A1 1) (B6 (A2 (A1 0) (A2 (A1 2) A7)) U4) (dIn false))) [.sh (bkD L),.sh (.str w),.sh (.int t)]=.ok (Dt L w t):=B8 (B4 (x:=.str w) (y:=.str (txs L t)) rfl (B5 (A6 rfl (A6 rfl rfl)) (Oz W hl t)) rfl); rw [m7];cases h:Dt L w t with
   | true =>
     rw [h] at c; exact ⟨s2,iF (δ1:=[.sh (bkD L),.sh (.str w),.sh (.int t)]) rfl (by unfold bH; rw [W3 c]; rfl)⟩
   | false =>
     rw [h] at c; obtain ⟨t2,e⟩:=ih (.sh (.int t)); exact ⟨t2,(W4 (δ1:=[.sh (bkD L),.sh (.str w),.sh (.int t)]) rfl (by unfold bH; rw [P2 c]; rfl)).trans e⟩
noncomputable def optI (o:Option Int):zS:=match o with
 | some t=>.int t
 | none=>.none
theorem oK (W:BkW L) (hl:L.length<=9) (w:Str):K1 [bkD L,.str w]=.ok (optI ((tms L).find? (Dt L w))):=by
 obtain ⟨t2,e⟩:=tH W hl w (tms L) .un;unfold K1 Cb Bc;refine K4 ?_;show C5 _ _ [.sh (bkD L),.sh (.str w),.un]=_;rw [Gu];have:O3 (fun δ=>((B6 (A2 (A1 0) A7) W2) δ).bind D2) (st1 2) bH [.sh (bkD L),.sh (.str w),.un]=(match (tms L).find? (Dt L w) with | some t=>.rt (.int t) | none=>.nx [.sh (bkD L),.sh (.str w),t2]):=by
   unfold O3; rw [D8 (d:=.list ((tms L).map .int)) (ds:=(tms L).map .int) (B5 (A6 rfl rfl) (Yq (fun e he=>(W.1 e he).kd) hl)) rfl,D6];exact e
 unfold bH at this;rw [this];cases (tms L).find? (Dt L w) <;> rfl
end
noncomputable def wdS (e:Dp):Str:=match e.1 with
 | .tuple (.str k::_)=>k
 | _ => ""
theorem Vp {e:Dp} {k:Str} {xs:List zS} (h:e.1=.tuple (.str k::xs)):wdS e=k:=by unfold wdS; rw [h]
theorem Kd.t0 {e:Dp} (h:Kd e):dIx e.1 (.int 0)=some (.str (wdS e)):=by
 obtain ⟨k,x,xs,e1⟩:=h.id;rw [Vp e1,e1]; exact Da _ _
theorem uK {c c':Dn->Res Bool} {δ:Dn} {a b:Bool} (h1:c δ=.ok a) (h2:c' δ=.ok b):Ag c c' δ=.ok (a&&b):=by
 unfold Ag;rw [h1,B9];cases a with
 | true=>exact h2
 | false=>rfl
noncomputable section
variable {L:List Dp} {B:List Ad} {ku kd:Kvs}
theorem iK:∀ (us:List As) (kvs:Kvs),Se kvs->∃ out,Ge (us.map fun u=>.tuple [idP u.1.p,.bool true]) kvs=some out/\∀ p,un out p=(un kvs p||us.any fun u=>decide (u.1.p=p)):=by
 intro us;induction us with
 | nil=>intro kvs _; exact ⟨kvs,rfl,fun p=>by simp⟩
 | cons u us ih =>
   intro kvs hk; obtain ⟨g1,g2⟩:=Uk hk u.1.p (.bool true); obtain ⟨out,e,h⟩:=ih _ g1; refine ⟨out,?_,fun p=>?_⟩
   . show (if nkD (idP u.1.p)=true then _ else _)=_
     rw [if_pos (X5 _)]; exact e
   . rw [h,g2,JC,Bool.or_comm (decide _),Bool.or_assoc]
noncomputable def Kp (L:List Dp) (T:List As) (e:Dp):Bool:=((wdS e == "add") && !decide (e.2∈off L)) && !(T.any fun u=>decide (u.1.p=e.2))
noncomputable def tx3 (e:Dp):zS:=(dIx e.1 (.int 3)).getD .none
abbrev lsD (e:Dp):zS:=.tuple [idP e.2,tx3 e]
theorem vY (W:BkW L) {e:Dp} (he:e∈L) (h:(wdS e == "add")=true):dIx e.1 (.int 3)=some (tx3 e)/\∃ w,tx3 e=.str w:=by
 rcases (show Wf _ _ _ _ from W.1 e he).shape with ⟨b,w,e1,_⟩ | ⟨k,x,xs,e1,hk⟩
 . have:dIx e.1 (.int 3)=some (.str w):=by rw [e1]; exact bT _ _ _ _ _
   unfold tx3; rw [this]; exact ⟨rfl,w,rfl⟩
 . rw [Vp e1] at h
   exact absurd (CD h) hk
theorem sQ (W:BkW L) {δc:Dn} {tt:Dn->Res Bool} {f:Dp->Bool} {M:List Dp} (hM:∀ e∈M,e∈L/\(wdS e == "add")=true) (ht:∀ e∈M,tt ([.sh e.1]++δc)=.ok (f e)):C7 C6 δc tt (I9 (A2 (b2 (A1 0) (vC (.int 1)) dIx) (A2 (b2 (A1 0) (vC (.int 3)) dIx) A7))) (M.map (·.1))=.ok ((M.filter f).map lsD) :=
 W0 (fun e:Dp=>e.1) lsD f M ht fun e he=>T6 (A6 (B4 (x:=e.1) (y:=.int 1) rfl rfl (W.1 e (hM e he).1).kd.tid) (A6 (B4 (x:=e.1) (y:=.int 3) rfl rfl (vY W (hM e he).1 (hM e he).2).1) rfl))
theorem nW {e:Dp} (h:Kd e) (δ:Dn):(C1 (b2 (b2 (A1 0) (vC (.int 0)) dIx) (vC (.str "add")) dEq)) ([.sh e.1]++δ)=.ok (wdS e == "add"):=B8 (B4 (x:=.str (wdS e)) (y:=.str "add") (B4 (x:=e.1) (y:=.int 0) rfl rfl h.t0) rfl (Fl _ _))
theorem sR (A:BkA L B) (W:BkW L) (hl:L.length<=9) (P:Pq L ku kd):Gh [bkD L]=.ok (.list ((L.filter (Kp L ((ord B).filter (N6 ku kd)))).map lsD)):=by
 have hk:∀ e∈L,Kd e:=fun e he=>(W.1 e he).kd;have hol:=Az A;have hf:=w6 (N6 ku kd) (ord B);have hsh:=Jw A hl P.P;generalize hT:(ord B).filter (N6 ku kd)=T at hsh hf;obtain ⟨out,e1,e2⟩:=iK T [] (fun _ h=>nomatch h);have c1:=W0 (δc:=[]) (tt:=E5) (el:=I9 (A2 (b2 (b2 (A1 0) (vC (.int 0)) dIx) (vC (.int 0)) dIx) (A2 (vC (.bool true)) A7))) tl (fun u=>AD [idP u.1.p,.bool true]) (fun _=>true) T (fun _ _=>rfl) fun u _=>T6 (A6 (B4 (x:=sgA u) (y:=.int 0) (B4 (x:=tl u) (y:=.int 0) rfl rfl (Da _ _)) rfl (Da _ _)) rfl);rw [BL.mpr fun _ _=>rfl] at c1;have c2:=W0 (δc:=[oN ku]) (tt:=Ag (C1 (b2 (b2 (A1 0) (vC (.int 0)) dIx) (vC (.str "add")) dEq)) (C1 (Q6 true 1 (b2 (A1 0) (vC (.int 1)) dIx)))) (el:=A1 0) (fun e:Dp=>e.1) (fun e=>e.1) (fun e=>(wdS e == "add") && !decide (e.2∈off L)) L (fun e he=>uK (nW (hk e he) _) (B8 (by
   rw [Ed (kvs:=ku) (kd:=idP e.2) rfl (B4 (x:=e.1) (y:=.int 1) rfl rfl (hk e he).tid) (X5 e.2),bne_true]; exact congrArg (fun z=>Res.ok (x5 (!z))) (P.o e.2)))) fun e _=>rfl
 have c3:=sQ W (δc:=[oN out]) (tt:=C1 (Q6 true 1 (b2 (A1 0) (vC (.int 1)) dIx))) (f:=fun e => !(T.any fun u=>decide (u.1.p=e.2))) (M:=L.filter fun e=>(wdS e == "add") && !decide (e.2∈off L)) (fun e he=>⟨(o6.mp he).1,by have:=(o6.mp he).2; simp only [j9] at this; exact this.1⟩) fun e he=>B8 (by
   rw [Ed (kvs:=out) (kd:=idP e.2) rfl (B4 (x:=e.1) (y:=.int 1) rfl rfl (hk e (o6.mp he).1).tid) (X5 e.2),bne_true]; exact congrArg (fun z=>Res.ok (x5 (!z))) (e2 e.2))
 rw [EW] at c3;have hg:(fun e=>(!T.any fun u=>decide (u.1.p=e.2))&&((wdS e == "add") && !decide (e.2∈off L)))=Kp L T:=funext fun e=>Bool.and_comm _ _;rw [hg] at c3;have hlf:=w6 (fun e:Dp=>(wdS e == "add") && !decide (e.2∈off L)) L;unfold Gh;refine K4 ?_;show C5 _ _ [.sh (bkD L),.un,.un,.un]=_;refine (C2 (δ':=[.sh (bkD L),oN ku,.un,.un]) ?_).trans ?_
 . unfold Le X8 Fq
   rw [A6 (d:=bkD L) (ds:=[]) rfl rfl,B9,P.P.u]; rfl
 refine (C2 (δ':=[.sh (bkD L),oN ku,oN out,.un]) ?_).trans ?_
 . unfold Ld X8 Ii
   rw [J2 (E1 (δc:=[]) (D8 (d:=.list (T.map tl)) (B5 (A6 (d:=bkD L) rfl rfl) hsh) rfl) (by rw [zZ]; lia) rfl c1),B9];show M1 (if _ then _ else _) _=_;rw [if_pos (by rw [zZ]; lia),e1]; rfl
 refine (C2 (δ':=[.sh (bkD L),oN ku,oN out,.sh (.list ((L.filter fun e=>(wdS e == "add") && !decide (e.2∈off L)).map (·.1)))]) ?_).trans ?_
 . unfold Lc Zs
   rw [E1 (δc:=[oN ku]) (D8 (d:=bkD L) rfl rfl) (by rw [zZ]; lia) rfl c2]; rfl
 exact D5 (J2 (E1 (δc:=[oN out]) (D8 (d:=.list ((L.filter fun e=>(wdS e == "add") && !decide (e.2∈off L)).map (·.1))) rfl rfl) (by rw [zZ]; lia) rfl c3))
end
abbrev kF (g:Str->List zS) (k:Str):zS×zS:=(.str k,.list (g k))
theorem pT (g:Str->List zS) (w:Str) (v:zS):∀ ks:List Str,ks.Nodup->Hf (ks.map (kF g)) (.str w) v=if w∈ks then ks.map (kF fun k=>if k=w then g k++[v] else g k) else ks.map (kF g)++[(.str w,.list [v])]:=by
 intro ks;induction ks with
 | nil=>intro _; rfl
 | cons k ks ih =>
   intro nd; rw [AU] at nd; show (if (k==w)=true then _ else _)=_;by_cases c:k=w
   . subst c
     rw [if_pos (by simp),if_pos (.head _),c7];congr 1
     . show (AK k,FV (g k++[v]))=(.str k,.list (if k=k then _ else _))
       rw [if_pos rfl]
     . refine BK fun x hx=>?_
       show (AK x,FV (g x))=(.str x,.list (if x=k then _ else _));rw [if_neg (fun z:x=k=>nd.1 (z▸hx))]
   . rw [if_neg (by simpa using c),ih nd.2]
     by_cases h:w∈ks
     . rw [if_pos h,if_pos (.tail _ h),c7]
       congr 1;show _=(AK k,FV (if k=w then _ else _));rw [if_neg c]
     . rw [if_neg h,if_neg (fun z=>(a9.mp z).elim (fun q=>c q.symm) h),c7]; rfl
theorem oF (g:Str->List zS) {w:Str}:∀ {ks:List Str},w∈ks->Q8 (ks.map (kF g)) (.str w)=some (.list (g w)):=by
 intro ks;induction ks with
 | nil=>intro h; cases h
 | cons k ks ih =>
   intro h; unfold Q8; rw [c7,m7]; show Option.map _ (match (k==w) with | true=>_ | false=>_)=_;by_cases c:k=w
   . subst c; rw [beq_self_eq_true]; rfl
   . rw [beq_eq_false_iff_ne.mpr c]
     exact ih ((a9.mp h).resolve_left fun z=>c z.symm)
noncomputable def vs (l:List (Str×Bool)) (w:Str):List zS:=(l.filter fun p=>p.1==w).map fun p=>.bool p.2
noncomputable def ksW (l:List (Str×Bool)):List Str:=Cj (l.map (·.1))
noncomputable def kv (l:List (Str×Bool)):Kvs:=(ksW l).map (kF (vs l))
theorem uS (l:List (Str×Bool)) (w:Str) (b:Bool):Hf (kv l) (.str w) (.bool b)=kv (l++[(w,b)]):=by
 have hk:ksW (l++[(w,b)])=Fc (ksW l) w:=by unfold ksW Cj; rw [m4,JV]; rfl
 have hv:∀ k,vs (l++[(w,b)]) k=if k=w then vs l k++[.bool b] else vs l k:=fun k=>by
   unfold vs; rw [JL,m4];by_cases c:k=w
   . subst c
     rw [if_pos rfl,DB (by simp)]; rfl
   . rw [if_neg c,FA (by simpa using fun z=>c z.symm)]; simp
 unfold kv;rw [show Hf ((ksW l).map (kF (vs l))) (.str w) (.bool b)=_ from pT (vs l) w (.bool b) (ksW l) (Ip _),hk];unfold Fc;by_cases c:w∈ksW l
 . rw [if_pos c,if_pos c]
   refine BK fun k _=>?_;unfold kF; rw [hv]
 . rw [if_neg c,if_neg c,m4]
   have h1:vs l w=[]:=by
     unfold vs; rw [BG.mpr fun p hp z=>c (Gj.mpr (by rw [<- CD z]; exact y4 hp))]; rfl
   congr 1
   . refine BK fun k hk=>?_
     unfold kF; rw [hv,if_neg (fun z:k=w=>c (z▸hk))]
   . show _=[kF _ w]
     unfold kF; rw [hv,if_pos rfl,h1]; rfl
noncomputable section
variable {L:List Dp} {ku kd:Kvs}
noncomputable def hW (L:List Dp) (h:Str) (M:List Dp):List (Str×Bool):=(M.filter fun e=>e.2.2==h).map fun e=>(wdS e,!decide (e.2∈off L))
theorem jP (P:Pq L ku kd) (h:Str):∀ (M:List Dp),(∀ e∈M,Kd e)->∀ l:List (Str×Bool),Ko [.sh (bkD L),.sh (.str h),oN ku,.un,.un] 4 (C1 (b2 (b2 (b2 (A1 4) (vC (.int 1)) dIx) (vC (.int 1)) dIx) (A1 1) dEq)) (b2 (A1 4) (vC (.int 0)) dIx) (Q6 true 2 (b2 (A1 4) (vC (.int 1)) dIx)) (M.map (·.1)) (kv l)=.ok (kv (l++hW L h M)):=by
 intro M;induction M with
 | nil=>intro _ l; show Res.ok (kv l)=.ok (kv (l++[])); rw [m8]
 | cons e M ih =>
   intro hk l; have k0:=hk e (.head _); have c1:(C1 (b2 (b2 (b2 (A1 4) (vC (.int 1)) dIx) (vC (.int 1)) dIx) (A1 1) dEq)) ([Sl.sh (bkD L),.sh (.str h),oN ku,.un,.un].set 4 (.sh e.1))=.ok (e.2.2==h):=B8 (B4 (x:=.str e.2.2) (y:=.str h) (B4 (x:=idP e.2) (y:=.int 1) (B4 (x:=e.1) (y:=.int 1) rfl rfl k0.tid) rfl (La _ _ _)) rfl (Fl _ _)); rw [c7]; unfold Ko; rw [c1]; have hd:hW L h (e::M)=if (e.2.2==h)=true then (wdS e,!decide (e.2∈off L))::hW L h M else hW L h M:=by
     unfold hW; rw [BR];split <;> rfl
   cases c:(e.2.2==h) with
   | false =>
     rw [hd,c,if_neg (by decide)]; exact ih (fun x hx=>hk x (.tail _ hx)) l
   | true =>
     have c2:(b2 (A1 4) (vC (.int 0)) dIx) ([Sl.sh (bkD L),.sh (.str h),oN ku,.un,.un].set 4 (.sh e.1))=.ok (.str (wdS e)):=B4 (x:=e.1) (y:=.int 0) rfl rfl k0.t0; have c3:(Q6 true 2 (b2 (A1 4) (vC (.int 1)) dIx)) ([Sl.sh (bkD L),.sh (.str h),oN ku,.un,.un].set 4 (.sh e.1))=.ok (.bool (!decide (e.2∈off L))):=by
       rw [Ed (kvs:=ku) (kd:=idP e.2) rfl (B4 (x:=e.1) (y:=.int 1) rfl rfl k0.tid) (X5 e.2),bne_true]; exact congrArg (fun z=>Res.ok (x5 (!z))) (P.o e.2)
     dsimp only; rw [c2,c3]; show Ko _ _ _ _ _ _ (Hf (kv l) (.str (wdS e)) _)=_;rw [uS,ih (fun x hx=>hk x (.tail _ hx)),hd,c,if_pos rfl,z4]; rfl
abbrev Fj:List Str:=["add", "drop", "mark", "undo", "unmark"]
theorem tK:Fj.Pairwise leX:=by
 have:(Fj.zip Fj.tail).all (fun p => !ltS p.2 p.1)=true:=by decide +kernel
 refine Ls _ _ ?_;decide +kernel
theorem eG (W:BkW L) {e:Dp} (he:e∈L):wdS e∈Fj:=by
 obtain ⟨_,h⟩:=(show Wf _ _ _ _ from W.1 e he);rcases h with ⟨b,w,e1,_⟩ | ⟨sg,e1,_⟩ | ⟨n,s1,x1,s2,x2,e1,_⟩ | ⟨n,e1,_⟩ | ⟨q,e1,_⟩ <;> rw [Vp e1] <;> simp
noncomputable def dw (L:List Dp) (h w:Str):List Dp:=L.filter fun e=>(wdS e==w)&&(e.2.2==h)
abbrev wS (L:List Dp) (h w:Str):zS:=.tuple [.str w,.int ((dw L h w).length:Int),.int ((dw L h w).countP (fun e => !decide (e.2∈off L)):Int)]
noncomputable def byL (L:List Dp) (h:Str):List zS:=(Fj.filter fun w => !(dw L h w).isEmpty).map (wS L h)
theorem vs_dw (L:List Dp) (h w:Str):vs (hW L h L) w=(dw L h w).map fun e=>.bool (!decide (e.2∈off L)):=by
 unfold vs hW dw;rw [List.filter_map,BE,EW]; rfl
theorem tR {α:Type} (l:List α):(!l.isEmpty)=true↔∃ x,x∈l:=by
 cases l with
 | nil=>simp
 | cons x l=>exact ⟨fun _=>⟨x,.head _⟩,fun _=>rfl⟩
theorem dB (L:List Dp) (h w:Str):w∈ksW (hW L h L)↔(!(dw L h w).isEmpty)=true:=by
 unfold ksW;rw [Gj,tR];unfold hW dw;simp only [BE,j7,o6,j9,beq_iff_eq,Function.comp];constructor
 . rintro ⟨e,⟨h1,h2⟩,h3⟩; exact ⟨e,h1,h3,h2⟩
 . rintro ⟨e,h1,h3,h2⟩; exact ⟨e,⟨h1,h2⟩,h3⟩
theorem fJ (W:BkW L) (h:Str):Cr (ksW (hW L h L))=Fj.filter fun w => !(dw L h w).isEmpty:=by
 refine Kg ((R0 _).trans ((List.perm_ext_iff_of_nodup (Ip _) (KR _ (show Fj.Nodup by decide +kernel))).mpr fun w=>?_)) (Pu _) (tK.filter _);rw [o6];refine ⟨fun z=>⟨?_,(dB L h w).mp z⟩,fun z=>(dB L h w).mpr z.2⟩;have z:=Gj.mp z;obtain ⟨p,hp,rfl⟩:=j7.mp z;obtain ⟨e,he,rfl⟩:=j7.mp hp;exact eG W (o6.mp he).1
theorem Ys:∀ ss:List Str,T7 (ss.map .str)=some ss:=by
 intro ss;induction ss with
 | nil=>rfl
 | cons n ns ih=>show (T7 (ns.map .str)).map (n::·)=_; rw [ih]; rfl
theorem fP:∀ w∈Fj,(l7 w&&decide (w.length<=1000))=true:=by decide +kernel
theorem dX (W:BkW L) (hl:L.length<=9) (P:Pq L ku kd) (h:Str):Y9 [bkD L,.str h]=.ok (.list (byL L h)):=by
 have hk:∀ e∈L,Kd e:=fun e he=>(W.1 e he).kd;have hg:=jP P h L hk [];have hks:ksW (hW L h L)=ksW (hW L h L):=rfl;have hs:Vq 3 [.sh (bkD L),.sh (.str h),oN ku,oN (kv (hW L h L)),.un]=.ok (.list ((Fj.filter fun w => !(dw L h w).isEmpty).map .str)):=by
   show (match T7 ((kv (hW L h L)).map (·.1)) with | some ss=>(if _ then _ else _) | none=>_)=_;have:(kv (hW L h L)).map (·.1)=(ksW (hW L h L)).map .str:=by unfold kv; rw [BE]; rfl
   rw [this,Ys]; have hp:=R0 (ksW (hW L h L)); rw [fJ W h] at hp; have hle:=w6 (fun w => !(dw L h w).isEmpty) Fj;show (if (ksW (hW L h L)).length < 64/\((ksW (hW L h L)).all fun x=>l7 x&&decide (x.length<=1000))=true then _ else _)=_;rw [if_pos ⟨by rw [<- hp.length_eq]; exact EZ hle (by decide),BS.mpr fun w hw=>fP w (o6.mp (hp.mem_iff.mpr hw)).1⟩,fJ W h]
 have c:=W0 (δc:=[oN (kv (hW L h L))]) (tt:=E5) (el:=I9 (A2 (A1 0) (A2 (vFn (A2 (Ec 1 (A1 0)) A7) K7) (A2 (Og (Ec 1 (A1 0)) (vC (.bool true))) A7)))) AK (wS L h) (fun _=>true) (Fj.filter fun w => !(dw L h w).isEmpty) (fun _ _=>rfl) fun w hw=>by
   have hm:=(dB L h w).mpr (o6.mp hw).2; have hi:(Ec 1 (A1 0)) ([.sh (.str w)]++[oN (kv (hW L h L))])=.ok (.list ((dw L h w).map fun e=>.bool (!decide (e.2∈off L)))):=by
     show Res.bind (Res.ok (AK w)) (fun kd'=>if nkD kd'=true then ofO (Q8 (kv (hW L h L)) kd') else Res.no)=_;rw [B9,if_pos (show nkD (.str w)=true from by
       have:=fP w (o6.mp hw).1;first
         | rfl
         | (simp [nkD,Hd,isK]; simpa using this)),show Q8 (kv (hW L h L)) (.str w)=_ from oF _ hm,vs_dw]; rfl
   refine T6 (A6 rfl (A6 (W1 (A6 hi rfl) (show some (p5 ((List.map _ _).length:Int))=_ from by rw [zZ])) (A6 ?_ rfl)));unfold Og; rw [hi,B9]; show Res.bind (Res.ok (x5 true)) _=_;rw [B9,if_pos (by decide),List.countP_map]; have:((fun y=>g9 y (.bool true))∘fun e:Dp=>x5 (!decide (e.2∈off L)))=fun e:Dp => !decide (e.2∈off L):=funext fun e=>by
     show ((!decide (e.2∈off L))==true)=_;cases (!decide (e.2∈off L)) <;> rfl
   rw [this]
 rw [BL.mpr fun _ _=>rfl] at c;unfold Y9;refine K4 ?_;show C5 _ _ [.sh (bkD L),.sh (.str h),.un,.un,.un]=_;refine (C2 (δ':=[.sh (bkD L),.sh (.str h),oN ku,.un,.un]) ?_).trans ?_
 . unfold El X8 Fq
   rw [A6 (d:=bkD L) (ds:=[]) rfl rfl,B9,P.P.u]; rfl
 refine (C2 (δ':=[.sh (bkD L),.sh (.str h),oN ku,oN [],.un]) rfl).trans ?_;refine (C2 (δ':=[.sh (bkD L),.sh (.str h),oN ku,oN (kv (hW L h L)),.un]) ?_).trans ?_
 . unfold Ek iC
   show M1 (Res.bind (Res.ok (bkD L)) D2) _=_;rw [B9]; show M1 (Res.ok (L.map (·.1))) _=_;rw [D6,if_pos ⟨by rw [zZ]; lia,by decide⟩];have hg':Ko ((([Sl.sh (bkD L),.sh (.str h),oN ku,oN [],.un].set 3 .un)).set 4 .un) 4 (C1 (b2 (b2 (b2 (A1 4) (vC (.int 1)) dIx) (vC (.int 1)) dIx) (A1 1) dEq)) (b2 (A1 4) (vC (.int 0)) dIx) (Q6 true 2 (b2 (A1 4) (vC (.int 1)) dIx)) (L.map (·.1)) []=_:=hg; rw [hg']; rfl
 have hle:=w6 (fun w => !(dw L h w).isEmpty) Fj;exact D5 (J2 (E1 (δc:=[oN (kv (hW L h L))]) (D8 (d:=.list ((Fj.filter fun w => !(dw L h w).isEmpty).map .str)) hs rfl) (by rw [zZ]; exact i6 hle (by decide)) rfl c))
end
abbrev chU (u:As):Nat:=u.1.w.cps.toList.getD u.2 0
theorem Qw:∀ us:List As,(AG "" (us.map ltr)).cps.toList=us.map chU
 | []=>rfl
 | [u]=>rfl
 | u::v::r=>by
   have ih:=Qw (v::r); show ((ltr u ++ "" ++ AG "" ((v::r).map ltr)):Str).cps.toList=_;show ((ltr u).cps++("" : Str).cps++(AG "" ((v::r).map ltr)).cps).toList=_;rw [CT,CT,ih]; rfl
theorem jE (us:List As):(AG "" (us.map ltr)).cps.size=us.length:=by
 rw [<- n6,Qw,zZ]
abbrev rD (x:Str×Str):zS:=.tuple [.str x.1,.str x.2]
noncomputable def Tk (acc:List (Str×Str)) (h c:Str):List (Str×Str):=match acc.getLast? with
 | some x=>if x.1=h then acc.dropLast++[(h,x.2++c)] else acc++[(h,c)]
 | none=>[(h,c)]
theorem Kf (h c:Str):Tk [] h c=[(h,c)]:=rfl
theorem Gw (A:List (Str×Str)) (x:Str×Str) (h c:Str):Tk (A++[x]) h c=if x.1=h then A++[(h,x.2++c)] else A++[x]++[(h,c)]:=by
 unfold Tk;rw [List.getLast?_append];simp
noncomputable def Co:List As->List (Str×Str)->List (Str×Str)
 | [],acc=>acc
 | u::us,acc=>Co us (Tk acc u.1.p.2 (ltr u))
def RunOk (n:Nat) (acc:List (Str×Str)):Prop:=acc.length<=n/\∀ x∈acc,x.2.length<=n
theorem RunOk.step {n:Nat} {acc:List (Str×Str)} (h:RunOk n acc) (u:As):RunOk (n+1) (Tk acc u.1.p.2 (ltr u)):=by
 rcases FS acc with rfl | ⟨A,x,rfl⟩
 . rw [Kf]
   refine ⟨by simp,fun y hy=>?_⟩;rw [c8.mp hy]; show (ltr u).length<=n+1;rw [Ol]; lia
 . rw [FT] at h ⊢
   obtain ⟨h1,h2⟩:=h; rw [Gw];split
   . refine ⟨by rw [l8] at h1 ⊢; simp at h1 ⊢; lia,fun y hy=>?_⟩
     rcases i7.mp hy with z | z
     . have:=h2 y (EG _ z); lia
     . rw [c8.mp z]
       show (x.2++ltr u).length<=n+1;have:=h2 x (AE _ (.head _)); rw [L6,Ol]; lia
   . refine ⟨by rw [l8]; simp at h1 ⊢; lia,fun y hy=>?_⟩
     rcases i7.mp hy with z | z
     . have:=h2 y z; lia
     . rw [c8.mp z]
       show (ltr u).length<=n+1;rw [Ol]; lia
theorem fI (A:List zS) (x:zS):ixN (A++[x]).length (-1)=some A.length:=by
 unfold ixN;simp;lia
theorem Xg (A:List zS) (x:zS):dIx (.list (A++[x])) (.int (-1))=some x:=by
 show atI (A++[x]) (-1)=some x;unfold atI;rw [fI];simp
theorem sN (δ:Dn):b1 (vC (.int 1)) Fk δ=.ok (.int (-1)):=rfl
theorem lQ (A:List zS) (x y:zS):(A++[x]).set A.length y=A++[y]:=by
 rw [List.set_append_right _ _ (f8 _),Nat.sub_self]; rfl
theorem rN {i:Nat} {fk fv:Dn->Res zS} {δ:Dn} {A:List zS} {x v:zS} (h:δ[i]? = some (.ow (.list (A++[x])))) (hv:fv δ=.ok v) (hk:fk δ=.ok (.int (-1))):Uh i fk fv δ=.nx (δ.set i (.ow (.list (A++[v])))):=by
 unfold Uh;rw [h];show M1 (fv δ) _=_;rw [hv,D6,hk,D6];show (match ixN (A++[x]).length (-1) with | some j=>_ | none=>_)=_;rw [fI];show Out.nx (δ.set i (.ow (.list ((A++[x]).set A.length v))))=_;rw [lQ]
noncomputable def pK:Dn->Out:=(C5 (G6 3 (b2 (b2 (b2 (A1 2) (vC (.int 0)) dIx) (vC (.int 0)) dIx) (vC (.int 1)) dIx)) (sIf (cFz 1 (Ag (C1 (A1 1)) (C1 (b2 (b2 (b2 (A1 1) (b1 (vC (.int 1)) Fk) dIx) (vC (.int 0)) dIx) (A1 3) dEq)))) (Uh 1 (b1 (vC (.int 1)) Fk) (gK 1 (I9 (A2 (A1 3) (A2 (b2 (b2 (b2 (A1 1) (b1 (vC (.int 1)) Fk) dIx) (vC (.int 1)) dIx) (b2 (A1 2) (vC (.int 1)) dIx) D3) A7))))) (Cn 1 (I9 (A2 (A1 3) (A2 (b2 (A1 2) (vC (.int 1)) dIx) A7))))))
theorem qE {i:Nat} {f:Dn->Res zS} {δ δ':Dn} {d:zS} (h:fz i δ=δ') (h2:f δ'=.ok d) (h3:nX d=true):gK i f δ=.ok d:=by
 unfold gK; rw [h,h2,B9,if_pos h3]
theorem kE (b:zS) {n:Nat} {acc:List (Str×Str)} (h:RunOk n acc) (hn:n<=100) (u:As) (s3:Sl):pK [.sh b,.ow (.list (acc.map rD)),.sh (tl u),s3]=.nx [.sh b,.ow (.list ((Tk acc u.1.p.2 (ltr u)).map rD)),.sh (tl u),.sh (.str u.1.p.2)]:=by
 unfold pK;rw [C2 (δ':=[.sh b,.ow (.list (acc.map rD)),.sh (tl u),.sh (.str u.1.p.2)]) (F8 (d:=.str u.1.p.2) (B4 (x:=idP u.1.p) (y:=.int 1) (B4 (x:=sgA u) (y:=.int 0) (B4 (x:=tl u) (y:=.int 0) rfl rfl (Da _ _)) rfl (Da _ _)) rfl (La _ _ _)))];have app:Cn 1 (I9 (A2 (A1 3) (A2 (b2 (A1 2) (vC (.int 1)) dIx) A7))) [.sh b,.ow (.list (acc.map rD)),.sh (tl u),.sh (.str u.1.p.2)]=.nx [.sh b,.ow (.list ((acc++[(u.1.p.2,ltr u)]).map rD)),.sh (tl u),.sh (.str u.1.p.2)]:=by
   have h1:=h.1; rw [Gv (W:=acc.map rD) (d:=rD (u.1.p.2,ltr u)) rfl (T6 (A6 (d:=.str u.1.p.2) rfl (A6 (B4 (x:=tl u) (y:=.int 1) rfl rfl (La _ _ _)) rfl))) (by rw [zZ]; lia),m4];rfl
 rcases FS acc with rfl | ⟨A,x,rfl⟩
 . rw [P2 (Xz (δ':=[.sh b,.sh (.list []),.sh (tl u),.sh (.str u.1.p.2)]) rfl (Rt rfl)),app,Kf]
   rfl
 . rw [FT] at *
   have hx:x.2.length<=n:=h.2 x (AE _ (.head _)); have em:(A++[x]).map rD=A.map rD++[rD x]:=by rw [m4]; rfl
   have hne:((A.map rD++[rD x]).isEmpty)=false:=by cases A <;> rfl
   have c1:(C1 (A1 1)) [.sh b,.sh (.list (A.map rD++[rD x])),.sh (tl u),.sh (.str u.1.p.2)]=.ok true:=by
     show ofO (some (!((A.map rD++[rD x]).isEmpty)))=_;rw [hne]; rfl
   have c2:(C1 (b2 (b2 (b2 (A1 1) (b1 (vC (.int 1)) Fk) dIx) (vC (.int 0)) dIx) (A1 3) dEq)) [.sh b,.sh (.list (A.map rD++[rD x])),.sh (tl u),.sh (.str u.1.p.2)]=.ok (x.1==u.1.p.2) :=
     B8 (B4 (x:=.str x.1) (y:=.str u.1.p.2) (B4 (x:=rD x) (y:=.int 0) (B4 (x:=.list (A.map rD++[rD x])) (y:=.int (-1)) rfl (sN _) (Xg _ _)) rfl (Da _ _)) rfl (Fl _ _))
   rw [Gw]; rw [em] at app ⊢;by_cases c:x.1=u.1.p.2
   . rw [c,eM] at c2
     rw [if_pos c,W3 (Xz (δ':=[.sh b,.sh (.list (A.map rD++[rD x])),.sh (tl u),.sh (.str u.1.p.2)]) rfl (Kw c1 c2))];rw [rN (A:=A.map rD) (x:=rD x) (v:=rD (u.1.p.2,x.2++ltr u)) rfl (qE (δ':=[.sh b,.sh (.list (A.map rD++[rD x])),.sh (tl u),.sh (.str u.1.p.2)]) rfl (T6 (A6 (d:=.str u.1.p.2) rfl (A6 (B4 (x:=.str x.2) (y:=.str (ltr u)) (B4 (x:=rD x) (y:=.int 1) (B4 (x:=.list (A.map rD++[rD x])) (y:=.int (-1)) rfl (sN _) (Xg _ _)) rfl (La _ _ _)) (B4 (x:=tl u) (y:=.int 1) rfl rfl (La _ _ _)) (zL (by rw [Ol]; lia))) rfl))) rfl) (sN _),m4];rfl
   . rw [Za c] at c2
     rw [if_neg c,P2 (Xz (δ':=[.sh b,.sh (.list (A.map rD++[rD x])),.sh (tl u),.sh (.str u.1.p.2)]) rfl (Kx c1 c2)),app]
theorem Vm (b:zS):∀ (us:List As) (n:Nat) (acc:List (Str×Str)) (s2 s3:Sl),RunOk n acc->n+us.length<=100->∃ t2 t3,F9 (st1 2) pK (us.map tl) [.sh b,.ow (.list (acc.map rD)),s2,s3]=.nx [.sh b,.ow (.list ((Co us acc).map rD)),t2,t3]
 | [],n,acc,s2,s3,_,_=>⟨s2,s3,rfl⟩
 | u::us,n,acc,s2,s3,h,hn=>by
   rw [i0] at hn; obtain ⟨t2,t3,e⟩:=Vm b us (n+1) _ (.sh (tl u)) (.sh (.str u.1.p.2)) (h.step u) (by lia);exact ⟨t2,t3,(W4 (δ1:=[.sh b,.ow (.list (acc.map rD)),.sh (tl u),s3]) rfl (kE b h (by lia) u s3)).trans e⟩
theorem uP {L:List Dp} {B:List Ad} (A:BkA L B) (hl:L.length<=9) {ku kd:Kvs} (P:Pr L ku kd):K2 [bkD L]=.ok (.list ((Co ((ord B).filter (N6 ku kd)) []).map rD)):=by
 have hol:=Az A;have hf:=w6 (N6 ku kd) (ord B);obtain ⟨t2,t3,e⟩:=Vm (bkD L) ((ord B).filter (N6 ku kd)) 0 [] .un .un ⟨f8 _,fun _ h=>nomatch h⟩ (by lia);have hs:=Jw A hl P;unfold K2 Cd O8;refine K4 ?_;show C5 _ _ [.sh (bkD L),.un,.un,.un]=_;rw [C2 (δ':=[.sh (bkD L),.ow (.list []),.un,.un]) (by rfl)];rw [C2 (δ':=[.sh (bkD L),.ow (.list ((Co ((ord B).filter (N6 ku kd)) []).map rD)),t2,t3]) (by
   unfold Am O3; rw [D8 (d:=.list (((ord B).filter (N6 ku kd)).map tl)) (ds:=((ord B).filter (N6 ku kd)).map tl) (B5 (A6 (d:=bkD L) rfl rfl) hs) rfl,D6]; exact e)]
 rfl
theorem oP (p q:IdP):g9 (idP p) (idP q)=decide (p=q):=by
 show (g9 (.int p.1) (.int q.1)&&(g9 (.str p.2) (.str q.2)&&true))=_;show ((p.1==q.1)&&((p.2==q.2)&&true))=_;rw [BM];simp [Prod.ext_iff]
theorem dM (p:IdP):(idP p).depth<=2:=Xn p.1 p.2
theorem dEqP (p q:IdP):dEq (idP p) (idP q)=some (.bool (decide (p=q))):=by
 unfold dEq;rw [if_pos (i6 (IA _ _) (i6 (dM p) (by decide))),oP]
theorem Cl (x y:zS) (xs:List zS):dIx (.tuple (x::y::xs)) (.int 1)=some y:=K6 (xs:=x::y::xs) (j:=1) (by simp)
theorem fT (x y z:zS) (xs:List zS):dIx (.tuple (x::y::z::xs)) (.int 2)=some z:=K6 (xs:=x::y::z::xs) (j:=2) (by simp)
theorem vQ (x y z u:zS) (xs:List zS):dIx (.tuple (x::y::z::u::xs)) (.int 3)=some u:=K6 (xs:=x::y::z::u::xs) (j:=3) (by simp)
theorem dIdx4 (x y z u v:zS) (xs:List zS):dIx (.tuple (x::y::z::u::v::xs)) (.int 4)=some v:=K6 (xs:=x::y::z::u::v::xs) (j:=4) (by simp)
theorem leI (a b:Int):D9 .LtE (.int a) (.int b)=some (.bool (decide (a<=b))):=by
 unfold D9;rw [if_pos (by simp [x4])];rfl
theorem vK {p q:IdP} (k:okH p.2) (k':okH q.2) (h:key p < key q):g9 (idP p) (idP q)=false/\Rr .Lt (idP p) (idP q)=some true:=by
 obtain ⟨t,x⟩:=p;obtain ⟨t',y⟩:=q;have hne:(t,x)≠(t',y):=fun e=>by rw [e] at h; omega
 refine ⟨by rw [oP]; exact decide_eq_false hne,?_⟩;have e3:Qj .Lt x y=decide (hj x < hj y):=by
   rcases k with rfl | rfl | rfl <;> rcases k' with rfl | rfl | rfl <;> decide +kernel
 obtain ⟨e1,_⟩:=leS x y k k';have l1:=Qy x;have l2:=Qy y;unfold key at h;simp only at h;show Dy .Lt [.int t,.str x] [.int t',.str y]=_;simp only [Dy];have f1:g9 (.int t) (.int t')=(t==t'):=rfl;have f2:g9 (.str x) (.str y)=(x==y):=rfl;rw [f1,f2,e1];by_cases c1:t=t'
 . subst c1
   rw [if_pos (by simp),if_neg (by simp; omega)];show some (Qj .Lt x y)=_;rw [e3,decide_eq_true (by omega)]
 . rw [if_neg (by simp [c1])]
   show some (decide (t < t'))=_;rw [decide_eq_true (by omega)]
def ltD (a b:zS):Prop:=D9 .Lt a b=some (.bool true)
theorem ltId {p q:IdP} (k:okH p.2) (k':okH q.2) (h:key p < key q):ltD (idP p) (idP q):=by
 unfold ltD D9;rw [if_pos (i6 (dM p) (by decide)),(vK k k' h).2]; rfl
theorem sgR.lt {a b:zS} (h:sgR a b):ltD a b:=by
 obtain ⟨p,q,n,m,rfl,rfl,k,k',h⟩:=h;unfold ltD D9;have hd:(sgD p n).depth<=60:=by
   have:=dM p; simp only [x4,w5] at this ⊢;omega
 rw [if_pos hd];show (Dy .Lt [idP p,.int n] [idP q,.int m]).map x5=_;simp only [Dy];rcases h with h | ⟨rfl,h⟩
 . obtain ⟨e1,e2⟩:=vK k k' h
   rw [if_neg (by rw [e1]; decide),e2]; rfl
 . rw [if_pos (by rw [oP]; simp)]
   have f1:g9 (.int n) (.int m)=(n==m):=rfl; rw [f1,if_neg (by simp; omega)];show (some (decide (n < m))).map x5=_;rw [decide_eq_true h]; rfl
theorem pO:∀ (ys:List zS),(∀ y∈ys,y=.bool true)->Fm [.list ys]=some (.bool true):=fun ys h=>by
 have:∀ ys:List zS,(∀ y∈ys,y=.bool true)->∃ bs,Ha ys=some bs/\bs.all id=true:=fun ys=>by
   induction ys with
   | nil=>exact fun _=>⟨[],rfl,rfl⟩
   | cons y ys ih =>
     intro h; obtain ⟨bs,e1,e2⟩:=ih fun z hz=>h z (.tail _ hz);rw [h y (.head _)]; exact ⟨true::bs,by show (Ha ys).map _=_; rw [e1]; rfl,by simp [e2]⟩
 obtain ⟨bs,e1,e2⟩:=this ys h;show (Ha ys).map _=_;rw [e1];show some (x5 (bs.all id))=_;rw [e2]
theorem Ah {src:Dn->Res (List zS)} {cap:List Nat} {el:Dn->Res zS} {δ δc:Dn} {ds:List zS} (h:src δ=.ok ds) (hl:ds.length<=1000) (hc:Dl δ cap=δc) (e:∀ d∈ds,el ([.sh d]++δc)=.ok (.bool true)) :
   (vFn (A2 (E8 (D7 src C6 cap E5 el)) A7) Fm) δ=.ok (.bool true):=by
 obtain ⟨ys,g1,g2,g3⟩:=Rq (bnd:=C6) (δc:=δc) (el:=el) (P:=fun y=>y=.bool true) ds fun d hd=>⟨_,_,rfl,e d hd,rfl⟩;exact W1 (A6 (J2 (E1 h hl hc g1)) rfl) (pO ys g3)
theorem Ui {V:zS} {xs:List zS} (hV:V=.list xs\/V=.tuple xs) (hl:xs.length<=900) (h:xs.Pairwise ltD):N7 [V]=.ok (.bool true):=by
 have e1:K7 [V]=some (.int (xs.length:Int)):=by rcases hV with rfl | rfl <;> rfl
 have e2:∀ i:Int,dIx V (.int i)=atI xs i:=fun i=>by rcases hV with rfl | rfl <;> rfl
 have e3:pA (.int (xs.length:Int)) (.int 1)=some (.int ((xs.length:Int) - 1)):=rfl;have e4:Dj [.int ((xs.length:Int) - 1)]=.ok (Ab 0 ((xs.length:Int) - 1)):=by
   show (if _ then _ else _)=_;rw [if_pos (by omega)]
 refine K4 (D5 (Ah (ds:=Ab 0 ((xs.length:Int) - 1)) (δc:=[.sh V]) (by simp_arith [E9,e1,e3,e4]) (by unfold Ab; simp; omega) rfl fun d hd=>?_));unfold Ab at hd;obtain ⟨i,hi,rfl⟩:=j7.mp hd;have hi':=q9.mp hi;have hi2:i+1 < xs.length:=by omega
 have hh:ltD xs[i] xs[i+1]:=(MB.mp h) i (i+1) (by omega) hi2 (by omega);have a1:atI xs (0+(i:Int))=some xs[i]:=by rw [HY]; exact K6 (by omega)
 have a2:atI xs (0+(i:Int)+1)=some xs[i+1]:=by
   have:=K6 (xs:=xs) (j:=i+1) hi2; rw [show (0+(i:Int)+1)=((i+1:Nat):Int) from by omega]; exact this
 unfold ltD at hh;simp_arith [e2,a1,W8,a2,hh]
theorem L4 {f g:Dn->Res zS} {δ:Dn} (h:f δ=.ok (.bool true)) (h2:g δ=.ok (.bool true)):X0 f g δ=.ok (.bool true):=by rw [vT _ _ _ h,h2]
theorem Yk {n l:Int} (h:l<=n):Y5 [.int n,.int l]=.ok (.bool true):=by
 refine K4 (D5 (L4 rfl (L4 rfl ?_)));refine B4 (x:=.int n) (y:=.int l) rfl rfl ?_;show some (x5 (decide (l<=n)))=_;rw [decide_eq_true h]
theorem Wx (a b:zS):W5 [.tuple [a,b]]=.ok (.bool true):=K4 (D5 (L4 rfl rfl))
theorem tG {h:Str} (k:okH h):T4 [.str h,.str "abcdefgh"]=.ok (.bool true):=by
 rcases k with rfl | rfl | rfl <;> kernel_rfl
theorem qS {h:Str} (k:nO h):T4 [.str h,.str "lr"]=.ok (.bool true):=by
 rcases k with rfl | rfl <;> kernel_rfl
theorem Mi {p:IdP} (o:okI p):K0 [idP p]=.ok (.bool true):=by
 refine K4 (D5 (L4 (B5 (A6 rfl rfl) (Wx _ _)) (L4 (B5 (A6 (B4 rfl rfl (ix0 _ _)) (A6 rfl rfl)) (Yk o.1)) (B5 (A6 (B4 rfl rfl (Cl _ _ _)) (A6 rfl rfl)) (tG o.2.2)))))
theorem Uf {p:IdP} (o:okI p) {n:Int} (h:0<=n):M6 [sgD p n]=.ok (.bool true):=by
 refine K4 (D5 (L4 (B5 (A6 rfl rfl) (Wx _ _)) (L4 (B5 (A6 (B4 rfl rfl (ix0 _ _)) rfl) (Mi o)) (B5 (A6 (B4 rfl rfl (Cl _ _ _)) (A6 rfl rfl)) (Yk h)))))
def SgK (S:zS->Prop):Prop:=∀ x,S x->∃ (p:IdP) (n:Int),x=sgD p n/\okI p/\0<=n
theorem Zh {S:zS->Prop} (hS:SgK S) {s:zS} (h:OrN S s):F3 [s]=.ok (.bool true):=by
 rcases h with rfl | h
 . kernel_rfl
 . obtain ⟨p,n,rfl,o,h0⟩:=hS s h
   refine K4 (D5 ?_); have:(b1 (A1 0) fun d=>some (.bool (Av d))) (E9 L0 [sgD p n])=.ok (.bool false):=rfl;unfold vOr; rw [this]; show B6 (A2 (A1 0) A7) M6 (E9 L0 [sgD p n])=_;exact B5 (A6 rfl rfl) (Uf o h0)
theorem Ni {S:zS->Prop} (hS:SgK S) {s:zS} (h:OrN S s) {x:Str} (hx:nO x):W6 [.tuple [s,.str x]]=.ok (.bool true) :=
 K4 (D5 (L4 (B5 (A6 rfl rfl) (Wx _ _)) (L4 (B5 (A6 (B4 rfl rfl (ix0 _ _)) rfl) (Zh hS h)) (B5 (A6 (B4 rfl rfl (Cl _ _ _)) (A6 rfl rfl)) (qS hx)))))
theorem le1 (a b:Nat):Qj .LtE ⟨#[a]⟩ ⟨#[b]⟩=decide (a<=b):=by
 show (!decide ([b] < [a]))=_;rw [BM];simp [List.cons_lt_cons_iff]
theorem leS1 (a b:Nat):D9 .LtE (.str ⟨#[a]⟩) (.str ⟨#[b]⟩)=some (.bool (decide (a<=b))):=by
 unfold D9;rw [if_pos (by simp [x4])];show some (x5 (Qj .LtE ⟨#[a]⟩ ⟨#[b]⟩))=_;rw [le1]
theorem Xx {f g f':Dn->Res zS} {op op':zS->zS->Option zS} {δ:Dn} {x y z:zS} (h1:f δ=.ok x) (h2:g δ=.ok y) (h3:f' δ=.ok z) (e1:op x y=some (.bool true)) (e2:op' y z=some (.bool true)):O1 f g f' op op' δ=.ok (.bool true):=by
 unfold O1;rw [h1,B9,h2,B9,e1,Kk,B9];show (f' δ).bind _=_;rw [h3,B9,e2]; rfl
theorem Uq {w:Str} {m:Int} {a b:Nat} (h1:1<=w.length) (h2:(w.length:Int)<=m) (h3:w.length<=900) (h4:chOk a b w):Bh [.str w,.int m,.str ⟨#[a]⟩,.str ⟨#[b]⟩]=.ok (.bool true):=by
 refine K4 ?_;unfold Fv;rw [C9]
 . refine D5 (Ah (ds:=Ia w) (δc:=[.sh (.str ⟨#[a]⟩),.sh (.str ⟨#[b]⟩)]) rfl ?_ rfl fun d hd=>?_)
   . unfold Ia; rw [zZ]; exact i6 h3 (by decide)
   . unfold Ia at hd
     obtain ⟨c,hc,rfl⟩:=j7.mp hd; obtain ⟨l1,l2⟩:=h4 c hc; exact Xx (x:=.str ⟨#[a]⟩) (y:=.str ⟨#[c]⟩) (z:=.str ⟨#[b]⟩) rfl rfl rfl (by rw [leS1,decide_eq_true l1]) (by rw [leS1,decide_eq_true l2])
 . have t1:X7 (C1 (b1 (A1 0) fun d=>some (.bool (Km "str" d)))) (E9 Eb [.str w,.int m,.str ⟨#[a]⟩,.str ⟨#[b]⟩])=.ok false:=rfl
   have t2:(O1 (vC (.int 1)) (vFn (A2 (A1 0) A7) K7) (A1 1) (D9 .LtE) (D9 .LtE)) (E9 Eb [.str w,.int m,.str ⟨#[a]⟩,.str ⟨#[b]⟩])=.ok (.bool true) :=
     Xx (x:=.int 1) (y:=.int (w.length:Int)) (z:=.int m) rfl rfl rfl (by rw [leI,decide_eq_true (by omega)]) (by rw [leI,decide_eq_true h2])
   unfold cOr; rw [t1,B9,if_neg (by decide)]; unfold X7; rw [B8 t2]; rfl
theorem fD {w:Str} (h:Dk w):Y6 [.str w]=.ok (.bool true) :=
 K4 (D5 (B5 (A6 rfl (A6 rfl (A6 rfl (A6 rfl rfl)))) (Uq (a:=97) (b:=122) h.1 (by have:=h.2.1; omega) (by have:=h.2.1; omega) h.2.2)))
theorem pZ {w:Str} (h:Yl w):P3 [.str w]=.ok (.bool true) :=
 K4 (D5 (B5 (A6 rfl (A6 rfl (A6 rfl (A6 rfl rfl)))) (Uq (a:=32) (b:=126) h.1 (by have:=h.2.1; omega) (by have:=h.2.1; omega) h.2.2)))
theorem dJ {S:zS->Prop} (hS:SgK S) {sg:List zS} (h:∀ x∈sg,S x) (hl:sg.length<=40) (hn:sg≠[]) (hr:sg.Pairwise sgR):X4 [.tuple sg]=.ok (.bool true):=by
 have h1:1<=sg.length:=by cases sg with | nil=>exact absurd rfl hn | cons _ _=>simp
 refine K4 ?_;unfold Ca Al Ak;rw [C9]
 . refine D5 (L4 (Ah (ds:=sg) (δc:=[]) rfl (by omega) rfl fun d hd=>?_) (B5 (A6 rfl rfl) (Ui (.inr rfl) (by omega) (hr.imp fun h=>h.lt))))
   obtain ⟨p,n,rfl,o,h0⟩:=hS d (h d hd); exact B5 (A6 rfl rfl) (Uf o h0)
 . have t1:X7 (C1 (b1 (A1 0) fun d=>some (.bool (Km "tuple" d)))) (E9 O6 [.tuple sg])=.ok false:=rfl
   have t2:(O1 (vC (.int 1)) (vFn (A2 (A1 0) A7) K7) (vC (.int 400)) (D9 .LtE) (D9 .LtE)) (E9 O6 [.tuple sg])=.ok (.bool true) :=
     Xx (x:=.int 1) (y:=.int (sg.length:Int)) (z:=.int 400) rfl rfl rfl (by rw [leI,decide_eq_true (by omega)]) (by rw [leI,decide_eq_true (by omega)])
   unfold cOr; rw [t1,B9,if_neg (by decide)]; unfold X7; rw [B8 t2]; rfl
def isSg (d:zS):Prop:=∃ (p:IdP) (n:Int),d=sgD p n
theorem isSg.p {d:zS} (h:isSg d):∃ (p:IdP) (n:Int),d=.tuple [idP p,.int n]:=h
theorem jH {d:zS} (h:isSg d):Av d=false:=by obtain ⟨i,n,rfl⟩:=h; rfl
def vN (d:zS):Prop:=d=.none\/isSg d
theorem lO:∀ (sg:List zS),(∀ s∈sg,isSg s)->∃ ps:List IdP,ps.length=sg.length /\
   C7 C6 [] E5 (b2 (A1 0) (vC (.int 0)) dIx) sg=.ok (ps.map idP) /\
   C7 C6 [] (fun δ=>((A1 0) δ).bind fun d=>.ok (!Av d)) (A1 0) sg=.ok sg /\
   ∀ q:IdP,∃ ys:List zS,C7 C6 [.sh (idP q)] (C1 (b2 (b2 (A1 0) (vC (.int 0)) dIx) (A1 1) dEq)) (A1 0) sg=.ok ys/\(!ys.isEmpty)=decide (q∈ps)/\(q∈ps↔∃ n,AD [idP q,.int n]∈sg)
 | [],_=>⟨[],rfl,rfl,rfl,fun q=>⟨[],rfl,rfl,by simp⟩⟩
 | s::sg,h=>by
   obtain ⟨p,n,rfl⟩:=(h s (.head _)).p; obtain ⟨ps,e1,e2,e3,e4⟩:=lO sg fun x hx=>h x (.tail _ hx);refine ⟨p::ps,by simp [e1],?_,?_,fun q=>?_⟩
   . have:(b2 (A1 0) (vC (.int 0)) dIx) ([.sh (.tuple [idP p,.int n])]++[])=.ok (idP p):=by simp_arith [ix0]
     unfold C7; simp only [C6,E5,this,e2,c7]
   . unfold C7
     simp only [C6,W9,m8,u7,S9,B9,Av,IL]; simp only [C6,W9,m8,u7,S9,B9,Av,IL] at e3; rw [e3]
   . obtain ⟨ys,f1,f2,f3⟩:=e4 q
     have mm:q∈p::ps↔∃ m,AD [idP q,.int m]∈AD [idP p,.int n]::sg:=by
       rw [a9,f3];constructor
       . rintro (rfl | ⟨m,hm⟩)
         . exact ⟨n,.head _⟩
         . exact ⟨m,.tail _ hm⟩
       . rintro ⟨m,hm⟩
         rcases a9.mp hm with h | h
         . left
           simp only [idP,idD,CO,BC,FC,FB,and_true] at h; exact JT h.1.1 h.1.2
         . exact .inr ⟨m,h⟩
     have t:(C1 (b2 (b2 (A1 0) (vC (.int 0)) dIx) (A1 1) dEq)) ([.sh (.tuple [idP p,.int n])]++[.sh (idP q)])=.ok (decide (p=q)):=by simp_arith [ix0,dEqP]
     by_cases hpq:p=q
     . refine ⟨.tuple [idP p,.int n]::ys,?_,by simp [hpq],mm⟩
       unfold C7; rw [show C6 (.tuple [idP p,.int n])=.ok [.sh (.tuple [idP p,.int n])] from rfl];simp only [t,decide_eq_true hpq,f1]; rfl
     . refine ⟨ys,?_,by rw [f2]; simp [Ne.symm hpq],mm⟩
       unfold C7; rw [show C6 (.tuple [idP p,.int n])=.ok [.sh (.tuple [idP p,.int n])] from rfl];simp only [t,decide_eq_false hpq,f1]
theorem eO:∀ (sg:List zS),(∀ s∈sg,vN s)->∃ out:List zS,(∀ s∈out,isSg s)/\out.length<=sg.length/\C7 C6 [] (fun δ=>((A1 0) δ).bind fun d=>.ok (!Av d)) (A1 0) sg=.ok out/\(∀ s∈sg,isSg s->s∈out)/\∀ s∈out,s∈sg
 | [],_=>⟨[],(fun _ h=>nomatch h),f8 _,rfl,(fun _ h=>nomatch h),fun _ h=>nomatch h⟩
 | s::sg,h=>by
   obtain ⟨out,e1,e2,e3,e4,e5⟩:=eO sg fun x hx=>h x (.tail _ hx);rcases h s (.head _) with rfl | hs
   . refine ⟨out,e1,by simp; omega,?_,fun x hx hq=>?_,fun x hx=>.tail _ (e5 x hx)⟩
     . unfold C7
       simp only [C6,W9,m8,u7,S9,B9,Av,HD]; simp only [C6,W9,m8,u7,S9,B9] at e3; exact e3
     . rcases a9.mp hx with rfl | hx
       . obtain ⟨i,n,hh⟩:=hq; cases hh
       . exact e4 x hx hq
   . refine ⟨s::out,fun x hx=>(a9.mp hx).elim (fun z=>z▸hs) (e1 x),by simp; omega,?_,fun x hx hq=>?_,fun x hx=>?_⟩
     . unfold C7
       simp only [C6,W9,m8,u7,S9,B9,jH hs,IL]; simp only [C6,W9,m8,u7,S9,B9] at e3; rw [e3]
     . rcases a9.mp hx with rfl | hx
       . exact .head _
       . exact .tail _ (e4 x hx hq)
     . rcases a9.mp hx with rfl | hx
       . exact .head _
       . exact .tail _ (e5 x hx)
theorem Kl {S:zS->Prop} (hS:∀ x,S x->isSg x) {d:zS} {raw:List zS} (hraw':∀ s∈raw,OrN S s) (hlen:raw.length<=40) (hund:(C1 (b2 (b2 (A1 0) (vC (.int 0)) dIx) (vC (.str "undo")) dEq)) [.sh d]=.ok false)
   (hsg:(sIf (C1 (b2 (b2 (A1 0) (vC (.int 0)) dIx) (vC (.str "add")) dEq)) (G6 1 (E8 (A2 (b2 (A1 0) (vC (.int 2)) dIx) A7))) (sIf (C1 (b2 (b2 (A1 0) (vC (.int 0)) dIx) (vC (.str "drop")) dEq)) (G6 1 (vFn (A2 (b2 (A1 0) (vC (.int 2)) dIx) A7) Mj)) (sIf (C1 (b2 (b2 (A1 0) (vC (.int 0)) dIx) (vC (.str "mark")) dEq)) (G6 1 (E8 (A2 (b2 (b2 (A1 0) (vC (.int 3)) dIx) (vC (.int 0)) dIx) (A2 (b2 (b2 (A1 0) (vC (.int 4)) dIx) (vC (.int 0)) dIx) A7)))) E4))) [.sh d,.sh (.list [])]=.nx [.sh d,.sh (.list raw)]) :
   ∃ (out:List zS) (ps:List IdP),ps.length<=40/\(∀ s∈out,isSg s)/\(∀ s∈raw,isSg s->s∈out)/\(∀ s∈out,s∈raw)/\E7 [d]=.ok (.list (ps.map idP)) /\
     (∃ out:List zS,F5 [d]=.ok (.list out)/\out.length<=40/\∀ s∈out,S s/\∃ q n,s=.tuple [idP q,.int n]/\q∈ps)/\∀ q:IdP,q∈ps↔∃ n,.tuple [idP q,.int n]∈out:=by
 have hraw:∀ s∈raw,vN s:=fun s hs=>(hraw' s hs).elim .inl fun z=>.inr (hS s z);obtain ⟨out,o1,o2,o3,o4,o5⟩:=eO raw hraw;obtain ⟨ps,e1,e2,e3,e4⟩:=lO out o1;have hs:F5 [d]=.ok (.list out):=by
   refine K4 ?_; unfold V6 U0 T9 T8 L7; simp only [E9,c7,y9,i0,p4,i4,p8,l3,AC,AB]; rw [C2 (F8 (d:=.list []) rfl)];simp only [j0,j4]; rw [C2 hsg]; exact D5 (J2 (E1 (D8 rfl rfl) (by omega) rfl o3))
 refine ⟨out,ps,by omega,o1,o4,o5,?_,⟨out,hs,by omega,fun s hs'=>?_⟩,fun q=>?_⟩
 . refine K4 ?_
   unfold V7 V4; simp only [E9,c7,y9,i0,p4,i4,p8,l3,AC,AB]; rw [C9 hund]; exact D5 (J2 (E1 (D8 (B5 (A6 rfl rfl) hs) rfl) (by omega) rfl e2))
 . obtain ⟨q,n,rfl⟩:=(o1 s hs').p
   obtain ⟨_,_,_,z⟩:=e4 q; exact ⟨(hraw' _ (o5 _ hs')).elim (fun z=>nomatch z) (fun z=>z),q,n,rfl,z.mpr ⟨n,hs'⟩⟩
 . obtain ⟨_,_,_,z⟩:=e4 q
   exact z
theorem neS {x y:Str} (h:(x==y)=false):dEq (.str x) (.str y)=some (.bool false):=by rw [Fl,h]
theorem Tq {x:Str}:dEq (.str x) (.str x)=some (.bool true):=by rw [Fl]; simp
theorem k1:(("add" : Str) == "undo")=false:=by decide +kernel
theorem k2:(("drop" : Str) == "undo")=false:=by decide +kernel
theorem k3:(("mark" : Str) == "undo")=false:=by decide +kernel
theorem k4:(("unmark" : Str) == "undo")=false:=by decide +kernel
theorem k5:(("drop" : Str) == "add")=false:=by decide +kernel
theorem k6:(("mark" : Str) == "add")=false:=by decide +kernel
theorem k7:(("unmark" : Str) == "add")=false:=by decide +kernel
theorem k8:(("undo" : Str) == "add")=false:=by decide +kernel
theorem k9:(("mark" : Str) == "drop")=false:=by decide +kernel
theorem k10:(("unmark" : Str) == "drop")=false:=by decide +kernel
theorem k11:(("undo" : Str) == "drop")=false:=by decide +kernel
theorem k12:(("unmark" : Str) == "mark")=false:=by decide +kernel
theorem k14:(("undo" : Str) == "unmark")=false:=by decide +kernel
theorem k13:(("undo" : Str) == "mark")=false:=by decide +kernel
theorem cB (i j:zS):F5 [.tuple [.str "undo",i,j]]=.ok (.list []):=by
 refine K4 ?_;unfold V6 U0 T9 T8 L7;simp only [E9,c7,y9,i0,p4,i4,p8,l3,AC,AB];rw [C2 (F8 (d:=.list []) rfl)];simp only [j0,j4];rw [C2 (show _=Out.nx [.sh (.tuple [.str "undo",i,j]),.sh (.list [])] by rw [P2 (by simp_arith [ix0,neS k8]),P2 (by simp_arith [ix0,neS k11]),P2 (by simp_arith [ix0,neS k13])]; rfl)];exact D5 (J2 (E1 (ds:=[]) (D8 (d:=.list []) rfl rfl) (by simp) rfl rfl))
structure DK (S:zS->Prop) (U:IdP->Prop) (d:zS) (p:IdP) (ps:List IdP):Prop where
 id:dIx d (.int 1)=some (idP p)
 ok:okI p
 nm:E7 [d]=.ok (.list (ps.map idP))
 len:ps.length<=40
 sn:∃ out:List zS,F5 [d]=.ok (.list out)/\out.length<=40/\∀ s∈out,S s/\∃ q n,s=.tuple [idP q,.int n]/\q∈ps
 nmd:∀ q∈ps,U q\/∃ n,S (sgD q n)
 isd:Y7 [d]=.ok (.bool true)
theorem Kt {x:zS} {p:IdP} {I8:List zS} {ps:List IdP} (o:okI p) (hl:ps.length<=40) (hc:Xs (.tuple (x::idP p::I8)) (some 2) none=some (.tuple I8)) (hf:Y8 [x,.tuple I8]=.ok (.bool true)) (nm:E7 [.tuple (x::idP p::I8)]=.ok (.list (ps.map idP))) (lt:∀ q∈ps,q.1 < p.1) :
   Y7 [.tuple (x::idP p::I8)]=.ok (.bool true):=by
 refine K4 ?_;unfold Fy Ei Eh Eg;have t0:X7 (C1 (b1 (A1 0) fun d=>some (.bool (Km "tuple" d)))) (E9 Q5 [.tuple (x::idP p::I8)])=.ok false:=rfl;have t1:C1 (b2 (vFn (A2 (A1 0) A7) K7) (vC (.int 2)) (D9 .Lt)) (E9 Q5 [.tuple (x::idP p::I8)])=.ok false:=by
   refine B8 (B4 (x:=.int ((x::idP p::I8).length:Int)) (y:=.int 2) rfl rfl ?_); rw [ltI,decide_eq_false (by simp only [i0]; omega)]
 have t2:C1 (B6 (A2 (b2 (A1 0) (vC (.int 1)) dIx) A7) K0) (E9 Q5 [.tuple (x::idP p::I8)])=.ok true:=B8 (B5 (A6 (B4 rfl rfl (Cl _ _ _)) rfl) (Mi o));rw [C9 (by unfold cOr; rw [t0,B9,if_neg (by decide),t1,B9,if_neg (by decide)]; unfold X7; rw [t2]; rfl)];have t3:C1 (B6 (A2 (b2 (A1 0) (vC (.int 0)) dIx) (A2 (vSl (A1 0) (X9 (vC (.int 2))) Ax) A7)) Y8) (E9 Q5 [.tuple (x::idP p::I8)])=.ok true:=by
   refine B8 (B5 (A6 (B4 rfl rfl (ix0 _ _)) (A6 (d:=.tuple I8) ?_ rfl)) hf); unfold vSl; show ofO (Xs (.tuple (x::idP p::I8)) (some 2) none)=_;rw [hc]; rfl
 rw [C9 (by unfold X7; rw [t3]; rfl)];refine D5 (Ah (ds:=ps.map idP) (δc:=[.sh (.tuple (x::idP p::I8))]) (D8 (B5 (A6 rfl rfl) nm) rfl) (by rw [zZ]; omega) rfl fun d hd=>?_);obtain ⟨q,hq,rfl⟩:=j7.mp hd;refine B4 (x:=.int q.1) (y:=.int p.1) (B4 rfl rfl (ix0 _ _)) (B4 (B4 rfl rfl (Cl _ _ _)) rfl (ix0 _ _)) ?_;rw [ltI,decide_eq_true (lt q hq)]
theorem dk_of {S:zS->Prop} {U:IdP->Prop} (hS:SgK S) {d:zS} {p:IdP} (w:Wf p S U d) (hT:∀ q n,S (sgD q n)->q.1 < p.1) (hU:∀ q,U q->q.1 < p.1/\okI q):∃ ps,DK S U d p ps:=by
 have hS':∀ x,S x->isSg x:=fun x hx=>let ⟨q,n,e,_⟩:=hS x hx; ⟨q,n,e⟩;obtain ⟨ok,hf⟩:=w;have fin:∀ {ps:List IdP} {out raw:List zS},(∀ s∈raw,OrN S s)->(∀ s∈out,s∈raw)->(∀ q:IdP,q∈ps↔∃ n,AD [idP q,.int n]∈out)->∀ q∈ps,∃ n,S (sgD q n):=fun hr ho hq q hm=>by
   obtain ⟨n,hn⟩:=(hq q).mp hm; exact ⟨n,(hr _ (ho _ hn)).elim (fun z=>nomatch z) (fun z=>z)⟩
 rcases hf with ⟨b,wd,rfl,hb,hw⟩ | ⟨sg,rfl,hsg,hl,hne,hr⟩ | ⟨nme,s1,x1,s2,x2,rfl,hs1,hs2,hn,hx1,hx2⟩ | ⟨nme,rfl,hn⟩ | ⟨i,rfl,hi⟩
 . have hraw:∀ s∈[b],OrN S s:=fun s hs=>by rw [c8.mp hs]; exact hb
   obtain ⟨out,ps,l,o1,o2,o3,nm,sn,hq⟩:=Kl hS' (d:=.tuple [.str "add",idP p,b,.str wd]) (raw:=[b]) hraw (by simp) (by simp_arith [ix0,neS k1]) (by rw [W3 (by simp_arith [ix0,Tq])]; simp_arith [fT]);have hh:=fin hraw o3 hq; refine ⟨ps,Cl _ _ _,ok,nm,l,sn,fun q hq=>.inr (hh q hq),Kt ok l rfl ?_ nm fun q hq=>let ⟨n,z⟩:=hh q hq; hT q n z⟩;exact K4 (Z4 ((W3 (B8 (B4 rfl rfl Tq))).trans (D5 (L4 rfl (L4 (B5 (A6 (B4 rfl rfl (ix0 _ _)) rfl) (Zh hS hb)) (B5 (A6 (B4 rfl rfl (Cl _ _ _)) rfl) (pZ hw)))))))
 . have hraw:∀ s∈sg,OrN S s:=fun s hs=>.inr (hsg s hs)
   obtain ⟨out,ps,l,o1,o2,o3,nm,sn,hq⟩:=Kl hS' (d:=.tuple [.str "drop",idP p,.tuple sg]) (raw:=sg) hraw hl (by simp_arith [ix0,neS k2]) (by
     rw [P2 (by simp_arith [ix0,neS k5]),W3 (by simp_arith [ix0,Tq])];have:Mj [.tuple sg]=some (.list sg):=rfl;simp_arith [fT,this])
   have hh:=fin hraw o3 hq; refine ⟨ps,Cl _ _ _,ok,nm,l,sn,fun q hq=>.inr (hh q hq),Kt ok l rfl ?_ nm fun q hq=>let ⟨n,z⟩:=hh q hq; hT q n z⟩;refine K4 ?_; unfold U3 Q1 Q0 P9 P8 P7 P6; rw [C9 (B8 (B4 rfl rfl (neS k5)))]; exact Z4 ((W3 (B8 (B4 rfl rfl Tq))).trans (D5 (L4 rfl (B5 (A6 (B4 rfl rfl (ix0 _ _)) rfl) (dJ hS hsg hl hne hr)))))
 . have hraw : ∀ s ∈ [s1, s2], OrN S s := fun s hs => by
     rcases a9.mp hs with rfl | hs
     . exact hs1
     . rw [c8.mp hs]; exact hs2
   obtain ⟨out,ps,l,o1,o2,o3,nm,sn,hq⟩:=Kl hS' (d:=.tuple [.str "mark",idP p,.str nme,.tuple [s1,.str x1],.tuple [s2,.str x2]]) (raw:=[s1,s2]) hraw (by simp) (by simp_arith [ix0,neS k3]) (by
     rw [P2 (by simp_arith [ix0,neS k6]),P2 (by simp_arith [ix0,neS k9]),W3 (by simp_arith [ix0,Tq])];simp_arith [vQ,dIdx4,ix0])
   have hh:=fin hraw o3 hq; refine ⟨ps,Cl _ _ _,ok,nm,l,sn,fun q hq=>.inr (hh q hq),Kt ok l rfl ?_ nm fun q hq=>let ⟨n,z⟩:=hh q hq; hT q n z⟩;refine K4 ?_; unfold U3 Q1 Q0 P9 P8 P7 P6; rw [C9 (B8 (B4 rfl rfl (neS k6))),C9 (B8 (B4 rfl rfl (neS k9)))]; exact Z4 ((W3 (B8 (B4 rfl rfl Tq))).trans (D5 (L4 rfl (L4 (B5 (A6 (B4 rfl rfl (ix0 _ _)) rfl) (fD hn)) (L4 (B5 (A6 (B4 rfl rfl (Cl _ _ _)) rfl) (Ni hS hs1 hx1)) (B5 (A6 (B4 rfl rfl (fT _ _ _ _)) rfl) (Ni hS hs2 hx2)))))))
 . obtain ⟨out, ps, l, o1, o2, o3, nm, sn, hq⟩ := Kl hS' (d := .tuple [.str "unmark", idP p, .str nme]) (raw := []) (fun s hs => nomatch hs) (by simp) (by simp_arith [ix0, neS k4]) (by
     rw [P2 (by simp_arith [ix0,neS k7]),P2 (by simp_arith [ix0,neS k10]),P2 (by simp_arith [ix0,neS k12])]; rfl)
   have hh:=fin (raw:=[]) (fun s hs=>nomatch hs) o3 hq;refine ⟨ps,Cl _ _ _,ok,nm,l,sn,fun q hq=>.inr (hh q hq),Kt ok l rfl ?_ nm fun q hq=>let ⟨n,z⟩:=hh q hq; hT q n z⟩;refine K4 ?_; unfold U3 Q1 Q0 P9 P8 P7 P6; rw [C9 (B8 (B4 rfl rfl (neS k7))),C9 (B8 (B4 rfl rfl (neS k10))),C9 (B8 (B4 rfl rfl (neS k12)))]; exact Z4 ((W3 (B8 (B4 rfl rfl Tq))).trans (D5 (L4 rfl (B5 (A6 (B4 rfl rfl (ix0 _ _)) rfl) (fD hn)))))
 . have nm : E7 [.tuple [.str "undo", idP p, idP i]] = .ok (.list ([i].map idP)) := by
     refine K4 ?_; unfold V7 V4; simp only [E9,c7,y9,i0,p4,i4,p8,l3,AC,AB]; refine Z4 ((W3 (by simp_arith [ix0,Tq])).trans (D5 ?_));simp_arith [fT]
   have one:∀ q∈[i],U q:=fun q hq=>by rw [c8.mp hq]; exact hi
   refine ⟨[i],Cl _ _ _,ok,nm,by simp,⟨[],cB _ _,by simp,fun s hs=>nomatch hs⟩,fun q hq=>.inl (one q hq),Kt ok (by simp) rfl ?_ nm fun q hq=>(hU q (one q hq)).1⟩;refine K4 ?_; unfold U3 Q1 Q0 P9 P8 P7 P6; rw [C9 (B8 (B4 rfl rfl (neS k8))),C9 (B8 (B4 rfl rfl (neS k11))),C9 (B8 (B4 rfl rfl (neS k13))),C9 (B8 (B4 rfl rfl (neS k14)))]; exact Z4 ((W3 (B8 (B4 rfl rfl Tq))).trans (D5 (L4 rfl (B5 (A6 (B4 rfl rfl (ix0 _ _)) rfl) (Mi (hU i hi).2)))))
noncomputable section
variable {L:List Dp} {B:List Ad} {ku kd:Kvs}
theorem zK (A:BkA L B) (hl:L.length<=9) (P:Pr L ku kd) {j:Nat} (h:j < ((ord B).filter (N6 ku kd)).length):Dw [bkD L,.int (j:Int)]=.ok (idP ((ord B).filter (N6 ku kd))[j].1.p):=by
 have hs:=Jw A hl P;generalize (ord B).filter (N6 ku kd)=T at h hs;have hv:(O1 (vC (.int 0)) (A1 1) (vFn (A2 (A1 2) A7) K7) (D9 .LtE) (D9 .Lt)) [.sh (bkD L),.sh (.int (j:Int)),.sh (.list (T.map tl))]=.ok (.bool true):=by
   unfold O1; show Res.bind (Res.ok (p5 0)) _=_;rw [B9]; show Res.bind (Res.ok (p5 (j:Int))) _=_;rw [B9,fY,Kk,B9,decide_eq_true (by lia)]; show Res.bind (Res.ok (p5 ((T.map tl).length:Int))) _=_;rw [B9,vR,zZ,decide_eq_true (by lia)]; rfl
 refine K4 ((C2 (δ':=[.sh (bkD L),.sh (.int (j:Int)),.sh (.list (T.map tl))]) (F8 (B5 (A6 (d:=bkD L) (ds:=[]) rfl rfl) hs))).trans ((C9 (by unfold X7; rw [B8 hv]; rfl)).trans (D5 (B4 (x:=sgA T[j]) (y:=.int 0) (B4 (x:=tl T[j]) (y:=.int 0) (B4 (x:=.list (T.map tl)) (y:=.int (j:Int)) rfl rfl ?_) rfl (Da _ _)) rfl (Da _ _)))));have:=K6 (xs:=T.map tl) (j:=j) (by rw [zZ]; exact h);rw [HK] at this;exact this
end
theorem pS (i:zS) (b:zS) (w:Str):D4 [.tuple [.str "add",i,b,.str w]]=.ok (.int (w.length:Int)):=by
 refine K4 ?_;unfold P1 Q4;simp only [E9,c7,y9,i0,p4,i4,p8,l3,AC,AB];refine D5 ?_;have e1:K7 [.str w]=some (.int (w.length:Int)):=rfl;unfold vIf;simp_arith [ix0,Tq,vQ,e1]
abbrev dpE (e:Dp):zS×zS:=(idP e.2,e.1)
noncomputable section
variable {L:List Dp}
theorem dkW (W:BkW L) {e:Dp} (he:e∈L):∃ ps,DK (SgOf e.2.1 (L.map (·.1))) (fun q=>(∃ e'∈L,e'.2=q)/\q.1 < e.2.1) e.1 e.2 ps :=
 dk_of (fun x hx => by obtain ⟨p, b, w, n, _, e, _, _, o⟩ := hx; exact ⟨p, n, e, o, by lia⟩) (W.1 e he) (fun q n hs => by
     obtain ⟨p,b,w,m,_,e,_,ht,_⟩:=hs; simp only [sgD,idP,idD,CO,BC,FC,FB,and_true] at e; rw [e.1.1]; exact ht) (fun q hq=>by
     obtain ⟨⟨e',m,z⟩,l⟩:=hq; exact ⟨l,by rw [<- z]; exact (W.1 e' m).1⟩)
theorem oU (W:BkW L):L.Pairwise (fun a b=>g9 (dpE a).1 (dpE b).1=false):=W.2.imp fun {a b} h=>by
 show g9 (idP a.2) (idP b.2)=false;rw [Tp,decide_eq_false];intro z;rw [z] at h;lia
theorem oD (W:BkW L) {e:Dp} (he:e∈L):Q8 (L.map dpE) (idP e.2)=some e.1:=by
 have:=Ra dpE (u:=e) (more:=[]) (by show g9 (idP _) (idP _)=true; rw [Tp,decide_eq_true rfl]) he (oU W)
 rwa [m8] at this
theorem Xt {δc:Dn} {el:Dn->Res zS} (f:Dp->zS):∀ M:List Dp,(∀ e∈M,el ([.sh e.1]++δc)=.ok (f e))->C7 C6 δc E5 el (M.map (·.1))=.ok (M.map f)
 | [],_=>rfl
 | e::M,h=>pC rfl (h e (.head _)) (Xt f M fun x hx=>h x (.tail _ hx))
theorem vO (W:BkW L) {e:Dp} (he:e∈L) {δ:Dn}:(b2 (A1 0) (vC (.int 1)) dIx) ([.sh e.1]++δ)=.ok (idP e.2):=by
 obtain ⟨ps,k⟩:=dkW W he;exact B4 (x:=e.1) (y:=.int 1) rfl rfl k.id
theorem pH (W:BkW L) (hl:L.length<=9):Dv [bkD L]=.ok (L.map dpE):=by
 have hc:C7 C6 [] E5 (I9 (A2 (b2 (A1 0) (vC (.int 1)) dIx) (A2 (A1 0) A7))) (L.map (·.1))=.ok (L.map fun e=>.tuple [(dpE e).1,(dpE e).2]):=Xt (fun e=>.tuple [(dpE e).1,(dpE e).2]) L fun e he=>T6 (A6 (vO W he) (A6 (d:=e.1) rfl rfl));have hp:=Lz dpE (fun a=>X5 a.2) L [] (by rw [l3]; exact oU W);rw [l3,y9] at hp;unfold Dv fnW Ib Ii;rw [J2 (E1 (δ:=E9 Ky [bkD L]) (D8 (d:=bkD L) rfl rfl) (by rw [zZ]; lia) rfl hc),B9];show (if _ then _ else _)=_;rw [if_pos (by rw [zZ]; lia),hp]; rfl
theorem yR (W:BkW L) {e:Dp} (he:e∈L):M5 [.fd ((.dict [],.none)::L.map dpE),.sh e.1]=.ok (.bool true):=by
 obtain ⟨ps,k⟩:=dkW W he;have inE:∀ {e':Dp},e'∈L->Q6 false 1 (A1 0) ([.sh (idP e'.2)]++[.fd ((.dict [],.none)::L.map dpE)])=.ok (.bool true):=fun {e'} h'=>by
   show Q6 false 1 (A1 0) [.sh (idP e'.2),.fd ((.dict [],.none)::L.map dpE)]=_;unfold Q6; show (if nkD (idP e'.2)=true then Res.ok (x5 ((Q8 (L.map dpE) (idP e'.2)).isSome != false)) else Res.no)=_;rw [if_pos (X5 _),oD W h']; rfl
 have sgE:∀ {q:IdP} {n:Int},SgOf e.2.1 (L.map (·.1)) (sgD q n)->∃ e'∈L,e'.2=q/\∃ m:Int,D4 [e'.1]=.ok (.int m)/\n < m:=fun {q n} hs=>by
   obtain ⟨p,b,w,j,hm,z,hk,_,_⟩:=hs; simp only [sgD,idP,idD,CO,BC,FC,FB,and_true] at z; obtain ⟨⟨i1,i2⟩,i3⟩:=z; have ep:q=p:=JT i1 i2; subst ep; obtain ⟨e',he',ex⟩:=j7.mp hm; obtain ⟨ps',k'⟩:=dkW W he'; have hid:=k'.id; rw [ex,Cl] at hid; simp only [idP,idD,IH,CO,BC,FC,FB,and_true] at hid; refine ⟨e',he',(JT hid.1 hid.2).symm,w.length,?_,by lia⟩;rw [ex]; exact pS _ _ _
 have c1:(vFn (A2 (E8 (D7 (fun δ=>((B6 (A2 (A1 1) A7) E7) δ).bind D2) C6 [0] E5 (Q6 false 1 (A1 0)))) A7) Fm) [.fd ((.dict [],.none)::L.map dpE),.sh e.1]=.ok (.bool true):=by
   refine Ah (ds:=ps.map idP) (δc:=[.fd ((.dict [],.none)::L.map dpE)]) (D8 (B5 (A6 rfl rfl) k.nm) rfl) (by rw [zZ]; have:=k.len; lia) rfl fun d hd=>?_;obtain ⟨q,hq,rfl⟩:=j7.mp hd; rcases k.nmd q hq with z | ⟨n,hs⟩
   . obtain ⟨⟨e',he',z⟩,_⟩:=z
     rw [<- z]; exact inE he'
   . obtain ⟨e',he',z,_⟩:=sgE hs
     rw [<- z]; exact inE he'
 have c2:(vFn (A2 (E8 (D7 (fun δ=>((B6 (A2 (A1 1) A7) F5) δ).bind D2) C6 [0] E5 (b2 (b2 (A1 0) (vC (.int 1)) dIx) (B6 (A2 (Ec 1 (b2 (A1 0) (vC (.int 0)) dIx)) A7) D4) (D9 .Lt)))) A7) Fm) [.fd ((.dict [],.none)::L.map dpE),.sh e.1]=.ok (.bool true):=by
   obtain ⟨out,o1,o2,o3⟩:=k.sn; refine Ah (ds:=out) (δc:=[.fd ((.dict [],.none)::L.map dpE)]) (D8 (B5 (A6 rfl rfl) o1) rfl) (by lia) rfl fun s hs=>?_;obtain ⟨hS,q,n,rfl,hq⟩:=o3 s hs; obtain ⟨e',he',z,m,f3,f4⟩:=sgE hS; have g1:Ec 1 (b2 (A1 0) (vC (.int 0)) dIx) ([.sh (.tuple [idP q,.int n])]++[.fd ((.dict [],.none)::L.map dpE)])=.ok e'.1:=by
     show Ec 1 (b2 (A1 0) (vC (.int 0)) dIx) [.sh (.tuple [idP q,.int n]),.fd ((.dict [],.none)::L.map dpE)]=_;unfold Ec; show Res.bind ((b2 (A1 0) (vC (.int 0)) dIx) [.sh (.tuple [idP q,.int n]),.fd ((.dict [],.none)::L.map dpE)]) _=_;rw [B4 (x:=.tuple [idP q,.int n]) (y:=.int 0) rfl rfl (ix0 _ _),B9,if_pos (X5 _),<- z,oD W he']; rfl
   refine B4 (x:=.int n) (y:=.int m) (B4 rfl rfl (Cl _ _ _)) (B5 (A6 g1 rfl) f3) ?_; rw [ltI,decide_eq_true f4]
 have:Q9 [.fd ((.dict [],.none)::L.map dpE),.sh e.1]=.rt (.bool true):=(C9 (by unfold X7; rw [B8 c1]; rfl)).trans (D5 c2);show (match Q9 [.fd ((.dict [],.none)::L.map dpE),.sh e.1] with | .rt d=>Res.ok d | .nx _=>.ok .none | .exc c=>.exc c | _=>.no)=_;rw [this]
theorem jG (W:BkW L) (hl:L.length<=9):Bi [bkD L]=.ok (.bool true):=by
 have hl':(L.map (·.1)).length<=9:=by rw [zZ]; exact hl
 have t1:(vFn (A2 (E8 (D7 (fun δ=>((A1 0) δ).bind D2) C6 [] E5 (B6 (A2 (A1 0) A7) Y7))) A7) Fm) [.sh (bkD L),.un]=.ok (.bool true):=by
   refine Ah (ds:=L.map (·.1)) (δc:=[]) (D8 (d:=bkD L) rfl rfl) (by lia) rfl fun d hd=>?_;obtain ⟨e,he,rfl⟩:=j7.mp hd; obtain ⟨ps,k⟩:=dkW W he; exact B5 (A6 rfl rfl) k.isd
 have hr:(L.map fun e=>idP e.2).Pairwise ltD:=by
   rw [GW]; exact W.2.imp_of_mem fun {a b} ha hb h=>ltId (W.1 a ha).1.2.2 (W.1 b hb).1.2.2 h
 refine K4 ((C9 (Iu (δ:=[.sh (bkD L),.un]) rfl (by unfold X7; rw [B8 t1]; rfl))).trans ((C2 (δ':=[.sh (bkD L),.ow (.tuple [.dict (L.map dpE),.none])]) ?_).trans ?_))
 . unfold Ej X8 Fq
   rw [A6 (d:=bkD L) (ds:=[]) rfl rfl,B9,pH W hl,D6]; rfl
 . show E2 _ [.sh (bkD L),.fd ((.dict [],.none)::L.map dpE)]=_
   refine D5 (L4 (B5 (A6 (J2 (E1 (D8 (d:=bkD L) rfl rfl) (by lia) rfl (Xt (fun e=>idP e.2) L fun e he=>vO W he))) rfl) (Ui (.inl rfl) (by rw [zZ]; lia) hr)) ?_);refine Ah (ds:=L.map (·.1)) (δc:=[.fd ((.dict [],.none)::L.map dpE)]) (D8 (d:=bkD L) rfl rfl) (by lia) rfl fun d hd=>?_;obtain ⟨e,he,rfl⟩:=j7.mp hd; show Jg 1 (A1 0) M5 [.sh e.1,.fd ((.dict [],.none)::L.map dpE)]=_;unfold Jg; exact yR W he
end
theorem tE (w:Str):Kn w w=true:=by
 unfold Kn;rw [StrLaws.found_iff];refine ⟨0,by lia,?_⟩;rw [StrLaws.subAt_eq,Pe];simp;exact List.take_of_length_le (by rw [n6]; lia)
theorem yO {w:Str} {n:Nat} (h:n < w.length):Kn ⟨#[w.cps.toList.getD n 0]⟩ w=true:=by
 unfold Kn;rw [StrLaws.found_one,decide_eq_true_eq];have h':n < w.cps.toList.length:=by rw [<- Pe]; exact h
 rw [BF,l0 h'];exact CZ h'
theorem Qr {f:Dn->Res zS} {δ:Dn} {i:Int} (h:f δ=.ok (.int i)):X9 f δ=.ok (some i):=by unfold X9; rw [h]; rfl
theorem pG {c:Dn->Res Bool} {δ:Dn} (h:c δ=.ok true):X7 c δ=.ok false:=by unfold X7; rw [h]; rfl
theorem uX {L:List Dp} {s t:Int} (h:s<=t):upT (upT L t) s=upT L s:=by
 unfold upT;rw [EW];refine JW fun e _=>?_;rw [BM];simp only [j9,decide_eq_true_eq];lia
theorem vX {L:List Dp} {s t:Int} (h:s<=t):txs (upT L t) s=txs L s:=by
 unfold txs;rw [uX h]
theorem uT {L:List Dp} {n N:Nat} (h:n<=N):(TX L N).take n=TX L n:=by
 unfold TX;rw [<- List.map_take,List.take_range,Nat.min_eq_left h]
theorem pV {L:List Dp} {n N:Nat} (h:n < N):dIx (.list (TX L N)) (.int (n:Int))=some (.str (txs L (n:Int))):=by
 refine (K6 (xs:=TX L N) (j:=n) (by rw [Ew]; exact h)).trans ?_;simp
theorem eE {L:List Dp} {n N:Nat} (h:n<=N):Xs (.list (TX L N)) none (some (n:Int))=some (.list (TX L n)):=by
 show some (FV (Fo (TX L N) none (some (n:Int))))=_;rw [uG _ _ (by rw [Ew]; exact h),uT h]
theorem TX_up {L:List Dp} {n:Nat} {t:Int} (h:(n:Int)<=t+1):TX (upT L t) n=TX L n:=by
 unfold TX;refine BK fun s hs=>?_;have:=q9.mp hs;rw [vX (by lia)]
theorem Rf.TX (L:List Dp) (n:Nat):Rf 1 (.list (Sm.TX L n)):=Rf.list fun x hx=>by
 obtain ⟨t,_,rfl⟩:=j7.mp hx;exact .str _
theorem rF (n:Nat):Ab 0 (n:Int)=(o9 n).map fun t:Nat=>p5 (0+(t:Int)):=by unfold Ab; rw [Int.sub_zero,CB]
abbrev dl (v0 v1 v2 v3 v4 v5 v6 v7 v8 v9 v10 v11 v12 v13 v14 v15:Sl):Dn:=[v0,v1,v2,v3,v4,v5,v6,v7,v8,v9,v10,v11,v12,v13,v14,v15]
noncomputable section
variable {L:List Dp} {v0 v2 v3 v4 v5 v6 v7 v8 v9 v10 v11 v12 v13 v14 v15:Sl}
noncomputable def vS:Dn->Out:=(sIf (C1 (b2 (B6 (A2 (A1 10) (A2 (A1 11) A7)) V9) (B6 (A2 (A1 1) (A2 (A1 11) A7)) V9) dNe)) (E2 (vC (.bool false))) E4)
theorem loopO (W:BkW L) (hl:L.length<=9) (t:Int):∀ (os:List Nat),(∀ o∈os,(o:Int)<=t)->∀ v11,∃ t11,F9 (st1 11) vS (os.map fun o:Nat=>p5 (0+(o:Int))) (dl v0 (.sh (bkD L)) v2 v3 v4 v5 v6 v7 v8 v9 (.sh (bkD (upT L t))) v11 v12 v13 v14 v15)=.nx (dl v0 (.sh (bkD L)) v2 v3 v4 v5 v6 v7 v8 v9 (.sh (bkD (upT L t))) t11 v12 v13 v14 v15):=by
 intro os;induction os with
 | nil=>intro _ v11; exact ⟨v11,rfl⟩
 | cons o os ih =>
   intro ho v11; obtain ⟨t11,e⟩:=ih (fun x hx=>ho x (.tail _ hx)) (.sh (.int (0+(o:Int))));refine ⟨t11,(W4 rfl ?_).trans e⟩; have h1:=gD (L:=upT L t) (fun e he=>((qH W t).1 e he).kd) (bO hl t) (0+(o:Int));rw [uX (by have:=ho o (.head _); lia)] at h1;exact (P2 (B8 (B4 (B5 (A6 (d:=bkD (upT L t)) rfl (A6 (d:=.int (0+(o:Int))) rfl rfl)) h1) (B5 (A6 (d:=bkD L) rfl (A6 (d:=.int (0+(o:Int))) rfl rfl)) (gD (fun e he=>(W.1 e he).kd) hl (0+(o:Int)))) ((Rf.bk (qH W _)).ne (by decide))))).trans rfl
noncomputable def pL:Dn->Out:=(C5 (G6 10 (B6 (A2 (A1 1) (A2 (A1 4) A7)) V9)) (C5 (sIf (cOr (X7 (C1 (B6 (A2 (A1 10) A7) Bi))) (cOr (C1 (b2 (B6 (A2 (A1 10) A7) L8) (b2 (A1 2) (A1 4) dIx) dNe)) (C1 (b2 (B6 (A2 (A1 10) A7) N1) (vSl (A1 2) Ax (X9 (vFn (A2 (B6 (A2 (A1 10) A7) N1) A7) K7))) dNe)))) (E2 (vC (.bool false))) E4) (C5 (O3 (fun δ=>((A2 (b2 (A1 4) (vC (.int 1)) D3) A7) δ).bind Dj) (st1 11) vS) (C5 (sIf (cOr (C1 (b2 (b2 (A1 2) (A1 4) dIx) (vSl (A1 2) Ax (X9 (b2 (A1 4) (vC (.int 1)) D3))) (dIn true))) (C1 (b2 (B6 (A2 (A1 1) (A2 (b2 (A1 2) (A1 4) dIx) A7)) K1) (A1 4) (Cv .Gt)))) (E2 (vC (.bool false))) E4) (C5 (G6 12 (B6 (A2 (A1 1) (A2 (b2 (A1 2) (A1 4) dIx) A7)) K1)) (sIf (C1 (b2 (E8 (D7 (fun δ=>((vSl (A1 2) Ax (X9 (A1 12))) δ).bind D2) C6 [2,4] (C1 (b2 (b2 (A1 1) (A1 2) dIx) (A1 0) (dIn false))) (A1 0))) (E8 A7) dNe)) (E2 (vC (.bool false))) E4))))))
theorem oM (W:BkW L) (hl:L.length<=9) {N:Nat} (h0:1<=N) (h1:∀ e∈L,e.2.1 < N) {t:Nat} (ht:t < N):∃ f:Nat,f<=t/\K1 [bkD L,.str (txs L (t:Int))]=.ok (.int (f:Int))/\∀ j,j < f->Dt L (txs L (t:Int)) (j:Int)=false:=by
 have ok:∀ e∈L,okI e.2:=fun e he=>(show Wf _ _ _ _ from W.1 e he).1;have hf:=oO h0 (fun e he=>⟨h1 e he,by have:=(ok e he).1; lia⟩) (Dt L (txs L (t:Int))) fun s t h=>by unfold Dt; rw [Yp h]
 have hs:Dt L (txs L (t:Int)) (t:Int)=true:=tE _;have hi:((o9 N).find? fun j:Nat=>Dt L (txs L (t:Int)) (j:Int)).isSome:=List.find?_isSome.mpr ⟨t,q9.mpr ht,hs⟩;obtain ⟨f,e⟩:=LP.mp hi;obtain ⟨g1,g2,g3⟩:=MF.mp e;have g3':∀ j:Nat,j < f->Dt L (txs L (t:Int)) (j:Int)=false:=fun j hj=>by simpa using g3 j hj
 refine ⟨f,KM fun hn=>?_,?_,g3'⟩
 . rw [g3' t (by lia)] at hs; cases hs
 . have h:=oK W hl (txs L (t:Int))
   rw [hf,e] at h; exact h
theorem step4 (W:BkW L) (hl:L.length<=9) {N:Nat} (h0:1<=N) (hN:N<=21) (h1:∀ e∈L,e.2.1 < N) {t:Nat} (ht:t < N):∃ t10 t11 t12,pL (dl v0 (.sh (bkD L)) (.sh (.list (TX L N))) v3 (.sh (.int (t:Int))) v5 v6 v7 v8 v9 v10 v11 v12 v13 v14 v15)=.nx (dl v0 (.sh (bkD L)) (.sh (.list (TX L N))) v3 (.sh (.int (t:Int))) v5 v6 v7 v8 v9 t10 t11 t12 v13 v14 v15):=by
 have Wt:=qH W (t:Int);have hlt:=bO hl (t:Int);obtain ⟨n,n1,n2,_,n4,n5⟩:=Yr Wt hlt;have hn:n<=t+1:=by
   rcases Ee.mp n4 with z | ⟨e,he,z⟩
   . lia
   . have:=of_decide_eq_true (o6.mp he).2
     lia
 rw [TX_up (by lia)] at n5;obtain ⟨f,f1,f2,f3⟩:=oM W hl h0 h1 ht;obtain ⟨t11,eo⟩:=loopO (v0:=v0) (v2:=.sh (.list (TX L N))) (v3:=v3) (v4:=.sh (.int (t:Int))) (v5:=v5) (v6:=v6) (v7:=v7) (v8:=v8) (v9:=v9) (v12:=v12) (v13:=v13) (v14:=v14) (v15:=v15) W hl (t:Int) (o9 (t+1)) (fun o ho=>by have:=q9.mp ho; lia) v11;have hat:∀ (x10 x11 x12:Sl),(b2 (A1 2) (A1 4) dIx) (dl v0 (.sh (bkD L)) (.sh (.list (TX L N))) v3 (.sh (.int (t:Int))) v5 v6 v7 v8 v9 x10 x11 x12 v13 v14 v15)=.ok (.str (txs L (t:Int))):=fun _ _ _=>B4 (x:=.list (TX L N)) (y:=.int (t:Int)) rfl rfl (pV ht);have hfs:∀ (x10 x11 x12:Sl),(B6 (A2 (A1 1) (A2 (b2 (A1 2) (A1 4) dIx) A7)) K1) (dl v0 (.sh (bkD L)) (.sh (.list (TX L N))) v3 (.sh (.int (t:Int))) v5 v6 v7 v8 v9 x10 x11 x12 v13 v14 v15)=.ok (.int (f:Int)):=fun _ _ _=>B5 (A6 (d:=bkD L) rfl (A6 (hat _ _ _) rfl)) f2
 refine ⟨.sh (bkD (upT L (t:Int))),t11,.sh (.int (f:Int)),?_⟩;unfold pL;refine (C2 (δ':=dl v0 (.sh (bkD L)) (.sh (.list (TX L N))) v3 (.sh (.int (t:Int))) v5 v6 v7 v8 v9 (.sh (bkD (upT L (t:Int)))) v11 v12 v13 v14 v15) (F8 (B5 (A6 (d:=bkD L) rfl (A6 (d:=.int (t:Int)) rfl rfl)) (gD (fun e he=>(W.1 e he).kd) hl (t:Int))))).trans ?_;refine (C9 (Iu (pG (B8 (B5 (A6 (d:=bkD (upT L (t:Int))) rfl rfl) (jG Wt hlt)))) (Iu (B8 (B4 (B5 (A6 (d:=bkD (upT L (t:Int))) rfl rfl) (kN W hl (t:Int)).p) (hat _ _ _) ((Rf.str (n:=0) _).ne (by decide)))) (B8 (B4 (B5 (A6 (d:=bkD (upT L (t:Int))) rfl rfl) n5) (Vr (x:=.list (TX L N)) rfl rfl (Qr (i:=(n:Int)) (W1 (A6 (B5 (A6 (d:=bkD (upT L (t:Int))) rfl rfl) n5) rfl) (show some (p5 ((TX L n).length:Int))=_ by rw [Ew]))) (eE (by lia))) ((Rf.TX L n).ne (by decide))))))).trans ?_
 refine (C2 (δ':=dl v0 (.sh (bkD L)) (.sh (.list (TX L N))) v3 (.sh (.int (t:Int))) v5 v6 v7 v8 v9 (.sh (bkD (upT L (t:Int)))) t11 v12 v13 v14 v15) ?_).trans ?_
 . have hs:=Gs (fs:=A2 (b2 (A1 4) (vC (.int 1)) D3) A7) (δ:=dl v0 (.sh (bkD L)) (.sh (.list (TX L N))) v3 (.sh (.int (t:Int))) v5 v6 v7 v8 v9 (.sh (bkD (upT L (t:Int)))) v11 v12 v13 v14 v15) (n:=((t+1:Nat):Int)) (A6 (B4 (x:=.int (t:Int)) (y:=.int 1) rfl rfl W8) rfl) (by lia) (by lia)
   rw [rF] at hs; unfold O3; rw [hs,D6]; exact eo
 refine (C9 (Iu (B8 (B4 (y:=.list (TX L (t+1))) (hat _ _ _) (Vr (x:=.list (TX L N)) rfl rfl (Qr (B4 (x:=.int (t:Int)) (y:=.int 1) rfl rfl W8)) (eE (n:=t+1) (by lia))) ?_)) (B8 (B4 (hfs _ _ _) (y:=.int (t:Int)) rfl ?_)))).trans ?_
 . show (if min _ _<=62 then some (x5 (!(TX L (t+1)).any fun y=>g9 y (.str (txs L (t:Int))))) else none)=_
   rw [if_pos (i6 (BU _ _) (i6 (Rf.str (n:=0) _).2 (by decide)))]; have:((TX L (t+1)).any fun y=>g9 y (.str (txs L (t:Int))))=true:=EM.mpr ⟨_,j7.mpr ⟨t,q9.mpr (by lia),rfl⟩,(Rf.str (n:=0) _).1⟩;rw [this]; rfl
 . show some (x5 (decide ((t:Int) < (f:Int))))=_
   rw [decide_eq_false (by lia)]
 refine (C2 (δ':=dl v0 (.sh (bkD L)) (.sh (.list (TX L N))) v3 (.sh (.int (t:Int))) v5 v6 v7 v8 v9 (.sh (bkD (upT L (t:Int)))) t11 (.sh (.int (f:Int))) v13 v14 v15) (F8 (hfs _ _ _))).trans ?_;have c:=W0 (δc:=[.sh (.list (TX L N)),.sh (.int (t:Int))]) (tt:=C1 (b2 (b2 (A1 1) (A1 2) dIx) (A1 0) (dIn false))) (el:=A1 0) (fun s:Nat=>AK (txs L (s:Int))) (fun s=>.str (txs L (s:Int))) (fun _=>false) (o9 f) (fun s hs=>B8 (B4 (x:=.str (txs L (t:Int))) (y:=.str (txs L (s:Int))) (B4 (x:=.list (TX L N)) (y:=.int (t:Int)) rfl rfl (pV ht)) rfl (by
   show some (x5 (Dt L (txs L (t:Int)) (s:Int)))=_;rw [f3 s (q9.mp hs)]))) fun _ _=>rfl
 rw [BG.mpr fun _ _=>by decide] at c;have e:=J2 (E1 (src:=fun δ=>((vSl (A1 2) Ax (X9 (A1 12))) δ).bind D2) (δ:=dl v0 (.sh (bkD L)) (.sh (.list (TX L N))) v3 (.sh (.int (t:Int))) v5 v6 v7 v8 v9 (.sh (bkD (upT L (t:Int)))) t11 (.sh (.int (f:Int))) v13 v14 v15) (cap:=[2,4]) (δc:=[.sh (.list (TX L N)),.sh (.int (t:Int))]) (D8 (d:=.list (TX L f)) (Vr (x:=.list (TX L N)) rfl rfl (Qr (i:=(f:Int)) rfl) (eE (by lia))) rfl) (by rw [Ew]; lia) rfl c);exact (P2 (B8 (B4 (x:=.list []) (y:=.list []) e rfl rfl))).trans rfl
theorem loop4 (W:BkW L) (hl:L.length<=9) {N:Nat} (h0:1<=N) (hN:N<=21) (h1:∀ e∈L,e.2.1 < N):∀ (ts:List Nat),(∀ t∈ts,t < N)->∀ v4 v10 v11 v12,∃ t4 t10 t11 t12,F9 (st1 4) pL (ts.map fun t:Nat=>p5 (0+(t:Int))) (dl v0 (.sh (bkD L)) (.sh (.list (TX L N))) v3 v4 v5 v6 v7 v8 v9 v10 v11 v12 v13 v14 v15)=.nx (dl v0 (.sh (bkD L)) (.sh (.list (TX L N))) v3 t4 v5 v6 v7 v8 v9 t10 t11 t12 v13 v14 v15):=by
 intro ts;induction ts with
 | nil=>intro _ v4 v10 v11 v12; exact ⟨v4,v10,v11,v12,rfl⟩
 | cons t ts ih =>
   intro h v4 v10 v11 v12; obtain ⟨a,b,c,e⟩:=step4 (v0:=v0) (v3:=v3) (v5:=v5) (v6:=v6) (v7:=v7) (v8:=v8) (v9:=v9) (v10:=v10) (v11:=v11) (v12:=v12) (v13:=v13) (v14:=v14) (v15:=v15) W hl h0 hN h1 (h t (.head _)); obtain ⟨t4,a',b',c',e'⟩:=ih (fun x hx=>h x (.tail _ hx)) (.sh (.int (t:Int))) a b c;refine ⟨t4,a',b',c',?_⟩; rw [c7,HY]; exact (W4 rfl e).trans e'
end
theorem Gx:∀ xs:List Str,(AG "" xs).cps.toList=(xs.map fun x=>x.cps.toList).flatten
 | []=>rfl
 | [x]=>by show x.cps.toList=_; simp
 | x::y::r=>by
   have ih:=Gx (y::r); show (x.cps++("" : Str).cps++(AG "" (y::r)).cps).toList=_;rw [CT,CT,ih]; show x.cps.toList++[]++_=_;rw [m8]; rfl
theorem nR (xs:List Str):(xs.map (·.length)).sum=(AG "" xs).length:=by
 rw [Pe,Gx,List.length_flatten,BE];rfl
theorem Rh {α:Type} (f:α->Str) (xs:List α) {z:Str} (he:AG "" (xs.map f)=z) (ho:l7 z=true) (hl:z.length<=1000):Rn "" (.list (xs.map fun x=>.str (f x)))=some (.str z):=by
 have hs:=nR (xs.map f);rw [he] at hs;show (De (xs.map fun x=>AK (f x))).bind _=_;rw [Hw f xs];show (if _ then _ else _)=_;have:(("" : Str)).length=0:=rfl;rw [he,hs,this,if_pos ⟨by lia,ho,i6 hl Jk⟩]
noncomputable def rX (acc:List (Str×Str)):List Nat:=(acc.map fun x=>x.2.cps.toList).flatten
noncomputable def rH (acc:List (Str×Str)):List Nat:=(acc.map fun x=>(i4 x.2.length x.1.cps.toList).flatten).flatten
theorem qN (x y:Str):(x++y).cps.toList=x.cps.toList++y.cps.toList:=CT
theorem cP (a b:List (Str×Str)):rX (a++b)=rX a++rX b:=by unfold rX; rw [m4,IV]
theorem cR (a b:List (Str×Str)):rH (a++b)=rH a++rH b:=by unfold rH; rw [m4,IV]
theorem Wu (x:Str×Str):rX [x]=x.2.cps.toList:=by unfold rX; simp
theorem cQ (x:Str×Str):rH [x]=(i4 x.2.length x.1.cps.toList).flatten:=by unfold rH; simp
theorem wW (acc:List (Str×Str)) (h c:Str) (hc:c.length=1):rX (Tk acc h c)=rX acc++c.cps.toList/\rH (Tk acc h c)=rH acc++h.cps.toList:=by
 have h1:rH [(h,c)]=h.cps.toList:=by rw [cQ,hc]; simp
 rcases FS acc with rfl | ⟨A,x,rfl⟩
 . rw [Kf,Wu,h1]; exact ⟨rfl,rfl⟩
 . rw [FT,Gw]
   split
   . rename_i e
     rw [cP,cP,cR,cR,Wu,Wu,cQ,cQ,qN,L6,hc,e,NS,IV]; simp
   . rw [cP _ [(h,c)],cR _ [(h,c)],Wu,h1]; exact ⟨rfl,rfl⟩
theorem mE:∀ (us:List As) (acc:List (Str×Str)),rX (Co us acc)=rX acc++(us.map fun u=>(ltr u).cps.toList).flatten/\rH (Co us acc)=rH acc++(us.map fun u=>u.1.p.2.cps.toList).flatten:=by
 intro us;induction us with
 | nil=>intro acc; simp [Co]
 | cons u us ih =>
   intro acc; obtain ⟨h1,h2⟩:=ih (Tk acc u.1.p.2 (ltr u)); obtain ⟨s1,s2⟩:=wW acc u.1.p.2 (ltr u) rfl; unfold Co; rw [h1,h2,s1,s2]; simp
theorem iE {acc:List (Str×Str)} {h c:Str} {P:Str->Prop} (ha:∀ x∈acc,P x.1) (hh:P h):∀ x∈Tk acc h c,P x.1:=by
 rcases FS acc with rfl | ⟨A,x,rfl⟩
 . rw [Kf]; intro y hy; rw [c8.mp hy]; exact hh
 . rw [FT] at *
   rw [Gw];split
   . intro y hy
     rcases i7.mp hy with z | z
     . exact ha y (EG _ z)
     . rw [c8.mp z]; exact hh
   . intro y hy
     rcases i7.mp hy with z | z
     . exact ha y z
     . rw [c8.mp z]; exact hh
theorem eR {P:Str->Prop}:∀ (us:List As) (n:Nat) (acc:List (Str×Str)),RunOk n acc->(∀ x∈acc,P x.1)->(∀ u∈us,P u.1.p.2)->RunOk (n+us.length) (Co us acc)/\∀ x∈Co us acc,P x.1:=by
 intro us;induction us with
 | nil=>intro n acc h ha _; exact ⟨h,ha⟩
 | cons u us ih =>
   intro n acc h ha hu; have:=ih (n+1) _ (h.step u) (iE (c:=ltr u) ha (hu u (.head _))) fun x hx=>hu x (.tail _ hx);rw [i0,show n+(us.length+1)=n+1+us.length by lia];exact this
theorem fO {h:Str} (k:okH h):h.length=1/\l7 h=true/\chOk 32 126 h:=by
 rcases k with rfl | rfl | rfl <;> exact ⟨by decide +kernel,by decide +kernel,by unfold chOk; decide +kernel⟩
theorem Rp {α:Type} {δc:Dn} {tt:Dn->Res Bool} {el:Dn->Res zS} (g1 g2 h:α->zS) (f:α->Bool):∀ xs:List α,(∀ x∈xs,tt ([.sh (g1 x),.sh (g2 x)]++δc)=.ok (f x))->(∀ x∈xs,el ([.sh (g1 x),.sh (g2 x)]++δc)=.ok (h x))->C7 Ay δc tt el (xs.map fun x=>.tuple [g1 x,g2 x])=.ok ((xs.filter f).map h):=by
 intro xs;induction xs with
 | nil=>intro _ _; rfl
 | cons x xs ih =>
   intro h1 h2; have e1:=h1 x (.head _); have e2:=h2 x (.head _); have e3:=ih (fun y hy=>h1 y (.tail _ hy)) fun y hy=>h2 y (.tail _ hy);rw [c7]; unfold C7;cases e:f x with
   | true=>simp only [Ay,e1,e,e2,e3,DB e,c7]
   | false=>simp only [Ay,e1,e,e3,FA (by simp [e]:¬ f x=true)]
structure TOk (B:List Ad) (T:List As):Prop where
 m:∀ u∈T,u.1∈B/\u.2 < u.1.w.length
 l:T.length<=36
noncomputable abbrev tt (T:List As):Str:=AG "" (T.map ltr)
abbrev agL (T:List As):zS:=.list ((T.map fun u=>u.1.p).map idP)
noncomputable section
variable {L:List Dp} {B:List Ad} {T:List As} {v0 v1 v2 v3 v4 v5 v6 v7 v8 v9 v10 v11 v12 v13 v14 v15:Sl}
theorem Vu (T:List As):(tt T).length=T.length:=by show (tt T).cps.size=_; rw [jE]
theorem uY (A:BkA L B) (hT:TOk B T):l7 (tt T)=true/\(tt T).length<=36:=by
 refine ⟨(Bj _ fun x hx=>?_).2.1,by rw [Vu]; exact hT.l⟩;obtain ⟨u,hu,rfl⟩:=j7.mp hx;exact dE (A.wd _ (hT.m u hu).1) (hT.m u hu).2
theorem tt_at {j:Nat} (h:j < T.length):dIx (.str (tt T)) (.int (j:Int))=some (.str (ltr T[j])):=by
 have:=nN (u:=(⟨(0, ""),none,tt T⟩,j)) (by rw [Vu]; exact h);rw [this];unfold ltr;have e:(tt T).cps.toList.getD j 0=chU T[j]:=by
   rw [Qw,BF,j8,l0 h]; rfl
 rw [e]
theorem law5 {ku kd:Kvs} (A:BkA L B) (hl:L.length<=9) (P:Pr L ku kd) (hT:TOk B ((ord B).filter (N6 ku kd))):Jp (dl v0 (.sh (bkD L)) v2 (.sh (.str (tt ((ord B).filter (N6 ku kd))))) v4 v5 v6 v7 v8 v9 v10 v11 v12 v13 v14 v15)=.nx (dl v0 (.sh (bkD L)) v2 (.sh (.str (tt ((ord B).filter (N6 ku kd))))) v4 (.sh (agL ((ord B).filter (N6 ku kd)))) v6 v7 v8 v9 v10 v11 v12 v13 v14 v15):=by
 have hin:=fun j (h:j < ((ord B).filter (N6 ku kd)).length)=>zK A hl P h;generalize (ord B).filter (N6 ku kd)=T at hin hT;have hl36:=hT.l;have hs:=Gs (fs:=A2 (vFn (A2 (A1 3) A7) K7) A7) (δ:=dl v0 (.sh (bkD L)) v2 (.sh (.str (tt T))) v4 v5 v6 v7 v8 v9 v10 v11 v12 v13 v14 v15) (n:=(T.length:Int)) (A6 (W1 (A6 rfl rfl) (show some (p5 ((tt T).length:Int))=_ by rw [Vu])) rfl) (by lia) (by lia);rw [rF] at hs;have c:=W0 (δc:=[.sh (bkD L)]) (tt:=E5) (el:=B6 (A2 (A1 1) (A2 (A1 0) A7)) Dw) (fun t:Nat=>p5 (0+(t:Int))) (fun t=>(((T.map fun u=>u.1.p).map idP)).getD t .none) (fun _=>true) (o9 T.length) (fun _ _=>rfl) fun t ht=>by
   have hlt:=q9.mp ht; rw [HY]; refine B5 (A6 (d:=bkD L) rfl (A6 (d:=.int (t:Int)) rfl rfl)) ((hin t hlt).trans ?_); rw [BF,j8,j8,l0 hlt]; rfl
 rw [BL.mpr fun _ _=>rfl] at c;have e:(o9 T.length).map (fun t=>(((T.map fun u=>u.1.p).map idP)).getD t .none)=(T.map fun u=>u.1.p).map idP:=by
   refine KL (by simp) fun i h1 h2=>?_;rw [HK,JI,BF,l0 h2]; rfl
 rw [e] at c;unfold Jp;exact F8 (J2 (E1 (δc:=[.sh (bkD L)]) hs (by rw [zZ,List.length_range]; lia) rfl c))
theorem law6 (A:BkA L B) (hl:L.length<=9):Jo (dl v0 (.sh (bkD L)) v2 v3 v4 v5 v6 v7 v8 v9 v10 v11 v12 v13 v14 v15)=.nx (dl v0 (.sh (bkD L)) v2 v3 v4 v5 (oN (B.map adE)) v7 v8 v9 v10 v11 v12 v13 v14 v15):=by
 have hB:=A.len;have hp:=Lz adE (fun a=>X5 a.p) B [] (by rw [l3]; exact A.bk.ids);rw [l3,y9] at hp;unfold Jo X8 Ii;rw [J2 (E1 (δ:=dl v0 (.sh (bkD L)) v2 v3 v4 v5 v6 v7 v8 v9 v10 v11 v12 v13 v14 v15) (D8 (d:=bkD L) rfl rfl) (by rw [zZ]; lia) rfl (kG A.ad)),B9];show M1 (if _ then _ else _) _=_;rw [if_pos (by rw [zZ]; lia),hp]; rfl
theorem oE (A:BkA L B) {a:Ad} (ha:a∈B):Q8 (B.map adE) (idP a.p)=some (.str a.w):=by
 have:=Ra adE (u:=a) (more:=[]) (by show g9 (idP _) (idP _)=true; rw [Tp,decide_eq_true rfl]) ha A.bk.ids
 rwa [m8] at this
theorem law7 (A:BkA L B) (hT:TOk B T):Jn (dl v0 v1 v2 (.sh (.str (tt T))) v4 (.sh (agL T)) (oN (B.map adE)) v7 v8 v9 v10 v11 v12 v13 v14 v15)=.nx (dl v0 v1 v2 (.sh (.str (tt T))) v4 (.sh (agL T)) (oN (B.map adE)) v7 v8 v9 v10 v11 v12 v13 v14 v15):=by
 have hl36:=hT.l;have hs:=Gs (fs:=A2 (vFn (A2 (A1 3) A7) K7) A7) (δ:=dl v0 v1 v2 (.sh (.str (tt T))) v4 (.sh (agL T)) (oN (B.map adE)) v7 v8 v9 v10 v11 v12 v13 v14 v15) (n:=(T.length:Int)) (A6 (W1 (A6 rfl rfl) (show some (p5 ((tt T).length:Int))=_ by rw [Vu])) rfl) (by lia) (by lia);rw [rF] at hs;have c:=W0 (δc:=[.sh (.str (tt T)),oN (B.map adE),.sh (agL T)]) (tt:=C1 (b2 (b2 (A1 1) (A1 0) dIx) (Ec 2 (b2 (A1 3) (A1 0) dIx)) (dIn true))) (el:=A1 0) (fun t:Nat=>p5 (0+(t:Int))) (fun t=>.int (0+(t:Int))) (fun _=>false) (o9 T.length) (fun t ht=>by
   have hlt:=q9.mp ht; have hat:dIx (agL T) (.int (t:Int))=some (idP T[t].1.p):=by
     have:=K6 (xs:=(T.map fun u=>u.1.p).map idP) (j:=t) (by rw [zZ,zZ]; exact hlt);rw [HK,HK] at this; exact this
   obtain ⟨m1,m2⟩:=hT.m T[t] (CZ hlt); rw [HY]; refine B8 (B4 (x:=.str (ltr T[t])) (y:=.str T[t].1.w) (B4 (x:=.str (tt T)) (y:=.int (t:Int)) rfl rfl (tt_at hlt)) ?_ ?_)
   . show Res.bind _ _=_
     rw [B4 (x:=agL T) (y:=.int (t:Int)) rfl rfl hat,B9,if_pos (X5 _),oE A m1]; rfl
   . show some (x5 (!Kn (ltr T[t]) T[t].1.w))=_
     rw [show Kn (ltr T[t]) T[t].1.w=true from yO m2]; rfl) fun _ _=>rfl
 rw [BG.mpr fun _ _=>by decide] at c;unfold Jn;have e:=J2 (E1 (src:=fun δ=>((A2 (vFn (A2 (A1 3) A7) K7) A7) δ).bind Dj) (δ:=dl v0 v1 v2 (.sh (.str (tt T))) v4 (.sh (agL T)) (oN (B.map adE)) v7 v8 v9 v10 v11 v12 v13 v14 v15) (cap:=[3,6,5]) (δc:=[.sh (.str (tt T)),oN (B.map adE),.sh (agL T)]) hs (by rw [zZ,List.length_range]; lia) rfl c);exact (P2 (B8 (B4 (x:=.list []) (y:=.list []) e rfl rfl))).trans rfl
end
theorem strX {x y:Str} (h:x.cps.toList=y.cps.toList):x=y:=by
 obtain ⟨a⟩:=x;obtain ⟨b⟩:=y;exact congrArg Str.mk (KG.mp h)
noncomputable abbrev hh (T:List As):Str:=AG "" (T.map fun u=>u.1.p.2)
noncomputable section
variable {L:List Dp} {B:List Ad} {T:List As} {v0 v2 v3 v4 v5 v6 v7 v8 v9 v10 v11 v12 v13 v14 v15:Sl}
theorem fL (A:BkA L B) (hT:TOk B T):l7 (hh T)=true/\(hh T).length<=36:=by
 obtain ⟨h1,h2,_⟩:=Bj (T.map fun u=>u.1.p.2) fun x hx=>by
   obtain ⟨u,hu,rfl⟩:=j7.mp hx; exact fO (A.id _ (hT.m u hu).1).2.2
 rw [zZ] at h1;exact ⟨h2,by rw [h1]; exact hT.l⟩
theorem lY (T:List As):AG "" ((Co T []).map fun x=>x.2)=tt T:=strX (by
 rw [Gx,BE,Gx,BE];exact (mE T []).1)
theorem lZ (T:List As):AG "" ((Co T []).map fun x=>L5 x.2.length x.1)=hh T:=strX (by
 rw [Gx,BE,Gx,BE];refine Eq.trans ?_ (mE T []).2;unfold rH;congr 1;exact BK fun x _=>V1 _ _)
theorem law8 (A:BkA L B) (hT:TOk B T) (ha:K2 [bkD L]=.ok (.list ((Co T []).map rD))):Jm (dl v0 (.sh (bkD L)) v2 v3 v4 v5 v6 v7 v8 v9 v10 v11 v12 v13 v14 v15)=.nx (dl v0 (.sh (bkD L)) v2 v3 v4 v5 v6 (.sh (.str (hh T))) v8 v9 v10 v11 v12 v13 v14 v15):=by
 have hl36:=hT.l;obtain ⟨⟨r1,r2⟩,r3⟩:=eR (P:=fun h=>h.length=1) T 0 [] ⟨f8 _,fun _ h=>nomatch h⟩ (fun _ h=>nomatch h) fun u hu=>(fO (A.id _ (hT.m u hu).1).2.2).1;rw [NE] at r1 r2;have c:=Rp (δc:=[]) (tt:=E5) (el:=b2 (A1 0) (vFn (A2 (A1 1) A7) K7) P4) (fun x:Str×Str=>.str x.1) (fun x=>.str x.2) (fun x=>.str (L5 x.2.length x.1)) (fun _=>true) (Co T []) (fun _ _=>rfl) fun x hx=>B4 (x:=.str x.1) (y:=.int (x.2.length:Int)) rfl (W1 (A6 rfl rfl) rfl) (by
   have h2:=r2 x hx
   delta P4
   dsimp only; rw [if_pos ⟨by lia,by lia,i6 (show _<=1000 by rw [r3 x hx,CB]; lia) Jk⟩,CB])
 rw [BL.mpr fun _ _=>rfl] at c;unfold Jm Cp;refine F8 ?_;show Res.bind _ _=_;rw [J2 (E1 (δc:=[]) (D8 (d:=.list ((Co T []).map rD)) (ds:=(Co T []).map rD) (B5 (A6 (d:=bkD L) rfl rfl) ha) rfl) (by rw [zZ]; lia) rfl c),B9,Rh (fun x:Str×Str=>L5 x.2.length x.1) (Co T []) (lZ T) (fL A hT).1 (by have:=(fL A hT).2; lia)];rfl
theorem law9 (A:BkA L B) (hT:TOk B T) (ha:K2 [bkD L]=.ok (.list ((Co T []).map rD))):Jl (dl v0 (.sh (bkD L)) v2 (.sh (.str (tt T))) v4 (.sh (agL T)) v6 (.sh (.str (hh T))) v8 v9 v10 v11 v12 v13 v14 v15)=.nx (dl v0 (.sh (bkD L)) v2 (.sh (.str (tt T))) v4 (.sh (agL T)) v6 (.sh (.str (hh T))) v8 v9 v10 v11 v12 v13 v14 v15):=by
 have hl36:=hT.l;obtain ⟨⟨r1,_⟩,_⟩:=eR (P:=fun _=>True) T 0 [] ⟨f8 _,fun _ h=>nomatch h⟩ (fun _ h=>nomatch h) fun _ _=>trivial;rw [NE] at r1;have c1:=W0 (δc:=[]) (tt:=E5) (el:=b2 (A1 0) (vC (.int 1)) dIx) (fun u:As=>idP u.1.p) (fun u=>.str u.1.p.2) (fun _=>true) T (fun _ _=>rfl) fun u _=>B4 (x:=idP u.1.p) (y:=.int 1) rfl rfl (Cl _ _ _);rw [BL.mpr fun _ _=>rfl] at c1;have c2:=Rp (δc:=[]) (tt:=E5) (el:=A1 1) (fun x:Str×Str=>.str x.1) (fun x=>.str x.2) (fun x=>.str x.2) (fun _=>true) (Co T []) (fun _ _=>rfl) fun x hx=>rfl;rw [BL.mpr fun _ _=>rfl] at c2
 have e1:(Cp "" (E8 (D7 (fun δ=>((A1 5) δ).bind D2) C6 [] E5 (b2 (A1 0) (vC (.int 1)) dIx)))) (dl v0 (.sh (bkD L)) v2 (.sh (.str (tt T))) v4 (.sh (agL T)) v6 (.sh (.str (hh T))) v8 v9 v10 v11 v12 v13 v14 v15)=.ok (.str (hh T)):=by
   unfold Cp; show Res.bind _ _=_;rw [J2 (E1 (δc:=[]) (D8 (d:=agL T) (ds:=T.map fun u=>idP u.1.p) rfl (by show Res.ok ((T.map fun u=>u.1.p).map idP)=_; rw [BE]; rfl)) (by rw [zZ]; lia) rfl c1),B9,Rh (fun u:As=>u.1.p.2) T rfl (fL A hT).1 (by have:=(fL A hT).2; lia)];rfl
 have e2:(Cp "" (E8 (D7 (fun δ=>((B6 (A2 (A1 1) A7) K2) δ).bind D2) Ay [] E5 (A1 1)))) (dl v0 (.sh (bkD L)) v2 (.sh (.str (tt T))) v4 (.sh (agL T)) v6 (.sh (.str (hh T))) v8 v9 v10 v11 v12 v13 v14 v15)=.ok (.str (tt T)):=by
   unfold Cp; show Res.bind _ _=_;rw [J2 (E1 (δc:=[]) (D8 (d:=.list ((Co T []).map rD)) (ds:=(Co T []).map rD) (B5 (A6 (d:=bkD L) rfl rfl) ha) rfl) (by rw [zZ]; lia) rfl c2),B9,Rh (fun x:Str×Str=>x.2) (Co T []) (lY T) (uY A hT).1 (by have:=(uY A hT).2; lia)];rfl
 unfold Jl;exact (P2 (Iu (B8 (B4 (x:=.str (hh T)) rfl e1 ((Rf.str (n:=0) _).ne (by decide)))) (B8 (B4 e2 (y:=.str (tt T)) rfl ((Rf.str (n:=0) _).ne (by decide)))))).trans rfl
theorem addOf (h:Adds L B):∀ e∈L,(wdS e == "add")=true->∃ a∈B,e=(a.d,a.p):=by
 induction h with
 | nil=>intro e he; cases he
 | @add L B a _ ih =>
   intro e he hw; rcases a9.mp he with rfl | he
   . exact ⟨a,.head _,rfl⟩
   . obtain ⟨b,hb,z⟩:=ih e he hw
     exact ⟨b,.tail _ hb,z⟩
 | @oth L B e' k x xs h1 hk _ ih =>
   intro e he hw; rcases a9.mp he with rfl | he
   . rw [Vp h1] at hw
     exact absurd (by simpa using hw) hk
   . exact ih e he hw
theorem law10 (A:BkA L B) (hl:L.length<=9) (hlo:Gh [bkD L]=.ok (.list ((L.filter (Kp L T)).map lsD))):Gr (dl v0 (.sh (bkD L)) v2 v3 v4 (.sh (agL T)) (oN (B.map adE)) v7 v8 v9 v10 v11 v12 v13 v14 v15)=.nx (dl v0 (.sh (bkD L)) v2 v3 v4 (.sh (agL T)) (oN (B.map adE)) v7 v8 v9 v10 v11 v12 v13 v14 v15):=by
 have hle:=w6 (Kp L T) L;have c:=Rp (δc:=[.sh (agL T),oN (B.map adE)]) (tt:=cOr (C1 (b2 (A1 0) (A1 2) (dIn false))) (C1 (b2 (Ec 3 (A1 0)) (A1 1) dNe))) (el:=A1 0) (fun e:Dp=>idP e.2) (fun e=>tx3 e) (fun e=>idP e.2) (fun _=>false) (L.filter (Kp L T)) (fun e he=>by
   obtain ⟨he,h2⟩:=o6.mp he; unfold Kp at h2; simp only [j9] at h2; obtain ⟨⟨h3,_⟩,h4⟩:=h2; obtain ⟨a,ha,rfl⟩:=addOf A.ad e he h3; have h5:a.p∉T.map fun u=>u.1.p:=fun z=>by
     obtain ⟨u,hu,z⟩:=j7.mp z; rw [EM.mpr ⟨u,hu,decide_eq_true z⟩] at h4; cases h4
   have h6:tx3 (a.d,a.p)=.str a.w:=by
     unfold tx3; rw [show dIx a.d (.int 3)=some (.str a.w) from bT _ _ _ _ _]; rfl
   refine Iu (B8 (B4 (x:=idP a.p) (y:=agL T) rfl rfl ?_)) (B8 (B4 (x:=.str a.w) (y:=tx3 (a.d,a.p)) ?_ rfl ?_))
   . rw [yP,decide_eq_false h5]; rfl
   . show Ec 3 (A1 0) [.sh (idP a.p),.sh (tx3 (a.d,a.p)),.sh (agL T),oN (B.map adE)]=_
     unfold Ec; show Res.bind (Res.ok (idP a.p)) _=_;rw [B9,if_pos (X5 _),oE A ha]; rfl
   . rw [h6]; exact (Rf.str (n:=0) _).ne (by decide)) fun _ _=>rfl
 rw [show List.filter (fun _=>false) (L.filter (Kp L T))=[] from BG.mpr fun _ _=>by decide] at c;unfold Gr;have e:=J2 (E1 (src:=fun δ=>((B6 (A2 (A1 1) A7) Gh) δ).bind D2) (δ:=dl v0 (.sh (bkD L)) v2 v3 v4 (.sh (agL T)) (oN (B.map adE)) v7 v8 v9 v10 v11 v12 v13 v14 v15) (cap:=[5,6]) (δc:=[.sh (agL T),oN (B.map adE)]) (D8 (d:=.list ((L.filter (Kp L T)).map lsD)) (ds:=(L.filter (Kp L T)).map lsD) (B5 (A6 (d:=bkD L) rfl rfl) hlo) rfl) (by rw [zZ]; lia) rfl c);exact (P2 (B8 (B4 (x:=.list []) (y:=.list []) e rfl rfl))).trans rfl
end
theorem aD {α:Type} (f:α->Str):∀ (K:List Str),K.Nodup->∀ L:List α,(∀ e∈L,f e∈K)->(K.map fun k=>(L.filter fun e=>f e==k).length).sum=L.length:=by
 intro K;induction K with
 | nil =>
   intro _ L h;cases L with
   | nil=>rfl
   | cons e L=>exact nomatch h e (.head _)
 | cons k K ih =>
   intro nd L h; rw [AU] at nd; have h1:=ih nd.2 (L.filter fun e => !(f e==k)) fun e he=>by
     obtain ⟨he,z⟩:=o6.mp he; rcases a9.mp (h e he) with y | y
     . rw [y] at z; simp at z
     . exact y
   have h2:(K.map fun k'=>((L.filter fun e => !(f e==k)).filter fun e=>f e==k').length)=K.map fun k'=>(L.filter fun e=>f e==k').length:=BK fun k' hk=>by
     rw [EW];congr 1;refine JW fun e _=>?_;by_cases z:f e=k'
     . have:¬ k'=k:=fun y=>nd.1 (y▸hk)
       simp [z,this]
     . simp [z]
   have h3:L.length=(L.filter fun e=>f e==k).length+(L.filter fun e => !(f e==k)).length:=by
     clear ih h h1 h2;induction L with
     | nil=>rfl
     | cons e L ih2=>cases z:f e==k <;> simp [z] <;> lia
   rw [c7,EQ,<- h2,h1,<- h3]
noncomputable section
variable {L:List Dp} {v0 v1 v2 v3 v4 v5 v6 v7 v9 v10 v11 v12 v13 v14 v15:Sl}
abbrev sm (L:List Dp) (h:Str) (ws:List Str):Nat:=(ws.map fun w=>(dw L h w).length).sum
theorem qR (L:List Dp) (h:Str):∀ ws:List Str,sm L h (ws.filter fun w => !(dw L h w).isEmpty)=sm L h ws:=by
 intro ws;induction ws with
 | nil=>rfl
 | cons w ws ih =>
   cases e:(dw L h w).isEmpty with
   | true =>
     rw [FA (by simp [e]),ih];unfold sm; rw [c7,EQ,List.isEmpty_iff.mp e]; simp
   | false =>
     rw [DB (by simp [e])];unfold sm at ih ⊢;rw [c7,c7,EQ,EQ,ih]
theorem wJ (W:BkW L):((["a", "b", "c", "d", "e", "f", "g", "h"]:List Str).map fun h=>sm L h Fj).sum=L.length:=by
 have ok:∀ e∈L,okI e.2:=fun e he=>(show Wf _ _ _ _ from W.1 e he).1;have h1:=aD (fun e:Dp=>e.2.2) (["a", "b", "c", "d", "e", "f", "g", "h"]:List Str) (by decide +kernel) L fun e he=>by
   rcases (ok e he).2.2 with z | z | z <;> rw [z] <;> decide +kernel
 refine Eq.trans (congrArg List.sum (BK fun h _=>?_)) h1;have h2:=aD wdS Fj (by decide +kernel) (L.filter fun e=>e.2.2==h) fun e he=>eG W (o6.mp he).1;refine Eq.trans (congrArg List.sum (BK fun w _=>?_)) h2;rw [EW]; rfl
noncomputable def eA:Dn->Out:=(C5 (G6 8 (b2 (A1 8) (A1 14) D3)) (sIf (X7 (C1 (O1 (vC (.int 0)) (A1 15) (A1 14) (D9 .LtE) (D9 .LtE)))) (E2 (vC (.bool false))) E4))
noncomputable def pJ:Dn->Out:=(O3 (fun δ=>((B6 (A2 (A1 1) (A2 (A1 9) A7)) Y9) δ).bind D2) (st3 13 14 15) eA)
theorem yA (h:Str):∀ (ws:List Str) (m:Nat) (v13 v14 v15:Sl),∃ t13 t14 t15,F9 (st3 13 14 15) eA (ws.map (wS L h)) (dl v0 v1 v2 v3 v4 v5 v6 v7 (.sh (.int (m:Int))) v9 v10 v11 v12 v13 v14 v15)=.nx (dl v0 v1 v2 v3 v4 v5 v6 v7 (.sh (.int ((m+sm L h ws:Nat):Int))) v9 v10 v11 v12 t13 t14 t15):=by
 intro ws;induction ws with
 | nil=>intro m v13 v14 v15; exact ⟨v13,v14,v15,rfl⟩
 | cons w ws ih =>
   intro m v13 v14 v15; have hc:=List.countP_le_length (p:=fun e:Dp => !decide (e.2∈off L)) (l:=dw L h w);obtain ⟨a,b,c,e⟩:=ih (m+(dw L h w).length) (.sh (.str w)) (.sh (.int ((dw L h w).length:Int))) (.sh (.int ((dw L h w).countP (fun e => !decide (e.2∈off L)):Int)));refine ⟨a,b,c,?_⟩; rw [c7]; have hs:m+sm L h (w::ws)=m+(dw L h w).length+sm L h ws:=by unfold sm; rw [c7,EQ]; lia
   rw [hs]; refine (W4 (δ1:=dl v0 v1 v2 v3 v4 v5 v6 v7 (.sh (.int (m:Int))) v9 v10 v11 v12 (.sh (.str w)) (.sh (.int ((dw L h w).length:Int))) (.sh (.int ((dw L h w).countP (fun e => !decide (e.2∈off L)):Int)))) rfl ?_).trans e;unfold eA; refine (C2 (δ':=dl v0 v1 v2 v3 v4 v5 v6 v7 (.sh (.int ((m+(dw L h w).length:Nat):Int))) v9 v10 v11 v12 (.sh (.str w)) (.sh (.int ((dw L h w).length:Int))) (.sh (.int ((dw L h w).countP (fun e => !decide (e.2∈off L)):Int)))) (F8 (B4 (x:=.int (m:Int)) (y:=.int ((dw L h w).length:Int)) rfl rfl (by rw [W8]; rfl)))).trans ?_;refine (P2 (pG (B8 ?_))).trans rfl;generalize (dw L h w).countP (fun e => !decide (e.2∈off L))=n at hc
   unfold O1; show Res.bind (Res.ok (p5 0)) _=_;rw [B9]; show Res.bind (Res.ok (p5 (n:Int))) _=_;rw [B9,fY,Kk,B9,decide_eq_true (by lia)]; show Res.bind (Res.ok (p5 ((dw L h w).length:Int))) _=_;rw [B9,fY,decide_eq_true (by lia)]; rfl
theorem yB {ku kd:Kvs} (W:BkW L) (hl:L.length<=9) (P:Pq L ku kd):∀ (hs:List Str) (m:Nat) (v9 v13 v14 v15:Sl),∃ t9 t13 t14 t15,F9 (st1 9) pJ (hs.map .str) (dl v0 (.sh (bkD L)) v2 v3 v4 v5 v6 v7 (.sh (.int (m:Int))) v9 v10 v11 v12 v13 v14 v15)=.nx (dl v0 (.sh (bkD L)) v2 v3 v4 v5 v6 v7 (.sh (.int ((m+(hs.map fun h=>sm L h Fj).sum:Nat):Int))) t9 v10 v11 v12 t13 t14 t15):=by
 intro hs;induction hs with
 | nil=>intro m v9 v13 v14 v15; exact ⟨v9,v13,v14,v15,rfl⟩
 | cons h hs ih =>
   intro m v9 v13 v14 v15; obtain ⟨a,b,c,e⟩:=yA (L:=L) (v0:=v0) (v1:=.sh (bkD L)) (v2:=v2) (v3:=v3) (v4:=v4) (v5:=v5) (v6:=v6) (v7:=v7) (v9:=.sh (.str h)) (v10:=v10) (v11:=v11) (v12:=v12) h (Fj.filter fun w => !(dw L h w).isEmpty) m v13 v14 v15;rw [qR] at e; obtain ⟨t9,a',b',c',e'⟩:=ih (m+sm L h Fj) (.sh (.str h)) a b c; refine ⟨t9,a',b',c',?_⟩; rw [c7,c7,EQ,<- Nat.add_assoc]; refine (W4 (δ1:=dl v0 (.sh (bkD L)) v2 v3 v4 v5 v6 v7 (.sh (.int (m:Int))) (.sh (.str h)) v10 v11 v12 v13 v14 v15) rfl ?_).trans e'; unfold pJ O3; rw [D8 (d:=.list (byL L h)) (ds:=byL L h) (B5 (A6 (d:=bkD L) rfl (A6 (d:=.str h) rfl rfl)) (dX W hl P h)) rfl,D6]; exact e
end
theorem mH (ns:List Int) (hns:ns.length<=63):fF [.list (ns.map p5)]=.ok (.bool true):=by
 obtain ⟨x,y,z,hxyz,en⟩:=nG ns hns 0;obtain ⟨L,eb,hl,W⟩:=uN ns hns x y z hxyz;obtain ⟨B,A⟩:=zI W;have hk:∀ e∈L,Kd e:=fun e he=>(W.1 e he).kd;obtain ⟨ku,kd,P⟩:=mL hk hl;obtain ⟨N,n1,n2,n3,n4,et⟩:=Yr W hl;have hx:=Vv A hl P.P;have ha:=uP A hl P.P;have hlo:=sR A W hl P;have hT:TOk B ((ord B).filter (N6 ku kd)):=⟨fun u hu=>(Es A.bk u).mp (o6.mp hu).1,by
   have h1:=Az A; have h2:=w6 (N6 ku kd) (ord B);lia⟩
 have l5:=fun v4 v5 v10 v11 v12=>law5 (v0:=.sh (scr ns)) (v2:=.sh (.list (TX L N))) (v4:=v4) (v5:=v5) (v6:=.un) (v7:=.un) (v8:=.un) (v9:=.un) (v10:=v10) (v11:=v11) (v12:=v12) (v13:=.un) (v14:=.un) (v15:=.un) A hl P.P hT;have hlast:txs L ((N - 1:Nat):Int)=tt ((ord B).filter (N6 ku kd)):=by
   unfold txs; rw [vV fun e he=>by have:=n3 e he; lia,hx]
 have hfirst:txs L ((0:Nat):Int) = "" := by
   have ok:∀ e∈L,okI e.2:=fun e he=>(show Wf _ _ _ _ from W.1 e he).1;have:upT L ((0:Nat):Int)=[]:=BG.mpr fun e he=>by
     have:=(ok e he).1; simp;lia
   unfold txs; rw [this]; obtain ⟨B0,A0⟩:=zI (L:=[]) (And.intro (fun _ h=>nomatch h) HX);obtain ⟨k1,k2,P0⟩:=mL (L:=[]) (fun _ h=>nomatch h) (by decide);rw [Vv A0 (by decide) P0.P]; have h1:=Az A0; rw [show ord B0=[] from DH (by simp at h1; exact w8.mpr h1)];rfl
 generalize (ord B).filter (N6 ku kd)=T at hx ha hlo hT l5 hlast;refine K4 ?_;show Oh (dl (.sh (scr ns)) .un .un .un .un .un .un .un .un .un .un .un .un .un .un .un)=_;unfold Oh;refine (C2 (δ':=dl (.sh (scr ns)) (.sh (bkD L)) .un .un .un .un .un .un .un .un .un .un .un .un .un .un) (F8 (B5 (A6 (d:=scr ns) rfl (A6 (d:=.int 10) rfl (A6 (d:=.int 9) rfl (A6 (B5 (A6 (d:=scr ns) rfl (A6 (d:=.int 0) rfl rfl)) en) rfl)))) eb))).trans ?_;refine (C2 (δ':=dl (.sh (scr ns)) (.sh (bkD L)) (.sh (.list (TX L N))) .un .un .un .un .un .un .un .un .un .un .un .un .un) (F8 (B5 (A6 (d:=bkD L) rfl rfl) et))).trans ?_
 refine (C2 (δ':=dl (.sh (scr ns)) (.sh (bkD L)) (.sh (.list (TX L N))) (.sh (.str (tt T))) .un .un .un .un .un .un .un .un .un .un .un .un) (F8 (B5 (A6 (d:=bkD L) rfl rfl) hx))).trans ?_;refine (C9 (Iu (B8 (B4 (x:=.str "") (y:=.str "") (B4 (x:=.list (TX L N)) (y:=.int 0) rfl rfl ?_) rfl ((Rf.str (n:=0) _).ne (by decide)))) (B8 (B4 (x:=.str (tt T)) (y:=.str (tt T)) (B4 (x:=.list (TX L N)) (y:=.int (-1)) rfl (sN _) ?_) rfl ((Rf.str (n:=0) _).ne (by decide)))))).trans ?_
 . rw [<- hfirst]; exact pV (n:=0) (by lia)
 . obtain ⟨M,rfl⟩:∃ M,N=M+1:=⟨N - 1,by lia⟩
   rw [Oq,Xg,<- hlast]; rfl
 obtain ⟨t4,t10,t11,t12,e4⟩:=loop4 (v0:=.sh (scr ns)) (v3:=.sh (.str (tt T))) (v5:=.un) (v6:=.un) (v7:=.un) (v8:=.un) (v9:=.un) (v13:=.un) (v14:=.un) (v15:=.un) W hl n1 n2 n3 (o9 N) (fun t ht=>q9.mp ht) .un .un .un .un;refine (C2 (δ':=dl (.sh (scr ns)) (.sh (bkD L)) (.sh (.list (TX L N))) (.sh (.str (tt T))) t4 .un .un .un .un .un t10 t11 t12 .un .un .un) ?_).trans ?_
 . have hs:=Gs (fs:=A2 (vFn (A2 (A1 2) A7) K7) A7) (δ:=dl (.sh (scr ns)) (.sh (bkD L)) (.sh (.list (TX L N))) (.sh (.str (tt T))) .un .un .un .un .un .un .un .un .un .un .un .un) (n:=(N:Int)) (A6 (W1 (A6 rfl rfl) (show some (p5 ((TX L N).length:Int))=_ by rw [Ew])) rfl) (by lia) (by lia)
   rw [rF] at hs; unfold Pa O3; rw [hs,D6]; exact e4
 refine (C2 (l5 t4 .un t10 t11 t12)).trans ?_;refine (C2 (law6 A hl)).trans ((C2 (law7 A hT)).trans ((C2 (law8 A hT ha)).trans ((C2 (law9 A hT ha)).trans ((C2 (law10 A hl hlo)).trans ?_))));refine (C2 (δ':=dl (.sh (scr ns)) (.sh (bkD L)) (.sh (.list (TX L N))) (.sh (.str (tt T))) t4 (.sh (agL T)) (oN (B.map adE)) (.sh (.str (hh T))) (.sh (.int ((0:Nat):Int))) .un t10 t11 t12 .un .un .un) rfl).trans ?_;obtain ⟨t9,t13,t14,t15,e12⟩:=yB (v0:=.sh (scr ns)) (v2:=.sh (.list (TX L N))) (v3:=.sh (.str (tt T))) (v4:=t4) (v5:=.sh (agL T)) (v6:=oN (B.map adE)) (v7:=.sh (.str (hh T))) (v10:=t10) (v11:=t11) (v12:=t12) W hl P (["a", "b", "c", "d", "e", "f", "g", "h"]:List Str) 0 .un .un .un .un
 rw [wJ W,NE] at e12;refine (C2 (δ':=dl (.sh (scr ns)) (.sh (bkD L)) (.sh (.list (TX L N))) (.sh (.str (tt T))) t4 (.sh (agL T)) (oN (B.map adE)) (.sh (.str (hh T))) (.sh (.int (L.length:Int))) t9 t10 t11 t12 t13 t14 t15) ?_).trans ?_
 . unfold Lf O3
   rw [D8 (d:=.str "abcdefgh") (ds:=(["a", "b", "c", "d", "e", "f", "g", "h"]:List Str).map .str) rfl rfl,D6];exact e12
 . refine D5 (B4 (x:=.int (L.length:Int)) (y:=.int (L.length:Int)) rfl (W1 (A6 (d:=bkD L) rfl rfl) (show some (p5 ((L.map (·.1)).length:Int))=_ by rw [zZ])) ?_)
   rw [pB]; simp
end Sm
end
set_option maxRecDepth 100000 in
set_option maxHeartbeats 0 in
theorem PySem.Challenge.cw_staymark_k71_whole_history_holds : PySem.Challenge.rw_staymark_k71_whole_history.Holds := by
 w_on; o_law
 refine PySem.W.holds_open (XP:=PySem.W.XL Sm.owV []) Sm.owL (PySem.W.Hook.of _) (PySem.W.Hook.keeps _) (fun s e=>PySem.W.xl_of s (Bool.and_eq_true_iff.mp e).1) PySem.W.XL.keeps (by rfl) (by rfl) (by rfl) (fun s e=>PySem.W.recFacts_of (Bool.and_eq_true_iff.mp e).2) (by rfl) (by first | assumption | decide +kernel) (by decide +kernel) ⟨rfl,rfl,rfl,rfl,rfl,by decide +kernel⟩ ?hw ?hc
 (case hw=>w_witness2)
 k_fill
 refine Sm.walkD (l:=PySem.Challenge.rw_staymark_k71_whole_history) rfl rfl rfl (fun w h Y=>PySem.W.kIn_of Y) (fun w=>?hK) ?F Sm.mH
 case hK=>kernel_rfl
 case F =>
   intro w mg h KX G; refine' ⟨⟨?b0,?b1,?b2,?b3,?b4,?b5,?b6,?b7,?b8,?b9,?b10,?b11,?b12,?b13,?c0,?c1,?c2,?c3,?c4⟩,⟨?d44,?d0,?d1,?d2,?d3,?d4,?d5,?d6,?d7,?d8,?d9,?d10,?d11,?d12,?d13,?d14,?d15,?d16,?d17,?d18,?d19,?d20,?d21,?d22,?d23,?d24,?d25,?d26,?d27,?d28,?d29,?d30,?d31,?d32,?d33,?d34,?d35,?d36,?d37,?d38,?d39,?d40,?d41,?d42,?d43⟩⟩
   case b0 | b1 | b2 | b3 | b4 | b5 | b6 | b7 | b8 | b9 | b10 | b11 | b12 | b13=>exact PySem.W.mg_none_of KX G (by k_is)
   case c0 | c1 | c2 | c3 | c4=>exact ⟨_,(PySem.W.mg_of KX G (by k_is)).trans rfl⟩
   case d0 | d1 | d12 | d18 | d23 | d28 | d30 | d32 | d33 | d35 | d36 | d38 | d39=>exact Sm.tY KX G (by k_is) (by k_is) (by k_is) (by k_is) (fun _ _ _ _ _ _ _ _=>rfl) rfl
   case d2 | d43=>exact Sm.tW KX G (by k_is) (by k_is) (by k_is) (by k_is) (fun _ _ _ _ _ _ _ _ _ _=>rfl) rfl
   case d3 | d4 | d5 | d6 | d7 | d8 | d9 | d10 | d11 | d13 | d14 | d15 | d16 | d17 | d19 | d20 | d21 | d22 | d24 | d25 | d26 | d27 | d29 | d31 | d34 | d40 | d44=>exact Sm.tZ KX G (by k_is) (by k_is) (by k_is) (by k_is) (fun _ _ _ _ _ _ _=>rfl) rfl
   case d37 | d41=>exact Sm.tX KX G (by k_is) (by k_is) (by k_is) (by k_is) (fun _ _ _ _ _ _ _ _ _=>rfl) rfl
   case d42=>exact Sm.tV KX G (by k_is) (by k_is) (by k_is) (by k_is) (fun _ _ _ _ _ _ _ _ _ _ _=>rfl) rfl
