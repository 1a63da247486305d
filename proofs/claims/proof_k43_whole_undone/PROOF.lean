import PyProof.Rows.All
import Wide.All
import OpenK.AllK
import Wide.FinOn
import Lean
import PyProof.EqAt
import PyProof.EqKinds
import PyProof.TupleCall
import PyProof.AttrMiss
import PyProof.IsiH_list
import PySem.SetOps
import PyProof.SetScanFacts
import PyProof.SetKind
import PyProof.IsRules
import PyProof.TupleKey
import PyProof.P3Eq
import Wide.Seal
import PyProof.StrCalls
import PyProof.SeqI3
import PyProof.Draws
import PyProof.EnumMake
import PyProof.DictValues
import PyProof.DictWalks
import PyProof.TupleOfSeq
import PyProof.TupleOfGen
import KE.KDictList
import KE.KRevIter
import PyProof.MinMaxWalk
import PyProof.Rows.CallKwBuiltin
import KE.KSortTup
import PyProof.Rows.SortWalk
import PyProof.Rows.SortShell
import PyProof.DictIter
import PyProof.P3In
import PyProof.Rows.SortStr
import PyProof.MeetsStr
import PyProof.FactsAll.str_6
import PyProof.StrCalls2
import PyProof.MeetsStr2
import KE.KIntText
import PyProof.SliceStr2
import PyProof.Rows.Range3
import PyProof.FactsAll.list_3
import PyProof.FString4
import PyProof.ZipIter
import PyProof.ListNew
import PyProof.SetRoads
import PyProof.Rows.SetFrom
import PyProof.SetNew
import PyProof.WalksMore
import PyProof.FactsAll.set_2
import PySem.Challenge.RW_staymark_k43_whole_undone
set_option Elab.async false
set_option linter.all false
set_option maxRecDepth 100000
set_option maxHeartbeats 4000000
set_option compiler.extract_closed false
set_option bootstrap.genMatcherCode false
set_option genSizeOf false
local macro_rules | `(⋯) => `(by kernel_rfl)
open PySem renaming PyData→wK,wpAny_bind→wL,Value→wM,wpAny_pure→wN,Shared→wO,Spec→wP,Addr→wX,starEach→wY,Program→xT,model→xU,World→yC,DictEntry→yU,Heap→yW,Around→yZ,wpAny_truthy_bool→zB,compareOp→zE,Paired→zJ,mainGlobals→zK,wpAny_newObj_type→zL,wpAny_dictEpoch→zO,backTo→zP,foldedSetIterable→zS,wpAny_callSpecial?_slot→zT,wpAny_mono→zU,wpAny_loadPart'→zW,wpAny_call_entry→zZ,wpAny_holding→c9,wpAny_rule→i0,cLine→i4,swapsWith→j3,CmpOp→j7,Builtin→l0,relabel→l4,sysModules→l5,attributeBase→m4,builtinLookup_eq_fast→m7,Stmt→n0,wpAny_specialOf→n5,mem_of_lookup→n6,bootBuiltins→o0,wpAny_typeNameOfWhole_keyiter→p8,wpAny_of_eq→p9,rawInt→t9,wpAny_passesOwn→w5,SetTable→w6,wpAny_dictEntries→y3,Keyword→y9,typeLookup_type→AG,wpAny_Call_Name_kw→AK,wpAny_field→AM,keywordEach→AN,FuncData→AU,wpAny_notOrdered_dict→BC,wpAny_forIn_list→BD,wpAny_attempt→BF,sliceBounds→BG,codeAny_builtin→BK,getItem→BO,wpAny_setField→BU,pyNext→BV,NameKind→BX,wpAny_sequenceKey→CB,wpAny_pyIter_list→CC,sizeLine_eq→CD,Params→CI,wpAny_isInstance→CS,bindArgs→CT,binaryOp→CU,backToKw→CW,codeAny→DH,builtinsNs→DJ,wpAny_execs_nil→DM,letOwnedTupleGo→DP,wpAny_isOneOf_keyiter→DX,isSubtype_type→EF,firstArgMember→EG,IsPart→EH,lastMarks→EJ,typeLookup→EW,call_meets→EZ,assignEach→FA,wpAny_typeOf→FG,slot_list_getitem→FH,codeAny_mono→FI,callerA→FJ,call_meetsIn→FK,noFill_tuple_add→FT,beq_builtin_none→FU,subscripted→FZ,setField→GK,carriedByValue→GM,ReadsAll→GO
open PySem.W renaming Frag→wQ,fnOf→yY,keepIn→zR,kia_one→a8,codeIn→l6,nsIn→AZ,methodObj→DY,instObj→EQ,lookIn→FB,cellsFrom_some→FV,kitx_list→GV,kitx_dict→GW
open List renaming mem_cons→wR,mem_singleton→wS,length_map→wT,map_cons→wU,length_cons→xB,mem_append→xC,size_toArray→xE,replicate→xF,set_cons_zero→xI,set_cons_succ→xJ,mem_map→xK,length_append→xO,nil_append→xP,getElem?_eq_some_iff→xQ,find?_cons→xR,getElem?_map→xS,append_nil→xV,filter_cons→xW,mem_map_of_mem→xY,length_nil→yD,getElem?_append_left→yG,filter_cons_of_pos→yH,filter_cons_of_neg→yI,getElem?_eq_getElem→yJ,pairwise_cons→yK,getElem?_append_right→yL,cons_append→yM,map_append→yO,getElem?_cons_zero→yQ,mem_append_left→yT,filter_append→yX,mem_append_right→zD,map_nil→zF,nodup_cons→zG,mem_filter→zH,length_eq_zero_iff→zI,append_assoc→zQ,mem_range→a9,mem_cons_self→c7,mem_of_getElem?→e8,mem_cons_of_mem→f8,all_eq_true→f9,range→i5,drop_eq_getElem_cons→i7,pairwise_append→j0,getElem?_replicate→j9,replicate_succ→l3,pairwise_singleton→o6,length_replicate→q9,getElem?_eq_none→s0,pairwise_map→u5,flatten_cons→u6,nodup_iff_pairwise_ne→x4,mem_reverse→y4,reverse_append→z5,mem_filterMap→AD,nodup_append→AH,map_map→AI,drop_eq_nil_of_le→AJ,length_singleton→AR,length→AX,getElem?_set_ne→AY,filter_eq_self→BE,zip_cons_cons→BI,drop_zero→BJ,ext_getElem?→BQ,length_take→BY,getElem_mem→BZ,any_eq_true→CA,filter_eq_nil_iff→CF,forIn_cons→CJ,mem_iff_getElem?→CN,length_filter_le→CO,length_reverse→DQ,filterMap_cons→DR,any_cons→EA,foldl→ED,not_mem_nil→ET,length_drop→EU,of_mem_zip→FE,getD_eq_getElem?_getD→FR,find?→FS,mem_of_find?_eq_some→FY,getElem?_cons_succ→GD,getElem?_set_self→GI,any_map→GJ,dropLast_eq_take→GT,reverse_reverse→GX,getElem?_mapIdx→GY
open PySem.PyData renaming eqv→xA,strOk→yB,tuple→yR,depth→yS,depthAll→yV,bool→zC,str→c6,canLayAll0→j5,int→j6,eqvAll→z4
open Nat renaming le_trans→xD,le_refl→xH,lt_of_lt_of_le→xZ,ne_of_lt→yE,reduceSub→zM,reduceAdd→zN,not_lt→i8,min_le_right→i9,zero_le→l7,lt_irrefl→n4,min_le_left→AC,le_succ_of_le→AL,le_succ→BA,ne_of_gt→BH,lt_of_le_of_lt→BM,lt_succ_self→FC,zero_add→GP,mul_comm→GQ,le_of_lt→GS
open PySem.Heap renaming get?_push_of_some→xG,lt_size→xL,get?_push_size→xN,get?_update_self→m3,SameBut→CG,get?_update_ne→DV
open Bool renaming and_eq_true→xX,false_ne_true→c8,eq_iff_iff→i6,false_eq_true→l9,not_eq_true'→BR,not_true→BS,or_eq_true→CL,not_false→DG,or_false→GB
open Option.some renaming inj→yF,injEq→CZ
open Option renaming map_eq_some_iff→yN,map_some→AW,getD_some→EL,bind_eq_some_iff→FX
open List.cons renaming injEq→yP
open PySem.Value renaming ref→zA,none→j8,bool→AO,notImplemented→CY,type→FM,str→GA
open Array renaming getElem?_eq_getElem→zV,getElem?_toList→p7,length_toList→z0,all_toList→ES,toList→GF
open PySem.Challenge renaming pw_staymark_k43_whole_undone→zX
open PySem.PyData.tuple renaming injEq→zY
open PyProof.Rows renaming slot_tuple_getitem→g9,callWith_type1→o7,AllBare→DL,IsTup→DU,slot_tuple_getitem→EX,envOfC→EY,StrsAre→GH
open LawfulBEq renaming eq_of_beq→j4
open ForInStep renaming yield→l8
open PySem.Heap.SameBut renaming update→m6
open PySem.PyData.str renaming injEq→m8
open PySem.Str renaming join→m9,ofString→p4
open PySem.NameKind renaming free→o8
open PySem.Obj renaming data_mapFields→p5,mapDictKeys→CM,isFreed_of_fields→DB,isFreed_of_dict→DZ,mapFields→GC
open PySem.Builtin.Slice renaming slicePlaces→p6,sliceAdjust→AV,sliceApplied→EB
open PySem.Builtin.Tuple renaming tupleExact→u7,tupleItemsOf→AS,tupleCompareSizes→CQ,tupleHashOf→EE
open Classical renaming byContradiction→u8
open PySem.Builtin.List renaming listTooLong→u9
open PySem.Around renaming under_plainId→v9
open False renaming elim→x3
open PySem.Builtin.Str renaming occurrences→z8
open PySem.F renaming plainAttrs_list→z9,args_tuple_add_2→BL,entry_tuple_add→BP,slot_tuple_add→BW,type_list_append→FN,slot_list_append→FO,plainAttrs_dict→FQ,plainAttrs_str→FW
open PySem.Calls renaming spliced_cons→AB,callWith_builtin→AF,evalArgs_plain→DC,spliced_nil→EI,Name_function_global→FP
open PySem.PyData.int renaming injEq→AE
open PySem.PassesOwn renaming never→AQ
open List.Perm renaming refl→BB
open Int renaming emod_lt_of_pos→BN,le_of_eq→CK,emod_nonneg→CP,lt_trans→GU
open PySem.Builtin.Dict_items renaming ownsTuple→CH
open Prod renaming ext→DD
open True renaming intro→EC
open Sum renaming inr→EM,inl→EN
open PySem.SeqAt.ReadsAll renaming length→EO
open PySem.Builtin.Dict renaming updateFrom→ER,showsAll→FD
open Decidable renaming byContradiction→EV
open PySem.AutoSeq1 renaming sub_tuple_tuple→FF,idx_int→GZ
open PySem.Heap.ExtBut renaming push→GE
namespace L2
open PySem PySem.Spec PyProof.Rows
def O2 (s:n0):Arguments:=match s with
 | .FunctionDef _ a _ _ _ _ _ _ _ _=>a
 | _=>{ posonlyargs:=[],args:=[],vararg:=none,kwonlyargs:=[],kw_defaults:=[],kwarg:=none,defaults:=[] }
def B9 (s:n0):List n0:=match s with
 | .FunctionDef _ _ b _ _ _ _ _ _ _=>b
 | _=>[]
def A7 (s:n0):Scope:=match s with
 | .FunctionDef _ _ _ _ _ _ sc _ _ _=>sc
 | _=>{ kind:=.function,names:=[],isGenerator:=false,isCoroutine:=false }
end L2
namespace Sm
open PySem PySem.Spec PyProof.Rows L2
noncomputable def top (i:Nat):n0:=zX.main.body.getD i (.Pass ⟨0,0,0,0⟩)
noncomputable def F7 (P:CI) (x:Str) (t:Nat) (v:wM):yU:=⟨PyData.keyHash P x,.str x t,v⟩
noncomputable def pK (i:Nat):Str:=match top i with | .FunctionDef n _ _ _ _ _ _ _ _ _=>n | _ => ""
noncomputable def N5 (i:Nat) (m:wM) (c:Nat):Obj:=⟨.type "function",none,.func (yY (pK i) (pK i) (O2 (top i)) (B9 (top i)) (A7 (top i)) .none .none .none m none (.ref c) .none),#[]⟩
noncomputable def N6 (i t:Nat) (l a:Int) (r:Nat) (u v w:wM) (n:Nat):Obj:=⟨.type "code",none,.fields #[.str (pK i) t,.str (pK i) (t+1),.str "/claim/cut.py" (t+2),.int l 0,.int a 0,.int 0 0,.int 0 0,.int 3 0,.ref r,.bool true,.int 181 0,.ref (r+1),.none,u,v,w,.int n 0,.int l 0,.str "/claim/cut.py" (n+1)],#[]⟩
noncomputable def owM0 (P:CI):List yU:=[F7 P "__name__" 165 (.str "law_staymark_k43_whole_undone" 529),F7 P "__doc__" 166 .none,F7 P "__package__" 167 .none,F7 P "__loader__" 168 (.builtin "__main__.__loader__#opaque"),F7 P "__spec__" 169 .none,F7 P "__annotations__" 170 (.ref 6),F7 P "__builtins__" 171 (.ref 4),F7 P "__file__" 173 (.str "/claim/cut.py" 172),F7 P "__cached__" 174 .none,F7 P "HANDS" 190 (.str "abcdefgh" 189),F7 P "SIDES" 192 (.str "lr" 191)]
noncomputable def owM1 (P:CI):List yU:=[F7 P "MOST_ADDED" 194 (.int 20 193),F7 P "MOST_DROPPED" 196 (.int 400 195),F7 P "LONGEST_NAME" 198 (.int 6 197),F7 P "is_whole" 206 (.ref 21),F7 P "is_one_of" 214 (.ref 28),F7 P "is_text" 220 (.ref 33),F7 P "is_name" 227 (.ref 40),F7 P "is_added_text" 234 (.ref 47),F7 P "is_pair" 241 (.ref 54),F7 P "is_deed_id" 248 (.ref 61),F7 P "is_sign_id" 255 (.ref 68)]
noncomputable def owM2 (P:CI):List yU:=[F7 P "is_sign_id_or_none" 262 (.ref 75),F7 P "is_anchor" 269 (.ref 82),F7 P "is_rising" 275 (.ref 87),F7 P "is_dropped" 281 (.ref 92),F7 P "has_form" 289 (.ref 99),F7 P "signs_named" 295 (.ref 104),F7 P "deeds_named" 301 (.ref 109),F7 P "is_deed" 307 (.ref 114),F7 P "signs_added" 314 (.ref 121),F7 P "by_ids" 320 (.ref 126),F7 P "has_all_named" 326 (.ref 131)]
noncomputable def owM3 (P:CI):List yU:=[F7 P "is_book" 332 (.ref 136),F7 P "MarkError" 352 (.ref 146),F7 P "NoSign" 368 (.ref 159),F7 P "NoDeed" 384 (.ref 171),F7 P "adds_behind" 395 (.ref 180),F7 P "signs_of" 401 (.ref 185),F7 P "undone_in" 410 (.ref 192),F7 P "refuse_unless_deed" 416 (.ref 197),F7 P "in_effect" 424 (.ref 204),F7 P "dropped_in" 435 (.ref 211),F7 P "presence_in" 446 (.ref 218)]
noncomputable def owM4 (P:CI):List yU:=[F7 P "shown_in" 452 (.ref 223),F7 P "text_of" 458 (.ref 228),F7 P "has_sign" 467 (.ref 235),F7 P "is_there" 476 (.ref 242),F7 P "leaning_on" 482 (.ref 247),F7 P "places_in" 495 (.ref 254),F7 P "anchored" 503 (.ref 261),F7 P "mark_deeds" 509 (.ref 266),F7 P "marks_of" 520 (.ref 273),F7 P "without" 528 (.ref 278),F7 P "_law_cell" 538 (.ref 285)]
noncomputable def owM5 (P:CI):List yU:=[F7 P "_law_drawn" 548 (.ref 292),F7 P "_law_names" 559 (.ref 299),F7 P "_law_words" 565 (.ref 304),F7 P "_law_signs" 571 (.ref 309),F7 P "_law_anchor" 581 (.ref 316),F7 P "_law_deed" 587 (.ref 321),F7 P "_law_book" 593 (.ref 326),F7 P "law" 599 (.ref 331)]
noncomputable def ownK (P:CI):wQ :=
 (nat_lit 3,⟨.type "dict",none,.dict (owM0 P++owM1 P++owM2 P++owM3 P++owM4 P++owM5 P).toArray 63,#[]⟩) ::
 (nat_lit 20,N6 6 199 7 2 15 (.ref 17) (.ref 18) (.ref 19) 204) ::
 (nat_lit 21,N5 6 (.str "staymark.deeds" 187) 20) ::
 (nat_lit 27,N6 7 207 9 2 22 (.ref 24) (.ref 25) (.ref 26) 212) ::
 (nat_lit 28,N5 7 (.str "staymark.deeds" 187) 27) ::
 (nat_lit 32,N6 8 215 11 4 29 .none .none (.ref 31) 218) ::
 (nat_lit 33,N5 8 (.str "staymark.deeds" 187) 32) ::
 (nat_lit 39,N6 9 221 15 1 34 (.ref 36) (.ref 37) (.ref 38) 225) ::
 (nat_lit 40,N5 9 (.str "staymark.deeds" 187) 39) ::
 (nat_lit 46,N6 10 228 17 1 41 (.ref 43) (.ref 44) (.ref 45) 232) ::
 (nat_lit 47,N5 10 (.str "staymark.deeds" 187) 46) ::
 (nat_lit 53,N6 11 235 19 1 48 (.ref 50) (.ref 51) (.ref 52) 239) ::
 (nat_lit 54,N5 11 (.str "staymark.deeds" 187) 53) ::
 (nat_lit 60,N6 12 242 21 1 55 (.ref 57) (.ref 58) (.ref 59) 246) ::
 (nat_lit 61,N5 12 (.str "staymark.deeds" 187) 60) ::
 (nat_lit 67,N6 13 249 23 1 62 (.ref 64) (.ref 65) (.ref 66) 253) ::
 (nat_lit 68,N5 13 (.str "staymark.deeds" 187) 67) ::
 (nat_lit 74,N6 14 256 25 1 69 (.ref 71) (.ref 72) (.ref 73) 260) ::
 (nat_lit 75,N5 14 (.str "staymark.deeds" 187) 74) ::
 (nat_lit 81,N6 15 263 27 1 76 (.ref 78) (.ref 79) (.ref 80) 267) ::
 (nat_lit 82,N5 15 (.str "staymark.deeds" 187) 81) ::
 (nat_lit 86,N6 16 270 29 1 83 .none .none (.ref 85) 273) ::
 (nat_lit 87,N5 16 (.str "staymark.deeds" 187) 86) ::
 (nat_lit 91,N6 17 276 31 1 88 .none .none (.ref 90) 279) ::
 (nat_lit 92,N5 17 (.str "staymark.deeds" 187) 91) ::
 (nat_lit 98,N6 18 282 35 2 93 (.ref 95) (.ref 96) (.ref 97) 287) ::
 (nat_lit 99,N5 18 (.str "staymark.deeds" 187) 98) ::
 (nat_lit 103,N6 19 290 47 1 100 .none .none (.ref 102) 293) ::
 (nat_lit 104,N5 19 (.str "staymark.deeds" 187) 103) ::
 (nat_lit 108,N6 20 296 56 1 105 .none .none (.ref 107) 299) ::
 (nat_lit 109,N5 20 (.str "staymark.deeds" 187) 108) ::
 (nat_lit 113,N6 21 302 60 1 110 .none .none (.ref 112) 305) ::
 (nat_lit 114,N5 21 (.str "staymark.deeds" 187) 113) ::
 (nat_lit 120,N6 22 308 66 1 115 (.ref 117) (.ref 118) (.ref 119) 312) ::
 (nat_lit 121,N5 22 (.str "staymark.deeds" 187) 120) ::
 (nat_lit 125,N6 23 315 68 1 122 .none .none (.ref 124) 318) ::
 (nat_lit 126,N5 23 (.str "staymark.deeds" 187) 125) ::
 (nat_lit 130,N6 24 321 70 2 127 .none .none (.ref 129) 324) ::
 (nat_lit 131,N5 24 (.str "staymark.deeds" 187) 130) ::
 (nat_lit 135,N6 25 327 74 1 132 .none .none (.ref 134) 330) ::
 (nat_lit 136,N5 25 (.str "staymark.deeds" 187) 135) ::
 (nat_lit 145,⟨.type "dict",none,.dict #[F7 P "__module__" 342 (.str "staymark.errors" 333),F7 P "__firstlineno__" 346 (.int 80 345),F7 P "__static_attributes__" 347 (.ref 144),F7 P "__weakref__" 349 (.ref 147),F7 P "__doc__" 350 .none] 3,#[]⟩) ::
 (nat_lit 146,⟨.type "type",none,.cls { name := "MarkError",qualname := "MarkError",bases:=[.type "ValueError"],mro:=[.ref 146,.type "ValueError",.type "Exception",.type "BaseException",.type "object"],ns:=145,hasDict:=true,subclasses:=[.ref 159,.ref 171],abstract:=false,hasDel:=false },#[some (.ref 137),none,some (.str "MarkError" 335),some (.str "MarkError" 343),some (.builtin "ValueError.__new__"),some (.bool true)]⟩) ::
 (nat_lit 158,⟨.type "dict",none,.dict #[F7 P "__module__" 360 (.str "staymark.errors" 333),F7 P "__firstlineno__" 364 (.int 82 363),F7 P "__static_attributes__" 365 (.ref 157),F7 P "__doc__" 366 .none] 2,#[]⟩) ::
 (nat_lit 159,⟨.type "type",none,.cls { name := "NoSign",qualname := "NoSign",bases:=[.ref 146],mro:=[.ref 159,.ref 146,.type "ValueError",.type "Exception",.type "BaseException",.type "object"],ns:=158,hasDict:=true,subclasses:=[],abstract:=false,hasDel:=false },#[some (.ref 150),none,some (.str "NoSign" 353),some (.str "NoSign" 361),some (.builtin "ValueError.__new__"),some (.bool true)]⟩) ::
 (nat_lit 170,⟨.type "dict",none,.dict #[F7 P "__module__" 376 (.str "staymark.errors" 333),F7 P "__firstlineno__" 380 (.int 84 379),F7 P "__static_attributes__" 381 (.ref 169),F7 P "__doc__" 382 .none] 2,#[]⟩) ::
 (nat_lit 171,⟨.type "type",none,.cls { name := "NoDeed",qualname := "NoDeed",bases:=[.ref 146],mro:=[.ref 171,.ref 146,.type "ValueError",.type "Exception",.type "BaseException",.type "object"],ns:=170,hasDict:=true,subclasses:=[],abstract:=false,hasDel:=false },#[some (.ref 162),none,some (.str "NoDeed" 369),some (.str "NoDeed" 377),some (.builtin "ValueError.__new__"),some (.bool true)]⟩) ::
 (nat_lit 179,N6 31 387 87 1 174 (.ref 176) (.ref 177) (.ref 178) 393) ::
 (nat_lit 180,N5 31 (.str "staymark.orders" 385) 179) ::
 (nat_lit 184,N6 32 396 93 1 181 .none .none (.ref 183) 399) ::
 (nat_lit 185,N5 32 (.str "staymark.orders" 385) 184) ::
 (nat_lit 191,N6 33 402 107 1 186 (.ref 188) (.ref 189) (.ref 190) 408) ::
 (nat_lit 192,N5 33 (.str "staymark.orders" 385) 191) ::
 (nat_lit 196,N6 34 411 113 2 193 .none .none (.ref 195) 414) ::
 (nat_lit 197,N5 34 (.str "staymark.orders" 385) 196) ::
 (nat_lit 203,N6 35 417 116 2 198 (.ref 200) (.ref 201) (.ref 202) 422) ::
 (nat_lit 204,N5 35 (.str "staymark.orders" 385) 203) ::
 (nat_lit 210,N6 36 425 119 2 205 (.ref 207) (.ref 208) (.ref 209) 433) ::
 (nat_lit 211,N5 36 (.str "staymark.orders" 385) 210) ::
 (nat_lit 217,N6 37 436 126 1 212 (.ref 214) (.ref 215) (.ref 216) 444) ::
 (nat_lit 218,N5 37 (.str "staymark.orders" 385) 217) ::
 (nat_lit 222,N6 38 447 133 1 219 .none .none (.ref 221) 450) ::
 (nat_lit 223,N5 38 (.str "staymark.orders" 385) 222) ::
 (nat_lit 227,N6 39 453 135 1 224 .none .none (.ref 226) 456) ::
 (nat_lit 228,N5 39 (.str "staymark.orders" 385) 227) ::
 (nat_lit 234,N6 40 459 137 2 229 (.ref 231) (.ref 232) (.ref 233) 465) ::
 (nat_lit 235,N5 40 (.str "staymark.orders" 385) 234) ::
 (nat_lit 241,N6 41 468 142 2 236 (.ref 238) (.ref 239) (.ref 240) 474) ::
 (nat_lit 242,N5 41 (.str "staymark.orders" 385) 241) ::
 (nat_lit 246,N6 42 477 147 2 243 .none .none (.ref 245) 480) ::
 (nat_lit 247,N5 42 (.str "staymark.orders" 385) 246) ::
 (nat_lit 253,N6 44 485 156 1 248 (.ref 250) (.ref 251) (.ref 252) 493) ::
 (nat_lit 254,N5 44 (.str "staymark.marks" 483) 253) ::
 (nat_lit 260,N6 45 496 166 2 255 (.ref 257) (.ref 258) (.ref 259) 501) ::
 (nat_lit 261,N5 45 (.str "staymark.marks" 483) 260) ::
 (nat_lit 265,N6 46 504 168 1 262 .none .none (.ref 264) 507) ::
 (nat_lit 266,N5 46 (.str "staymark.marks" 483) 265) ::
 (nat_lit 272,N6 47 510 175 1 267 (.ref 269) (.ref 270) (.ref 271) 518) ::
 (nat_lit 273,N5 47 (.str "staymark.marks" 483) 272) ::
 (nat_lit 277,N6 49 523 183 2 274 .none .none (.ref 276) 526) ::
 (nat_lit 278,N5 49 (.str "staymark.joining" 521) 277) ::
 (nat_lit 284,N6 51 531 188 2 279 (.ref 281) (.ref 282) (.ref 283) 536) ::
 (nat_lit 285,N5 51 (.str "law_staymark_k43_whole_undone" 529) 284) ::
 (nat_lit 291,N6 52 539 192 3 286 (.ref 288) (.ref 289) (.ref 290) 546) ::
 (nat_lit 292,N5 52 (.str "law_staymark_k43_whole_undone" 529) 291) ::
 (nat_lit 298,N6 53 549 196 2 293 (.ref 295) (.ref 296) (.ref 297) 557) ::
 (nat_lit 299,N5 53 (.str "law_staymark_k43_whole_undone" 529) 298) ::
 (nat_lit 303,N6 54 560 202 2 300 .none .none (.ref 302) 563) ::
 (nat_lit 304,N5 54 (.str "law_staymark_k43_whole_undone" 529) 303) ::
 (nat_lit 308,N6 55 566 204 1 305 .none .none (.ref 307) 569) ::
 (nat_lit 309,N5 55 (.str "law_staymark_k43_whole_undone" 529) 308) ::
 (nat_lit 315,N6 56 572 210 3 310 (.ref 312) (.ref 313) (.ref 314) 579) ::
 (nat_lit 316,N5 56 (.str "law_staymark_k43_whole_undone" 529) 315) ::
 (nat_lit 320,N6 57 582 213 5 317 .none .none (.ref 319) 585) ::
 (nat_lit 321,N5 57 (.str "law_staymark_k43_whole_undone" 529) 320) ::
 (nat_lit 325,N6 58 588 228 4 322 .none .none (.ref 324) 591) ::
 (nat_lit 326,N5 58 (.str "law_staymark_k43_whole_undone" 529) 325) ::
 (nat_lit 330,N6 59 594 240 1 327 .none .none (.ref 329) 597) ::
 (nat_lit 331,N5 59 (.str "law_staymark_k43_whole_undone" 529) 330)::[]
noncomputable def owV:xT:={ zX with main:={ zX.main with body:=[top 1,top 2,top 3,top 4,top 5,top 6,top 7,top 8,top 9,top 10,top 11,top 12,top 13,top 14,top 15,top 16,top 17,top 18,top 19,top 20,top 21,top 22,top 23,top 24,top 25,top 27,top 28,top 29,top 31,top 32,top 33,top 34,top 35,top 36,top 37,top 38,top 39,top 40,top 41,top 42,top 44,top 45,top 46,top 47,top 49,top 51,top 52,top 53,top 54,top 55,top 56,top 57,top 58,top 59] } }
set_option maxHeartbeats 0 in
theorem owL:PySem.W.LeftO zX owV [] (fun s=>PySem.W.xlAt owV [] s&&PySem.W.recOk (PySem.W.RowW.records (PySem.W.OpenRow.toRowW (PySem.W.OpenLaw.row PySem.Challenge.rw_staymark_k43_whole_undone))) s) (PySem.W.Hook.obs (PySem.W.kHook ownK [3,20,21,27,28,32,33,39,40,46,47,53,54,60,61,67,68,74,75,81,82,86,87,91,92,98,99,103,104,108,109,113,114,120,121,125,126,130,131,135,136,145,146,158,159,170,171,179,180,184,185,191,192,196,197,203,204,210,211,217,218,222,223,227,228,234,235,241,242,246,247,253,254,260,261,265,266,272,273,277,278,284,285,291,292,298,299,303,304,308,309,315,316,320,321,325,326,330,331] (fun _=>by kernel_rfl))) (PySem.W.Hook.val (PySem.W.kHook ownK [3,20,21,27,28,32,33,39,40,46,47,53,54,60,61,67,68,74,75,81,82,86,87,91,92,98,99,103,104,108,109,113,114,120,121,125,126,130,131,135,136,145,146,158,159,170,171,179,180,184,185,191,192,196,197,203,204,210,211,217,218,222,223,227,228,234,235,241,242,246,247,253,254,260,261,265,266,272,273,277,278,284,285,291,292,298,299,303,304,308,309,315,316,320,321,325,326,330,331] (fun _=>by kernel_rfl))) 9000:=by
 intro w
 kernel_rfl
end Sm
namespace L2
open PySem PySem.Spec PyProof.Rows
abbrev Key:=Sum Int Str
def sD:Key->wM->Bool
 | .inl k,v=>Value.isInt k v
 | .inr x,v=>Value.isStrOf x v
def keyH (w:yC):Key->Int
 | .inl k=>hashInt k
 | .inr x=>hashStr w x
theorem O1:∀ {k:Key} {v:wM},sD k v=true->(∃ i t,k=EN i/\v=Value.int i t)\/(∃ x t,k=EM x/\v=GA x t)
 | .inl i,v,h=>by
   obtain ⟨t,e⟩:=Value.isInt_shape (k:=i) (v:=v) h; exact .inl ⟨i,t,rfl,e⟩
 | .inr x,v,h=>by
   obtain ⟨t,e⟩:=Value.isStrOf_shape (x:=x) (v:=v) h; exact .inr ⟨x,t,rfl,e⟩
theorem vK (a b:Int):decide ((EN a:Key)=EN b)=(a==b):=by
 by_cases e:a=b
 . subst e; simp
 . have h:¬ (EN a:Key)=EN b:=fun q=>e (Sum.inl.inj q)
   rw [decide_eq_false h]; exact (beq_eq_false_iff_ne.mpr e).symm
theorem vG (a b:Str):decide ((EM a:Key)=EM b)=decide (a=b):=by
 by_cases e:a=b
 . subst e; simp
 . have h:¬ (EM a:Key)=EM b:=fun q=>e (Sum.inr.inj q)
   rw [decide_eq_false h,decide_eq_false e]
theorem vJ (a:Int) (b:Str):decide ((EN a:Key)=EM b)=false:=decide_eq_false (fun q=>nomatch q)
theorem vH (a:Str) (b:Int):decide ((EM a:Key)=EN b)=false:=decide_eq_false (fun q=>nomatch q)
def Xp (prog:xT) (w:yC):PySem.KeyKind prog w Key where
 is:=sD
 hash:=keyH w
 inj:=fun v a b ha hb=>by
   rcases O1 ha with ⟨i,t,rfl,rfl⟩ | ⟨x,t,rfl,rfl⟩
   . rcases O1 hb with ⟨j,u,rfl,e⟩ | ⟨y,u,rfl,e⟩
     . injection e with e1 _; rw [e1]
     . exact nomatch e
   . rcases O1 hb with ⟨j,u,rfl,e⟩ | ⟨y,u,rfl,e⟩
     . exact nomatch e
     . injection e with e1 _; rw [e1]
 byValue:=fun k v h=>by
   rcases O1 h with ⟨i,t,rfl,rfl⟩ | ⟨x,t,rfl,rfl⟩ <;> rfl
 pyHash:=fun hv h=>by
   rcases O1 hv with ⟨i,t,rfl,rfl⟩ | ⟨x,t,rfl,rfl⟩
   . exact wpAny_pyHash_int h
   . exact wpAny_pyHash_str h
 eqBool:=fun hu hv h=>by
   rcases O1 hu with ⟨i,t,rfl,rfl⟩ | ⟨x,t,rfl,rfl⟩
   . rcases O1 hv with ⟨j,u,rfl,rfl⟩ | ⟨y,u,rfl,rfl⟩
     . rw [vK] at h; exact wpAny_eqBool_int h
     . rw [vJ] at h; exact SeqAt.EqAt.int_str i t y u _ _ _ _ h
   . rcases O1 hv with ⟨j,u,rfl,rfl⟩ | ⟨y,u,rfl,rfl⟩
     . rw [vH] at h; exact SeqAt.EqAt.str_int x t j u _ _ _ _ h
     . rw [vG] at h; exact wpAny_eqBool_str h
 «strs» := fun k x t v h=>by
   rcases O1 h with ⟨i,u,rfl,e⟩ | ⟨y,u,rfl,e⟩
   . exact nomatch e
   . injection e with e1 _
     subst e1;cases v <;> rfl
end L2
namespace L2
open PySem PySem.Spec PyProof.Rows
inductive V where
 | non | bl (b:Bool) | int (i:Int) | str (x:Str) | byt (b:Array UInt8) | flt (b:UInt64) | ref (a:wX) | ty (n:String)
 deriving DecidableEq
def RelV:V->wM->Prop
 | .non,u=>u=j8
 | .bl b,u=>u=AO b
 | .int i,u=>∃ t,u=Value.int i t
 | .str x,u=>∃ t,u=GA x t
 | .byt b,u=>∃ t,u=Value.bytes b t
 | .flt b,u=>∃ t,u=Value.float b t
 | .ref a,u=>u=zA a
 | .ty n,u=>u=FM n
abbrev Vals:List V->List wM->Prop:=zJ RelV
theorem Vals.length {xs:List V} {us:List wM} (r:Vals xs us):xs.length=us.length:=Paired.length r
theorem Vals.get:∀ {xs:List V} {us:List wM} {i:Nat} {x:V},Vals xs us->xs[i]? = some x->∃ u,us[i]? = some u/\RelV x u
 | _,_,_,_,.nil,e=>by simp at e
 | _,_,0,_,.cons r _,e=>by simp at e; subst e; exact ⟨_,rfl,r⟩
 | _,_,i+1,x,.cons _ t,e=>by
   obtain ⟨u,h1,h2⟩:=Vals.get (i:=i) (x:=x) t (by simpa using e);exact ⟨u,by simpa using h1,h2⟩
theorem Vals.append:∀ {xs ys:List V} {us ws:List wM},Vals xs us->Vals ys ws->Vals (xs++ys) (us++ws)
 | _,_,_,_,.nil,s=>s
 | _,_,_,_,.cons r t,s=>.cons r (Vals.append t s)
theorem Vals.take:∀ {xs:List V} {us:List wM} (n:Nat),Vals xs us->Vals (xs.take n) (us.take n)
 | _,_,0,_=>.nil
 | _,_,_+1,.nil=>.nil
 | _,_,n+1,.cons r t=>.cons r (Vals.take n t)
theorem Vals.drop:∀ {xs:List V} {us:List wM} (n:Nat),Vals xs us->Vals (xs.drop n) (us.drop n)
 | _,_,0,r=>r
 | _,_,_+1,.nil=>.nil
 | _,_,n+1,.cons _ t=>Vals.drop n t
def wH:Option V->Option wM->Prop
 | some v,some u=>RelV v u
 | none,none=>True
 | _,_=>False
def KV {κ:Type}:List (κ×V)->List (κ×wM)->Prop:=zJ fun (p:κ×V) (q:κ×wM)=>p.1=q.1/\RelV p.2 q.2
def kV:Key->V
 | .inl i=>.int i
 | .inr x=>.str x
inductive HO where
 | lst (xs:List V)
 | tup (xs:List V)
 | dK (kvs:List (Key×V)) | dT (kvs:List (List Key×V))
 | dN (kvs:List (wK×V))
 | set (S:Int->Bool) (n:Nat)
 | ins (C dx:wX) (fs:List (Str×V))
 | own (x:wX)
 | xd (fs:List (Str×V))
 | met (f x:wX)
 | rng (lo hi:Int)
 | frz (o:Obj) (u:HO)
 | tbl (ps:Array wM)
 | ext (φ:yW->Prop)
abbrev Hp:=wX->Option HO
def upd (H:Hp) (a:wX) (o:HO):Hp:=fun b=>if b=a then some o else H b
theorem D3 {H:Hp} {a:wX} {o:HO}:upd H a o a=some o:=by unfold upd; rw [if_pos rfl]
theorem C8 {H:Hp} {a b:wX} {o:HO} (h:b≠a):upd H a o b=H b:=by unfold upd; rw [if_neg h]
theorem Wg {H:Hp} {a:wX} {o u:HO}:upd (upd H a o) a u=upd H a u:=by
 funext b; unfold upd; split <;> rfl
theorem Rc {H:Hp} {a b:wX} {o u:HO} (h:H a=some o) (h':H b=some u) (d:o≠u):a≠b:=by
 intro e; subst e; rw [h] at h'; exact d (yF h')
theorem E6 {H:Hp} {a b:wX} {o:HO} (h:H a=some o) (h':H b=none):a≠b:=by
 intro e; subst e; rw [h] at h'; cases h'
mutual
def isK:wK->Bool
 | .int _=>true
 | .str _=>true
 | .tuple xs=>Ig xs
 | .none | .bool _ | .list _ | .dict _=>false
def Ig:List wK->Bool
 | []=>true
 | x::r=>isK x&&Ig r
end
mutual
def aR (w:yC):wK->Int
 | .int i=>hashInt i
 | .str x=>hashStr w x
 | .tuple xs=>reduceHash (EE (Hy w xs))
 | .none | .bool _ | .list _ | .dict _=>0
def Hy (w:yC):List wK->List Int
 | []=>[]
 | x::r=>aR w x::Hy w r
end
def X4 (w:yC):wK->Int
 | .none=>0xFCA86420
 | d=>aR w d
def nkD (d:wK):Bool:=match d with
 | .none=>true
 | .str _=>true
 | .tuple xs=>Ig xs&&decide ((yR xs).depth<=8)
 | _=>false
mutual
def KRep (H:Hp):wK->V->Prop
 | .none,v=>v=.non
 | .int i,v=>v=.int i
 | .str x,v=>v=.str x/\yB x=true/\x.length<=sizeLine
 | .tuple ds,v=>∃ b xs,v=.ref b/\H b=some (.tup xs)/\KRepL H ds xs
 | .bool _,_=>False
 | .list _,_=>False
 | .dict _,_=>False
def KRepL (H:Hp):List wK->List V->Prop
 | [],xs=>xs=[]
 | d::ds,xs=>∃ x r,xs=x::r/\KRep H d x/\KRepL H ds r
end
mutual
theorem KRep.mono {H H':Hp} (ht:∀ b xs,H b=some (.tup xs)->H' b=some (.tup xs)):∀ {d:wK} {v:V},KRep H d v->KRep H' d v
 | .none,_,r=>r
 | .int _,_,r=>r
 | .str _,_,r=>r
 | .tuple _,_,r=>by obtain ⟨b,xs,e,q,l⟩:=r; exact ⟨b,xs,e,ht _ _ q,KRepL.mono ht l⟩
 | .bool _,_,r=>r.elim
 | .list _,_,r=>r.elim
 | .dict _,_,r=>r.elim
theorem KRepL.mono {H H':Hp} (ht:∀ b xs,H b=some (.tup xs)->H' b=some (.tup xs)):∀ {ds:List wK} {xs:List V},KRepL H ds xs->KRepL H' ds xs
 | [],_,r=>r
 | _::_,_,r=>by obtain ⟨x,t,e,q,l⟩:=r; exact ⟨x,t,e,KRep.mono ht q,KRepL.mono ht l⟩
end
def U9 (w:yC) (kvs:List (wK×V)) (xs:List (wM×wM)):List yU:=List.zipWith (fun p q=>⟨X4 w p.1,q.1,q.2⟩) kvs xs
section
variable (P:xT) (w:yC)
def ObjOk (H:Hp) (h:yW) (a:wX):HO->Prop
 | .lst xs=>xs.length<=sizeLine/\∃ (its:List wM) (n:Nat),Vals xs its/\h.get? a=some { cls:=.type "list",data:=.seq its.toArray n }
 | .tup xs=>xs.length<=sizeLine/\∃ its:List wM,Vals xs its/\DU h a its.toArray
 | .dK kvs=>kvs.length<=sizeLine/\(a==l5)=false/\∃ vs,KV kvs vs/\h.DictOf (Xp P w) a vs
 | .dT kvs => kvs.length <= sizeLine /\ (a == l5) = false /\ ∃ xs : List (List Key × wX × wM),
     zJ (fun (p:List Key×V) (q:List Key×wX×wM)=>p.1=q.1/\H q.2.1=some (.tup (p.1.map kV))/\RelV p.2 q.2.2) kvs xs /\
     ∃ o es ep,h.get? a=some o/\o.ExactDict/\o.data=.dict es ep/\es.toList=xs.map (entryOfKey (tupleKind (Xp P w)))/\(xs.map (·.1)).Nodup
 | .dN kvs => kvs.length <= sizeLine /\ (a == l5) = false /\ (kvs.map (·.1)).Nodup /\ (∀ p ∈ kvs, nkD p.1 = true) /\ ∃ xs : List (wM × wM),
     zJ (fun (p:wK×V) (q:wM×wM)=>(∃ v,KRep H p.1 v/\RelV v q.1)/\RelV p.2 q.2) kvs xs/\∃ ep,h.get? a=some { cls:=.type "dict",data:=.dict (U9 w kvs xs).toArray ep }
 | .set S n=>h.SetOf (intKind P w) a S n
 | .ins C dx fs => H dx = some (.own a) /\ fs.length <= 1000 /\ dx ≠ a /\ h.get? a = some (EQ C dx) /\
     ∃ mA,h.Ns1 dx mA/\(∀ f,wH (fs.lookup f) (mA f))/\PySem.Within mA (fs.map (·.1))
 | .own _=>∃ o,h.get? a=some o
 | .xd fs=>∃ mA,h.Ns1 a mA/\∀ f,wH (fs.lookup f) (mA f)
 | .rng lo hi=>∃ t u v,h.get? a=some { cls:=.type "range",data:=.fields #[.int lo t,.int hi u,.int 1 v] }
 | .frz o u=>h.get? a=some o/\ObjOk H h a u
 | .tbl ps=>h.get? a=some { cls:=.none,data:=.fields ps }
 | .met f x=>h.get? a=some (DY (.ref f) (.ref x))
 | .ext φ=>φ h/\(∃ o,h.get? a=some o)/\∀ h1 h2:yW,φ h1->(∀ o,h1.get? a=some o->h2.get? a=some o)->φ h2
def HOk (H:Hp) (h:yW):Prop:=∀ a o,H a=some o->ObjOk P w H h a o
end
section
variable {P:xT} {w:yC} {H H':Hp} {h h':yW} {a:wX} {o:HO}
theorem ObjOk.lt (x:ObjOk P w H h a o):a < h.objs.size:=by
 cases o with
 | lst xs=>obtain ⟨_,_,_,_,e⟩:=x; exact xL e
 | tup xs=>obtain ⟨_,_,_,p⟩:=x; exact p.lt
 | dK kvs=>obtain ⟨_,_,_,_,o,_,_,e,_⟩:=x; exact xL e
 | dT kvs=>obtain ⟨_,_,_,_,o,_,_,e,_⟩:=x; exact xL e
 | dN kvs=>obtain ⟨_,_,_,_,_,_,_,e⟩:=x; exact xL e
 | set S n=>obtain ⟨o,_,_,_,e,_⟩:=x; exact xL e
 | ins C dx fs=>obtain ⟨_,_,_,e,_⟩:=x; exact xL e
 | own y=>obtain ⟨_,e⟩:=x; exact xL e
 | xd fs=>obtain ⟨_,⟨_,_,_,e,_⟩,_⟩:=x; exact xL e
 | rng lo hi=>obtain ⟨_,_,_,e⟩:=x; exact xL e
 | frz ob u=>obtain ⟨e,_⟩:=x; exact xL e
 | tbl ps=>exact xL (show h.get? a=some _ from x)
 | met f y=>exact xL (show h.get? a=some _ from x)
 | ext φ=>obtain ⟨_,⟨_,e⟩,_⟩:=x; exact xL e
theorem Paired.mapP {α β:Type} {F G:α->β->Prop}:∀ {l₁:List α} {l₂:List β},zJ F l₁ l₂->(∀ a b,F a b->G a b)->zJ G l₁ l₂
 | _,_,.nil,_=>.nil
 | _,_,.cons r t,f=>.cons (f _ _ r) (Paired.mapP t f)
theorem ObjOk.stay (x:ObjOk P w H h a o) (k:∀ b u,(b=a\/H b=some (.own a))->h.get? b=some u->h'.get? b=some u)
   (ho:∀ b,H b=some (.own a)->H' b=some (.own a)) (ht:∀ b xs,H b=some (.tup xs)->H' b=some (.tup xs)):ObjOk P w H' h' a o:=by
 induction o with
 | lst xs=>obtain ⟨z,its,n,r,e⟩:=x; exact ⟨z,its,n,r,k _ _ (.inl rfl) e⟩
 | tup xs=>obtain ⟨z,its,r,ob,e,c⟩:=x; exact ⟨z,its,r,ob,k _ _ (.inl rfl) e,c⟩
 | dK kvs=>obtain ⟨z,y,vs,r,ob,es,ep,e,c⟩:=x; exact ⟨z,y,vs,r,ob,es,ep,k _ _ (.inl rfl) e,c⟩
 | dT kvs =>
   obtain ⟨z,y,xs,r,ob,es,ep,e,c⟩:=x; exact ⟨z,y,xs,Paired.mapP r fun p q z=>⟨z.1,ht _ _ z.2.1,z.2.2⟩,ob,es,ep,k _ _ (.inl rfl) e,c⟩
 | dN kvs =>
   obtain ⟨z,y,nd,nk,xs,r,ep,e⟩:=x; exact ⟨z,y,nd,nk,xs,Paired.mapP r fun p q hZ2=>by obtain ⟨⟨v,z1,z2⟩,z3⟩:=hZ2; exact ⟨⟨v,z1.mono ht,z2⟩,z3⟩,ep,k _ _ (.inl rfl) e⟩
 | set S n=>obtain ⟨ob,es,ep,t,e,c⟩:=x; exact ⟨ob,es,ep,t,k _ _ (.inl rfl) e,c⟩
 | ins C dx fs =>
   obtain ⟨d,z,ne,e,mA,⟨od,es,ep,e2,c⟩,r⟩:=x; exact ⟨ho _ d,z,ne,k _ _ (.inl rfl) e,mA,⟨od,es,ep,k _ _ (.inr d) e2,c⟩,r⟩
 | own y=>obtain ⟨ob,e⟩:=x; exact ⟨ob,k _ _ (.inl rfl) e⟩
 | xd fs=>obtain ⟨mA,⟨od,es,ep,e,c⟩,r⟩:=x; exact ⟨mA,⟨od,es,ep,k _ _ (.inl rfl) e,c⟩,r⟩
 | rng lo hi=>obtain ⟨t,u,v,e⟩:=x; exact ⟨t,u,v,k _ _ (.inl rfl) e⟩
 | frz ob u ih=>obtain ⟨e,q⟩:=x; exact ⟨k _ _ (.inl rfl) e,ih q⟩
 | tbl ps =>
   have e:h.get? a=some { cls:=.none,data:=.fields ps }:=x; show h'.get? a=some { cls:=.none,data:=.fields ps };exact k a _ (.inl rfl) e
 | met f y =>
   have e:h.get? a=some (DY (.ref f) (.ref y)):=x; show h'.get? a=some (DY (.ref f) (.ref y));exact k a _ (.inl rfl) e
 | ext φ=>obtain ⟨p,⟨o,e⟩,st⟩:=x; exact ⟨st _ _ p fun o q=>k _ _ (.inl rfl) q,⟨o,k _ _ (.inl rfl) e⟩,st⟩
theorem HOk.lt (x:HOk P w H h) (e:H a=some o):a < h.objs.size:=(x a o e).lt
theorem HOk.fresh (x:HOk P w H h) (e:h.objs.size<=a):H a=none:=by
 cases q:H a with
 | none=>rfl
 | some u=>exact absurd (xZ (x.lt q) e) (n4 _)
theorem HOk.kept (x:HOk P w H h) (k:∀ b u,h.get? b=some u->h'.get? b=some u):HOk P w H h':=fun a o e =>
 (x a o e).stay (fun b u _ q=>k b u q) (fun _ q=>q) fun _ _ q=>q
theorem HOk.laid (x:HOk P w H h) (k:∀ b u,h.get? b=some u->h'.get? b=some u) (hp:h.objs.size<=a) (new:ObjOk P w (upd H a o) h' a o):HOk P w (upd H a o) h':=fun b u e=>by
 have hn:=x.fresh hp;by_cases hb:b=a
 . subst hb; rw [D3] at e; cases e; exact new
 . rw [C8 hb] at e
   exact (x b u e).stay (fun c v _ q=>k c v q) (fun c q=>by rw [C8 (E6 q hn)]; exact q) fun c xs q=>by rw [C8 (E6 q hn)]; exact q
end
def Rd (H:Hp) (a:wX) (u:HO):Prop:=H a=some u\/∃ o,H a=some (.frz o u)
theorem Rd.ok {P:xT} {w:yC} {H:Hp} {h:yW} {a:wX} {u:HO} (r:Rd H a u) (x:HOk P w H h):ObjOk P w H h a u:=by
 rcases r with r | ⟨o,r⟩
 . exact x a u r
 . obtain ⟨_,q⟩:=x a _ r
   exact q
def Mut:Option HO->Prop
 | some (.lst _)=>True
 | some (.dK _)=>True
 | some (.dT _)=>True
 | some (.dN _)=>True
 | some (.set _ _)=>True
 | some (.ins _ _ _)=>True
 | some (.ext _)=>True
 | _=>False
section
variable {P:xT} {w:yC} {H:Hp} {h h':yW} {x e:wX} {o':HO}
theorem HOk.write (ok:HOk P w H h) (mu:Mut (H x)) (he:e=x\/H e=some (.own x)) (k:∀ b u,b≠e->h.get? b=some u->h'.get? b=some u) (heo:∃ u,h'.get? e=some u)
   (new:ObjOk P w (upd H x o') h' x o'):HOk P w (upd H x o') h':=fun b u q=>by
 have nown:∀ c y,H c=some (.own y)->c≠x:=fun c y r z=>by subst z; rw [r] at mu; exact mu
 have ntup:∀ c xs,H c=some (.tup xs)->c≠x:=fun c xs r z=>by subst z; rw [r] at mu; exact mu
 by_cases hb:b=x
 . subst hb; rw [D3] at q; cases q; exact new
 . rw [C8 hb] at q
   by_cases hbe:b=e
   . have q' : H b = some (.own x) := by
       rcases he with z | z
       . exact absurd (hbe.trans z) hb
       . rw [hbe]; exact z
     rw [q] at q'; cases q';obtain ⟨v,hv⟩:=heo; exact ⟨v,by rw [hbe]; exact hv⟩
   . refine (ok b u q).stay (fun c v hc r=>k c v ?_ r) (fun c r=>by rw [C8 (nown c b r)]; exact r) fun c xs r=>by rw [C8 (ntup c xs r)]; exact r
     rcases hc with rfl | hc
     . exact hbe
     . rintro rfl
       rcases he with z | z
       . exact nown c b hc z
       . rw [hc] at z; cases z; exact hb rfl
end
structure Un (fs ex:List wX) (H H':Hp) (h h':yW):Prop where
 keep:∀ b o,h.get? b=some o->H b=none->b∉fs->b∉ex->h'.get? b=some o
 slot:∀ b o,h.get? b=some o->H b=none->b∈fs->b∉ex->∃ sl,h'.get? b=some { o with slots:=sl }
 free:∀ b o,h.get? b=some o->H b=none->b∉ex->H' b=none
 there:∀ b o,h.get? b=some o->b∉ex->∃ o',h'.get? b=some o'
 tups:∀ b xs,H b=some (.tup xs)->H' b=some (.tup xs)
 frzs:∀ b o u,H b=some (.frz o u)->H' b=some (.frz o u)
 tbls:∀ b ps,H b=some (.tbl ps)->∃ more,H' b=some (.tbl (ps++more))
section
variable {fs ex:List wX} {H H1:Hp} {h h1 h':yW} {a x e:wX} {o:HO}
theorem Un.any (u:Un fs ex H H1 h h1) {b:wX} {ob:Obj} (q:h.get? b=some ob) (n:H b=none) (hx:b∉ex):∃ sl,h1.get? b=some { ob with slots:=sl }:=by
 by_cases hb:b∈fs
 . exact u.slot b ob q n hb hx
 . exact ⟨ob.slots,u.keep b ob q n hb hx⟩
theorem Un.kept (k:∀ b u,h.get? b=some u->h'.get? b=some u):Un fs ex H H h h' :=
 ⟨fun b ob q _ _ _=>k b ob q,fun b ob q _ _ _=>⟨ob.slots,k b ob q⟩,fun _ _ _ n _=>n,fun b ob q _=>⟨ob,k b ob q⟩,fun _ _ q=>q,fun _ _ _ q=>q,fun _ ps q=>⟨#[],by rw [q]; simp⟩⟩
theorem Un.refl:Un fs ex H H h h:=Un.kept fun _ _ q=>q
theorem Un.laid (k:∀ b u,h.get? b=some u->h'.get? b=some u) (hp:h.objs.size<=a) (hn:H a=none):Un fs ex H (upd H a o) h h' where
 keep:=fun b u q _ _ _=>k b u q
 slot:=fun b u q _ _ _=>⟨u.slots,k b u q⟩
 free:=fun b u q n _=>by rw [C8 (yE (xZ (xL q) hp))]; exact n
 there:=fun b u q _=>⟨u,k b u q⟩
 tups:=fun b xs q=>by rw [C8 (E6 q hn)]; exact q
 frzs:=fun b u xs q=>by rw [C8 (E6 q hn)]; exact q
 tbls:=fun b ps q=>⟨#[],by rw [C8 (E6 q hn),q]; simp⟩
theorem Un.write (mu:Mut (H x)) (he:e=x\/H e=some (.own x)) (k:∀ b u,b≠e->h.get? b=some u->h'.get? b=some u) (heo:∃ u,h'.get? e=some u):Un fs ex H (upd H x o) h h':=by
 have hx:∀ b,H b=none->b≠x:=fun b n z=>by subst z; rw [n] at mu; exact mu
 have hb:∀ b,H b=none->b≠e:=fun b n z=>by
   subst z; rcases he with r | r
   . exact hx b n r
   . rw [n] at r; cases r
 have hm:∀ b u,H b=some u->¬ Mut (some u)->b≠x:=fun b u q nm z=>by subst z; rw [q] at mu; exact nm mu
 refine ⟨fun b u q n _ _=>k b u (hb b n) q,fun b u q n _ _=>⟨u.slots,k b u (hb b n) q⟩,fun b u q n _=>by rw [C8 (hx b n)]; exact n,fun b u q _=>?_,
   fun b xs q=>by rw [C8 (hm b _ q fun z=>z)]; exact q,fun b u xs q=>by rw [C8 (hm b _ q fun z=>z)]; exact q,fun b ps q=>⟨#[],by rw [C8 (hm b _ q fun z=>z),q]; simp⟩⟩
 by_cases hbe:b=e
 . subst hbe; exact heo
 . exact ⟨u,k b u hbe q⟩
end
def trk (h:yW) (H:Hp):List wX:=(i5 h.objs.size).filter fun a=>(H a).isSome
def Xv (h:yW) (H:Hp):yW:=PySem.W.hideAll h (trk h H)
theorem iP (h:yW) (H:Hp):(Xv h H).objs.size=h.objs.size:=PySem.W.hideAll_size _ _
theorem mO {h:yW} {H:Hp} {b:wX} {o:Obj} (e:h.get? b=some o) (n:H b=none):(Xv h H).get? b=some o :=
 PySem.W.hideAll_get _ e fun hm=>by
   have q:(H b).isSome=true:=(zH.mp hm).2; rw [n] at q; simp at q
theorem pS {h:yW} {H:Hp} {b:wX} {o:Obj} (e:(Xv h H).get? b=some o):h.get? b=some o/\H b=none:=by
 have e':h.get? b=some o:=PySem.W.of_hideAll (trk h H) e;refine ⟨e',?_⟩;cases q:H b with
 | none=>rfl
 | some x =>
   have hm:b∈trk h H:=zH.mpr ⟨a9.mpr (xL e'),by simp [q]⟩;have z:(Xv h H).get? b=none:=PySem.W.hideAll_none (trk h H) hm; rw [z] at e; cases e
def rN (g h:yW) (L:wX):List (wX×Obj):=(i5 h.objs.size).filterMap fun a=>if a=L\/(g.get? a).isSome=true then none else (h.get? a).map fun o=>(a,o)
def L8 (g h:yW) (L d:wX):List (wX×Obj):=(rN g h L).filter fun p=>decide (p.1≠d)
end L2
namespace L2
open PySem PySem.Spec PyProof.Rows
structure Mod (K:wQ) (mg:Str->Option wM) (base:yW):Prop where
 kin:K.In base
 glob:base.Ns zK mg
 blt:∃ mb,base.Ns DJ mb/\∀ x:Str,x ≠ "__name__" -> mb x=o0 x
 nolimit:base.NoLimit
structure Cx where
 prog:xT
 w:yC
 K:wQ
 mg:Str->Option wM
 base:yW
 A:yZ
 N:List Str
 s₀:wO
 H₀:Hp
 env:Env
 outer:List Env
 stack:List Env
 ex:List wX
 fn:Str->Bool
 calm:Bool
 pn:List (wX×Obj)
 xe:wM->wO->Prop
def frs (l:List Env):List wX:=l.filterMap (·.frame)
abbrev Cx.fs (X:Cx):List wX:=frs X.outer
def Vis (sc:Scope) (x:Str):Prop:=sc.names.lookup x=some .local\/sc.names.lookup x=some .cell\/sc.names.lookup x=some .free
def Loc (sc:Scope) (x:Str):Prop:=sc.names.lookup x=some .local\/sc.names.lookup x=some .cell
def Look (env:Env) (h:yW) (m:Str->Option wM) (x:Str) (u:wM):Prop :=
 (env.kindOf x=some .local/\m x=some u)\/((env.kindOf x=some .cell\/env.kindOf x=some .free)/\∃ c,env.cells.lookup x=some c/\h.IsCell c (some u))
structure Cx.Ok (X:Cx):Prop where
 mod:Mod X.K X.mg X.base
 kind:X.env.scope.kind=.function
 glob:X.env.globals=zK
 blt:X.env.builtins=DJ
 above:X.s₀.heap.objs.size<=X.env.locals
 inj:∀ x y c,X.env.cells.lookup x=some c->X.env.cells.lookup y=some c->x=y
 has:∀ x,(X.env.kindOf x=some .cell\/X.env.kindOf x=some .free)->∃ c,X.env.cells.lookup x=some c
 cab:∀ x c,X.fn x=true->X.env.cells.lookup x=some c->X.s₀.heap.objs.size<=c
 hd:X.calm=true->X.A.handled=none
 frames:X.A.frames=some X.stack
 stk:X.stack=X.outer\/(X.stack=X.env::X.outer/\X.env.frame=some X.env.locals)
 exf:∀ b∈X.ex,b≠X.env.locals/\∀ x c,X.env.cells.lookup x=some c->c≠b
 bs:∀ b o,X.base.get? b=some o->X.s₀.heap.get? b=some o/\X.H₀ b=none
 bsz:X.base.objs.size<=X.s₀.heap.objs.size
 noex:∀ b o,X.base.get? b=some o->b∉X.ex
 exfs:∀ b∈X.ex,b∉X.fs
 funs:X.s₀.heap.FunFrames X.base X.outer
 frf:∀ b∈X.fs,X.H₀ b=none
structure Inv (X:Cx) (pins:List (wX×Obj)) (Z:List (Option V)) (H:Hp) (s:wO):Prop where
 ok:X.Ok
 os:s.os=X.s₀.os
 bare:DL s.gens
 base:Un X.fs X.ex X.H₀ H X.s₀.heap s.heap
 loc:∃ m,s.heap.Ns X.env.locals m/\∀ (i:Nat) (x:Str) (v:V),X.N[i]? = some x->Z[i]? = some (some v)->Vis X.env.scope x->∃ u,RelV v u/\Look X.env s.heap m x u
 cell:∀ x c,X.env.cells.lookup x=some c->∃ v,s.heap.IsCell c v
 free:H X.env.locals=none
 freeC:∀ x c,X.env.cells.lookup x=some c->H c=none
 pin:∀ p∈X.pn++pins,s.heap.get? p.1=some p.2/\H p.1=none/\p.1≠X.env.locals/\p.1∉X.fs/\∀ v,p.2.data≠.cell v
 hok:HOk X.prog X.w H s.heap
 len:Z.length=X.N.length
section
variable {X:Cx} {pins:List (wX×Obj)} {Z:List (Option V)} {H H':Hp} {s:wO} {h':yW}
theorem Cx.Ok.nofr (ok:X.Ok) {b:wX} {o:Obj} (e:X.base.get? b=some o):b∉X.fs:=fun hb=>by
 have:=(ok.funs.mem hb).1;rw [e] at this; cases this
theorem Inv.bs (I:Inv X pins Z H s):∀ b o,X.base.get? b=some o->s.heap.get? b=some o/\H b=none:=fun b o e =>
 ⟨I.base.keep b o (I.ok.bs b o e).1 (I.ok.bs b o e).2 (I.ok.nofr e) (I.ok.noex b o e),I.base.free b o (I.ok.bs b o e).1 (I.ok.bs b o e).2 (I.ok.noex b o e)⟩
theorem Inv.bk (I:Inv X pins Z H s):∀ b o,X.base.get? b=some o->s.heap.get? b=some o:=fun b o e=>(I.bs b o e).1
theorem Inv.mod (I:Inv X pins Z H s):Mod X.K X.mg X.base:=I.ok.mod
theorem Inv.kIn (I:Inv X pins Z H s):X.K.In s.heap:=I.ok.mod.kin.keeps I.bk
theorem Inv.fr (I:Inv X pins Z H s):∃ m,Fr X.base X.env.locals s.heap m :=
 let ⟨m,hn,_⟩:=I.loc
 ⟨m,hn,I.bk,xD I.ok.bsz I.ok.above⟩
theorem Inv.lt (I:Inv X pins Z H s):X.env.locals < s.heap.objs.size:=let ⟨_,hn,_⟩:=I.loc; hn.lt
theorem Inv.sz (I:Inv X pins Z H s):X.s₀.heap.objs.size<=s.heap.objs.size:=xD I.ok.above (GS I.lt)
theorem Inv.nofs (I:Inv X pins Z H s) {a:wX} (h:s.heap.objs.size<=a):a∉X.fs:=fun hb=>by
 obtain ⟨_,o,ho,_⟩:=I.ok.funs.mem hb;exact absurd (xZ (xL ho) (xD I.sz h)) (n4 _)
theorem Inv.cne (I:Inv X pins Z H s):∀ x c,X.env.cells.lookup x=some c->c≠X.env.locals:=fun x c e z=>by
 obtain ⟨v,o,ho,hd⟩:=I.cell x c e;obtain ⟨m,⟨o',es,ep,ho',hd',_⟩,_⟩:=I.loc;rw [z,ho'] at ho; cases ho; rw [hd'] at hd; cases hd
theorem Inv.funs (I:Inv X pins Z H s):s.heap.FunFrames X.base X.outer:=by
 have all:∀ (l:List Env),(∀ b∈frs l,b∈X.fs)->X.s₀.heap.FunFrames X.base l->s.heap.FunFrames X.base l:=by
   intro l;induction l with
   | nil=>intro _ _; trivial
   | cons env r ih =>
     intro hs hl; obtain ⟨hk,⟨L,o,hf,hn,ho,hd⟩,hr⟩:=hl; have hL:L∈X.fs:=hs L (by unfold frs; rw [DR,hf]; exact c7);obtain ⟨sl,e⟩:=I.base.slot L o ho (I.ok.frf L hL) hL fun z=>I.ok.exfs L z hL;exact ⟨hk,⟨L,_,hf,hn,e,hd⟩,ih (fun b hb=>hs b (by unfold frs; rw [DR,hf]; exact f8 _ hb)) hr⟩
 exact all X.outer (fun _ hb=>hb) I.ok.funs
theorem Inv.stack (I:Inv X pins Z H s):s.heap.FunFrames X.base X.stack:=by
 rcases I.ok.stk with e | ⟨e,hf⟩
 . rw [e]; exact I.funs
 . rw [e]
   obtain ⟨m,hn,_⟩:=I.loc; refine .cons (by rw [I.ok.kind]; decide) hf hn ?_ I.funs;exact Heap.get?_none_of_le (xD I.ok.bsz I.ok.above)
theorem Inv.stkSub (I:Inv X pins Z H s):∀ b∈frs X.stack,b∈X.env.locals::X.fs:=fun b hb=>by
 rcases I.ok.stk with e | ⟨e,hf⟩
 . rw [e] at hb; exact f8 _ hb
 . rw [e] at hb
   unfold frs at hb; rw [DR,hf] at hb; exact hb
theorem Inv.stkFree (I:Inv X pins Z H s):∀ b∈frs X.stack,H b=none:=fun b hb=>by
 rcases wR.mp (I.stkSub b hb) with e | hb
 . rw [e]; exact I.free
 . obtain ⟨_,o,ho,_⟩:=I.ok.funs.mem hb
   exact I.base.free b o ho (I.ok.frf b hb) fun z=>I.ok.exfs b z hb
theorem Inv.step {g':Array GenState} {t':Nat} {d':Drawn} {ch:List wX} (I:Inv X pins Z H s)
   (hch:∀ b∈ch,(b∈X.ex\/X.s₀.heap.objs.size<=b)/\b≠X.env.locals/\(∀ x c,X.env.cells.lookup x=some c->c≠b)/\∀ p∈X.pn++pins,p.1≠b)
   (keep:∀ b o,b≠X.env.locals->b∉X.fs->b∉ch->s.heap.get? b=some o->H b=none->h'.get? b=some o)
   (slot:∀ b o,b≠X.env.locals->b∈X.fs->b∉ch->s.heap.get? b=some o->H b=none->∃ sl,h'.get? b=some { o with slots:=sl }) (free:∀ b o,b∉ch->s.heap.get? b=some o->H b=none->H' b=none)
   (there:∀ b o,b∉ch->s.heap.get? b=some o->∃ o',h'.get? b=some o')
   (tups:∀ b xs,H b=some (.tup xs)->H' b=some (.tup xs)) (frzs:∀ b o u,H b=some (.frz o u)->H' b=some (.frz o u)) (tbls:∀ b ps,H b=some (.tbl ps)->∃ more,H' b=some (.tbl (ps++more)))
   (ns:∀ m,s.heap.Ns X.env.locals m->h'.Ns X.env.locals m) (hok:HOk X.prog X.w H' h') (hg:DL g') :
   Inv X pins Z H' { s with heap:=h',gens:=g',drawn:=d',toks:=t' }:=by
 have neL:∀ b o,X.s₀.heap.get? b=some o->b≠X.env.locals:=fun b o e=>yE (xZ (xL e) I.ok.above);have neC:∀ b o,X.s₀.heap.get? b=some o->b∉X.ex->b∉ch:=fun b o e hx hb=>by
   rcases (hch b hb).1 with z | z
   . exact hx z
   . exact absurd (xZ (xL e) z) (n4 _)
 have cellK:∀ x c,X.env.cells.lookup x=some c->∀ v,s.heap.IsCell c v->h'.IsCell c v:=fun x c e v hZ4=>by
   obtain ⟨o,ho,hd⟩:=hZ4; have nch:c∉ch:=fun z=>(hch c z).2.2.1 x c e rfl;by_cases hc:c∈X.fs
   . obtain ⟨sl,q⟩:=slot c o (I.cne x c e) hc nch ho (I.freeC x c e)
     exact ⟨_,q,hd⟩
   . exact ⟨o,keep c o (I.cne x c e) hc nch ho (I.freeC x c e),hd⟩
 refine ⟨I.ok,I.os,hg,⟨fun b o e n hb hx=>?_,fun b o e n hb hx=>?_,fun b o e n hx=>?_,fun b o e hx=>?_,fun b xs e=>tups b xs (I.base.tups b xs e),fun b o xs e=>frzs b o xs (I.base.frzs b o xs e),fun b ps e=>?_⟩,?_,fun x c e=>?_,?_,fun x c e=>?_,fun p hp=>?_,hok,I.len⟩
 . exact keep b o (neL b o e) hb (neC b o e hx) (I.base.keep b o e n hb hx) (I.base.free b o e n hx)
 . obtain ⟨sl,e1⟩:=I.base.slot b o e n hb hx
   obtain ⟨sl',e2⟩:=slot b _ (neL b o e) hb (neC b o e hx) e1 (I.base.free b o e n hx); exact ⟨sl',e2⟩
 . obtain ⟨o',e1⟩:=I.base.there b o e hx
   exact free b o' (neC b o e hx) e1 (I.base.free b o e n hx)
 . obtain ⟨o',e1⟩:=I.base.there b o e hx
   exact there b o' (neC b o e hx) e1
 . obtain ⟨m1,e1⟩:=I.base.tbls b ps e
   obtain ⟨m2,e2⟩:=tbls b _ e1; exact ⟨m1++m2,by rw [e2,Array.append_assoc]⟩
 . obtain ⟨m,hn,hl⟩:=I.loc
   refine ⟨m,ns m hn,fun i x v e1 e2 e3=>?_⟩;obtain ⟨u,r,l⟩:=hl i x v e1 e2 e3; refine ⟨u,r,?_⟩; rcases l with l | ⟨k,c,e,z⟩
   . exact .inl l
   . exact .inr ⟨k,c,e,cellK x c e _ z⟩
 . obtain ⟨v,z⟩:=I.cell x c e
   exact ⟨v,cellK x c e v z⟩
 . obtain ⟨m,⟨o,_,_,ho,_⟩,_⟩:=I.loc
   exact free _ o (fun z=>(hch _ z).2.1 rfl) ho I.free
 . obtain ⟨v,o,ho,hd⟩:=I.cell x c e
   exact free c o (fun z=>(hch c z).2.2.1 x c e rfl) ho (I.freeC x c e)
 . obtain ⟨e,n,ne,nf,d⟩:=I.pin p hp
   have nch:p.1∉ch:=fun z=>(hch p.1 z).2.2.2 p hp rfl;exact ⟨keep p.1 p.2 ne nf nch e n,free p.1 p.2 nch e n,ne,nf,d⟩
theorem Inv.un {t':Nat} (I:Inv X pins Z H s) (u:Un X.fs [] H H' s.heap h') (hok:HOk X.prog X.w H' h'):Inv X pins Z H' { s with heap:=h',toks:=t' }:=by
 obtain ⟨m,⟨o,es,ep,ho,r⟩,_⟩:=id I.loc;obtain ⟨sl,hL⟩:=u.any ho I.free (by simp);exact I.step (g':=s.gens) (d':=s.drawn) (ch:=[]) (fun _ z=>nomatch z) (fun b o _ hb _ e n=>u.keep b o e n hb (by simp)) (fun b o _ hb _ e n=>u.slot b o e n hb (by simp)) (fun b o _ e n=>u.free b o e n (by simp)) (fun b o _ e=>u.there b o e (by simp)) u.tups u.frzs u.tbls (fun m' hm=>by
   obtain ⟨o',es',ep',ho',r'⟩:=hm; rw [ho] at ho'; cases ho'; exact ⟨_,es',ep',hL,r'⟩) hok I.bare
theorem Inv.call {g':Array GenState} {t':Nat} {d':Drawn} {ch:List wX} (I:Inv X pins Z H s) (u:Un (frs X.stack) ch H H' s.heap h') (hok:HOk X.prog X.w H' h') (hg:DL g')
   (hch:∀ b∈ch,(b∈X.ex\/X.s₀.heap.objs.size<=b)/\b≠X.env.locals/\(∀ x c,X.env.cells.lookup x=some c->c≠b)/\∀ p∈X.pn++pins,p.1≠b) :
   Inv X pins Z H' { s with heap:=h',gens:=g',drawn:=d',toks:=t' }:=by
 obtain ⟨m,⟨o,es,ep,ho,r⟩,_⟩:=id I.loc;obtain ⟨sl,hL⟩:=u.any ho I.free fun z=>(hch _ z).2.1 rfl;exact I.step (ch:=ch) hch (fun b o hL hb hc e n=>u.keep b o e n (fun z=>(wR.mp (I.stkSub b z)).elim hL hb) hc) (fun b o _ _ hc e n=>u.any e n hc) (fun b o hc e n=>u.free b o e n hc) (fun b o hc e=>u.there b o e hc) u.tups u.frzs u.tbls (fun m' hm=>by
   obtain ⟨o',es',ep',ho',r'⟩:=hm; rw [ho] at ho'; cases ho'; exact ⟨_,es',ep',hL,r'⟩) hok hg
theorem Inv.turned {t':Nat} {it:wX} (I:Inv X pins Z H s) (k:∀ b o,b≠it->s.heap.get? b=some o->h'.get? b=some o) (hn:H it=none) (hL:it≠X.env.locals)
   (h1:it∈X.ex\/X.s₀.heap.objs.size<=it) (h2:∀ x c,X.env.cells.lookup x=some c->c≠it) (h3:∀ p∈X.pn++pins,p.1≠it):Inv X pins Z H { s with heap:=h',toks:=t' }:=by
 have nit:∀ b u,H b=some u->b≠it:=fun b u e z=>by rw [z,hn] at e; cases e
 refine I.step (g':=s.gens) (d':=s.drawn) (ch:=[it]) (fun b hb=>?_) (fun b o _ _ hc e _=>k b o (fun z=>hc (by simp [z])) e) (fun b o _ _ hc e _=>⟨o.slots,k b o (fun z=>hc (by simp [z])) e⟩) (fun _ _ _ _ n=>n)
   (fun b o hc e=>⟨o,k b o (fun z=>hc (by simp [z])) e⟩) (fun _ _ e=>e) (fun _ _ _ e=>e) (fun b ps e=>⟨#[],by rw [e]; simp⟩) (fun m hm=>?_) (fun b u e=>?_) I.bare
 . have e:b=it:=by simpa using hb
   subst e; exact ⟨h1,hL,h2,h3⟩
 . obtain ⟨o,es,ep,ho,r⟩:=hm
   exact ⟨o,es,ep,k _ o (Ne.symm hL) ho,r⟩
 . refine (I.hok b u e).stay (fun c v hc q=>k c v ?_ q) (fun _ q=>q) fun _ _ q=>q
   rcases hc with z | z
   . rw [z]; exact nit b u e
   . exact nit c _ z
theorem Inv.tok (I:Inv X pins Z H s) (t:Nat):Inv X pins Z H { s with toks:=t }:=I.un (h':=s.heap) (t':=t) Un.refl I.hok
theorem Inv.kept {t':Nat} (I:Inv X pins Z H s) (k:∀ b u,s.heap.get? b=some u->h'.get? b=some u):Inv X pins Z H { s with heap:=h',toks:=t' }:=I.un (Un.kept k) (I.hok.kept k)
theorem Inv.laid {a:wX} {o:HO} {t':Nat} (I:Inv X pins Z H s) (k:∀ b u,s.heap.get? b=some u->h'.get? b=some u) (hp:s.heap.objs.size<=a) (new:ObjOk X.prog X.w (upd H a o) h' a o) :
   Inv X pins Z (upd H a o) { s with heap:=h',toks:=t' }:=I.un (Un.laid k hp (I.hok.fresh hp)) (I.hok.laid k hp new)
theorem Inv.write {x e:wX} {o:HO} {t':Nat} (I:Inv X pins Z H s) (mu:Mut (H x)) (he:e=x\/H e=some (.own x)) (k:∀ b u,b≠e->s.heap.get? b=some u->h'.get? b=some u) (heo:∃ u,h'.get? e=some u)
   (new:ObjOk X.prog X.w (upd H x o) h' x o):Inv X pins Z (upd H x o) { s with heap:=h',toks:=t' }:=I.un (Un.write mu he k heo) (I.hok.write mu he k heo new)
theorem Inv.weak {Z':List (Option V)} (I:Inv X pins Z H s) (hl:Z'.length=Z.length) (w:∀ (i:Nat) v,Z'[i]? = some (some v)->Z[i]? = some (some v)):Inv X pins Z' H s :=
 ⟨I.ok,I.os,I.bare,I.base,let ⟨m,hn,hl'⟩:=I.loc; ⟨m,hn,fun i x v e1 e2 e3=>hl' i x v e1 (w i v e2) e3⟩,I.cell,I.free,I.freeC,I.pin,I.hok,hl.trans I.len⟩
theorem Inv.pins_of {pins':List (wX×Obj)} (I:Inv X pins Z H s) (h:∀ p∈pins',s.heap.get? p.1=some p.2/\H p.1=none/\p.1≠X.env.locals/\p.1∉X.fs/\∀ v,p.2.data≠.cell v):Inv X pins' Z H s :=
 ⟨I.ok,I.os,I.bare,I.base,I.loc,I.cell,I.free,I.freeC,fun p hp=>(xC.mp hp).elim (fun z=>I.pin p (yT _ z)) (h p),I.hok,I.len⟩
theorem aE {N:List Str} (hN:N.Nodup) {i j:Nat} {x:Str} (a:N[i]? = some x) (b:N[j]? = some x):i=j:=by
 obtain ⟨h1,e1⟩:=xQ.mp a;obtain ⟨h2,e2⟩:=xQ.mp b;exact (List.getElem_inj hN).mp (e1.trans e2.symm)
theorem Up {M:Model} {A:yZ} {E:wM->wO->Prop} {i:Nat} {x:Str} {v:V} {u:wM} {Q:Unit->wO->Prop} (I:Inv X pins Z H s) (hN:X.N.Nodup) (hi:X.N[i]? = some x) (hx:Loc X.env.scope x) (r:RelV v u)
   (h:∀ s',Inv X pins (Z.set i (some v)) H s'->(∃ a,CG a s.heap s'.heap/\(a=X.env.locals\/X.env.cells.lookup x=some a))->Q () s') (hf:X.fn x=true\/X.env.scope.names.lookup x=some .local:=by first | exact .inl rfl | exact .inr rfl | assumption):wpAny M A (storeName X.env x u) Q E s:=by
 obtain ⟨m,hn,hl⟩:=id I.loc;have hcls:(X.env.scope.kind==.class||(X.env.scope.kind==.module&&X.env.locals != X.env.globals))=false:=by rw [I.ok.kind]; rfl
 have hiσ:i < Z.length:=by rw [I.len]; exact (xQ.mp hi).1
 have cne:=I.cne;have tracked:∀ {a:wX} {h':yW},(∃ o,s.heap.get? a=some o/\H a=none)->CG a s.heap h'->HOk X.prog X.w H h':=fun {a h'} ha hs b ob e=>by
   obtain ⟨_,_,hfree⟩:=ha; refine (I.hok b ob e).stay (fun c w' hc q=>(hs.2 c ?_).trans q) (fun _ q=>q) fun _ _ q=>q;rintro rfl;rcases hc with rfl | hc
   . rw [hfree] at e; cases e
   . rw [hfree] at hc; cases hc
 rcases hx with hk | hk
 . refine wpAny_storeName_local hk hn (fun h' hn' hs=>?_) hcls
   obtain ⟨oL,_,_,hoL,_⟩:=id hn; refine h _ ⟨I.ok,I.os,I.bare,⟨fun b o e n hb hx=>?_,fun b o e n hb hx=>?_,I.base.free,fun b o e hx=>?_,I.base.tups,I.base.frzs,I.base.tbls⟩,⟨_,hn',fun j y v' e1 e2 e3=>?_⟩,fun y c e=>?_,I.free,I.freeC,fun p hp=>?_,tracked ⟨oL,hoL,I.free⟩ hs,by simpa using I.len⟩ ⟨_,hs,.inl rfl⟩
   . exact (hs.2 b (yE (xZ (xL e) I.ok.above))).trans (I.base.keep b o e n hb hx)
   . obtain ⟨sl,e1⟩:=I.base.slot b o e n hb hx
     exact ⟨sl,(hs.2 b (yE (xZ (xL e) I.ok.above))).trans e1⟩
   . obtain ⟨o',e1⟩:=I.base.there b o e hx
     exact ⟨o',(hs.2 b (yE (xZ (xL e) I.ok.above))).trans e1⟩
   . by_cases hj:j=i
     . subst hj
       rw [hi] at e1; cases e1;rw [GI hiσ] at e2; cases e2; exact ⟨u,r,.inl ⟨hk,by simp⟩⟩
     . rw [AY (Ne.symm hj)] at e2
       obtain ⟨u',r',q⟩:=hl j y v' e1 e2 e3; refine ⟨u',r',?_⟩; rcases q with ⟨k,e⟩ | ⟨k,c,e,z⟩
       . refine .inl ⟨k,?_⟩
         have:y≠x:=fun e=>hj (aE hN e1 (e▸hi));simp [this,e]
       . exact .inr ⟨k,c,e,z.sameBut hs (cne y c e)⟩
   . obtain ⟨w',z⟩:=I.cell y c e
     exact ⟨w',z.sameBut hs (cne y c e)⟩
   . obtain ⟨e,n,ne,nf,d⟩:=I.pin p hp
     exact ⟨(hs.2 p.1 ne).trans e,n,ne,nf,d⟩
 . have hfn : X.fn x = true := by
     rcases hf with z | z
     . exact z
     . rw [z] at hk; cases hk
   obtain ⟨c,hc⟩:=I.ok.has x (.inl hk); obtain ⟨w',z⟩:=I.cell x c hc; refine wpAny_storeName_cell I.ok.kind hk hc z (fun h' hc' hs=>?_);obtain ⟨oc,hoc,hocd⟩:=id z; refine h { s with heap:=h' } ⟨I.ok,I.os,I.bare,⟨fun b o e n hb hx=>?_,fun b o e n hb hx=>?_,I.base.free,fun b o e hx=>?_,I.base.tups,I.base.frzs,I.base.tbls⟩,⟨m,hn.sameBut hs (Ne.symm (cne x c hc)),fun j y v' e1 e2 e3=>?_⟩,fun y c' e=>?_,I.free,I.freeC,fun p hp=>?_,tracked ⟨oc,hoc,I.freeC x c hc⟩ hs,by simpa using I.len⟩ ⟨c,hs,.inr hc⟩
   . exact (hs.2 b (yE (xZ (xL e) (I.ok.cab x c hfn hc)))).trans (I.base.keep b o e n hb hx)
   . obtain ⟨sl,e1⟩:=I.base.slot b o e n hb hx
     exact ⟨sl,(hs.2 b (yE (xZ (xL e) (I.ok.cab x c hfn hc)))).trans e1⟩
   . obtain ⟨o',e1⟩:=I.base.there b o e hx
     exact ⟨o',(hs.2 b (yE (xZ (xL e) (I.ok.cab x c hfn hc)))).trans e1⟩
   . by_cases hj:j=i
     . subst hj
       rw [hi] at e1; cases e1;rw [GI hiσ] at e2; cases e2; exact ⟨u,r,.inr ⟨.inl hk,c,hc,hc'⟩⟩
     . rw [AY (Ne.symm hj)] at e2
       obtain ⟨u',r',q⟩:=hl j y v' e1 e2 e3; refine ⟨u',r',?_⟩; rcases q with q | ⟨k,c',e,z'⟩
       . exact .inl q
       . refine .inr ⟨k,c',e,z'.sameBut hs ?_⟩
         rintro rfl;exact hj (aE hN e1 (I.ok.inj _ _ _ e hc▸hi))
   . by_cases hcc:c'=c
     . subst hcc; exact ⟨_,hc'⟩
     . obtain ⟨w2,z2⟩:=I.cell y c' e
       exact ⟨w2,z2.sameBut hs hcc⟩
   . obtain ⟨e,n,ne,nf,d⟩:=I.pin p hp
     refine ⟨(hs.2 p.1 ?_).trans e,n,ne,nf,d⟩; intro q; rw [q,hoc] at e; have q':oc=p.2:=yF e; exact d w' (by rw [<- q']; exact hocd)
theorem Zd {M:Model} {A:yZ} {E:wM->wO->Prop} {i:Nat} {x:Str} {v:V} {u:wM} {Q:Unit->wO->Prop} (I:Inv X pins Z H s) (hN:X.N.Nodup) (hi:X.N[i]? = some x) (hx:Loc X.env.scope x) (r:RelV v u)
   (h:∀ s',Inv X pins (Z.set i (some v)) H s'->Q () s') (hf:X.fn x=true\/X.env.scope.names.lookup x=some .local:=by first | exact .inl rfl | exact .inr rfl | assumption):wpAny M A (storeName X.env x u) Q E s :=
 Up I hN hi hx r (fun s' I' _=>h s' I') hf
theorem Inv.call' {s':wO} {ch:List wX} (I:Inv X pins Z H s) (ho:s'.os=s.os) (u:Un (frs X.stack) ch H H' s.heap s'.heap) (hok:HOk X.prog X.w H' s'.heap) (hg:DL s'.gens)
   (hch:∀ b∈ch,(b∈X.ex\/X.s₀.heap.objs.size<=b)/\b≠X.env.locals/\(∀ x c,X.env.cells.lookup x=some c->c≠b)/\∀ p∈X.pn++pins,p.1≠b):Inv X pins Z H' s':=by
 obtain ⟨h',g',d',t',o'⟩:=s';have e:o'=s.os:=ho;subst e;exact I.call (g':=g') (t':=t') (d':=d') u hok hg hch
end
abbrev XK:=wM->Option wX->Hp->Prop
abbrev St:=List (Option V)
abbrev VK:=V->Hp->Prop
abbrev TE:=St->Hp->VK->Prop
abbrev TT:=St->Hp->(Bool->Hp->Prop)->Prop
abbrev TA:=St->Hp->(List V->Hp->Prop)->Prop
structure Ends where
 nx:St->Hp->Prop
 rt:VK
 bk:St->Hp->Prop:=fun _ _=>False
 ct:St->Hp->Prop:=fun _ _=>False
abbrev TS:=Ends->St->Hp->Prop
def EP (X:Cx) (pins:List (wX×Obj)) (Z:St) (Q:VK) (u:wM) (s':wO):Prop:=∃ v H',Inv X pins Z H' s'/\RelV v u/\Q v H'
def TP (X:Cx) (pins:List (wX×Obj)) (Z:St) (Q:Bool->Hp->Prop) (b:Bool) (s':wO):Prop:=∃ H',Inv X pins Z H' s'/\Q b H'
def AP (X:Cx) (pins:List (wX×Obj)) (Z:St) (Q:List V->Hp->Prop) (us:List wM) (s':wO):Prop:=∃ vs H',Inv X pins Z H' s'/\Vals vs us/\Q vs H'
def SP (X:Cx) (pins:List (wX×Obj)) (D:Ends) (f:Flow) (s':wO):Prop :=
 match f with
 | .next=>∃ Z' H',Inv X pins Z' H' s'/\D.nx Z' H'
 | .brk=>∃ Z' H',Inv X pins Z' H' s'/\D.bk Z' H'
 | .cont=>∃ Z' H',Inv X pins Z' H' s'/\D.ct Z' H'
 | .ret u=>∃ v Z' H',Inv X pins Z' H' s'/\RelV v u/\D.rt v H'
def PE (X:Cx) (e:Expr) (t:TE):Prop :=
 ∀ (pins:List (wX×Obj)) (s:wO) (Z:St) (H:Hp) (Q:VK),Inv X pins Z H s->t Z H Q->wpAny (xU X.prog X.w) X.A (eval e X.env) (EP X pins Z Q) X.xe s
def PT (X:Cx) (e:Expr) (t:TT):Prop :=
 ∀ (pins:List (wX×Obj)) (s:wO) (Z:St) (H:Hp) (Q:Bool->Hp->Prop),Inv X pins Z H s->t Z H Q->wpAny (xU X.prog X.w) X.A (isTrue e X.env (eval e X.env)) (TP X pins Z Q) X.xe s
def PW (X:Cx) (e:Expr) (t:TT):Prop :=
 ∀ (whole:Sem wM) (pins:List (wX×Obj)) (s:wO) (Z:St) (H:Hp) (Q:Bool->Hp->Prop),Inv X pins Z H s->t Z H Q->wpAny (xU X.prog X.w) X.A (isTrue e X.env whole) (TP X pins Z Q) X.xe s
theorem PW.pt {X:Cx} {e:Expr} {t:TT} (h:PW X e t):PT X e t:=h _
def PA (X:Cx) (es:List Expr) (t:TA):Prop :=
 ∀ (pos:Pos) (pins:List (wX×Obj)) (s:wO) (Z:St) (H:Hp) (Q:List V->Hp->Prop),Inv X pins Z H s->t Z H Q->wpAny (xU X.prog X.w) X.A (spliced (zP pos (wY es X.env))) (AP X pins Z Q) X.xe s
def PS (X:Cx) (st:n0) (t:TS):Prop :=
 ∀ (pins:List (wX×Obj)) (s:wO) (Z:St) (H:Hp) (D:Ends),Inv X pins Z H s->t D Z H->wpAny (xU X.prog X.w) X.A (exec st X.env) (SP X pins D) X.xe s
def PSs (X:Cx) (st:List n0) (t:TS):Prop :=
 ∀ (pins:List (wX×Obj)) (s:wO) (Z:St) (H:Hp) (D:Ends),Inv X pins Z H s->t D Z H->wpAny (xU X.prog X.w) X.A (execs st X.env) (SP X pins D) X.xe s
theorem thn {α:Type} {t:Sem α} {Q Q':α->wO->Prop} {M:Model} {A:yZ} {E:wM->wO->Prop} {s:wO} (h:wpAny M A t Q E s) (hQ:∀ a s,Q a s->Q' a s):wpAny M A t Q' E s:=zU h hQ fun _ _ x=>x
end L2
namespace L2
open PySem PySem.Spec PyProof.Rows
section
variable {X:Cx}
def nZ (i:Nat):TE:=fun Z H Q=>∃ v,Z[i]? = some (some v)/\Q v H
def tC (v:V):TE:=fun _ H Q=>Q v H
theorem cR {i:Nat} {x:Str} {pos:Pos} (hN:X.N[i]? = some x) (hv:Vis X.env.scope x) (hd:(x==("__debug__" : Str))=false:=by decide) (hcd:(x==("__classdict__" : Str))=false:=by decide):PE X (.Name x pos) (nZ i):=by
 intro pins s Z H Q I h;obtain ⟨v,e,h⟩:=h;obtain ⟨m,hn,hl⟩:=I.loc;obtain ⟨u,r,l⟩:=hl i x v hN e hv;have fin:EP X pins Z Q u s:=⟨v,H,I,r,h⟩;rcases l with ⟨hk,hm⟩ | ⟨hk,c,hc,hcell⟩
 . exact wpAny_Name (wpAny_loadName_local I.ok.kind hk hn hm fin) hd
 . rcases hk with hk | hk
   . exact wpAny_Name (wpAny_loadName_cell I.ok.kind hk hc hcell fin) hd
   . exact wpAny_Name (wpAny_loadName_free I.ok.kind hk hc hcell fin hcd) hd
theorem uD {i j pos}:PE X (.Constant (.int i) j pos) (tC (.int i)):=fun _ _ _ H _ I h=>wpAny_Constant_int ⟨.int i,H,I.tok _,⟨_,rfl⟩,h⟩
theorem pe_bl {b j pos}:PE X (.Constant (.bool b) j pos) (tC (.bl b)):=fun _ _ _ H _ I h=>Constant_bool ⟨.bl b,H,I,rfl,h⟩
theorem uB {j pos}:PE X (.Constant .none j pos) (tC .non):=fun _ _ _ H _ I h=>Constant_none ⟨.non,H,I,rfl,h⟩
theorem lC {x j pos}:PE X (.Constant (.str x) j pos) (tC (.str x)):=fun _ _ _ H _ I h=>Calls.Constant_str ⟨.str x,H,I.tok _,⟨_,rfl⟩,h⟩
def Gl (X:Cx) (x:Str):Prop:=X.env.kindOf x=some .globalImplicit
theorem fE {E:wM->wO->Prop} {pins:List (wX×Obj)} {s:wO} {Z:St} {H:Hp} {x:Str} {u:wM} {pos:Pos} {Q:wM->wO->Prop} (I:Inv X pins Z H s) (hg:Gl X x) (hm:X.mg x=some u) (h:Q u s)
   (hd:(x==("__debug__" : Str))=false:=by decide):wpAny (xU X.prog X.w) X.A (eval (.Name x pos) X.env) Q E s :=
 FP I.ok.kind hg (Calls.loadGlobal_global (by rw [I.ok.glob]; exact I.mod.glob.keeps I.bk) hm h) hd
theorem Mg {E:wM->wO->Prop} {pins:List (wX×Obj)} {s:wO} {Z:St} {H:Hp} {x:Str} {u:wM} {pos:Pos} {Q:wM->wO->Prop} (I:Inv X pins Z H s) (hg:Gl X x) (hm:X.mg x=none) (hv:o0 x=some u) (h:Q u s)
   (hn:x ≠ "__name__" := by decide) (hd:(x==("__debug__" : Str))=false:=by decide):wpAny (xU X.prog X.w) X.A (eval (.Name x pos) X.env) Q E s:=by
 obtain ⟨mb,h1,h2⟩:=I.mod.blt;exact FP I.ok.kind hg (Calls.loadGlobal_builtin (by rw [I.ok.glob]; exact I.mod.glob.keeps I.bk) hm (by rw [I.ok.blt]; exact h1.keeps I.bk) ((h2 x hn).trans hv) h) hd
theorem eR {x:Str} {v:V} {u:wM} {pos:Pos} (hg:Gl X x) (hm:X.mg x=some u) (r:RelV v u) (hd:(x==("__debug__" : Str))=false:=by decide):PE X (.Name x pos) (tC v) :=
 fun _ _ _ H _ I h=>fE I hg hm ⟨v,H,I,r,h⟩ hd
theorem pI {x:Str} {v:V} {u:wM} {pos:Pos} (hg:Gl X x) (hm:X.mg x=none) (hv:o0 x=some u) (r:RelV v u) (hn:x ≠ "__name__" := by decide) (hd:(x==("__debug__" : Str))=false:=by decide):PE X (.Name x pos) (tC v) :=
 fun _ _ _ H _ I h=>Mg I hg hm hv ⟨v,H,I,r,h⟩ hn hd
variable {a b:Expr} {ta tb:TE} {pos:Pos}
def PC (X:Cx) (op:j7) (a b:Expr) (t:TE):Prop :=
 ∀ (pins:List (wX×Obj)) (s:wO) (Z:St) (H:Hp) (Q:VK),Inv X pins Z H s->t Z H Q ->
   wpAny (xU X.prog X.w) X.A (eval a X.env) (fun v s₁=>wpAny (xU X.prog X.w) X.A (eval b X.env) (fun u s₂=>wpAny (xU X.prog X.w) X.A (zE op v u) (EP X pins Z Q) X.xe s₂) X.xe s₁) X.xe s
theorem aF (b:Expr) {op:j7} (h:op≠.In) (h2:op≠.NotIn):behindInMarks op b=false:=by
 have e1:(op==CmpOp.In)=false:=by cases op <;> first | rfl | exact absurd rfl h
 have e2:(op==CmpOp.NotIn)=false:=by cases op <;> first | rfl | exact absurd rfl h2
 cases b <;> simp [behindInMarks,e1,e2]
def tIsN (ta:TE):TE:=fun Z H Q=>ta Z H fun x H1=>Q (.bl (decide (x=.non))) H1
def tNotN (ta:TE):TE:=fun Z H Q=>ta Z H fun x H1=>Q (.bl (!decide (x=.non))) H1
theorem RelV.none_iff {x:V} {v:wM} (r:RelV x v):(v==j8)=decide (x=.non):=by
 cases x with
 | non=>cases r; rfl
 | bl _=>cases r; rfl
 | int _=>obtain ⟨t,rfl⟩:=r; rfl
 | str _=>obtain ⟨t,rfl⟩:=r; rfl
 | byt _=>obtain ⟨t,rfl⟩:=r; rfl
 | flt _=>obtain ⟨t,rfl⟩:=r; rfl
 | ref _=>cases r; rfl
 | ty _=>cases r; rfl
theorem uH {j pos'} (ha:PE X a ta):PC X .Is a (.Constant .none j pos') (tIsN ta):=by
 intro pins s Z H Q I h;refine thn (ha pins s Z H _ I h) fun v s1 hZ2=>?_;obtain ⟨x,H1,I1,r1,q1⟩:=hZ2;exact Constant_none (is_none_gen ⟨.bl _,H1,I1,by rw [r1.none_iff]; rfl,q1⟩)
theorem pJ {j pos'} (ha:PE X a ta):PC X .IsNot a (.Constant .none j pos') (tNotN ta):=by
 intro pins s Z H Q I h;refine thn (ha pins s Z H _ I h) fun v s1 hZ2=>?_;obtain ⟨x,H1,I1,r1,q1⟩:=hZ2;exact Constant_none (isnot_none_gen ⟨.bl _,H1,I1,by rw [r1.none_iff]; rfl,q1⟩)
def tB (t:TE):TT:=fun Z H Q=>t Z H fun x H1=>∃ c,x=.bl c/\Q c H1
theorem Xg {op:j7} {t:TE} (h:PC X op a b t) (h1:behindInMarks op b=false:=by first | exact aF _ (by decide) (by decide) | rfl):PE X (.Compare a [op] [b] pos) t:=fun pins s Z H Q I hw=>wpAny_Compare1 (h pins s Z H Q I hw) h1
theorem kU {op:j7} {t:TE} (h:PC X op a b t) (h1:behindInMarks op b=false:=by first | exact aF _ (by decide) (by decide) | rfl):PT X (.Compare a [op] [b] pos) (tB t):=by
 intro pins s Z H Q I hw;refine wpAny_isTrue_Compare1 (thn (h pins s Z H _ I hw) fun v s1 h1=>thn h1 fun u s2 h2=>thn h2 fun c s3 hY1=>?_) h1;obtain ⟨x,H1,I1,r1,q1⟩:=hY1;obtain ⟨d,rfl,q⟩:=q1;cases r1;exact zB ⟨H1,I1,q⟩
variable {tA tB':TT} {L8:List Expr}
def tAnd (t u:TT):TT:=fun Z H Q=>t Z H fun c H1=>if c=true then u Z H1 Q else Q false H1
def tOr (t u:TT):TT:=fun Z H Q=>t Z H fun c H1=>if c=true then Q true H1 else u Z H1 Q
def tNot (t:TT):TT:=fun Z H Q=>t Z H fun c H1=>Q (!c) H1
theorem oW (ha:PT X a tA):PW X (.BoolOp .And [a] pos) tA:=by
 intro wh pins s Z H Q I h;refine isTrue_and (thn (ha pins s Z H Q I h) fun c s1 e=>?_);cases c with
 | true=>exact isTrue_and_nil e
 | false=>exact e
theorem tV (ha:PT X a tA):PW X (.BoolOp .Or [a] pos) tA:=by
 intro wh pins s Z H Q I h;refine isTrue_or (thn (ha pins s Z H Q I h) fun c s1 e=>?_);cases c with
 | false=>exact isTrue_or_nil e
 | true=>exact e
theorem tW (ha:PT X a tA) (hb:PW X (.BoolOp .And (b::L8) pos) tB'):PW X (.BoolOp .And (a::b::L8) pos) (tAnd tA tB'):=by
 intro wh pins s Z H Q I h;refine isTrue_and (thn (ha pins s Z H _ I h) fun c s1 hZ2=>?_);obtain ⟨H1,I1,q1⟩:=hZ2;cases c with
 | true=>exact hb wh pins s1 Z H1 Q I1 q1
 | false=>exact ⟨H1,I1,q1⟩
theorem pw_or (ha:PT X a tA) (hb:PW X (.BoolOp .Or (b::L8) pos) tB'):PW X (.BoolOp .Or (a::b::L8) pos) (tOr tA tB'):=by
 intro wh pins s Z H Q I h;refine isTrue_or (thn (ha pins s Z H _ I h) fun c s1 hZ2=>?_);obtain ⟨H1,I1,q1⟩:=hZ2;cases c with
 | true=>exact ⟨H1,I1,q1⟩
 | false=>exact hb wh pins s1 Z H1 Q I1 q1
theorem tX (ha:PT X a tA):PT X (.UnaryOp .Not a pos) (tNot tA):=by
 intro pins s Z H Q I h;exact isTrue_not (ha pins s Z H (fun c H1=>Q (!c) H1) I h)
def tAndV (ta tb:TE):TE:=fun Z H Q=>ta Z H fun x H1=>∃ c,x=.bl c/\if c=true then tb Z H1 Q else Q (.bl false) H1
def tOrV (ta tb:TE):TE:=fun Z H Q=>ta Z H fun x H1=>∃ c,x=.bl c/\if c=true then Q (.bl true) H1 else tb Z H1 Q
def tNotV (ta:TE):TE:=fun Z H Q=>ta Z H fun x H1=>∃ c,x=.bl c/\Q (.bl (!c)) H1
theorem tZ {op} {t:TE} (h:PE X a t):PE X (.BoolOp op [a] pos) t:=fun pins s Z H Q I hw=>BoolOp_one (h pins s Z H Q I hw)
theorem uF (ha:PE X a ta) (hb:PE X (.BoolOp .And (b::L8) pos) tb):PE X (.BoolOp .And (a::b::L8) pos) (tAndV ta tb):=by
 intro pins s Z H Q I h;refine BoolOp_and (thn (ha pins s Z H _ I h) fun v s1 hZ2=>?_);obtain ⟨x,H1,I1,r1,q1⟩:=hZ2;obtain ⟨c,rfl,q1⟩:=q1;cases r1;refine zB ?_;cases c with
 | true=>exact hb pins s1 Z H1 Q I1 q1
 | false=>exact ⟨.bl false,H1,I1,rfl,q1⟩
theorem pe_or (ha:PE X a ta) (hb:PE X (.BoolOp .Or (b::L8) pos) tb):PE X (.BoolOp .Or (a::b::L8) pos) (tOrV ta tb):=by
 intro pins s Z H Q I h;refine BoolOp_or (thn (ha pins s Z H _ I h) fun v s1 hZ2=>?_);obtain ⟨x,H1,I1,r1,q1⟩:=hZ2;obtain ⟨c,rfl,q1⟩:=q1;cases r1;refine zB ?_;cases c with
 | false=>exact hb pins s1 Z H1 Q I1 q1
 | true=>exact ⟨.bl true,H1,I1,rfl,q1⟩
theorem uA (ha:PE X a ta):PE X (.UnaryOp .Not a pos) (tNotV ta):=by
 intro pins s Z H Q I h;refine UnaryOp_ (thn (ha pins s Z H _ I h) fun v s1 hZ2=>?_);obtain ⟨x,H1,I1,r1,q1⟩:=hZ2;obtain ⟨c,rfl,q1⟩:=q1;cases r1;exact not_of (zB ⟨.bl (!c),H1,I1,rfl,q1⟩)
def tIf (t:TT) (ta tb:TE):TE:=fun Z H Q=>t Z H fun c H1=>if c=true then ta Z H1 Q else tb Z H1 Q
theorem lH {c:Expr} (hc:PT X c tA) (ha:PE X a ta) (hb:PE X b tb):PE X (.IfExp c a b pos) (tIf tA ta tb):=by
 intro pins s Z H Q I h;refine wpAny_IfExp (thn (hc pins s Z H _ I h) fun d s1 hZ2=>?_);obtain ⟨H1,I1,q1⟩:=hZ2;cases d with
 | true=>exact ha pins s1 Z H1 Q I1 q1
 | false=>exact hb pins s1 Z H1 Q I1 q1
end
end L2
namespace L2
open PySem PySem.Spec PyProof.Rows
def SqL (K:wQ) (H:Hp) (a:wX) (xs:List V):Prop :=
 Rd H a (.lst xs) \/
   ∃ (o:Obj) (its:Array wM) (n:Nat),K.lookup a=some o/\o.cls=.type "list" /\ o.dict=none/\o.data=.seq its n/\its.size<=sizeLine/\Vals xs its.toList
def SqT (K:wQ) (H:Hp) (a:wX) (xs:List V):Prop :=
 Rd H a (.tup xs) \/
   ∃ (o:Obj) (its:Array wM) (n:Nat),K.lookup a=some o/\o.cls=.type "tuple" /\ o.data=.seq its n/\its.size<=sizeLine/\Vals xs its.toList
def absV:wM->Option V
 | .none=>some .non
 | .bool b=>some (.bl b)
 | .int i _=>some (.int i)
 | .str x _=>some (.str x)
 | .bytes b _=>some (.byt b)
 | .float b _=>some (.flt b)
 | .ref a=>some (.ref a)
 | .type n=>some (.ty n)
 | _=>none
theorem RelV.abs {x:V} {u:wM} (r:RelV x u):absV u=some x:=by
 cases x with
 | non=>cases r; rfl
 | bl _=>cases r; rfl
 | int _=>obtain ⟨t,rfl⟩:=r; rfl
 | str _=>obtain ⟨t,rfl⟩:=r; rfl
 | byt _=>obtain ⟨t,rfl⟩:=r; rfl
 | flt _=>obtain ⟨t,rfl⟩:=r; rfl
 | ref _=>cases r; rfl
 | ty _=>cases r; rfl
theorem RelV.inj {x y:V} {u:wM} (r:RelV x u) (q:RelV y u):x=y:=yF (r.abs.symm.trans q.abs)
theorem Vals.inj {xs:List V}:∀ {ys:List V} {us:List wM},Vals xs us->Vals ys us->xs=ys:=by
 induction xs with
 | nil=>intro ys us h q; cases h; cases q; rfl
 | cons x xs ih=>intro ys us h q; cases h with | cons r t=>cases q with | cons r' t'=>rw [r.inj r',ih t t']
section
variable {X:Cx} {pins:List (wX×Obj)} {Z:St} {H:Hp} {s:wO} {a:wX} {xs ys:List V}
theorem Inv.list (I:Inv X pins Z H s) (h:SqL X.K H a xs):∃ its:List wM,Vals xs its/\PlainL s.heap a its.toArray/\xs.length<=sizeLine:=by
 rcases h with h | ⟨o,its,n,hk,hc,hd,hs,hz,r⟩
 . obtain ⟨z,its,n,r,e⟩:=h.ok I.hok
   exact ⟨its,r,⟨_,n,e,rfl,rfl,rfl⟩,z⟩
 . refine ⟨its.toList,r,⟨o,n,I.kIn a o hk,hc,hd,by simpa using hs⟩,?_⟩
   have e:=r.length; simp only [z0] at e;lia
theorem Inv.tuple (I:Inv X pins Z H s) (h:SqT X.K H a xs):∃ its:List wM,Vals xs its/\DU s.heap a its.toArray/\xs.length<=sizeLine:=by
 rcases h with h | ⟨o,its,n,hk,hc,hs,hz,r⟩
 . obtain ⟨z,its,r,p⟩:=h.ok I.hok
   exact ⟨its,r,p,z⟩
 . refine ⟨its.toList,r,⟨o,I.kIn a o hk,hc,n,by simpa using hs⟩,?_⟩
   have e:=r.length; simp only [z0] at e;lia
theorem Inv.list_inj (I:Inv X pins Z H s) (h:SqL X.K H a xs) (h':SqL X.K H a ys):xs=ys:=by
 obtain ⟨its,r,⟨o,n,e,_,_,d⟩,_⟩:=I.list h;obtain ⟨its',r',⟨o',n',e',_,_,d'⟩,_⟩:=I.list h';rw [e] at e'; cases e';rw [d] at d';injection d' with d1 _
 have:its=its':=by simpa using congrArg GF d1
 subst this;exact r.inj r'
theorem Inv.tuple_inj (I:Inv X pins Z H s) (h:SqT X.K H a xs) (h':SqT X.K H a ys):xs=ys:=by
 obtain ⟨its,r,⟨o,e,_,n,d⟩,_⟩:=I.tuple h;obtain ⟨its',r',⟨o',e',_,n',d'⟩,_⟩:=I.tuple h';rw [e] at e'; cases e';rw [d] at d';injection d' with d1 _
 have:its=its':=by simpa using congrArg GF d1
 subst this;exact r.inj r'
end
abbrev Cx.wish (X:Cx) (E:wM->wO->Prop):Cx:={ X with xe:=E }
abbrev Cx.nox (X:Cx):Cx:=X.wish fun _ _=>False
theorem Cx.Ok.wish {X:Cx} (ok:X.Ok) (E:wM->wO->Prop):(X.wish E).Ok :=
 ⟨ok.mod,ok.kind,ok.glob,ok.blt,ok.above,ok.inj,ok.has,ok.cab,ok.hd,ok.frames,ok.stk,ok.exf,ok.bs,ok.bsz,ok.noex,ok.exfs,ok.funs,ok.frf⟩
theorem Cx.Ok.unwish {X:Cx} {E:wM->wO->Prop} (ok:(X.wish E).Ok):X.Ok :=
 ⟨ok.mod,ok.kind,ok.glob,ok.blt,ok.above,ok.inj,ok.has,ok.cab,ok.hd,ok.frames,ok.stk,ok.exf,ok.bs,ok.bsz,ok.noex,ok.exfs,ok.funs,ok.frf⟩
section
variable {X:Cx} {pins:List (wX×Obj)} {Z:St} {H:Hp} {s:wO} {E:wM->wO->Prop}
theorem Inv.wish (I:Inv X pins Z H s) (E:wM->wO->Prop):Inv (X.wish E) pins Z H s:=⟨I.ok.wish E,I.os,I.bare,I.base,I.loc,I.cell,I.free,I.freeC,I.pin,I.hok,I.len⟩
theorem Inv.unwish (I:Inv (X.wish E) pins Z H s):Inv X pins Z H s:=⟨I.ok.unwish,I.os,I.bare,I.base,I.loc,I.cell,I.free,I.freeC,I.pin,I.hok,I.len⟩
theorem SP.unwish {D:Ends} {f:Flow} {s':wO} (h:SP (X.wish E) pins D f s'):SP X pins D f s':=by
 cases f with
 | next=>obtain ⟨Z',H',I,q⟩:=h; exact ⟨Z',H',I.unwish,q⟩
 | brk=>obtain ⟨Z',H',I,q⟩:=h; exact ⟨Z',H',I.unwish,q⟩
 | cont=>obtain ⟨Z',H',I,q⟩:=h; exact ⟨Z',H',I.unwish,q⟩
 | ret u=>obtain ⟨v,Z',H',I,r,q⟩:=h; exact ⟨v,Z',H',I.unwish,r,q⟩
theorem PSs.nox {st:List n0} {t:TS} (h:PSs X.nox st t):PSs X st t:=fun pins s Z H D I hw =>
 zU (h pins s Z H D (I.wish _) hw) (fun _ _ q=>q.unwish) fun _ _ z=>x3 z
end
section
variable {X:Cx} {st:n0} {L8:List n0} {t u:TS} {e:Expr} {te:TE} {pos:Pos}
def tNext:TS:=fun D Z H=>D.nx Z H
def tSeq (t u:TS):TS:=fun D Z H=>t { D with nx:=u D } Z H
theorem eN:PSs X [] tNext:=fun _ _ Z H _ I h=>DM ⟨Z,H,I,h⟩
theorem Zx (h1:PS X st t) (h2:PSs X L8 u):PSs X (st::L8) (tSeq t u):=by
 intro pins s Z H D I h;refine wpAny_execs_cons (thn (h1 pins s Z H { D with nx:=u D } I h) fun f s1 q=>?_);cases f with
 | next =>
   obtain ⟨Z',H',I',q⟩:=q; exact h2 pins s1 Z' H' D I' q
 | ret v=>exact q
 | brk=>exact q
 | cont=>exact q
theorem Kn (h1:PS X st t):PSs X [st] t:=by
 intro pins s Z H D I h;refine wpAny_execs_cons (thn (h1 pins s Z H D I h) fun f s1 q=>?_);cases f with
 | next=>exact DM q
 | ret v=>exact q
 | brk=>exact q
 | cont=>exact q
theorem Inv.quiet {pins:List (wX×Obj)} {Z:St} {H:Hp} {s:wO} (I:Inv X pins Z H s):interactive X.env=false:=by simp [interactive,I.ok.kind]
def tDrop (te:TE):TS:=fun D Z H=>te Z H fun _ H1=>D.nx Z H1
theorem Oz (he:PE X e te) (hs:j3 e none pos.line X.env=pure false:=by rfl):PS X (.Expr e pos) (tDrop te):=by
 intro pins s Z H D I h;exact wpAny_Expr_any (thn (he pins s Z H _ I h) fun v s1 hZ2=>by obtain ⟨x,H1,I1,r1,q1⟩:=hZ2; exact ⟨Z,H1,I1,q1⟩) I.quiet hs
def tRet (te:TE):TS:=fun D Z H=>te Z H D.rt
theorem cP (he:PE X e te):PS X (.Return (some e) pos) (tRet te):=by
 intro pins s Z H D I h;exact wpAny_Return_some (thn (he pins s Z H _ I h) fun v s1 hZ2=>by obtain ⟨x,H1,I1,r1,q1⟩:=hZ2; exact ⟨x,Z,H1,I1,r1,q1⟩)
def tIfS (c:TT) (t u:TS):TS:=fun D Z H=>c Z H fun b H1=>if b=true then t D Z H1 else u D Z H1
theorem rW {c:Expr} {a b:List n0} {tc:TT} (hc:PT X c tc) (ha:PSs X a t) (hb:PSs X b u):PS X (.If c a b pos) (tIfS tc t u):=by
 intro pins s Z H D I h;refine wpAny_If (thn (hc pins s Z H _ I h) fun d s1 hZ2=>?_);obtain ⟨H1,I1,q1⟩:=hZ2;cases d with
 | true=>exact ha pins s1 Z H1 D I1 q1
 | false=>exact hb pins s1 Z H1 D I1 q1
end
abbrev TG:=V->St->Hp->(St->Hp->Prop)->Prop
abbrev TGs:=List V->St->Hp->(St->Hp->Prop)->Prop
def PG (X:Cx) (target:Expr) (t:TG):Prop :=
 ∀ (pins:List (wX×Obj)) (s:wO) (Z:St) (H:Hp) (v:V) (u:wM) (Q:St->Hp->Prop),Inv X pins Z H s->RelV v u->t v Z H Q ->
   wpAny (xU X.prog X.w) X.A (assign target X.env u) (fun _ s'=>∃ Z' H',Inv X pins Z' H' s'/\Q Z' H') X.xe s
def PGs (X:Cx) (ts:List Expr) (t:TGs):Prop :=
 ∀ (pins:List (wX×Obj)) (s:wO) (Z:St) (H:Hp) (vs:List V) (us:List wM) (Q:St->Hp->Prop),Inv X pins Z H s->Vals vs us->t vs Z H Q ->
   wpAny (xU X.prog X.w) X.A (assignInOrder ((FA ts X.env).map (·.2)) us) (fun _ s'=>∃ Z' H',Inv X pins Z' H' s'/\Q Z' H') X.xe s
section
variable {X:Cx} {pos:Pos}
def Aw (i:Nat):TG:=fun v Z H Q=>Q (Z.set i (some v)) H
theorem Dk {i:Nat} {x:Str} (hN:X.N.Nodup) (hi:X.N[i]? = some x) (hx:Loc X.env.scope x) (hf:X.fn x=true\/X.env.scope.names.lookup x=some .local:=by first | exact .inl rfl | exact .inr rfl | assumption):PG X (.Name x pos) (Aw i):=by
 intro pins s Z H v u Q I r h;exact wpAny_assign_Name (Zd I hN hi hx r (fun s' I'=>⟨_,H,I',h⟩) hf)
def qK:TGs:=fun vs Z H Q=>vs=[]/\Q Z H
def Rm (t:TG) (u:TGs):TGs:=fun vs Z H Q=>∃ v r,vs=v::r/\t v Z H fun Z' H'=>u r Z' H' Q
theorem eQ:PGs X [] qK:=by
 intro pins s Z H vs us Q I r h;obtain ⟨e,h⟩:=h;subst e;cases r;exact assignInOrder_nil ⟨Z,H,I,h⟩
theorem Kq {e:Expr} {es:List Expr} {t:TG} {u:TGs} (h1:PG X e t) (h2:PGs X es u)
   (hs:(FA (e::es) X.env).map (·.2)=assign e X.env::(FA es X.env).map (·.2):=by rfl):PGs X (e::es) (Rm t u):=by
 intro pins s Z H vs us Q I r h;obtain ⟨v,vr,e1,h⟩:=h;subst e1;cases r with
 | cons r rr =>
   rw [hs]; refine assignInOrder_cons (thn (h1 pins s Z H _ _ _ I r h) fun _ s1 hZ2=>?_);obtain ⟨Z1,H1,I1,q1⟩:=hZ2; exact h2 pins s1 Z1 H1 _ _ Q I1 rr q1
def qJ (K:wQ) (n:Nat) (t:TGs):TG:=fun v Z H Q=>∃ a xs,v=.ref a/\SqT K H a xs/\xs.length=n/\t xs Z H Q
theorem lB {es:List Expr} {k:Nat} {t:TGs} {n:Nat} (hc:X.calm=true) (h:PGs X es t)
   (hn:(FA es X.env).length=n:=by rfl) (hst:(FA es X.env).findIdx? (·.1)=none:=by rfl):PG X (.Tuple es k pos) (qJ X.K n t):=by
 intro pins s Z H v u Q I r hw;obtain ⟨a,xs,e1,hq,hl,hw⟩:=hw;subst e1;cases r;obtain ⟨its,rv,ht,hz⟩:=I.tuple hq;refine assign_Tuple_tuple (I.ok.hd hc) ht (by simp [hn,<- hl,rv.length]) hst fun h' hx=>?_;have I1:Inv X pins Z H { s with heap:=h' }:=I.kept (t':=s.toks) fun b o e=>hx b o (yE (xL e)) e;exact h pins _ Z H xs _ Q I1 (by simpa using rv) hw
def tAsg (te:TE) (g:TG):TS:=fun D Z H=>te Z H fun x H1=>g x Z H1 D.nx
theorem Ly {i:Nat} {x:Str} {e:Expr} {te:TE} {pos':Pos} (hN:X.N.Nodup) (hi:X.N[i]? = some x) (hx:Loc X.env.scope x) (he:PE X e te) (hs:j3 e (some (.Name x pos')) pos.line X.env=pure false:=by rfl) (hf:X.fn x=true\/X.env.scope.names.lookup x=some .local:=by first | exact .inl rfl | exact .inr rfl | assumption) :
   PS X (.Assign [.Name x pos'] e pos) (tAsg te (Aw i)):=by
 intro pins s Z H D I h;refine wpAny_Assign_Name (thn (he pins s Z H _ I h) fun v s1 hY4=>?_) hs;obtain ⟨y,H1,I1,r1,q1⟩:=hY4;exact Zd I1 hN hi hx r1 (fun s2 I2=>⟨_,H1,I2,q1⟩) hf
end
section
variable {X:Cx} {pos:Pos}
def sT (c:TT) (tb:TS):TS:=fun D Z H=>∃ W:Nat->St->Hp->Prop,(∃ m,W m Z H)/\∀ m Z H,W m Z H ->
 c Z H fun b H1=>if b=true then ∃ N:St->Hp->Prop,(∀ Z' H',N Z' H'->∃ m',m' < m/\W m' Z' H')/\tb { D with nx:=N,ct:=N,bk:=D.nx } Z H1 else D.nx Z H1
theorem kX {c:Expr} {body:List n0} {tc:TT} {tb:TS} (hp:PassesOwn (xU X.prog X.w) X.A X.env X.xe) (hc:PT X c tc) (hb:PSs X body tb):PS X (.While c body [] pos) (sT tc tb):=by
 intro pins s Z H D I h;obtain ⟨W,⟨m0,w0⟩,turn⟩:=h;refine wpAny_While (codeAny_whileLoop (fun n s'=>∃ Z' H',Inv X pins Z' H' s'/\W n Z' H') ?_ m0 ⟨Z,H,I,w0⟩);rintro n s1 ⟨Z1,H1,I1,w1⟩;refine w5 hp (thn (hc pins s1 Z1 H1 _ I1 (turn n Z1 H1 w1)) fun b s2 hZ2=>?_);obtain ⟨H2,I2,q2⟩:=hZ2;cases b with
 | true =>
   obtain ⟨N,hN,q2⟩:=q2; rw [if_pos rfl]; refine w5 hp (thn (hb pins s2 Z1 H2 _ I2 q2) fun f s3 q3=>?_);cases f with
   | next =>
     obtain ⟨Z3,H3,I3,n3⟩:=q3; obtain ⟨m',hm,w3⟩:=hN Z3 H3 n3; exact ⟨m',hm,Z3,H3,I3,w3⟩
   | cont =>
     obtain ⟨Z3,H3,I3,n3⟩:=q3; obtain ⟨m',hm,w3⟩:=hN Z3 H3 n3; exact ⟨m',hm,Z3,H3,I3,w3⟩
   | brk=>exact q3
   | ret v=>exact q3
 | false =>
   rw [if_neg c8]; exact DM ⟨Z1,H2,I2,q2⟩
end
structure It where
 go:Nat->Hp->Prop
 yld:Nat->Hp->V->Hp->Prop
 stop:Nat->Hp->Prop
def So (X:Cx) (pins:List (wX×Obj)) (H:Hp) (b:wX):Prop :=
 H b=none/\b≠X.env.locals/\b∉X.fs/\(b∈X.ex\/X.s₀.heap.objs.size<=b)/\(∀ x c,X.env.cells.lookup x=some c->c≠b)/\∀ p∈X.pn++pins,p.1≠b
theorem Inv.fpOk {X:Cx} {pins:List (wX×Obj)} {Z:St} {H H':Hp} {s:wO} {b:wX} (I:Inv X pins Z H s) (hb:s.heap.objs.size<=b) (hn:H' b=none):So X pins H' b:=by
 refine ⟨hn,BH (xZ I.lt hb),I.nofs hb,.inr (xD I.sz hb),fun x c e z=>?_,fun p hp z=>?_⟩
 . obtain ⟨v,q⟩:=I.cell x c e
   exact absurd (xZ q.lt (by rw [z]; exact hb)) (n4 _)
 . exact absurd (xZ (xL (I.pin p hp).1) (by rw [z]; exact hb)) (n4 _)
structure Turn (P:xT) (w:yC) (K:wQ) (tg:Expr) (J:It) (fp:List wX) (it:wX) (tn:Nat->yW->Prop):Prop where
 mem:it∈fp
 obj:∀ i h,tn i h->∀ b∈fp,∃ o,h.get? b=some o/\∀ v,o.data≠.cell v
 keep:∀ i h h',tn i h->(∀ b∈fp,∀ o,h.get? b=some o->h'.get? b=some o)->tn i h'
 item:∀ (X:Cx),X.prog=P->X.w=w->X.K=K->X.calm=true->∀ (i:Nat) (pins:List (wX×Obj)) (s:wO) (Z:St) (H:Hp) (E:wM->wO->Prop),Inv X pins Z H s->(∀ b∈fp,So X pins H b)->tn i s.heap->J.go i H ->
   wpAny (xU P w) X.A (BV (.ref it)) (fun r s1=>∃ u,r=some u /\
     wpAny (xU P w) X.A (DP tg (.ref it) u) (fun _ s2=>∃ x H',Inv X pins Z H' s2/\RelV x u/\J.yld i H x H'/\tn (i+1) s2.heap/\∀ b∈fp,H' b=none) E s1) E s
 done:∀ (X:Cx),X.prog=P->X.w=w->X.K=K->X.calm=true->∀ (i:Nat) (pins:List (wX×Obj)) (s:wO) (Z:St) (H:Hp) (E:wM->wO->Prop),Inv X pins Z H s->(∀ b∈fp,So X pins H b)->tn i s.heap->J.stop i H ->
   wpAny (xU P w) X.A (BV (.ref it)) (fun r s1=>r=none/\Inv X pins Z H s1) E s
 self:∀ (A:yZ) (i:Nat) (s:wO) (Q:wM->wO->Prop) (E:wM->wO->Prop),tn i s.heap->Q (.ref it) s->wpAny (xU P w) A (pyIter (.ref it)) Q E s
abbrev TI:=St->Hp->(It->Hp->Prop)->Prop
def PIE (X:Cx) (pins:List (wX×Obj)) (Z:St) (tg:Expr) (R:It->Hp->Prop) (itv:wM) (s2:wO):Prop :=
 ∃ (it:wX) (fp:List wX) (tn:Nat->yW->Prop) (J:It) (H':Hp),itv=.ref it/\Inv X pins Z H' s2/\Turn X.prog X.w X.K tg J fp it tn/\tn 0 s2.heap/\(∀ b∈fp,So X pins H' b)/\R J H'
def PI (X:Cx) (tg iter:Expr) (wi:TI):Prop :=
 ∀ (pins:List (wX×Obj)) (s:wO) (Z:St) (H:Hp) (R:It->Hp->Prop),Inv X pins Z H s->wi Z H R ->
   wpAny (xU X.prog X.w) X.A (eval iter X.env) (fun v s1=>wpAny (xU X.prog X.w) X.A (pyIter v) (PIE X pins Z tg R) X.xe s1) X.xe s
theorem Vm {M:Model} {A:yZ} {E:wM->wO->Prop} {s:wO} {tg:Expr} {it:wX} {u:wM} {o:Obj} {n:String} {vs:Array wM} {Q:Unit->wO->Prop} (ho:s.heap.get? it=some o) (hc:o.cls=.type n) (hd:o.data=.fields vs)
   (hn:["enumerate", "zip", "dict_itemiterator", "dict_reverseitemiterator", "odict_iterator", "itertools.zip_longest", "itertools.pairwise"].contains n=false) (hQ:Q () s):wpAny M A (DP tg (.ref it) u) Q E s:=by
 unfold DP;cases tg <;> first
   | exact wN hQ
   | (cases u <;> first
       | exact wN hQ
       | (refine wL (wpAny_load ho ?_)
          rw [hc,hd]; show wpAny M A (if (["enumerate", "zip", "dict_itemiterator", "dict_reverseitemiterator", "odict_iterator", "itertools.zip_longest", "itertools.pairwise"].contains n&&vs[0]? == some (t9 _))=true then _ else _) Q E s;rw [if_neg (by intro h; rw [hn,Bool.false_and] at h; cases h)];exact wN hQ))
def Itl (K:wQ) (a:wX):It :=
 ⟨fun i H=>∃ xs x,SqL K H a xs/\xs[i]? = some x,fun i H x H'=>H'=H/\∀ xs,SqL K H a xs->xs[i]? = some x,fun i H=>∃ xs,SqL K H a xs/\xs.length<=i⟩
def Itt (K:wQ) (a:wX):It :=
 ⟨fun i H=>∃ xs x,SqT K H a xs/\xs[i]? = some x,fun i H x H'=>H'=H/\∀ xs,SqT K H a xs->xs[i]? = some x,fun i H=>∃ xs,SqT K H a xs/\xs.length<=i⟩
def Itr (lo:Int) (n:Nat):It:=⟨fun i _=>i < n,fun i H x H'=>H'=H/\x=.int (lo+i),fun i _=>n<=i⟩
theorem gE {P:xT} {w:yC} {K:wQ} {tg:Expr} (a it:wX):Turn P w K tg (Itl K a) [it] it (fun i h=>h.IsListIter it a i) where
 mem:=by simp
 obj:=fun i h st b hb=>by
   have e:b=it:=by simpa using hb
   subst e; obtain ⟨o,e,c,d⟩:=st; exact ⟨o,e,fun v z=>by rw [d] at z; cases z⟩
 keep:=fun i h h' st k=>st.at fun o e=>k it (by simp) o e
 item:=by
   intro X hP hw hK hc i pins s Z H E I hf st hg; subst hP hw hK; obtain ⟨xs,x,hq,hx⟩:=hg; obtain ⟨its,rv,p,hz⟩:=I.list hq; obtain ⟨u,hu,ru⟩:=rv.get hx; obtain ⟨f0,f1,f2,f3,f4,f5⟩:=hf it (by simp);refine wpAny_pyNext_list_item st p.isList (x:=u) (by simpa using hu) fun h' st' sb=>?_;have I1:Inv X pins Z H { s with heap:=h' }:=I.turned (t':=s.toks) (fun b o hb e=>(sb.2 b hb).trans e) f0 f1 f3 f4 f5;obtain ⟨o,e,c,d⟩:=id st'; exact ⟨u,rfl,Vm (s:={ s with heap:=h' }) e c d (by decide) ⟨x,H,I1,ru,⟨rfl,fun ys hy=>by rw [I.list_inj hy hq]; exact hx⟩,st',fun b hb=>(hf b hb).1⟩⟩
 done:=by
   intro X hP hw hK hc i pins s Z H E I hf st hg; subst hP hw hK; obtain ⟨xs,hq,hx⟩:=hg; obtain ⟨its,rv,p,hz⟩:=I.list hq; obtain ⟨f0,f1,f2,f3,f4,f5⟩:=hf it (by simp);have hl:=rv.length; exact wpAny_pyNext_list_end (I.ok.hd hc) st p.isList (by simp; lia) fun h' eb=>⟨rfl,I.turned (t':=s.toks) (fun b o hb e=>eb b o hb e) f0 f1 f3 f4 f5⟩
 self:=fun _ _ _ _ _ st h=>wpAny_pyIter_listiter st h
theorem bU {P:xT} {w:yC} {K:wQ} {tg:Expr} (a it:wX):Turn P w K tg (Itt K a) [it] it (fun i h=>h.IsTupleIter it a i) where
 mem:=by simp
 obj:=fun i h st b hb=>by
   have e:b=it:=by simpa using hb
   subst e; obtain ⟨o,e,c,d⟩:=st; exact ⟨o,e,fun v z=>by rw [d] at z; cases z⟩
 keep:=fun i h h' st k=>st.at fun o e=>k it (by simp) o e
 item:=by
   intro X hP hw hK hc i pins s Z H E I hf st hg; subst hP hw hK; obtain ⟨xs,x,hq,hx⟩:=hg; obtain ⟨its,rv,p,hz⟩:=I.tuple hq; obtain ⟨u,hu,ru⟩:=rv.get hx; obtain ⟨f0,f1,f2,f3,f4,f5⟩:=hf it (by simp);refine wpAny_pyNext_tuple_item st (show s.heap.IsTuple a its.toArray from p) (x:=u) (by simpa using hu) fun h' st' sb=>?_;have I1:Inv X pins Z H { s with heap:=h' }:=I.turned (t':=s.toks) (fun b o hb e=>(sb.2 b hb).trans e) f0 f1 f3 f4 f5;obtain ⟨o,e,c,d⟩:=id st'; exact ⟨u,rfl,Vm (s:={ s with heap:=h' }) e c d (by decide) ⟨x,H,I1,ru,⟨rfl,fun ys hy=>by rw [I.tuple_inj hy hq]; exact hx⟩,st',fun b hb=>(hf b hb).1⟩⟩
 done:=by
   intro X hP hw hK hc i pins s Z H E I hf st hg; subst hP hw hK; obtain ⟨xs,hq,hx⟩:=hg; obtain ⟨its,rv,p,hz⟩:=I.tuple hq; obtain ⟨f0,f1,f2,f3,f4,f5⟩:=hf it (by simp);have hl:=rv.length; exact wpAny_pyNext_tuple_end (I.ok.hd hc) st (show s.heap.IsTuple a its.toArray from p) (by simp; lia) fun h' eb=>⟨rfl,I.turned (t':=s.toks) (fun b o hb e=>eb b o hb e) f0 f1 f3 f4 f5⟩
 self:=fun _ _ _ _ _ st h=>wpAny_pyIter_tupleiter st h
theorem bV {P:xT} {w:yC} {K:wQ} {tg:Expr} (it:wX) (lo:Int) (n:Nat):Turn P w K tg (Itr lo n) [it] it (fun i h=>IsRangeIter h it (lo+(i:Nat)*1) ((n:Int) - (i:Nat)) 1) where
 mem:=by simp
 obj:=fun i h st b hb=>by
   have e:b=it:=by simpa using hb
   subst e; exact ⟨_,st,fun v z=>by
     have z':Data.fields _=Data.cell v:=z;cases z'⟩
 keep:=fun i h h' st k=>k it (by simp) _ st
 item:=by
   intro X hP hw hK hc i pins s Z H E I hf st hg; subst hP hw hK; obtain ⟨f0,f1,f2,f3,f4,f5⟩:=hf it (by simp);have W:=Walks.range (prog:=X.prog) (w:=X.w) (I.ok.hd hc) it lo 1 n; refine W.item i s _ _ hg st fun v h' tk hv st' kk=>?_;obtain ⟨t,rfl⟩:=hv; have I1:Inv X pins Z H { s with heap:=h',toks:=tk }:=I.turned (fun b o hb e=>kk b o (by simpa using hb) e) f0 f1 f3 f4 f5;refine ⟨_,rfl,Vm (s:={ s with heap:=h',toks:=tk }) (n := "range_iterator") st' rfl rfl (by decide) ⟨.int (lo+i),H,I1,⟨t,?_⟩,⟨rfl,rfl⟩,st',fun b hb=>(hf b hb).1⟩⟩;rw [Int.mul_one]
 done:=by
   intro X hP hw hK hc i pins s Z H E I hf st hg; subst hP hw hK; obtain ⟨f0,f1,f2,f3,f4,f5⟩:=hf it (by simp);exact wpAny_pyNext_range_end (I.ok.hd hc) st (by have:n<=i:=hg; lia) fun h' eb=>⟨rfl,I.turned (t':=s.toks) (fun b o hb e=>eb b o hb e) f0 f1 f3 f4 f5⟩
 self:=fun _ _ _ _ _ st h=>wpAny_pyIter_rangeiter st h
end L2
namespace L2
open PySem PySem.Spec PyProof.Rows
section
variable {X:Cx} {tg:Expr}
theorem kQ {pins:List (wX×Obj)} {Z:St} {H:Hp} {s:wO} {R:It->Hp->Prop} {E:wM->wO->Prop} {lo hi:Int} {t u v:Tok} {tk:Nat} (I:Inv X pins Z H s) (h1 : -(2 ^ 62)<=lo) (h2:lo < 2 ^ 62) (h3 : -(2 ^ 62)<=hi) (h4:hi < 2 ^ 62)
   (q:R (Itr lo (hi - lo).toNat) H):wpAny (xU X.prog X.w) X.A (pyIter (.ref s.heap.objs.size)) (PIE X pins Z tg R) E { s with heap:=s.heap.push { cls:=.type "range",data:=.fields #[.int lo t,.int hi u,.int 1 v] },toks:=tk }:=by
 refine wpAny_pyIter_range (IsRange.new ..) (small_one h1 h2 h3 h4) ?_;have I1:Inv X pins Z H { s with heap:=s.heap.push { cls:=.type "range",data:=.fields #[.int lo t,.int hi u,.int 1 v] },toks:=tk }:=I.kept fun b o e=>xG _ e;refine ⟨(s.heap.push { cls:=.type "range",data:=.fields #[.int lo t,.int hi u,.int 1 v] }).objs.size,[(s.heap.push { cls:=.type "range",data:=.fields #[.int lo t,.int hi u,.int 1 v] }).objs.size],_,_,H,rfl,
   I1.kept (t':=tk) fun b o e=>xG _ e,bV _ lo (hi - lo).toNat,?_,fun b hb=>?_,q⟩
 . have e1:lo+((0:Nat):Int)*1=lo:=by simp
   have e2:(((hi - lo).toNat:Nat):Int) - ((0:Nat):Int)=Builtin.Range.rangeSize lo hi 1:=by rw [rangeSize_one]; split <;> lia
   show IsRangeIter _ _ (lo+((0:Nat):Int)*1) ((((hi - lo).toNat:Nat):Int) - ((0:Nat):Int)) 1;rw [e1,e2]; exact xN _ rfl
 . have e:b=(s.heap.push { cls:=.type "range",data:=.fields #[.int lo t,.int hi u,.int 1 v] }).objs.size:=by simpa using hb
   subst e; exact I1.fpOk (xH _) (I1.hok.fresh (xH _))
def iRng1 (ta:TA):TI:=fun Z H R=>ta Z H fun vs H1=>∃ j:Int,vs=[.int j] /\ -(2 ^ 62)<=j/\j < 2 ^ 62/\R (Itr 0 j.toNat) H1
theorem gV {a:Expr} {ta:TA} {p pos:Pos} (hg:Gl X "range") (hm:X.mg "range" = none) (ha:PA X [a] ta) (hs:wY [a] X.env=[(false,eval a X.env)]:=by rfl):PI X tg (.Call (.Name "range" p) [a] [] pos) (iRng1 ta):=by
 intro pins s Z H R I h;refine Call_ (Mg I hg hm boot_range (o7 (thn (ha pos pins s Z H _ I h) fun us s1 hY6=>?_) hs rfl));obtain ⟨vs,H1,I1,r1,q1⟩:=hY6;obtain ⟨j,e,q1,q2,q⟩:=q1;subst e;cases r1 with
 | cons r rr =>
   cases rr; obtain ⟨t,rfl⟩:=r; exact call_range_1 (kQ I1 (by lia) (by lia) q1 q2 (by simpa using q))
def tFor (wi:TI) (g:TG) (tb:TS):TS:=fun D Z H=>wi Z H fun J H1=>∃ W:Nat->Nat->St->Hp->Prop,(∃ m,W 0 m Z H1)/\∀ i m Z H,W i m Z H ->
 (J.stop i H/\D.nx Z H)\/(J.go i H/\∃ N:St->Hp->Prop,(∀ Z' H',N Z' H'->∃ m',m' < m/\W (i+1) m' Z' H')/\∀ x H',J.yld i H x H'->g x Z H' fun Z2 H2=>tb { D with nx:=N,ct:=N,bk:=D.nx } Z2 H2)
def Qv (fp:List wX) (h:yW):List (wX×Obj):=fp.filterMap fun b=>(h.get? b).map fun o=>(b,o)
theorem Jl {fp:List wX} {h:yW} {b:wX} {o:Obj} (hb:b∈fp) (e:h.get? b=some o):(b,o)∈Qv fp h:=AD.mpr ⟨b,hb,by rw [e]; rfl⟩
theorem gY {fp:List wX} {h:yW} {p:wX×Obj} (hp:p∈Qv fp h):p.1∈fp/\h.get? p.1=some p.2:=by
 obtain ⟨b,hb,e⟩:=AD.mp hp;cases q:h.get? b with
 | none=>rw [q] at e; cases e
 | some o =>
   rw [q] at e; have e':(b,o)=p:=yF e; subst e'; exact ⟨hb,q⟩
theorem Inv.pinned {pins:List (wX×Obj)} {Z:St} {H:Hp} {s:wO} {fp:List wX} (I:Inv X pins Z H s) (hf:∀ b∈fp,So X pins H b) (ho:∀ b∈fp,∃ o,s.heap.get? b=some o/\∀ v,o.data≠.cell v):Inv X (pins++Qv fp s.heap) Z H s :=
 I.pins_of fun p hp=>(xC.mp hp).elim (fun z=>I.pin p (zD _ z)) fun z=>by
   obtain ⟨hb,e⟩:=gY z; obtain ⟨f0,f1,f2,_⟩:=hf p.1 hb; obtain ⟨o,e',d⟩:=ho p.1 hb; rw [e] at e'; cases e'; exact ⟨e,f0,f1,f2,d⟩
theorem Inv.unpinned {pins pl:List (wX×Obj)} {Z:St} {H:Hp} {s:wO} (I:Inv X (pins++pl) Z H s):Inv X pins Z H s:=I.pins_of fun p hp=>I.pin p (zD _ (yT _ hp))
theorem kY {iter:Expr} {body:List n0} {wi:TI} {g:TG} {tb:TS} {pos:Pos} (hp:PassesOwn (xU X.prog X.w) X.A X.env X.xe) (hc:X.calm=true) (hi:PI X tg iter wi) (hg:PG X tg g) (hb:PSs X body tb)
   (hs:∀ x,zS iter X.env x=pure x:=by intro _; rfl):PS X (.For tg iter body [] pos) (tFor wi g tb):=by
 intro pins s Z H D I h;refine wpAny_For (thn (hi pins s Z H _ I h) fun v s1 h1=>thn h1 fun itv s2 h2=>?_) hs;obtain ⟨it,fp,tn,J,H2,e,I2,T,st2,f2,W,⟨m0,w0⟩,turn⟩:=h2;subst e;have stat:∀ {H':Hp},(∀ b∈fp,H' b=none)->∀ b∈fp,So X pins H' b:=fun hn b hb=>⟨hn b hb,(f2 b hb).2⟩;refine codeAny_forLoop_any (fun n s'=>∃ i Z' H',Inv X pins Z' H' s'/\tn i s'.heap/\(∀ b∈fp,H' b=none)/\W i n Z' H') ?_ m0 ⟨0,Z,H2,I2,st2,fun b hb=>(f2 b hb).1,w0⟩;rintro n s3 ⟨i,Z3,H3,I3,st3,fr3,w3⟩;rcases turn i n Z3 H3 w3 with ⟨stop,qn⟩ | ⟨go,N,hN,step⟩
 . refine w5 hp (thn (T.done X rfl rfl rfl hc i pins s3 Z3 H3 X.xe I3 (stat fr3) st3 stop) fun r s4 hZ2=>?_)
   obtain ⟨hr,I4⟩:=hZ2; subst hr; exact DM ⟨Z3,H3,I4,qn⟩
 . refine w5 hp (thn (T.item X rfl rfl rfl hc i pins s3 Z3 H3 X.xe I3 (stat fr3) st3 go) fun r s4 hZ2=>?_)
   obtain ⟨u,hr,h4⟩:=hZ2; subst hr; refine w5 hp (thn h4 fun _ s5 hZ2=>?_);obtain ⟨x,H5,I5,r5,y5,st5,fr5⟩:=hZ2; have I5':=I5.pinned (stat fr5) (T.obj _ _ st5); refine w5 hp (thn (hg _ s5 Z3 H5 x u _ I5' r5 (step x H5 y5)) fun _ s6 hZ2=>?_);obtain ⟨Z6,H6,I6,q6⟩:=hZ2; refine w5 hp (thn (hb _ s6 Z6 H6 _ I6 q6) fun f s7 q7=>?_);have again:∀ {Z7:St} {H7:Hp},Inv X (pins++Qv fp s5.heap) Z7 H7 s7->N Z7 H7->∃ m,m < n/\∃ i Z' H',Inv X pins Z' H' s7/\tn i s7.heap/\(∀ b∈fp,H' b=none)/\W i m Z' H':=fun {Z7 H7} I7 n7=>by
     obtain ⟨m',hm,w7⟩:=hN Z7 H7 n7; refine ⟨m',hm,i+1,Z7,H7,I7.unpinned,T.keep _ _ _ st5 fun b hb o e=>(I7.pin (b,o) (zD _ (zD _ (Jl hb e)))).1,fun b hb=>?_,w7⟩;obtain ⟨o,e,d⟩:=T.obj _ _ st5 b hb; exact (I7.pin (b,o) (zD _ (zD _ (Jl hb e)))).2.1
   cases f with
   | next=>obtain ⟨Z7,H7,I7,n7⟩:=q7; exact again I7 n7
   | cont=>obtain ⟨Z7,H7,I7,n7⟩:=q7; exact again I7 n7
   | brk=>obtain ⟨Z7,H7,I7,q7⟩:=q7; exact ⟨Z7,H7,I7.unpinned,q7⟩
   | ret v=>obtain ⟨x7,Z7,H7,I7,r7,q7⟩:=q7; exact ⟨x7,Z7,H7,I7.unpinned,r7,q7⟩
end
end L2
namespace L2
open PySem PySem.Spec PyProof.Rows
abbrev R2:=V->V->Hp->VK->Prop
def OpR (X:Cx) (f:wM->wM->Sem wM) (r:R2):Prop :=
 ∀ (pins:List (wX×Obj)) (s:wO) (Z:St) (H:Hp) (x y:V) (v u:wM) (Q:VK),Inv X pins Z H s->RelV x v->RelV y u->r x y H Q ->
   wpAny (xU X.prog X.w) X.A (f v u) (EP X pins Z Q) X.xe s
def UnR (X:Cx) (f:wM->Sem wM) (r:V->Hp->VK->Prop):Prop :=
 ∀ (pins:List (wX×Obj)) (s:wO) (Z:St) (H:Hp) (x:V) (v:wM) (Q:VK),Inv X pins Z H s->RelV x v->r x H Q ->
   wpAny (xU X.prog X.w) X.A (f v) (EP X pins Z Q) X.xe s
def Y7 (X:Cx) (f:wM) (r:List V->Hp->VK->Prop):Prop :=
 ∀ (pins:List (wX×Obj)) (s:wO) (Z:St) (H:Hp) (xs:List V) (us:List wM) (Q:VK),Inv X pins Z H s->Vals xs us->r xs H Q ->
   wpAny (xU X.prog X.w) X.A (call f us) (EP X pins Z Q) X.xe s
def TruR (X:Cx) (r:V->Hp->(Bool->Hp->Prop)->Prop):Prop :=
 ∀ (pins:List (wX×Obj)) (s:wO) (Z:St) (H:Hp) (x:V) (v:wM) (Q:Bool->Hp->Prop),Inv X pins Z H s->RelV x v->r x H Q ->
   wpAny (xU X.prog X.w) X.A (truthy v) (TP X pins Z Q) X.xe s
def tOp (r:R2) (ta tb:TE):TE:=fun Z H Q=>ta Z H fun x H1=>tb Z H1 fun y H2=>r x y H2 Q
def tUn (r:V->Hp->VK->Prop) (ta:TE):TE:=fun Z H Q=>ta Z H fun x H1=>r x H1 Q
def rI (C:Int->Int->Prop) (g:Int->Int->V):R2:=fun x y H Q=>∃ i j,x=.int i/\y=.int j/\C i j/\Q (g i j) H
def rI0 (g:Int->Int->V):R2:=fun x y H Q=>∃ i j,x=.int i/\y=.int j/\Q (g i j) H
def rU (g:Int->V):V->Hp->VK->Prop:=fun x H Q=>∃ i,x=.int i/\Q (g i) H
section
variable {X:Cx} {a b:Expr} {ta tb:TE} {pos:Pos}
theorem wC (ha:PE X a ta) (hb:PE X b tb) {pins:List (wX×Obj)} {s:wO} {Z:St} {H:Hp} {R:V->V->Hp->Prop} (I:Inv X pins Z H s)
   (h:ta Z H fun x H1=>tb Z H1 fun y H2=>R x y H2) {Q:wM->wO->Prop} {f:wM->wM->Sem wM}
   (hf:∀ v u s2 x y H2,Inv X pins Z H2 s2->RelV x v->RelV y u->R x y H2->wpAny (xU X.prog X.w) X.A (f v u) Q X.xe s2) :
   wpAny (xU X.prog X.w) X.A (eval a X.env) (fun v s₁=>wpAny (xU X.prog X.w) X.A (eval b X.env) (fun u s₂=>wpAny (xU X.prog X.w) X.A (f v u) Q X.xe s₂) X.xe s₁) X.xe s:=by
 refine thn (ha pins s Z H _ I h) fun v s1 hZ2=>?_;obtain ⟨x,H1,I1,r1,q1⟩:=hZ2;refine thn (hb pins s1 Z H1 _ I1 q1) fun u s2 hZ2=>?_;obtain ⟨y,H2,I2,r2,q2⟩:=hZ2;exact hf v u s2 x y H2 I2 r1 r2 q2
theorem pe_op {op:Operator} {r:R2} (ho:OpR X (CU op) r) (ha:PE X a ta) (hb:PE X b tb):PE X (.BinOp a op b pos) (tOp r ta tb):=by
 intro pins s Z H Q I h;exact wpAny_BinOp (wC ha hb I h fun v u s2 x y H2 I2 rx ry q=>ho pins s2 Z H2 x y v u Q I2 rx ry q)
theorem pe_un {op:UnaryOp} {r:V->Hp->VK->Prop} (ho:UnR X (unaryOp op) r) (ha:PE X a ta):PE X (.UnaryOp op a pos) (tUn r ta):=by
 intro pins s Z H Q I h;exact UnaryOp_ (thn (ha pins s Z H _ I h) fun v s1 hZ2=>by obtain ⟨x,H1,I1,r1,q1⟩:=hZ2; exact ho pins s1 Z H1 x v Q I1 r1 q1)
theorem opI {f:wM->wM->Sem wM} {C:Int->Int->Prop} {g:Int->Int->Int}
   (rule:∀ (i j:Int) (t u:Tok) (s:wO) (Q:wM->wO->Prop) (E:wM->wO->Prop),C i j->Q (.int (g i j) s.toks) { s with toks:=s.toks+1 }->wpAny (xU X.prog X.w) X.A (f (.int i t) (.int j u)) Q E s) :
   OpR X f (rI C fun i j=>.int (g i j)):=by
 intro pins s Z H x y v u Q I rx ry h;obtain ⟨i,j,rfl,rfl,hc,q⟩:=h;obtain ⟨t,rfl⟩:=rx;obtain ⟨t',rfl⟩:=ry;exact rule i j t t' s _ _ hc ⟨.int (g i j),H,I.tok _,⟨_,rfl⟩,q⟩
theorem opI0 {f:wM->wM->Sem wM} {g:Int->Int->Int}
   (rule:∀ (i j:Int) (t u:Tok) (s:wO) (Q:wM->wO->Prop) (E:wM->wO->Prop),Q (.int (g i j) s.toks) { s with toks:=s.toks+1 }->wpAny (xU X.prog X.w) X.A (f (.int i t) (.int j u)) Q E s) :
   OpR X f (rI0 fun i j=>.int (g i j)):=by
 intro pins s Z H x y v u Q I rx ry h;obtain ⟨i,j,rfl,rfl,q⟩:=h;obtain ⟨t,rfl⟩:=rx;obtain ⟨t',rfl⟩:=ry;exact rule i j t t' s _ _ ⟨.int (g i j),H,I.tok _,⟨_,rfl⟩,q⟩
def CDiv (i j:Int):Prop:=0 < j/\j < 1073741824
def CMul (i j:Int):Prop:=(-(2 ^ 64) < i/\i < 2 ^ 64)\/(-(2 ^ 64) < j/\j < 2 ^ 64)
theorem CMul.ok {i j:Int} (h:CMul i j):IntMulOk i j:=by
 rcases h with ⟨h1,h2⟩ | ⟨h1,h2⟩
 . exact .of_left (intBits_le_64 h1 h2)
 . exact .of_right (intBits_le_64 h1 h2)
theorem uJ:OpR X (CU .Sub) (rI0 fun i j=>.int (i - j)):=opI0 fun _ _ _ _ _ _ _ q=>sub_int q
theorem pM:OpR X (CU .FloorDiv) (rI CDiv fun i j=>.int (i / j)):=opI fun i j _ _ _ _ _ hc q=>by
 have h1:(0:Int) < j:=hc.1;have h2:j < 1073741824:=hc.2;exact floordiv_int (by lia) (by rw [Int.fdiv_eq_ediv_of_nonneg i (by lia)]; exact q) (.inl (PyProof.noPylong_small (by lia)))
theorem uL:OpR X (CU .Mod) (rI (fun _ j=>0 < j) fun i j=>.int (i % j)):=opI fun i j _ _ _ _ _ hc q=>by
 have h1:(0:Int) < j:=hc;exact mod_int' (by lia) (by rw [Int.fmod_eq_emod_of_nonneg i (by lia)]; exact q)
theorem unI {f:wM->Sem wM} {g:Int->Int}
   (rule:∀ (i:Int) (t:Tok) (s:wO) (Q:wM->wO->Prop) (E:wM->wO->Prop),Q (.int (g i) s.toks) { s with toks:=s.toks+1 }->wpAny (xU X.prog X.w) X.A (f (.int i t)) Q E s) :
   UnR X f (rU fun i=>.int (g i)):=by
 intro pins s Z H x v Q I rx h;obtain ⟨i,rfl,q⟩:=h;obtain ⟨t,rfl⟩:=rx;exact rule i t s _ _ ⟨.int (g i),H,I.tok _,⟨_,rfl⟩,q⟩
theorem sP:UnR X (unaryOp .USub) (rU fun i=>.int (-i)):=unI fun _ _ _ _ _ q=>neg_int q
end
section
variable {X:Cx} {a b c:Expr} {ta tb tc:TE} {pos:Pos}
theorem Hh (b:Expr) {op:j7} (h:op≠.In:=by decide) (h2:op≠.NotIn:=by decide):behindInMarks op b=false:=by
 have e1:(op==CmpOp.In)=false:=by cases op <;> first | rfl | exact absurd rfl h
 have e2:(op==CmpOp.NotIn)=false:=by cases op <;> first | rfl | exact absurd rfl h2
 cases b <;> simp [behindInMarks,e1,e2]
theorem pH {op:j7} {r:R2} (ho:OpR X (zE op) r) (ha:PE X a ta) (hb:PE X b tb) (hm:behindInMarks op b=false):PE X (.Compare a [op] [b] pos) (tOp r ta tb):=by
 intro pins s Z H Q I h;exact wpAny_Compare1 (wC ha hb I h fun v u s2 x y H2 I2 rx ry q=>ho pins s2 Z H2 x y v u Q I2 rx ry q) hm
def rQ (t:TE):TT:=fun Z H Q=>t Z H fun x H'=>∃ k,x=.bl k/\Q k H'
theorem pB {op:j7} {r:R2} (ho:OpR X (zE op) r) (ha:PE X a ta) (hb:PE X b tb) (hm:behindInMarks op b=false):PT X (.Compare a [op] [b] pos) (rQ (tOp r ta tb)):=by
 intro pins s Z H Q I h;refine wpAny_isTrue_Compare1 (thn (ha pins s Z H _ I h) fun v s1 hY8=>?_) hm;obtain ⟨x,H1,I1,r1,q1⟩:=hY8;refine thn (hb pins s1 Z H1 _ I1 q1) fun u s2 hY9=>?_;obtain ⟨y,H2,I2,r2,q2⟩:=hY9;refine thn (ho pins s2 Z H2 x y v u _ I2 r1 r2 q2) fun c s3 hY10=>?_;obtain ⟨z,H3,I3,r3,k,e,q3⟩:=hY10;subst e;cases r3;exact zB ⟨H3,I3,q3⟩
def jS (r r':R2) (ta tb tc:TE):TE:=fun Z H Q=>ta Z H fun x H1=>tb Z H1 fun y H2=>r x y H2 fun z H3=>∃ k,z=.bl k /\
 (if k=true then tc Z H3 fun w' H4=>r' y w' H4 Q else Q (.bl false) H3)
theorem lL {op op':j7} {r r':R2} (ho:OpR X (zE op) r) (ho':OpR X (zE op') r') (ha:PE X a ta) (hb:PE X b tb) (hc:PE X c tc)
   (hm:EJ [op,op'] [b,c]=false:=by with_unfolding_all rfl):PE X (.Compare a [op,op'] [b,c] pos) (jS r r' ta tb tc):=by
 intro pins s Z H Q I h;refine Compare_chain (thn (ha pins s Z H _ I h) fun v s1 hY11=>?_) hm;obtain ⟨x,H1,I1,r1,q1⟩:=hY11;refine chain_link (thn (hb pins s1 Z H1 _ I1 q1) fun u s2 hY12=>?_);obtain ⟨y,H2,I2,r2,q2⟩:=hY12;refine thn (ho pins s2 Z H2 x y v u _ I2 r1 r2 q2) fun d s3 hY13=>?_;obtain ⟨z,H3,I3,r3,k,e,q3⟩:=hY13;subst e;cases r3;refine zB ?_;cases k with
 | false=>exact ite_ff ⟨.bl false,H3,I3,rfl,q3⟩
 | true=>exact ite_tt (chain_last (thn (hc pins s3 Z H3 _ I3 q3) fun w' s4 hZ2=>by obtain ⟨z',H4,I4,r4,q4⟩:=hZ2; exact ho' pins s4 Z H4 y z' u w' Q I4 r2 r4 q4))
theorem kW {op op':j7} {r r':R2} (ho:OpR X (zE op) r) (ho':OpR X (zE op') r') (ha:PE X a ta) (hb:PE X b tb) (hc:PE X c tc)
   (hm:EJ [op,op'] [b,c]=false:=by with_unfolding_all rfl):PT X (.Compare a [op,op'] [b,c] pos) (rQ (jS r r' ta tb tc)):=by
 intro pins s Z H Q I h;refine isTrue_chain (thn (ha pins s Z H _ I h) fun v s1 hY14=>?_) hm;obtain ⟨x,H1,I1,r1,q1⟩:=hY14;refine test_link (thn (hb pins s1 Z H1 _ I1 q1) fun u s2 hY15=>?_);obtain ⟨y,H2,I2,r2,q2⟩:=hY15;refine thn (ho pins s2 Z H2 x y v u _ I2 r1 r2 q2) fun d s3 hY16=>?_;obtain ⟨z,H3,I3,r3,k,e,q3⟩:=hY16;subst e;cases r3;refine zB ?_;cases k with
 | false =>
   obtain ⟨k',e',q'⟩:=q3;cases e'; exact ite_ff ⟨H3,I3,q'⟩
 | true =>
   refine ite_tt (test_last (thn (hc pins s3 Z H3 _ I3 q3) fun w' s4 hY17=>?_));obtain ⟨z',H4,I4,r4,q4⟩:=hY17; refine thn (ho' pins s4 Z H4 y z' u w' _ I4 r2 r4 q4) fun d' s5 hZ2=>?_;obtain ⟨z2,H5,I5,r5,k2,e2,q5⟩:=hZ2; subst e2; cases r5; exact zB ⟨H5,I5,q5⟩
def wG (K:wQ) (x:V) (H:Hp) (k:Bool):Prop :=
 match x with
 | .non=>k=false
 | .bl b=>k=b
 | .int i=>k=(i != 0)
 | .str y=>y.length<=sizeLine/\k=((y.length:Int) != 0)
 | .byt y=>y.size<=sizeLine/\k=((y.size:Int) != 0)
 | .ref p=>(∃ xs,SqL K H p xs/\k = !xs.isEmpty)\/(∃ xs,SqT K H p xs/\k = !xs.isEmpty)\/∃ kvs,H p=some (.dK kvs)/\k = !kvs.isEmpty
 | _=>False
theorem cY {κ:Type} {kvs:List (κ×V)} {vs:List (κ×wM)} (r:KV kvs vs):(!vs.isEmpty) = !kvs.isEmpty:=by
 cases r <;> rfl
theorem Rj {xs:List V} {its:List wM} (r:Vals xs its):(!its.toArray.isEmpty) = !xs.isEmpty:=by
 cases r <;> simp
theorem Hi:(sizeLine:Nat) < 2 ^ 63:=by rw [CD]; decide
theorem sR:TruR X (fun x H Q=>∃ k,wG X.K x H k/\Q k H):=by
 intro pins s Z H x v Q I rx h;obtain ⟨k,e,q⟩:=h;have hl:=Hi;have hs:sizeLine=16777216:=CD;cases x with
 | non =>
   cases rx; have e':k=false:=e; subst e'; exact truthy_none ⟨H,I,q⟩
 | bl b =>
   cases rx; have e':k=b:=e; subst e'; exact zB ⟨H,I,q⟩
 | int i =>
   obtain ⟨t,rfl⟩:=rx; have e':k=(i != 0):=e; subst e'; exact PySem.P.truthy_int ⟨H,I,q⟩
 | str y =>
   obtain ⟨t,rfl⟩:=rx; obtain ⟨hy,e'⟩:y.length<=sizeLine/\k=((y.length:Int) != 0):=e; subst e'; exact PySem.P.truthy_str (by lia) ⟨H,I.tok _,q⟩
 | byt y =>
   obtain ⟨t,rfl⟩:=rx; obtain ⟨hy,e'⟩:y.size<=sizeLine/\k=((y.size:Int) != 0):=e; subst e'; exact PySem.W.truthy_bytes (by lia) ⟨H,I.tok _,q⟩
 | ref p =>
   cases rx; have e':(∃ xs,SqL X.K H p xs/\k = !xs.isEmpty)\/(∃ xs,SqT X.K H p xs/\k = !xs.isEmpty)\/∃ kvs,H p=some (.dK kvs)/\k = !kvs.isEmpty:=e; rcases e' with ⟨xs,hx,e'⟩ | ⟨xs,hx,e'⟩ | ⟨kvs,hx,e'⟩
   . subst e'
     obtain ⟨its,r,pl,hz⟩:=I.list hx; have hlen:=r.length; exact wpAny_truthy_list pl.isList (by simp only [xE]; lia) ⟨H,I.tok _,by rw [Rj r]; exact q⟩
   . subst e'
     obtain ⟨its,r,pl,hz⟩:=I.tuple hx; have hlen:=r.length; exact truthy_tuple pl (by simp only [xE]; lia) ⟨H,I.tok _,by rw [Rj r]; exact q⟩
   . subst e'
     obtain ⟨hz,hS,vs,r,m⟩:kvs.length<=sizeLine/\(p==l5)=false/\∃ vs,KV kvs vs/\s.heap.DictOf (Xp X.prog X.w) p vs:=I.hok p _ hx; have hlen:kvs.length=vs.length:=Paired.length r; exact wpAny_truthy_dict hS m (by lia) ⟨H,I.tok _,by rw [cY r]; exact q⟩
 | _=>exact (show False from e).elim
theorem Zw (ha:PE X a ta) (he:∀ whole,isTrue a X.env whole=(do let v <- whole; standAt a.pos; holding [v] (truthy v))) :
   PT X a (fun Z H Q=>ta Z H fun x H'=>∃ k,wG X.K x H' k/\Q k H'):=by
 intro pins s Z H Q I h;exact isTrue_plain (thn (ha pins s Z H _ I h) fun v s1 hZ2=>by obtain ⟨x,H1,I1,r1,q1⟩:=hZ2; exact sR pins s1 Z H1 x v Q I1 r1 q1) (he _)
theorem Nb {x:V} {us:List wM} (r:Vals [x] us):∃ u,us=[u]/\RelV x u:=by
 cases r with
 | cons r1 r2=>cases r2; exact ⟨_,rfl,r1⟩
theorem rO {x y:V} {us:List wM} (r:Vals [x,y] us):∃ u w',us=[u,w']/\RelV x u/\RelV y w':=by
 cases r with
 | cons r1 r2 =>
   cases r2 with
   | cons r3 r4=>cases r4; exact ⟨_,_,rfl,r1,r3⟩
theorem iZ (hc:X.calm=true):Y7 X (.builtin "max") (fun xs H Q=>∃ i j,xs=[.int i,.int j]/\Q (.int (if j>i then j else i)) H):=by
 intro pins s Z H xs us Q I r h;obtain ⟨i,j,rfl,q⟩:=h;obtain ⟨u,w',rfl,⟨t,rfl⟩,⟨t',rfl⟩⟩:=rO r;refine max_two_ints (I.ok.hd hc) fun h' tk k=>⟨_,H,I.kept k,?_,q⟩;by_cases hj:j>i
 . rw [if_pos hj,if_pos hj]; exact ⟨_,rfl⟩
 . rw [if_neg hj,if_neg hj]; exact ⟨_,rfl⟩
theorem Vt:Y7 X (.type "int") (fun xs H Q=>(∃ i,xs=[.int i]/\Q (.int i) H)\/∃ k,xs=[.bl k]/\Q (.int (if k then 1 else 0)) H):=by
 intro pins s Z H xs us Q I r h;rcases h with ⟨i,rfl,q⟩ | ⟨k,rfl,q⟩
 . obtain ⟨u,rfl,t,rfl⟩:=Nb r
   exact call_int_int ⟨.int i,H,I,⟨_,rfl⟩,q⟩
 . obtain ⟨u,rfl,r1⟩:=Nb r
   cases r1; exact call_int_bool ⟨.int (if k then 1 else 0),H,I.tok _,⟨_,rfl⟩,q⟩
def LenV (K:wQ) (x:V) (H:Hp) (n:Nat):Prop :=
 match x with
 | .str y=>y.length<=sizeLine/\n=y.length
 | .byt y=>y.size<=sizeLine/\n=y.size
 | .ref p=>(∃ xs,SqL K H p xs/\n=xs.length)\/∃ xs,SqT K H p xs/\n=xs.length
 | _=>False
theorem Ry:Y7 X (.builtin "len") (fun xs H Q=>∃ x n,xs=[x]/\LenV X.K x H n/\Q (.int n) H):=by
 intro pins s Z H xs us Q I r h;obtain ⟨x,n,rfl,e,q⟩:=h;obtain ⟨u,rfl,rx⟩:=Nb r;have hl:=Hi;have hs:sizeLine=16777216:=CD;cases x with
 | str y =>
   obtain ⟨t,rfl⟩:=rx; obtain ⟨hy,e'⟩:y.length<=sizeLine/\n=y.length:=e; subst e'; exact len_str (by lia) ⟨.int _,H,I.tok _,⟨_,rfl⟩,q⟩
 | byt y =>
   obtain ⟨t,rfl⟩:=rx; obtain ⟨hy,e'⟩:y.size<=sizeLine/\n=y.size:=e; subst e'; exact PySem.W.len_bytes (by lia) ⟨.int _,H,I.tok _,⟨_,rfl⟩,q⟩
 | ref p =>
   cases rx; have e':(∃ xs,SqL X.K H p xs/\n=xs.length)\/∃ xs,SqT X.K H p xs/\n=xs.length:=e; rcases e' with ⟨xs,hx,e'⟩ | ⟨xs,hx,e'⟩
   . subst e'
     obtain ⟨its,r',pl,hz⟩:=I.list hx; have hlen:=r'.length; exact Calls.call_len_list pl.isList (by simp only [xE]; lia) ⟨.int xs.length,H,I.tok _,⟨_,by simp only [xE]; rw [hlen]⟩,q⟩
   . subst e'
     obtain ⟨its,r',pl,hz⟩:=I.tuple hx; have hlen:=r'.length; exact len_tuple pl (by simp only [xE]; lia) ⟨.int xs.length,H,I.tok _,⟨_,by simp only [xE]; rw [hlen]⟩,q⟩
 | _=>exact (show False from e).elim
end
end L2
namespace L2
open PySem PySem.Spec PyProof.Rows
structure ObjM (h:yW) (x dx C:wX) (mA:Str->Option wM):Prop where
 obj:h.get? x=some (EQ C dx)
 ns:h.Ns1 dx mA
 ne:dx≠x
theorem iB {h:yW} {dx:wX} {mA:Str->Option wM} (n:h.Ns1 dx mA):∃ od,h.get? dx=some od/\∀ name,FB name od=some (mA name):=by
 obtain ⟨o,es,ep,ho,hd,hk,_,hm⟩:=n;refine ⟨o,ho,fun name=>?_⟩;have e:=hm name;unfold nsFind findBy at e;rw [<- Array.find?_toList] at e;unfold FB;rw [hd];dsimp only;split
 . rename_i y q
   rw [q] at e; exact congrArg some e
 . rename_i q
   rw [q] at e; have a:es.toList.any (·.refKey)=false:=by
     rw [List.any_eq_false]; intro y hy; obtain ⟨z,t,hkey⟩:=hk y (Array.mem_toList_iff.mp hy); simp [DictEntry.refKey,hkey]
   have a':¬ es.toList.any (·.refKey)=true:=by rw [a]; exact c8
   rw [if_neg a']; exact congrArg some e
theorem ObjM.look {h:yW} {x dx C:wX} {mA:Str->Option wM} (I:ObjM h x dx C mA):∃ od,PySem.W.InstAt h x (EQ C dx) C (some od)/\∀ name,FB name od=some (mA name) :=
 let ⟨od,ho,hl⟩:=iB I.ns
 ⟨od,⟨I.obj,rfl,rfl,ho⟩,hl⟩
section
variable {P:xT} {w:yC} {H:Hp} {h:yW} {a C dx:wX} {fs:List (Str×V)}
theorem qF (hok:HOk P w H h) (e:H a=some (.ins C dx fs)):∃ mA,ObjM h a dx C mA/\(∀ f,wH (fs.lookup f) (mA f))/\PySem.Within mA (fs.map (·.1))/\fs.length<=1000/\H dx=some (.own a):=by
 obtain ⟨d,z,ne,ob,mA,n,r,q⟩:=(show ObjOk P w H h a (.ins C dx fs) from hok a _ e);exact ⟨mA,⟨ob,n,ne⟩,r,q,z,d⟩
end
structure Cls (K:wQ) (C:wX):Prop where
 pg:PySem.W.plainGet K C Str.empty=true
 hd:PySem.W.hasDictIn K C=true
 po:PySem.W.plainOver K C=true
 sa:PySem.W.findIn K (.ref C) "__setattr__" = some (some (.builtin "object.__setattr__"))
theorem Cls.get {K:wQ} {C:wX} (c:Cls K C) (f:Str):PySem.W.plainGet K C f=true:=c.pg
section
variable {X:Cx} {pins:List (wX×Obj)} {Z:St} {H:Hp} {s:wO} {A:yZ} {E:wM->wO->Prop} {Q:wM->wO->Prop} {c:wM} {b:Bool}
inductive TyOf (K:wQ) (H:Hp):V->wM->Prop where
 | non:TyOf K H .non (.type "NoneType")
 | bl (x:Bool):TyOf K H (.bl x) (.type "bool")
 | int (i:Int):TyOf K H (.int i) (.type "int")
 | str (x:Str):TyOf K H (.str x) (.type "str")
 | flt (x:UInt64):TyOf K H (.flt x) (.type "float")
 | lst {a:wX} {xs:List V} (e:H a=some (.lst xs)):TyOf K H (.ref a) (.type "list")
 | frz {a:wX} {o:Obj} {xs:List V} (e:H a=some (.frz o (.lst xs))):TyOf K H (.ref a) (.type "list")
 | tup {a:wX} {xs:List V} (e:H a=some (.tup xs)):TyOf K H (.ref a) (.type "tuple")
 | dK {a:wX} {kvs:List (Key×V)} (e:H a=some (.dK kvs)):TyOf K H (.ref a) (.type "dict")
 | dT {a:wX} {kvs:List (List Key×V)} (e:H a=some (.dT kvs)):TyOf K H (.ref a) (.type "dict")
 | ins {a C dx : wX} {fs : List (Str × V)} (e : H a = some (.ins C dx fs)) (cl : Cls K C) (ha : PySem.W.findIn K (.ref C) "__class__" = some (some (.builtin "object.__class__")))
     (hn:PySem.W.specialIn K (.builtin "object.__class__") "__get__" = some (some (.builtin "getset_descriptor.__get__"))) (htk:PySem.W.takesIn K (.builtin "object.__class__")=some true)
     (hm:PySem.W.mroIn K C (.type "object")=some true):TyOf K H (.ref a) (.ref C)
theorem iH {x:V} {u t:wM} (I:Inv X pins Z H s) (rx:RelV x u) (ty:TyOf X.K H x t) (e:PySem.W.kitOne X.K t c=some b) (h:∀ tk,Q (.bool b) { s with toks:=tk }) :
   wpAny (xU X.prog X.w) A (call (.builtin "isinstance") [u,c]) Q E s:=by
 cases ty with
 | non=>cases (show u=j8 from rx); exact a8 PySem.W.kitx_none I.kIn EC e (fun z=>nomatch z) h
 | bl y=>cases (show u=AO y from rx); exact a8 PySem.W.kitx_bool I.kIn EC e (fun z=>nomatch z) h
 | int i=>obtain ⟨t,q⟩:=(show ∃ t,u=Value.int i t from rx); cases q; exact a8 PySem.W.kitx_int I.kIn EC e (fun z=>nomatch z) h
 | str y=>obtain ⟨t,q⟩:=(show ∃ t,u=GA y t from rx); cases q; exact a8 PySem.W.kitx_str I.kIn EC e (fun z=>nomatch z) h
 | flt y=>obtain ⟨t,q⟩:=(show ∃ t,u=Value.float y t from rx); cases q; exact a8 PySem.W.kitx_float I.kIn EC e (fun z=>nomatch z) h
 | @lst a xs ea =>
   cases (show u=zA a from rx);obtain ⟨_,_,n,_,h1⟩:=(show ObjOk X.prog X.w H s.heap a (.lst xs) from I.hok a _ ea);exact a8 GV I.kIn ⟨_,h1,rfl⟩ e (fun z=>nomatch z) h
 | @frz a ob xs ea =>
   cases (show u=zA a from rx);obtain ⟨_,_,_,n,_,h1⟩:=(show ObjOk X.prog X.w H s.heap a (.frz ob (.lst xs)) from I.hok a _ ea);exact a8 GV I.kIn ⟨_,h1,rfl⟩ e (fun z=>nomatch z) h
 | @tup a xs ea =>
   cases (show u=zA a from rx);obtain ⟨_,_,_,p⟩:=(show ObjOk X.prog X.w H s.heap a (.tup xs) from I.hok a _ ea);obtain ⟨o,h1,h2,_⟩:=p; exact a8 PySem.W.kitx_tuple I.kIn ⟨o,h1,h2⟩ e (fun z=>nomatch z) h
 | @dK a kvs ea =>
   cases (show u=zA a from rx);obtain ⟨_,_,vs,_,p⟩:=(show ObjOk X.prog X.w H s.heap a (.dK kvs) from I.hok a _ ea);obtain ⟨o,es,ep,h1,h2,_⟩:=p; exact a8 GW I.kIn ⟨o,h1,h2.1⟩ e (fun z=>nomatch z) h
 | @dT a kvs ea =>
   cases (show u=zA a from rx);obtain ⟨_,_,xs,_,o,es,ep,h1,h2,_⟩:=(show ObjOk X.prog X.w H s.heap a (.dT kvs) from I.hok a _ ea);exact a8 GW I.kIn ⟨o,h1,h2.1⟩ e (fun z=>nomatch z) h
 | @ins a C dx fs ea cl ha hn htk hm =>
   cases (show u=zA a from rx);obtain ⟨mA,O,_⟩:=qF I.hok ea; obtain ⟨od,J,_⟩:=O.look; exact a8 (PySem.W.kitx_own (cl.get _) cl.hd ha hn htk hm) I.kIn J e (fun z=>nomatch z) h
end
end L2
namespace L2
open PySem PySem.Spec PyProof.Rows
structure Room (k:Nat) (A:yZ):Prop where
 hd:A.handled=none
 dp:A.depth+3*k+5 < recursionLimit
 un:A.units+16*k+200 < i4
 gd:A.guards=some []
theorem Room.mono {j k:Nat} {A:yZ} (r:Room k A) (h:j<=k):Room j A:=⟨r.hd,by have:=r.dp; lia,by have:=r.un; lia,r.gd⟩
theorem Room.deeper {k:Nat} {A:yZ} (r:Room (k+1) A) (env:Env):Room k (A.deeper env) :=
 ⟨r.hd,by have:=r.dp; show A.depth+1+3*k+5 < _; lia,by have:=r.un; show A.units+3+16*k+200 < _; lia,r.gd⟩
theorem Room.depth {k:Nat} {A:yZ} (r:Room k A):A.depth < recursionLimit:=by have:=r.dp; lia
theorem Room.units {k:Nat} {A:yZ} (r:Room k A):A.units+64 < i4:=by have:=r.un; lia
def tNil:TA:=fun _ H Q=>Q [] H
def tCons (ta:TE) (tr:TA):TA:=fun Z H Q=>ta Z H fun x H1=>tr Z H1 fun xs H2=>Q (x::xs) H2
section
variable {X:Cx} {e:Expr} {es:List Expr} {te:TE} {t:TA} {pos:Pos}
theorem Z5:PA X [] tNil:=fun _ _ _ _ H Q I h=>EI ⟨[],H,I,.nil,h⟩
theorem P7 (ha:PE X e te) (hr:PA X es t) (hs:wY (e::es) X.env=(false,eval e X.env)::wY es X.env:=by rfl):PA X (e::es) (tCons te t):=by
 intro pos pins s Z H Q I h;rw [hs];show wpAny _ _ (spliced ((false,eval e X.env)::zP pos (wY es X.env))) _ _ s;refine AB (thn (ha pins s Z H _ I h) fun u s1 hZ2=>?_);obtain ⟨x,H1,I1,r1,q1⟩:=hZ2;exact thn (hr pos pins s1 Z H1 _ I1 q1) fun us s2 hZ2=>by obtain ⟨xs,H2,I2,r2,q2⟩:=hZ2; exact ⟨x::xs,H2,I2,.cons r1 r2,q2⟩
def tTup (t:TA):TE:=fun Z H Q=>t Z H fun xs H1=>xs.length<=sizeLine/\∀ p,H1 p=none->Q (.ref p) (upd H1 p (.tup xs))
def tLst (t:TA):TE:=fun Z H Q=>t Z H fun xs H1=>xs.length<=sizeLine/\∀ p,H1 p=none->Q (.ref p) (upd H1 p (.lst xs))
theorem tY {x1} (h:PA X es t):PE X (.Tuple es x1 pos) (tTup t):=by
 intro pins s Z H Q I hq;refine wpAny_Tuple_spliced (thn (h pos pins s Z H _ I hq) fun us s1 hY22=>?_);obtain ⟨xs,H1,I1,r,z,q⟩:=hY22;refine ⟨by rw [<- r.length]; exact z,?_⟩;have hf:H1 s1.heap.objs.size=none:=I1.hok.fresh (xH _);refine ⟨.ref s1.heap.objs.size,upd H1 s1.heap.objs.size (.tup xs),I1.laid (t':=s1.toks) (fun b u e=>xG _ e) (xH _) ?_,rfl,q _ hf⟩;exact ⟨z,us,r,⟨_,xN _ rfl,rfl,_,rfl⟩⟩
theorem lG (h:PA X es t):PE X (.List es pos) (tLst t):=by
 intro pins s Z H Q I hq;refine wpAny_List_spliced (thn (h pos pins s Z H _ I hq) fun us s1 hY23=>?_);obtain ⟨xs,H1,I1,r,z,q⟩:=hY23;refine ⟨by rw [<- r.length]; exact z,?_⟩;have hf:H1 s1.heap.objs.size=none:=I1.hok.fresh (xH _);refine ⟨.ref s1.heap.objs.size,upd H1 s1.heap.objs.size (.lst xs),I1.laid (t':=s1.toks) (fun b u e=>xG _ e) (xH _) ?_,rfl,q _ hf⟩;exact ⟨z,us,0,r,xN _ rfl⟩
end
abbrev Sp:=List V->Hp->VK->XK->Prop
abbrev CXT:=List Env->Hp->wO->XK->wM->wO->Prop
structure Env0 (P:xT) (w:yC) (K:wQ) (mg:Str->Option wM) (base:yW) (A:yZ) (outer:List Env) (s:wO) (H:Hp):Prop where
 frames:A.frames=some outer
 mod:Mod K mg base
 bs:∀ b o,base.get? b=some o->s.heap.get? b=some o/\H b=none
 bsz:base.objs.size<=s.heap.objs.size
 funs:s.heap.FunFrames base outer
 frf:∀ b∈frs outer,H b=none
 hok:HOk P w H s.heap
 bare:DL s.gens
def CE (outer:List Env) (P:xT) (w:yC) (H:Hp) (s:wO) (Q:VK) (u:wM) (s':wO):Prop :=
 ∃ v H',s'.os=s.os/\DL s'.gens/\Un (frs outer) [] H H' s.heap s'.heap/\HOk P w H' s'.heap/\RelV v u/\Q v H'
def CR (CX:CXT) (outer:List Env) (P:xT) (w:yC) (H:Hp) (s:wO) (Q:VK) (E:XK) (r:Result) (s':wO):Prop :=
 match r with
 | .ok (.ret u)=>CE outer P w H s Q u s'
 | .ok _=>False
 | .error e=>CX outer H s E e s'
structure FnOk (P:xT) (w:yC) (K:wQ) (mg:Str->Option wM) (base:yW) (CX:CXT) (k:Nat) (f:wX) (fd:AU) (ps:List Str) (sp:Sp):Prop where
 len:∀ vs H Q E,sp vs H Q E->vs.length=ps.length
 run:∀ (A:yZ) (outer:List Env) (s:wO) (H:Hp) (args:Args) (us:List wM) (vs:List V) (Q:VK) (E:XK),Room k A->Env0 P w K mg base A outer s H->BindsTo s fd args (ps.zip us)->Vals vs us->sp vs H Q E ->
   DH (xU P w) A (.call (.ref f) args) (CR CX outer P w H s Q E) s
section
variable {X:Cx} {pins:List (wX×Obj)} {Z:St} {H:Hp} {s s':wO}
theorem Inv.env0 (I:Inv X pins Z H s):Env0 X.prog X.w X.K X.mg X.base X.A X.stack s H :=
 ⟨I.ok.frames,I.ok.mod,I.bs,xD I.ok.bsz I.sz,I.stack,I.stkFree,I.hok,I.bare⟩
theorem Inv.after {Q:VK} {u:wM} (I:Inv X pins Z H s) (h:CE X.stack X.prog X.w H s Q u s'):EP X pins Z Q u s':=by
 obtain ⟨v,H',os,bare,un,hok,r,q⟩:=h;obtain ⟨hh,g,d,t,os'⟩:=s';obtain rfl:os'=s.os:=os;exact ⟨v,H',I.call (h':=hh) (g':=g) (d':=d) (t':=t) (ch:=[]) un hok bare (fun b z=>absurd z (by simp)),r,q⟩
end
def tCall (sp:Sp) (dvs:List V) (E:XK) (t:TA):TE:=fun Z H Q=>t Z H fun vs H1=>sp (vs++dvs) H1 Q E
def Binds (K:wQ) (fd:AU) (ps:List Str) (ds:List wM):Prop :=
 ∀ (s:wO) (us:List wM),K.In s.heap->(us++ds).length=ps.length->BindsTo s fd ⟨us,[]⟩ (ps.zip (us++ds))
theorem Binds.all {K:wQ} {fd:AU} {ps:List Str} (h:∀ us:List wM,us.length=ps.length->CT fd ⟨us,[]⟩=pure (ps.zip us)):Binds K fd ps []:=fun s us _ hl=>by
 rw [xV] at hl ⊢;exact .of_eq (h us hl)
def eA (CX:CXT) (X:Cx) (E:XK):Prop:=∀ (pins:List (wX×Obj)) (Z:St) (H:Hp) (s:wO) (e:wM) (s':wO),Inv X pins Z H s->CX X.stack H s E e s'->X.xe e s'
section
variable {X:Cx} {CX:CXT} {k:Nat} {f:wX} {fd:AU} {ps:List Str} {sp:Sp} {dvs:List V} {ds:List wM} {E:XK} {x:Str} {p pos:Pos} {e:Expr} {es:List Expr} {t:TA}
theorem tL {pins:List (wX×Obj)} {Z:St} {H:Hp} {s:wO} {Q:VK} {us:List wM} {vs:List V} (F:FnOk X.prog X.w X.K X.mg X.base CX k f fd ps sp) (hr:Room k X.A) (hb:Binds X.K fd ps ds) (hd:Vals dvs ds) (hx:eA CX X E)
   (I:Inv X pins Z H s) (r:Vals vs us) (h:sp (vs++dvs) H Q E):wpAny (xU X.prog X.w) X.A (call (.ref f) us) (EP X pins Z Q) X.xe s:=by
 have r2:Vals (vs++dvs) (us++ds):=r.append hd;have hl:(us++ds).length=ps.length:=by rw [<- r2.length]; exact F.len _ _ _ _ h
 refine wpAny_call (FI (F.run X.A X.stack s H ⟨us,[]⟩ (us++ds) (vs++dvs) Q E hr I.env0 (hb s us I.kIn hl) r2 h) fun r s' hq=>?_);cases r with
 | error e=>exact hx pins Z H s e s' I hq
 | ok fl =>
   cases fl with
   | ret u=>exact I.after hq
   | next=>exact x3 hq
   | brk=>exact x3 hq
   | cont=>exact x3 hq
theorem Pa (F:FnOk X.prog X.w X.K X.mg X.base CX k f fd ps sp) (hr:Room k X.A) (hg:Gl X x) (hm:X.mg x=some (.ref f)) (hk:zR X.K (.ref f)=true) (hb:Binds X.K fd ps ds) (hd:Vals dvs ds) (hx:eA CX X E)
   (ha:PA X (e::es) t) (hdb:(x==("__debug__" : Str))=false:=by decide) (he:wY (e::es) X.env=(false,eval e X.env)::wY es X.env:=by rfl) (hpl:(zP pos (wY es X.env)).any (·.1)=false:=by rfl) :
   PE X (.Call (.Name x p) (e::es) [] pos) (tCall sp dvs E t):=by
 intro pins s Z H Q I h;refine AK (fE I hg hm ?_ hdb);refine PySem.W.callWith_K (h₀:=X.base) I.ok.mod.kin hk (thn (ha pos pins s Z H _ I h) fun us s1 hY24=>?_) he hpl;obtain ⟨vs,H1,I1,r,q⟩:=hY24;refine ⟨I1.kIn,?_⟩;exact tL F hr hb hd hx I1 r q
end
structure FnScope (N P:List Str) (sc:Scope):Prop where
 kind:sc.kind=.function
 co:sc.isCoroutine=false
 gen:sc.isGenerator=false
 nd:N.Nodup
 pre:N.take P.length=P
 par:∀ x∈P,sc.names.lookup x=some .local\/sc.names.lookup x=some .cell
 nofree:∀ y∈sc.names,y.2≠.free
theorem Vz {kindOf:Str->Option BX} {x:Str}:∀ {binds:List (Str×wM)} {m:Str->Option wM},(∀ v,(x,v)∉binds)->bindL kindOf binds m x=m x
 | [],_,_=>rfl
 | (n,v)::r,m,h=>by
   unfold bindL; rw [Vz fun w hw=>h w (f8 _ hw)];split
   . have:x≠n:=by rintro rfl; exact h v c7
     simp [this]
   . rfl
theorem Wb {kindOf:Str->Option BX} {x:Str}:∀ {binds:List (Str×wM)} {m:Str->Option wM},(∀ v,(x,v)∉binds)->bindC kindOf binds m x=m x
 | [],_,_=>rfl
 | (n,v)::r,m,h=>by
   unfold bindC; rw [Wb fun w hw=>h w (f8 _ hw)];split
   . rfl
   . have:x≠n:=by rintro rfl; exact h v c7
     simp [this]
theorem Wa {kindOf:Str->Option BX} {x:Str} {v:wM}:∀ {P:List Str} {vs:List wM} {i:Nat} {m:Str->Option wM},P.Nodup->P[i]? = some x->vs[i]? = some v->kindOf x=some .local ->
   bindL kindOf (P.zip vs) m x=some v
 | [],_,_,_,_,h,_,_=>by simp at h
 | _::_,[],_,_,_,_,h,_=>by simp at h
 | p::P,w::vs,0,m,nd,h1,h2,hk=>by
   simp at h1 h2; subst h1; subst h2;show bindL kindOf ((p,w)::P.zip vs) m p=_;unfold bindL; rw [Vz fun v hv=>(zG.mp nd).1 (FE hv).1,if_pos hk];simp
 | p::P,w::vs,i+1,m,nd,h1,h2,hk=>by
   show bindL kindOf ((p,w)::P.zip vs) m x=_;unfold bindL; exact Wa (i:=i) (zG.mp nd).2 (by simpa using h1) (by simpa using h2) hk
theorem Wc {kindOf:Str->Option BX} {x:Str} {v:wM}:∀ {P:List Str} {vs:List wM} {i:Nat} {m:Str->Option wM},P.Nodup->P[i]? = some x->vs[i]? = some v->kindOf x≠some .local ->
   bindC kindOf (P.zip vs) m x=some v
 | [],_,_,_,_,h,_,_=>by simp at h
 | _::_,[],_,_,_,_,h,_=>by simp at h
 | p::P,w::vs,0,m,nd,h1,h2,hk=>by
   simp at h1 h2; subst h1; subst h2;show bindC kindOf ((p,w)::P.zip vs) m p=_;unfold bindC; rw [Wb fun v hv=>(zG.mp nd).1 (FE hv).1,if_neg hk];simp
 | p::P,w::vs,i+1,m,nd,h1,h2,hk=>by
   show bindC kindOf ((p,w)::P.zip vs) m x=_;unfold bindC; exact Wc (i:=i) (zG.mp nd).2 (by simpa using h1) (by simpa using h2) hk
def Dh (N:List Str) (vs:List V):St:=vs.map some++xF (N.length - vs.length) none
def iX (CX:CXT) (P:xT) (w:yC) (K:wQ) (mg:Str->Option wM) (base:yW) (N:List Str) (qual:Str) (scope:Scope) (f:wX) (cd:wM) (A:yZ) (outer:List Env) (s:wO) (H:Hp) (E:XK):Cx where
 prog:=P
 w:=w
 K:=K
 mg:=mg
 base:=base
 A:=A.deeper (EY qual scope s.heap.objs.size f cd)
 N:=N
 s₀:=s
 H₀:=H
 env:=EY qual scope s.heap.objs.size f cd
 outer:=outer
 stack:=EY qual scope s.heap.objs.size f cd::outer
 ex:=[]
 calm:=true
 fn:=fun _=>true
 pn:=[]
 xe:=fun e s'=>wpAny (xU P w) (A.deeper (EY qual scope s.heap.objs.size f cd)) (leaving (EY qual scope s.heap.objs.size f cd) e) (fun _ s''=>CX outer H s E e s'') (fun e' s''=>CX outer H s E e' s'') s'
theorem bG {sc:Scope} {n:Nat} {x:Str} (h:sc.names.lookup x=some .cell):∃ c,(cellsFrom n sc.names []).lookup x=some c:=by
 have q:=FV sc.names n [] (.inl h);exact Option.isSome_iff_exists.mp q
theorem iK {CX:CXT} {P:xT} {w:yC} {K:wQ} {mg:Str->Option wM} {base:yW} {N ps:List Str} {qual:Str} {scope:Scope} {f:wX} {cd:wM} {A:yZ} {outer:List Env} {s s1:wO} {H:Hp} {E:XK} {us:List wM} {vs:List V}
   (S:FnScope N ps scope) (hd:A.handled=none) (e0:Env0 P w K mg base A outer s H) (hl:vs.length=ps.length) (r:Vals vs us)
   (x:InCallC s s.heap.objs.size (bindL (EY qual scope s.heap.objs.size f cd).kindOf (ps.zip us) fun _=>none) (cellsFrom (s.heap.objs.size+1) scope.names []) (bindC (EY qual scope s.heap.objs.size f cd).kindOf (ps.zip us) fun _=>none) s1) :
   Inv (iX CX P w K mg base N qual scope f cd A outer s H E) [] (Dh N vs) H s1:=by
 have hpl:ps.length<=N.length:=by have:=congrArg AX S.pre; rw [BY] at this; lia
 obtain ⟨h1,tk,rfl,hk⟩:=x.done;have noA:∀ b:wX,b∉(iX CX P w K mg base N qual scope f cd A outer s H E).ex:=fun b z=>absurd (show b∈([]:List wX) from z) (by simp);refine ⟨⟨e0.mod,S.kind,rfl,rfl,xH _,fun y z c h1 h2=>?_,fun y hy=>?_,fun y c _ h=>?_,fun _=>hd,Around.frames_deeper e0.frames,.inr ⟨rfl,rfl⟩,fun b z=>absurd z (noA b),e0.bs,e0.bsz,fun b _ _=>noA b,fun b z=>absurd z (noA b),e0.funs,e0.frf⟩,
   rfl,e0.bare,Un.kept hk,⟨_,x.toInCall.ns,fun i y v h1 h2 h3=>?_⟩,fun y c h=>⟨_,x.cell y c h⟩,e0.hok.fresh (xH _),fun y c h=>?_,fun p hp=>absurd (show p∈([]:List (wX×Obj)) from hp) (by simp),e0.hok.kept hk,?_⟩
 . exact name_of_addr x.apart (n6 h1) (n6 h2)
 . have hy:scope.names.lookup y=some .cell\/scope.names.lookup y=some .free:=hy
   rcases hy with hy | hy
   . exact bG hy
   . exact absurd rfl (S.nofree _ (n6 hy))
 . exact GS (x.above y c (n6 h))
 . have hi : i < vs.length := by
     unfold Dh at h2;by_cases hi:i < vs.length
     . exact hi
     . rw [yL (by simpa using hi)] at h2
       rw [j9] at h2;split at h2 <;> cases h2
   have ha:vs[i]? = some v:=by
     unfold Dh at h2; rw [yG (by simpa using hi),xS] at h2;cases e:vs[i]? with
     | none=>rw [e] at h2; cases h2
     | some a=>rw [e] at h2; cases h2; rfl
   obtain ⟨u,hu,rv⟩:=r.get ha; have hp:ps[i]? = some y:=by
     rw [<- S.pre,List.getElem?_take_of_lt (by lia)]; exact h1
   have ndP:ps.Nodup:=by rw [<- S.pre]; exact S.nd.sublist (List.take_sublist _ _)
   refine ⟨u,rv,?_⟩; rcases S.par y (e8 hp) with k | k
   . exact .inl ⟨k,Wa ndP hp hu k⟩
   . obtain ⟨c,e⟩:=bG (n:=s.heap.objs.size+1) k
     refine .inr ⟨.inl k,c,e,?_⟩; have q:=x.cell y c e; rw [Wc ndP hp hu (by show scope.names.lookup y≠_; rw [k]; decide)] at q;exact q
 . exact e0.hok.fresh (GS (x.above y c (n6 h)))
 . unfold Dh
   show _=N.length;rw [xO,wT,q9];lia
theorem fn_of {CX:CXT} {P:xT} {w:yC} {K:wQ} {mg:Str->Option wM} {base:yW} {k:Nat} {f:wX} {name qual:Str} {params:Arguments} {body:List n0} {scope:Scope} {dV kV doc pm cdv ct oc:wM} {an od:Option wX}
   {osl:Array (Option wM)} {N ps:List Str} {sp:Sp} (lk:K.lookup f=some ⟨oc,od,.func (yY name qual params body scope dV kV doc pm an cdv ct),osl⟩) (hcd:l6 K cdv qual=true) (S:FnScope N ps scope)
   (len:∀ vs H Q E,sp vs H Q E->vs.length=ps.length)
   (hbody:∀ (A:yZ) (outer:List Env) (s:wO) (H:Hp) (vs:List V) (Q:VK) (E:XK),Room k (A.deeper (EY qual scope s.heap.objs.size f cdv))->sp vs H Q E ->
     ∃ t,PSs (iX CX P w K mg base N qual scope f cdv A outer s H E) body t/\t { nx:=fun _ H'=>Q .non H',rt:=Q } (Dh N vs) H) :
   FnOk P w K mg base CX (k+1) f (yY name qual params body scope dV kV doc pm an cdv ct) ps sp:=by
 refine ⟨len,fun A outer s H args us vs Q E hr e0 hb r hsp=>?_⟩;have hl:=len _ _ _ _ hsp;have KX:K.In s.heap:=e0.mod.kin.keeps fun b o e=>(e0.bs b o e).1;have lim:s.heap.NoLimit:=e0.mod.nolimit.keeps fun b o e=>(e0.bs b o e).1;have hkind:∀ y∈ps.zip us,scope.names.lookup y.1=some .local\/(scope.names.lookup y.1=some .cell/\((cellsFrom (s.heap.objs.size+1) scope.names []).lookup y.1).isSome=true):=fun hZ0 hy=>by
   obtain ⟨n,v⟩:=hZ0; rcases S.par n (FE hy).1 with q | q
   . exact .inl q
   . exact .inr ⟨q,FV _ _ _ (.inl q)⟩
 refine codeAny_call_function hr.depth (KX _ _ lk) rfl S.co S.gen rfl (PySem.W.codeRec_of KX hcd) (hb _ _ _ _ ?_);refine wpAny_newFunctionEnv_cells S.kind hkind fun env he s1 x=>?_;subst he;refine ⟨lim.keeps x.toInCall.keep,codeAny_func ?_⟩;obtain ⟨t,ht,hq⟩:=hbody A outer s H vs Q E (hr.deeper _) hsp;have I:Inv (iX CX P w K mg base N qual scope f cdv A outer s H E) [] (Dh N vs) H s1:=iK S hr.hd e0 hl r x;refine zU (ht [] s1 (Dh N vs) H _ I hq) (fun fl s' hs=>?_) fun e s' hs=>hs;have fin:∀ {Z':St} {H':Hp} {v:V} {u:wM},Inv (iX CX P w K mg base N qual scope f cdv A outer s H E) [] Z' H' s'->RelV v u->Q v H'->CE outer P w H s Q u s' :=
   fun {Z' H' v u} J rv q=>⟨v,H',J.os,J.bare,J.base,J.hok,rv,q⟩
 cases fl with
 | ret u =>
   obtain ⟨v,Z',H',J,rv,q⟩:=hs; exact fin J rv q
 | next =>
   obtain ⟨Z',H',J,q⟩:=hs; exact fin (v:=V.non) (u:=j8) J rfl q
 | brk =>
   obtain ⟨_,_,_,q⟩:=hs; exact x3 q
 | cont =>
   obtain ⟨_,_,_,q⟩:=hs; exact x3 q
end L2
namespace L2
open PySem PySem.Spec PyProof.Rows
section
variable {X:Cx} {x:Str} {p pos:Pos} {e:Expr} {es:List Expr} {t:TA} {id T:String} {r:List V->Hp->VK->Prop}
def tCB (r:List V->Hp->VK->Prop) (t:TA):TE:=fun Z H Q=>t Z H fun vs H1=>r vs H1 Q
theorem Qw (hc:Y7 X (.builtin id) r) (hg:Gl X x) (hm:X.mg x=none) (hv:o0 x=some (.builtin id)) (ha:PA X (e::es) t) (hn:x ≠ "__name__" := by decide) (hdb:(x==("__debug__" : Str))=false:=by decide)
   (he:wY (e::es) X.env=(false,eval e X.env)::wY es X.env:=by rfl) (hpl:(zP pos (wY es X.env)).any (·.1)=false:=by rfl):PE X (.Call (.Name x p) (e::es) [] pos) (tCB r t):=by
 intro pins s Z H Q I h;refine AK (Mg I hg hm hv ?_ hn hdb);exact PyProof.Rows.callWith_builtin1 (thn (ha pos pins s Z H _ I h) fun us s1 hZ2=>by obtain ⟨vs,H1,I1,r1,q1⟩:=hZ2; exact hc pins s1 Z H1 vs us Q I1 r1 q1) he hpl
theorem Uz (hc:Y7 X (.type T) r) (hg:Gl X x) (hm:X.mg x=none) (hv:o0 x=some (.type T)) (ha:PA X (e::es) t) (hn:x ≠ "__name__" := by decide) (hdb:(x==("__debug__" : Str))=false:=by decide)
   (he:wY (e::es) X.env=(false,eval e X.env)::wY es X.env:=by rfl) (hpl:(zP pos (wY es X.env)).any (·.1)=false:=by rfl):PE X (.Call (.Name x p) (e::es) [] pos) (tCB r t):=by
 intro pins s Z H Q I h;refine AK (Mg I hg hm hv ?_ hn hdb);exact o7 (thn (ha pos pins s Z H _ I h) fun us s1 hZ2=>by obtain ⟨vs,H1,I1,r1,q1⟩:=hZ2; exact hc pins s1 Z H1 vs us Q I1 r1 q1) he hpl
end
end L2
namespace HT
open PySem PyProof.Rows
section
variable {prog:xT} {w:yC} {A:yZ} {E:wM->wO->Prop} {s:wO}
theorem cat_tup {t b:wX} {vs ws:List wM} {Q:wM->wO->Prop} (ht:DU s.heap t vs.toArray) (hb:DU s.heap b ws.toArray) (hv:vs≠[])
   (h1:ws=[]->Q (.ref t) s) (h2:ws≠[]->Q (.ref s.heap.objs.size) { s with heap:=s.heap.push { cls:=.type "tuple",data:=.seq (vs++ws).toArray } })
   (hsz:vs.length+ws.length<=sizeLine):wpAny (xU prog w) A (CU .Add (.ref t) (.ref b)) Q E s:=by
 obtain ⟨⟨cls,dd,data,sl⟩,ho,hc,n,hd⟩:=id ht;obtain ⟨⟨cls2,dd2,data2,sl2⟩,ho2,hc2,n2,hd2⟩:=id hb;simp only at hc hd hc2 hd2;subst hc hd hc2 hd2;have e:vs.toArray++ws.toArray=(vs++ws).toArray:=by simp
 by_cases hw:ws=[]
 . exact concat_meets ⟨_, ho, rfl⟩ ⟨_, ho2, rfl⟩ FT seq_tuple_add BW BP (BL _ _)
     (tuple_addW1 t b vs.toArray ws.toArray n n2 dd dd2 sl sl2 (by simpa using hv) (by simp [hw])) ⟨ho,ho2,h1 hw⟩
 . refine concat_meets ⟨_, ho, rfl⟩ ⟨_, ho2, rfl⟩ FT seq_tuple_add BW BP (BL _ _)
     (tuple_addW2 t b vs.toArray ws.toArray n n2 dd dd2 sl sl2 (by simpa using hv) (by simpa using hw) (by rw [xE,xE]; exact hsz)) ⟨ho,ho2,?_⟩
   rw [e]; exact h2 hw
def sIx (n d:Nat):Option Int->Nat
 | none=>d
 | some v=>if v < 0 then (v+(n:Int)).toNat else min v.toNat n
theorem tH (n d:Nat) (hd:d<=n) (o:Option Int):sIx n d o<=n:=by
 cases o with
 | none=>exact hd
 | some v =>
   show (if v < 0 then (v+(n:Int)).toNat else min v.toNat n)<=n;by_cases hv:v < 0
   . rw [if_pos hv]; lia
   . rw [if_neg hv]; exact i9 _ _
theorem fS (v:Int) (n d:Nat):(if v < 0 then max (v+(n:Int)) 0 else min v (n:Int))=((sIx n d (some v):Nat):Int):=by
 show (if v < 0 then max (v+(n:Int)) 0 else min v (n:Int))=(((if v < 0 then (v+(n:Int)).toNat else min v.toNat n):Nat):Int);by_cases hv:v < 0
 . simp only [if_pos hv]; lia
 . simp only [if_neg hv]; lia
theorem dZ (lo hi:Option Int) (n:Nat):AV lo hi 1 (n:Int)=(((sIx n 0 lo:Nat):Int),((sIx n n hi:Nat):Int)):=by
 have h1:¬ ((1:Int) < 0):=by lia
 unfold AV;simp only [h1,if_false];refine DD ?_ ?_
 . cases lo with
   | none=>rfl
   | some v=>exact fS v n 0
 . cases hi with
   | none=>rfl
   | some v=>exact fS v n n
theorem cQ (i j:Nat):p6 (i:Int) (j:Int) 1=j - i:=by
 unfold p6;have h1:(1:Int)>0:=by lia
 simp only [h1,if_true,Int.ediv_one];split <;> lia
theorem Qi {v:wM} {o:Option Int} {Q:Option Int->wO->Prop} (p:EH v o) (h:Q o s):wpAny (xU prog w) A (Builtin.Slice.slicePartIndex v) Q E s:=by
 cases p with
 | none=>exact slicePart_none h
 | int i t=>exact slicePart_int h
theorem sliceApplied_gen {sl:wX} {vl vu:wM} {lo hi:Option Int} {n:Nat} {Q:Int×Int×Nat->wO->Prop} (hs:s.heap.IsSliceOf sl vl vu .none) (pl:EH vl lo) (pu:EH vu hi)
   (h:Q (((sIx n 0 lo:Nat):Int),1,sIx n n hi - sIx n 0 lo) s):wpAny (xU prog w) A (EB (.ref sl) (pure (n:Int))) Q E s:=by
 obtain ⟨os,hos,hcs,hds⟩:=id hs;unfold EB Builtin.Slice.sliceFields;refine wL (wL (AM hos hds (x:=vl) rfl (wL (AM hos hds (x:=vu) rfl (wL (AM hos hds (x:=.none) rfl (wN ?_)))))));refine wL (slicePart_none ?_);show wpAny _ _ (if ((1:Int)==0)=true then _ else _) _ _ s;rw [if_neg (by decide)];refine wL (Qi pl (wL (Qi pu (wL (wN ?_)))));show wpAny _ _ (match AV lo hi 1 (n:Int) with | (lo,hi)=>pure (lo,(1:Int),p6 lo hi 1)) _ _ s
 rw [dZ lo hi n];show wpAny _ _ (pure (((sIx n 0 lo:Nat):Int),(1:Int),p6 ((sIx n 0 lo:Nat):Int) ((sIx n n hi:Nat):Int) 1)) _ _ s;rw [cQ];exact wN h
theorem lA (xs:Array wM) (i k:Nat):((i5 k).filterMap fun (m:Nat)=>xs[((i:Int)+(m:Int)*1).toNat]?).toArray=((xs.toList.drop i).take k).toArray:=by
 have e:(fun (m:Nat)=>xs[((i:Int)+(m:Int)*1).toNat]?)=fun m=>xs[i+m]? := by
   funext m
   have:((i:Int)+(m:Int)*1).toNat=i+m:=by lia
   rw [this]
 rw [e];have:=pick_run xs i k;rw [List.filterMap_map] at this;have e2:((fun x=>xs[x]?)∘fun x=>i+x)=fun m=>xs[i+m]? := rfl;rw [e2] at this;rw [this]
theorem getItem_tuple_cut {t sl:wX} {items:Array wM} {vl vu:wM} {lo hi:Option Int} {Q:wM->wO->Prop} (ht:DU s.heap t items) (hs:s.heap.IsSliceOf sl vl vu .none) (pl:EH vl lo) (pu:EH vu hi)
   (hw:¬ (sIx items.size 0 lo=0/\sIx items.size items.size hi=items.size))
   (h:Q (.ref s.heap.objs.size) { s with heap:=s.heap.push { cls:=.type "tuple",data:=.seq ((items.toList.drop (sIx items.size 0 lo)).take (sIx items.size items.size hi - sIx items.size 0 lo)).toArray } })
   (hsz:items.size<=sizeLine):wpAny (xU prog w) A (BO (.ref t) (.ref sl)) Q E s:=by
 have htake:sizeOk (.seq ((items.toList.drop (sIx items.size 0 lo)).take (sIx items.size items.size hi - sIx items.size 0 lo)).toArray):=by
   show ((items.toList.drop (sIx items.size 0 lo)).take (sIx items.size items.size hi - sIx items.size 0 lo)).toArray.size<=sizeLine;rw [xE,BY,EU,z0]; omega
 have hj:sIx items.size items.size hi<=items.size:=tH _ _ (xH _) hi;obtain ⟨os,hos,hcs,hds⟩:=id hs;have hTs:s.TypeIs (.ref sl) "slice" := ⟨os,hos,hcs⟩;unfold BO;try with_reducible refine c9 ?_
 first | refine wL (wN ?_) | skip
 refine wL (CB ht.typeIs (by decide) ?_);refine wL (zT (name:=p4 "__getitem__") ht.typeIs g9
   (zZ g9 ht.typeIs entry_tuple_getitem ?_ (args_tuple_getitem _ _)))
 show wpAny _ _ (AS (.ref t)>>=_) _ _ s;refine wL (tupleItemsOf_ ht ?_);refine wL (FG hTs ?_);rw [if_pos (by decide)];refine wL (sliceApplied_gen hs pl pu ?_);have hno:¬ ((((sIx items.size 0 lo:Nat):Int)==0&&(1:Int)==1&&(sIx items.size items.size hi - sIx items.size 0 lo)==items.size)=true):=by
   intro q; rw [xX,xX] at q; have q1:((sIx items.size 0 lo:Nat):Int)=0:=j4 q.1.1; have q2:sIx items.size items.size hi - sIx items.size 0 lo=items.size:=j4 q.2; exact hw ⟨by omega,by omega⟩
 show wpAny _ _ (if (((sIx items.size 0 lo:Nat):Int)==0&&(1:Int)==1&&(sIx items.size items.size hi - sIx items.size 0 lo)==items.size)=true then _ else _) _ _ s;rw [if_neg hno,lA];first
   | exact wL (m:=u7 _) (zL (wN ⟨_,rfl,wN h⟩) htake)
   | exact wL (m:=u7 _) (zL (wL (wN (wN ⟨_,rfl,wN h⟩))) htake)
   | exact wL (wL (m:=u7 _) (zL (wN (wN ⟨_,rfl,wN h⟩)) htake))
   | exact wL (wL (m:=u7 _) (zL (wN ⟨_,rfl,wN h⟩) htake))
end
end HT
namespace L2
open PySem PySem.Spec PyProof.Rows
abbrev TO:=St->Hp->(Option Int->Hp->Prop)->Prop
def PO (X:Cx) (e:Option Expr) (t:TO):Prop :=
 ∀ (pins:List (wX×Obj)) (s:wO) (Z:St) (H:Hp) (Q:Option Int->Hp->Prop),Inv X pins Z H s->t Z H Q ->
   wpAny (xU X.prog X.w) X.A (evalPart e X.env) (fun u s'=>∃ o H',Inv X pins Z H' s'/\EH u o/\Q o H') X.xe s
def oA:TO:=fun _ H Q=>Q none H
def tPart (t:TE):TO:=fun Z H Q=>t Z H fun x H1=>∃ i,x=.int i/\Q (some i) H1
section
variable {X:Cx} {e:Expr} {te:TE} {lo hi:Option Expr} {tl th:TO} {pos p2:Pos}
theorem pF:PO X none oA:=by
 intro pins s Z H Q I h;rw [evalPart_none];exact wN ⟨none,H,I,.none,h⟩
theorem pE (h:PE X e te):PO X (some e) (tPart te):=by
 intro pins s Z H Q I hw;rw [evalPart_some];refine thn (h pins s Z H _ I hw) fun u s1 hZ2=>?_;obtain ⟨x,H1,I1,r1,q1⟩:=hZ2;obtain ⟨i,rfl,q⟩:=q1;obtain ⟨t,rfl⟩:=r1;exact ⟨some i,H1,I1,.int i t,q⟩
def SlR (X:Cx) (r:V->Option Int->Option Int->Hp->VK->Prop):Prop :=
 ∀ (pins:List (wX×Obj)) (s:wO) (Z:St) (H:Hp) (x:V) (v vl vu:wM) (lo hi:Option Int) (sl:wX) (Q:VK),Inv X pins Z H s->RelV x v->s.heap.IsSliceOf sl vl vu .none->EH vl lo->EH vu hi->r x lo hi H Q ->
   ∃ T id,EW (.type T) "__getitem__" = pure (some (.builtin id))/\s.TypeIs v T/\wpAny (xU X.prog X.w) X.A (BO v (.ref sl)) (EP X pins Z Q) X.xe s
def tSl (r:V->Option Int->Option Int->Hp->VK->Prop) (te:TE) (tl th:TO):TE:=fun Z H Q=>te Z H fun x H1=>tl Z H1 fun l H2=>th Z H2 fun u H3=>r x l u H3 Q
theorem lD {r:V->Option Int->Option Int->Hp->VK->Prop} (hr:SlR X r) (he:PE X e te) (hl:PO X lo tl) (hu:PO X hi th):PE X (.Subscript e (.Slice lo hi none p2) pos) (tSl r te tl th):=by
 intro pins s Z H Q I h;refine Subscript_ (thn (he pins s Z H _ I h) fun v s1 hZ2=>?_);obtain ⟨x,H1,I1,r1,q1⟩:=hZ2;refine wpAny_Slice (thn (hl pins s1 Z H1 _ I1 q1) fun vl s2 hY32=>?_);obtain ⟨l,H2,I2,pl,q2⟩:=hY32;refine thn (hu pins s2 Z H2 _ I2 q2) fun vu s3 hZ2=>?_;obtain ⟨u,H3,I3,pu,q3⟩:=hZ2;rw [evalPart_none];refine wN ?_;have I4:Inv X pins Z H3 { s3 with heap:=s3.heap.push { cls:=.type "slice",data:=.fields #[vl,vu,.none] } }:=I3.kept (t':=s3.toks) fun b ob q=>xG _ q;obtain ⟨T,id,hT,ht,hg⟩:=hr pins { s3 with heap:=s3.heap.push { cls:=.type "slice",data:=.fields #[vl,vu,.none] } } Z H3 x v vl vu l u s3.heap.objs.size Q I4 r1 (Heap.IsSliceOf.new ..) pl pu q3
 show wpAny (xU X.prog X.w) X.A (subscriptTail e (.Slice lo hi none p2) v (.ref s3.heap.objs.size)) (EP X pins Z Q) X.xe { s3 with heap:=s3.heap.push { cls:=.type "slice",data:=.fields #[vl,vu,.none] } };exact tail_any (ops:=[.ref s3.heap.objs.size,v]) ht hT hg (by with_unfolding_all rfl)
def iY (xs:List V) (lo hi:Option Int):List V:=(xs.drop (HT.sIx xs.length 0 lo)).take (HT.sIx xs.length xs.length hi - HT.sIx xs.length 0 lo)
theorem Hs (xs:List V) (lo hi:Option Int):(iY xs lo hi).length<=xs.length:=by
 unfold iY;rw [BY,EU];lia
end
end L2
namespace L2
open PySem PySem.Spec PyProof.Rows
def ixN (n:Nat) (i:Int):Option Nat:=if 0<=i then (if i < n then some i.toNat else none) else if -(n:Int)<=i then some (i+n).toNat else none
def atI {α:Type} (xs:List α) (i:Int):Option α:=(ixN xs.length i).bind fun j=>xs[j]?
theorem qD {n:Nat} {i:Int} {j:Nat} (h:ixN n i=some j):seqIndex? i n=some j/\j < n /\ -(n:Int)<=i/\i < n:=by
 unfold ixN at h;by_cases h0:0<=i
 . rw [if_pos h0] at h
   by_cases h1:i < n
   . rw [if_pos h1] at h
     have e:i.toNat=j:=yF h; exact ⟨by rw [seqIndex_of h0 h1,e],by lia,by lia,h1⟩
   . rw [if_neg h1] at h; cases h
 . rw [if_neg h0] at h
   by_cases h1 : -(n:Int)<=i
   . rw [if_pos h1] at h
     have e:(i+n).toNat=j:=yF h; exact ⟨by rw [seqIndex_neg (by lia) h1,e],by lia,h1,by lia⟩
   . rw [if_neg h1] at h; cases h
theorem Ph {α:Type} {xs:List α} {i:Int} {v:α} (h:atI xs i=some v):∃ j,seqIndex? i xs.length=some j/\xs[j]? = some v/\j < xs.length /\ -(xs.length:Int)<=i/\i < xs.length:=by
 unfold atI at h;cases e:ixN xs.length i with
 | none=>rw [e] at h; cases h
 | some j =>
   rw [e] at h; obtain ⟨h1,h2,h3,h4⟩:=qD e; exact ⟨j,h1,h,h2,h3,h4⟩
def fZ (b:Expr):Prop:=∀ o i,FZ b false o i=operate [o,i] (BO o i)
def IxR (X:Cx) (r:R2):Prop :=
 ∀ (value slice:Expr) (pins:List (wX×Obj)) (s:wO) (Z:St) (H:Hp) (x y:V) (v u:wM) (Q:VK),Inv X pins Z H s->RelV x v->RelV y u->r x y H Q ->
   FZ slice false v u=operate [v,u] (BO v u)->wpAny (xU X.prog X.w) X.A (subscriptTail value slice v u) (EP X pins Z Q) X.xe s
def MtR (X:Cx) (id:String) (r:V->List V->Hp->VK->Prop):Prop :=
 ∀ (pins:List (wX×Obj)) (s:wO) (Z:St) (H:Hp) (x:V) (xs:List V) (v:wM) (us:List wM) (Q:VK),Inv X pins Z H s->RelV x v->Vals xs us->r x xs H Q ->
   wpAny (xU X.prog X.w) X.A (call (.builtin id) (v::us)) (EP X pins Z Q) X.xe s
section
variable {X:Cx} {a b:Expr} {ta tb:TE} {pos:Pos}
theorem IxR.or {r r':R2} (h:IxR X r) (h':IxR X r'):IxR X (fun x y H Q=>r x y H Q\/r' x y H Q):=by
 intro value slice pins s Z H x y v u Q I rx ry q hs;rcases q with q | q
 . exact h value slice pins s Z H x y v u Q I rx ry q hs
 . exact h' value slice pins s Z H x y v u Q I rx ry q hs
theorem pe_ix {r:R2} (hr:IxR X r) (ha:PE X a ta) (hb:PE X b tb) (hs:fZ b):PE X (.Subscript a b pos) (tOp r ta tb):=by
 intro pins s Z H Q I h;exact Subscript_ (wC ha hb I h fun v u s2 x y H2 I2 rx ry q=>hr a b pins s2 Z H2 x y v u Q I2 rx ry q (hs _ _))
def rIxL (K:wQ):R2:=fun x y H Q=>∃ p xs i v,x=.ref p/\y=.int i/\SqL K H p xs/\atI xs i=some v/\Q v H
def rIxT (K:wQ):R2:=fun x y H Q=>∃ p xs i v,x=.ref p/\y=.int i/\SqT K H p xs/\atI xs i=some v/\Q v H
def rIxS:R2:=fun x y H Q=>∃ z i c,x=.str z/\y=.int i/\z.length<=sizeLine/\atI z.cps.toList i=some c/\Q (.str ⟨#[c]⟩) H
theorem qC:IxR X (rIxL X.K):=by
 intro value slice pins s Z H x y v u Q I rx ry h hs;obtain ⟨p,xs,i,z,rfl,rfl,hq,he,q⟩:=h;cases rx;obtain ⟨t,rfl⟩:=ry;obtain ⟨its,r,pl,hz⟩:=I.list hq;obtain ⟨j,h1,h2,h3,h4,h5⟩:=Ph he;obtain ⟨w,ew,rw'⟩:=r.get h2;have hl:=r.length;have hn:=Hi;have fin:EP X pins Z Q w s:=⟨z,H,I,rw',q⟩;by_cases h0:0<=i
 . have hj : i.toNat = j := by
     rw [seqIndex_of h0 h5] at h1; exact yF h1
   exact item_listR pl.isList h0 (by lia) (by rw [hj]; simpa using ew) fin hs
 . have hj : (i + (its.toArray.size : Int)).toNat = j := by
     rw [seqIndex_neg (by lia) h4] at h1; rw [xE,<- hl]; exact yF h1
   exact subscriptTail_builtinR (x:=w) pl.isList.typeIs FH.lookup
     (wpAny_getItem_list_neg (Q:=fun r s'=>r=w/\EP X pins Z Q r s') pl.isList (by lia) (by rw [xE] <;> lia) (by lia) (by rw [hj]; simpa using ew) ⟨rfl,fin⟩) hs
theorem vM:IxR X (rIxT X.K):=by
 intro value slice pins s Z H x y v u Q I rx ry h hs;obtain ⟨p,xs,i,z,rfl,rfl,hq,he,q⟩:=h;cases rx;obtain ⟨t,rfl⟩:=ry;obtain ⟨its,r,pl,hz⟩:=I.tuple hq;obtain ⟨j,h1,h2,h3,h4,h5⟩:=Ph he;obtain ⟨w,ew,rw'⟩:=r.get h2;have hl:=r.length;have hn:=Hi;have fin:EP X pins Z Q w s:=⟨z,H,I,rw',q⟩;exact subscriptTail_builtinR (x:=w) pl.typeIs EX.lookup
   (getItem_tuple (j:=j) (Q:=fun r s'=>r=w/\EP X pins Z Q r s') pl (by lia) (by lia) (by rw [xE,<- hl]; exact h1) (by simpa using ew) ⟨rfl,fin⟩) hs
theorem vN:IxR X rIxS:=by
 intro value slice pins s Z H x y v u Q I rx ry h hs;obtain ⟨z,i,c,rfl,rfl,hz,he,q⟩:=h;obtain ⟨t,rfl⟩:=rx;obtain ⟨t',rfl⟩:=ry;obtain ⟨j,h1,h2,h3,h4,h5⟩:=Ph he;have hl:z.cps.toList.length=z.length:=by simp [Str.length]
 rw [hl] at h1 h4 h5;have hn:=Hi;exact tail_any (typeIs_str s z t) slot_str_getitem.lookup (getItem_str (c:=c) (by
   have e1:decide (i < -(2 ^ 63:Int))=false:=decide_eq_false (by lia);have e2:decide (i≥2 ^ 63)=false:=decide_eq_false (by lia);rw [e1,e2,GB]) (by rw [h1]; simpa using h2) ⟨.str ⟨#[c]⟩,H,I.tok _,⟨_,rfl⟩,q⟩) hs
def rIx (K:wQ):R2:=fun x y H Q=>rIxL K x y H Q\/rIxT K x y H Q\/rIxS x y H Q
theorem vO:IxR X (rIx X.K):=qC.or (vM.or vN)
theorem Wt (lo hi:Option Int) (n:Nat):(BG lo hi none n).1=((HT.sIx n 0 lo:Nat):Int)/\(BG lo hi none n).2.1=((HT.sIx n n hi:Nat):Int)/\(BG lo hi none n).2.2=1:=by
 refine ⟨?_,?_,rfl⟩
 . cases lo with
   | none=>simp [BG,HT.sIx]
   | some i =>
     simp only [BG,HT.sIx,Option.getD_none,show (1:Int)>0 by decide,if_true];by_cases h:i < 0
     . simp only [h,if_true] <;> lia
     . simp only [h,if_false] <;> lia
 . cases hi with
   | none=>simp [BG,HT.sIx]
   | some i =>
     simp only [BG,HT.sIx,Option.getD_none,show (1:Int)>0 by decide,if_true];by_cases h:i < 0
     . simp only [h,if_true] <;> lia
     . simp only [h,if_false] <;> lia
theorem Im (its:List wM) (lo hi:Option Int):slicePick its.toArray lo hi none=((its.drop (HT.sIx its.length 0 lo)).take (HT.sIx its.length its.length hi - HT.sIx its.length 0 lo)).toArray:=by
 obtain ⟨h1,h2,h3⟩:=Wt lo hi its.toArray.size;unfold slicePick;rw [h1,h2,h3];simp only [sliceRange_one,pick_run,xE] <;> rfl
def rSlL (K:wQ):V->Option Int->Option Int->Hp->VK->Prop:=fun x lo hi H Q=>∃ a xs,x=.ref a/\SqL K H a xs/\∀ p,H p=none->Q (.ref p) (upd H p (.lst (iY xs lo hi)))
theorem sl_list:SlR X (rSlL X.K):=by
 intro pins s Z H x v vl vu lo hi sl Q I rx hs pl pu h;obtain ⟨a,xs,rfl,hx,q⟩:=h;cases rx;obtain ⟨its,r,ht,hz⟩:=I.list hx;have hlen:=r.length;refine ⟨"list",_,FH.lookup,ht.isList.typeIs,?_⟩;refine wpAny_getItem_list_slice ht.isList hs pl pu .none (by simp) ?_ (by rw [xE] <;> lia)
 rw [Im,<- hlen];refine ⟨.ref s.heap.objs.size,_,I.laid (t':=s.toks) (o:=.lst (iY xs lo hi)) (fun b ob q=>xG _ q) (xH _) ?_,rfl,q _ (I.hok.fresh (xH _))⟩;exact ⟨xD (Hs xs lo hi) hz,_,0,(r.drop (HT.sIx xs.length 0 lo)).take (HT.sIx xs.length xs.length hi - HT.sIx xs.length 0 lo),xN _ rfl⟩
theorem Ld:Y7 X (.type "list") (fun xs H Q=>∃ p ys,xs=[.ref p]/\(SqL X.K H p ys\/SqT X.K H p ys)/\∀ l,H l=none->Q (.ref l) (upd H l (.lst ys))):=by
 intro pins s Z H xs us Q I r h;obtain ⟨p,ys,rfl,hq,q⟩:=h;obtain ⟨u,rfl,rx⟩:=Nb r;cases rx;have fin : ∀ (its : List wM), Vals ys its -> ys.length <= sizeLine -> ∀ (h' : yW) (c' : Nat), (∀ b o', s.heap.get? b = some o' -> h'.get? b = some o') ->
     h'.get? s.heap.objs.size=some { cls:=.type "list",dict:=none,data:=.seq its.toArray c',slots := #[] }->EP X pins Z Q (.ref s.heap.objs.size) { s with heap:=h' }:=fun its r' hz h' c' kp e =>
   ⟨.ref s.heap.objs.size,_,I.laid (t':=s.toks) kp (xH _) (show ObjOk X.prog X.w _ h' _ (.lst ys) from ⟨hz,its,c',r',e⟩),rfl,q _ (I.hok.fresh (xH _))⟩
 rcases hq with hq | hq
 . obtain ⟨its,r',pl,hz⟩:=I.list hq
   have hlen:=r'.length; obtain ⟨o,ho,hc,n,hd⟩:=pl.isList; exact call_list_seq p (.inl rfl) ho hc hd (fun h' c' kp e=>fin its r' hz h' c' kp e) (by simp only [xE] <;> lia)
 . obtain ⟨its,r',pl,hz⟩:=I.tuple hq
   have hlen:=r'.length; obtain ⟨o,ho,hc,n,hd⟩:=pl; exact call_list_seq p (.inr rfl) ho hc hd (fun h' c' kp e=>fin its r' hz h' c' kp e) (by simp only [xE] <;> lia)
theorem Iy:Y7 X (.type "tuple") (fun xs H Q=>∃ p ys,xs=[.ref p]/\((SqL X.K H p ys/\∀ l,H l=none->Q (.ref l) (upd H l (.tup ys)))\/(SqT X.K H p ys/\Q (.ref p) H))):=by
 intro pins s Z H xs us Q I r h;obtain ⟨p,ys,rfl,h⟩:=h;obtain ⟨u,rfl,rx⟩:=Nb r;cases rx;rcases h with ⟨hq,q⟩ | ⟨hq,q⟩
 . obtain ⟨its,r',pl,hz⟩:=I.list hq
   have hlen:=r'.length; refine call_tuple_list pl.isList (fun h' kp=>?_) (by simp only [xE] <;> lia)
   have I1:Inv X pins Z H { s with heap:=h' }:=I.kept (t':=s.toks) kp; have I2:Inv X pins Z (upd H h'.objs.size (.tup ys)) { s with heap:=h'.push { cls:=.type "tuple",data:=.seq its.toArray } } :=
     I1.laid (t':=s.toks) (fun b o e=>xG _ e) (xH _) (show ObjOk X.prog X.w _ _ _ (.tup ys) from ⟨hz,its,r',IsTup.new _ _⟩)
   exact ⟨.ref h'.objs.size,_,I2,rfl,q _ (I1.hok.fresh (xH _))⟩
 . obtain ⟨its,r',pl,hz⟩:=I.tuple hq
   exact call_tuple_same pl ⟨.ref p,H,I,rfl,q⟩
def tyV (K:wQ) (T:String) (x:V) (H:Hp):Prop:=match x with
 | .str _=>T = "str"
 | .int _=>T = "int"
 | .ref p => (T = "list" /\ ∃ xs, SqL K H p xs) \/ (T = "tuple" /\ ∃ o, K.lookup p = some o /\ o.cls = .type "tuple" /\ o.dict = none) \/
     (T = "dict" /\ ((∃ kvs,H p=some (.dK kvs))\/∃ kvs,H p=some (.dT kvs)))\/(T = "set" /\ ∃ S n,H p=some (.set S n))
 | _=>False
theorem jK {pins:List (wX×Obj)} {Z:St} {H:Hp} {s:wO} {T:String} {x:V} {v:wM} (I:Inv X pins Z H s) (r:RelV x v) (ty:tyV X.K T x H) :
   s.TypeIs v T/\∀ a,v=.ref a->∃ ob,s.heap.get? a=some ob/\ob.dict=none:=by
 cases x with
 | str z =>
   obtain ⟨t,rfl⟩:=r;cases (show T = "str" from ty);exact ⟨typeIs_str s z t,fun _ e=>nomatch e⟩
 | int i =>
   obtain ⟨t,rfl⟩:=r;cases (show T = "int" from ty);exact ⟨typeIs_int s i t,fun _ e=>nomatch e⟩
 | ref p =>
   cases r; rcases ty with ⟨rfl,xs,hq⟩ | ⟨rfl,o,hk,hc,hd⟩ | ⟨rfl,hk⟩ | ⟨rfl,S,n,hk⟩
   . obtain ⟨its,_,pl,_⟩:=I.list hq
     refine ⟨pl.isList.typeIs,fun a e=>?_⟩;cases e; obtain ⟨o,n,e,c,hd,_⟩:=pl; exact ⟨o,e,hd⟩
   . refine ⟨⟨o,I.kIn p o hk,hc⟩,fun a e=>?_⟩
     cases e; exact ⟨o,I.kIn _ o hk,hd⟩
   . have z : ∃ o, s.heap.get? p = some o /\ o.ExactDict := by
       rcases hk with ⟨kvs,hk⟩ | ⟨kvs,hk⟩
       . obtain ⟨_,_,_,_,o,_,_,e,ex,_⟩:=I.hok p _ hk
         exact ⟨o,e,ex⟩
       . obtain ⟨_,_,_,_,o,_,_,e,ex,_⟩:=I.hok p _ hk
         exact ⟨o,e,ex⟩
     obtain ⟨o,e,ex⟩:=z; refine ⟨⟨o,e,ex.1⟩,fun a e2=>?_⟩;cases e2; exact ⟨o,e,ex.2.1⟩
   . obtain ⟨o,_,_,_,e,ex,_⟩:=I.hok p _ hk
     refine ⟨⟨o,e,ex.1⟩,fun a e2=>?_⟩;cases e2; exact ⟨o,e,ex.2.1⟩
 | _=>exact x3 ty
def tBM0 (K:wQ) (T:String) (r:V->List V->Hp->VK->Prop) (to:TE):TE:=fun Z H Q=>to Z H fun x H1=>tyV K T x H1/\r x [] H1 Q
def tBM (K:wQ) (T:String) (r:V->List V->Hp->VK->Prop) (to:TE) (t:TA):TE:=fun Z H Q=>to Z H fun x H1=>tyV K T x H1/\t Z H1 fun xs H2=>r x xs H2 Q
variable {o e:Expr} {es:List Expr} {to:TE} {t:TA} {name:Str} {apos cpos:Pos} {T id:String} {r:V->List V->Hp->VK->Prop}
theorem uE (pa:PlainAttrs T) (slot:Slot T name id) (hty:typeOf (.builtin id)=pure (.type "method_descriptor")) (hm:MtR X id r) (ho:PE X o to)
   (hbase:m4 o name X.env (eval o X.env)=eval o X.env:=by rfl) (hline:(apos.endLine==cpos.line)=true:=by rfl):PE X (.Call (.Attribute o name apos) [] [] cpos) (tBM0 X.K T r to):=by
 intro pins s Z H Q I h;refine wpAny_Call_method0_late hbase hline (thn (ho pins s Z H _ I h) fun v s1 hZ2=>?_);obtain ⟨x,H1,I1,r1,ty,q1⟩:=hZ2;obtain ⟨h1,h2⟩:=jK I1 r1 ty;exact ⟨T,id,pa,slot,hty,h1,h2,AF rfl (PySem.evalArgs_none (hm pins s1 Z H1 x [] v [] Q I1 r1 .nil q1))⟩
theorem Zy (pa:PlainAttrs T) (slot:Slot T name id) (hty:typeOf (.builtin id)=pure (.type "method_descriptor")) (hm:MtR X id r) (ho:PE X o to) (ha:PA X (e::es) t)
   (hbase:m4 o name X.env (eval o X.env)=eval o X.env:=by rfl)
   (hfew:((zP cpos (wY (e::es) X.env)).all (fun x => !x.1)&&(CW cpos (AN [] X.env)).all (fun x=>x.1.isSome)
     && decide ((e::es).length+([]:List y9).length+(if ([]:List y9).isEmpty then 0 else 1) < 30))=true:=by rfl)
   (hline:(apos.endLine==cpos.line)=true:=by rfl) (hs:wY (e::es) X.env=(false,eval e X.env)::wY es X.env:=by rfl) (hplain:(zP cpos (wY es X.env)).any (·.1)=false:=by rfl) :
   PE X (.Call (.Attribute o name apos) (e::es) [] cpos) (tBM X.K T r to t):=by
 intro pins s Z H Q I h;refine wpAny_Call_method_late hbase hfew hline rfl (thn (ho pins s Z H _ I h) fun v s1 hZ2=>?_);obtain ⟨x,H1,I1,r1,ty,q1⟩:=hZ2;obtain ⟨h1,h2⟩:=jK I1 r1 ty;refine ⟨T,id,pa,slot,hty,h1,h2,?_⟩;have hA:=ha cpos pins s1 Z H1 _ I1 q1;rw [hs] at hA ⊢;refine AF (by show (false||(zP cpos (wY es X.env)).any (·.1))=false; rw [hplain] <;> rfl) (DC ?_)
 exact thn hA fun us s2 hZ2=>by obtain ⟨vs,H2,I2,r2,q2⟩:=hZ2; exact hm pins s2 Z H2 x vs v us Q I2 r1 r2 q2
end
end L2
namespace L2
open PySem PySem.Spec PyProof.Rows
def MtM (X:Cx) (id:String) (r:V->List V->Hp->VK->Prop):Prop :=
 ∀ (pins:List (wX×Obj)) (s:wO) (Z:St) (H:Hp) (x:V) (xs:List V) (v:wM) (us:List wM) (Q:VK),Inv X pins Z H s->RelV x v->Vals xs us->r x xs H Q ->
   wpAny (xU X.prog X.w) X.A (call (.builtin id) (v::us)) (EP X pins Z Q) X.xe s
theorem Vals.zero {us:List wM} (h:Vals [] us):us=[]:=by cases h; rfl
theorem Vals.uncons {x:V} {xs:List V} {us:List wM} (h:Vals (x::xs) us):∃ u r,us=u::r/\RelV x u/\Vals xs r:=by cases h with | cons a t=>exact ⟨_,_,rfl,a,t⟩
theorem Vals.one {x:V} {us:List wM} (h:Vals [x] us):∃ u,us=[u]/\RelV x u:=by
 obtain ⟨u,r,rfl,a,t⟩:=h.uncons;exact ⟨u,by rw [t.zero],a⟩
theorem Vals.dropLast {xs:List V} {us:List wM} (h:Vals xs us):Vals xs.dropLast us.dropLast:=by
 induction h with
 | nil=>exact .nil
 | cons r t ih =>
   cases t with
   | nil=>exact .nil
   | cons q t'=>exact .cons r ih
theorem Vals.rep {xs:List V} {us:List wM} (h:Vals xs us):∀ k:Nat,Vals (xF k xs).flatten (xF k us).flatten:=by
 intro iN; induction iN with
 | zero=>skip; exact .nil
 | succ k ih =>
   skip
   rw [l3,l3,u6,u6]; exact Vals.append h (ih)
theorem dA {α:Type} (l:List α):l.eraseIdx (l.length - 1)=l.dropLast:=by
 induction l with
 | nil=>rfl
 | cons a r ih =>
   cases r with
   | nil=>rfl
   | cons b r =>
     have e:(a::b::r).length - 1=((b::r).length - 1)+1:=by
       have h1:(a::b::r).length=r.length+2:=rfl; have h2:(b::r).length=r.length+1:=rfl;lia
     rw [e,List.eraseIdx_cons_succ,ih];all_goals rfl
theorem iQ (its:List wM):∀ (k:Nat) (acc:List wM),
   ED (fun x1 x2=>x1++x2) acc.toArray (xF k its.toArray)=(acc++(xF k its).flatten).toArray:=by
 intro iN; induction iN with
 | zero=>intro acc; simp
 | succ k ih =>
   intro acc; have e:acc.toArray++its.toArray=(acc++its).toArray:=by simp
   have e2:(acc++its)++(xF k its).flatten=acc++(xF (k+1) its).flatten:=by
     rw [l3,u6,zQ]
   rw [<- e2,<- ih (acc++its),<- e,l3,List.foldl_cons]
section
variable {X:Cx} {pins:List (wX×Obj)} {Z:St} {H:Hp} {s:wO} {l:wX} {xs ys:List V}
theorem Inv.lset {its its':List wM} {n:Nat} {f:Array wM->Array wM} {t':Nat} (I:Inv X pins Z H s) (hH:H l=some (.lst xs))
   (e:s.heap.get? l=some { cls:=.type "list",data:=.seq its.toArray n }) (hf:f its.toArray=its'.toArray) (hv:Vals ys its') (hz:ys.length<=sizeLine) :
   Inv X pins Z (upd H l (.lst ys)) { s with heap:=s.heap.update l (Obj.mapSeq f),toks:=t' }:=by
 have q:=PySem.IsL.update e f;rw [hf] at q;refine I.write (x:=l) (e:=l) (by rw [hH]; exact trivial) (.inl rfl) (fun b' u hb hu=>(Heap.get?_update_other s.heap (Obj.mapSeq f) (Ne.symm hb)).trans hu) ⟨_,q⟩ ?_;exact ⟨hz,its',_,hv,q⟩
theorem Inv.lnew {its:List wM} {t':Nat} (I:Inv X pins Z H s) (hv:Vals ys its) (hz:ys.length<=sizeLine) :
   Inv X pins Z (upd H s.heap.objs.size (.lst ys)) { s with heap:=s.heap.push { cls:=.type "list",data:=.seq its.toArray },toks:=t' } :=
 I.laid (fun _ _ q=>xG _ q) (xH _) ⟨hz,its,0,hv,xN _ rfl⟩
theorem Inv.fresh (I:Inv X pins Z H s):H s.heap.objs.size=none:=I.hok.fresh (xH _)
theorem Inv.lstM (I:Inv X pins Z H s) (hH:H l=some (.lst xs)):xs.length<=sizeLine/\∃ (its:List wM) (n:Nat),Vals xs its/\xs.length=its.length/\s.heap.get? l=some { cls:=.type "list",data:=.seq its.toArray n }:=by
 obtain ⟨z,its,n,r,e⟩:=I.hok l _ hH;exact ⟨z,its,n,r,r.length,e⟩
theorem aD {n:Nat} (h:n<=sizeLine):u9 n=false:=by
 unfold u9;exact decide_eq_false (by lia)
end
section
variable {X:Cx}
def oV:V->List V->Hp->VK->Prop:=fun x vs H Q=>∃ l xs y,x=.ref l/\vs=[y]/\H l=some (.lst xs)/\xs.length < sizeLine/\Q .non (upd H l (.lst (xs++[y])))
theorem Mf:MtM X "list.append" oV:=by
 intro pins s Z H x vs v us Q I rx rv h;obtain ⟨l,xs,y,rfl,rfl,hH,hz,q⟩:=h;cases rx;obtain ⟨u,rfl,ru⟩:=rv.one;obtain ⟨z,its,n,r,hl,e⟩:=I.lstM hH;refine EZ F.slot_list_append ⟨_,e,rfl⟩ F.entry_list_append (F.args_list_append_2 _ _) (PySem.list_append l its.toArray n u (by rw [xE]; lia)) ⟨e,?_⟩;refine ⟨.non,_,I.lset (its':=its++[u]) hH e (by simp) (r.append (.cons ru .nil)) ?_,rfl,q⟩;rw [xO,AR];lia
def oT:V->List V->Hp->VK->Prop:=fun x vs H Q=>∃ l b xs zs,x=.ref l/\vs=[.ref b]/\H l=some (.lst xs)/\H b=some (.lst zs)/\xs.length+zs.length<=sizeLine/\Q .non (upd H l (.lst (xs++zs)))
theorem hE:MtM X "list.extend" oT:=by
 intro pins s Z H x vs v us Q I rx rv h;obtain ⟨l,b,xs,zs,rfl,rfl,hH,hB,hz,q⟩:=h;cases rx;obtain ⟨u,rfl,ru⟩:=rv.one;cases ru;obtain ⟨z,its,n,r,hl,e⟩:=I.lstM hH;obtain ⟨z2,its2,n2,r2,hl2,e2⟩:=I.lstM hB;have hsz:its.toArray.size+its2.toArray.size<=sizeLine:=by rw [xE,xE]; lia
 have hlong:¬ (!its.toArray.isEmpty&&u9 (its.toArray.size+its2.toArray.size))=true:=by
   rw [aD hsz,Bool.and_false]; exact c8
 refine EZ F.slot_list_extend ⟨_,e,rfl⟩ F.entry_list_extend (F.args_list_extend_2 _ _)
   (AutoSeq1.list_extend_list_list_0 l its.toArray n b its2.toArray n2 hlong (by rw [xE]; lia) (by lia)) ⟨e,e2,?_⟩
 refine ⟨.non,_,I.lset (its':=its++its2) hH e (by simp) (r.append r2) ?_,rfl,q⟩;rw [xO];lia
def rPop:V->List V->Hp->VK->Prop:=fun x vs H Q=>∃ l xs y,x=.ref l/\vs=[]/\H l=some (.lst xs)/\xs[xs.length - 1]? = some y/\Q y (upd H l (.lst xs.dropLast))
theorem uY:MtM X "list.pop" rPop:=by
 intro pins s Z H x vs v us Q I rx rv h;obtain ⟨l,xs,y,rfl,rfl,hH,hy,q⟩:=h;cases rx;have hus:=rv.zero;subst hus;obtain ⟨z,its,n,r,hl,e⟩:=I.lstM hH;obtain ⟨u,hu,ru⟩:=r.get hy;have hy':its.toArray[its.toArray.size - 1]? = some u:=by
   show its.toArray[its.length - 1]? = some u;rw [<- p7,<- hl]; exact hu
 refine EZ F.slot_list_pop ⟨_,e,rfl⟩ F.entry_list_pop (F.args_list_pop_1 _) (MeetsSeq.list_pop_last l its.toArray n u hy' (by rw [xE]; lia)) ⟨e,?_⟩;refine ⟨y,_,I.lset (its':=its.dropLast) hH e ?_ r.dropLast ?_,ru,q⟩
 . show its.toArray.eraseIdxIfInBounds (its.toArray.size - 1)=its.dropLast.toArray
   rw [xE,List.eraseIdxIfInBounds_toArray,dA]
 . rw [List.length_dropLast]
   lia
theorem fD {α:Type} (xs:List α) (k:Nat):(xF k xs).flatten.length=k*xs.length:=by
 induction k with
 | zero=>simp
 | succ k ih=>rw [l3,u6,xO,ih,Nat.succ_mul,Nat.add_comm]
end
end L2
namespace Att
open PySem PySem.W PySem.Calls PyProof.Rows
theorem Od {P:CI} {h:yW}:∀ (ns:List Int) (vs:List wM),WellAll P h vs (ns.map WData.int)->IntsAre vs ns:=by
 intro ns;induction ns with
 | nil =>
   intro vs w; rw [zF] at w; cases w; exact .nil
 | cons n ns ih =>
   intro vs w; rw [wU] at w;cases w with
   | cons a b =>
     cases a; exact .cons _ _ (ih _ b)
theorem gM {l:OpenLaw} {n:Nat} (hn:l.most=some n) {P:CI} {h:yW} {args:List WData} {vals:List wM}
   (hpre:l.row.toRowW.claim.pre args=true) (hwl:WellAll P h vals args) :
   ∃ a vs ns,vals=[zA a]/\args=[WData.list (ns.map WData.int)]/\h.get? a=some { cls:=.type "list",data:=.seq vs.toArray }/\IntsAre vs ns/\ns.length<=n:=by
 have hsh:WShape.hasAll [] args [.list .int]=true:=(pre_splitW hpre).1;have hc:l.pre.holds [] { args:=args }=true:=(pre_splitW hpre).2;obtain ⟨d,r,rfl,h1,h2⟩:=hasAllW_cons hsh;obtain rfl:=hasAllW_nil h2;obtain ⟨xs,rfl,h3⟩:=hasW_list h1;obtain ⟨ns,rfl⟩:=items_int h3;have hlen:ns.length<=n:=by
   unfold OpenLaw.pre at hc; have h4:(WTm.not (.lt (.lit (.int (n:Int))) (.len (.arg 0)))).holds [] { args:=[.list (ns.map .int)] }=true:=by
     have h4:=(holds_andW hc).1; rw [hn] at h4; exact h4
   have h5:=condW_of h4 (w_not (w_lt w_lit (w_len_list (w_arg rfl)))); rw [wT] at h5; refine Nat.le_of_not_lt fun q=>?_;have q':(n:Int) < ((ns.length:Nat):Int):=by lia
   first
     | (rw [decide_eq_true q'] at h5; exact absurd h5 (by decide))
     | (simp at h5; lia)
 cases hwl with
 | cons w1 w2 =>
   cases w2;cases w1 with
   | list ho hall=>exact ⟨_,_,ns,rfl,rfl,ho,Od ns _ hall,hlen⟩
theorem gT (l:OpenLaw) (args:List WData):l.row.toRowW.claim.post args (.bool true) args=true :=
 postW_of (r:=l.row.toRowW) (X:=(true==true))
   (show WShape.has [] (.bool true) .bool=true by first | rfl | decide | simp [WShape.has,WShape.arms,WShape.armsAll])
   (show (WTm.eq .res (.lit (.bool true))).value [] { args:=args,res:=some (.bool true),after:=args }=some (.bool (true==true)) from w_eq_bool (w_res rfl) w_lit) rfl
theorem attach_call {l:OpenLaw} {n:Nat} {q:xT} {loose:List Str} {XP:(Str->Option wM)->yW->Prop} {YP:yC->yW->Prop} {d:DefRec}
   (hn:l.most=some n) (hdf:d.params.defaults=[])
   (call:∀ (w:yC) (s₀ s₁:wO) (mg mb:Str->Option wM) (fa:wX) (o:Obj) (pm cd doc:wM) (a:wX) (vs:List wM) (ns:List Int),
     Ground q loose [] XP w s₀ mg mb s₁.heap->YP w s₁.heap ->
     s₁.heap.get? fa=some o->o.data=.func (docDef d.name d.params d.body d.scope pm cd doc)->s₁.heap.CodeRec cd d.name->mg d.name=some (.ref fa) ->
     s₁.heap.get? a=some { cls:=.type "list",data:=.seq vs.toArray }->IntsAre vs ns->ns.length<=n->s₁.gens = #[] ->
     DH (xU l.prog w) FJ (.call (.ref fa) ⟨[.ref a],[]⟩) (fun r s'=>r=.ok (.ret (.bool true))/\OldK s₁.heap s'.heap/\s'.os=s₁.os/\DL s'.gens) s₁) :
   WalkO q loose XP YP l.row.toRowW d [] (fun f vs=>PySem.call f vs):=by
 intro w s₀ s₁ mg mb G Y fa o pm cd doc dV kV ho hd hcd hD hmg hg args vals as hpre hlay hrd hwl hlo;obtain rfl:dV=.none:=Dflts.none hD hdf;obtain rfl:kV=.none:=Dflts.noKw hD;obtain ⟨a,vs,ns,rfl,rfl,hobj,hints,hlen⟩:=gM hn hpre hwl;refine enter_call (FI (call w s₀ s₁ mg mb fa o pm cd doc a vs ns G Y ho (fd_plain hd) hcd hmg hobj hints hlen hg) fun r s' hq=>?_);obtain ⟨rfl,h2,h3,h4⟩:=hq;exact ⟨.inl ⟨.bool true,.bool true,[],rfl,fun _=>rfl,.bool true,gT l _,fun _=>⟨List.Pairwise.nil,fun _ hm=>(nomatch hm)⟩⟩,h2,h3,h4⟩
end Att
namespace L2
open PySem PySem.Spec PyProof.Rows
theorem Uj:∀ {vs:List wM} {ns:List Int},IntsAre vs ns->Vals (ns.map V.int) vs
 | _,_,.nil=>.nil
 | _,_,.cons n t h=>.cons ⟨t,rfl⟩ (Uj h)
def wI (H:Hp):Prop:=∀ b,H b=none\/∃ o xs,H b=some (.frz o (.lst xs))
theorem mH {P:xT} {w:yC} {K:wQ} {mg mb:Str->Option wM} {CX:CXT} {k:Nat} {fa a:wX} {fd:AU} {x:Str} {sp:Sp} {s₁:wO} {vs:List wM} {ns:List Int}
   (KX:K.In s₁.heap) (hns:s₁.heap.Ns zK mg) (hb:s₁.heap.Ns DJ mb) (hbb:∀ x:Str,x ≠ "__name__" -> mb x=o0 x) (hlim:s₁.heap.NoLimit) (hg:s₁.gens = #[])
   (ha:s₁.heap.get? a=some { cls:=.type "list",data:=.seq vs.toArray }) (hi:IntsAre vs ns) (hl:ns.length<=sizeLine) (hr:Room k FJ)
   (F:∀ base:yW,K.In base->base.Ns zK mg->FnOk P w K mg base CX k fa fd [x] sp) (hbind:∀ (s:wO) (u:wM),BindsTo s fd ⟨[u],[]⟩ [(x,u)])
   (hsp:∀ H:Hp,wI H->SqL K H a (ns.map V.int)->sp [.ref a] H (fun v _=>v=.bl true) fun _ _ _=>False)
   (hCX:∀ H e s',CX [] H s₁ (fun _ _ _=>False) e s'->False) :
   DH (xU P w) FJ (.call (.ref fa) ⟨[.ref a],[]⟩) (fun r s'=>r=.ok (.ret (.bool true))/\OldK s₁.heap s'.heap/\s'.os=s₁.os/\DL s'.gens) s₁:=by
 have rv:=Uj hi;have lenV:=hi.length;have core : ∀ H : Hp, wI H -> SqL K H a (ns.map V.int) -> HOk P w H s₁.heap -> (∀ b, H b ≠ none -> b = a) -> (H a ≠ none -> K.lookup a = none) ->
     DH (xU P w) FJ (.call (.ref fa) ⟨[.ref a],[]⟩) (fun r s'=>r=.ok (.ret (.bool true))/\OldK s₁.heap s'.heap/\s'.os=s₁.os/\DL s'.gens) s₁:=by
   intro H hO hS hok hA hK; have base_of:∀ {b:wX} {o:Obj},s₁.heap.get? b=some o->H b=none->(Xv s₁.heap H).get? b=some o:=fun e n=>mO e n;have noA:∀ {b:wX} {o:Obj} {es:Array yU} {ep:Nat},s₁.heap.get? b=some o->o.data=.dict es ep->H b=none:=fun {b o es ep} e d=>by
     cases q:H b with
     | none=>rfl
     | some u =>
       have e':b=a:=hA b (by rw [q]; simp);subst e'; rw [ha] at e; cases e; have d':Data.seq vs.toArray _=Data.dict es ep:=d;cases d'
   have nsK:∀ {b:wX} {m:Str->Option wM},s₁.heap.Ns b m->(Xv s₁.heap H).Ns b m:=fun {b m} ⟨o,es,ep,e,d,r⟩=>⟨o,es,ep,base_of e (noA e d),d,r⟩;have hKb:K.In (Xv s₁.heap H):=fun b o e=>base_of (KX b o e) (by
     cases q:H b with
     | none=>rfl
     | some u =>
       have e':b=a:=hA b (by rw [q]; simp);subst e'; rw [hK (by rw [q]; simp)] at e; cases e)
   have hM:Mod K mg (Xv s₁.heap H):=⟨hKb,nsK hns,⟨mb,nsK hb,hbb⟩,let ⟨mc,h1,h2⟩:=hlim; ⟨mc,nsK h1,h2⟩⟩;have e0:Env0 P w K mg (Xv s₁.heap H) FJ [] s₁ H:=⟨rfl,hM,fun b o e=>pS e,Nat.le_of_eq (iP _ _),trivial,fun b hb=>absurd (show b∈([]:List wX) from hb) (by simp),hok,.of_eq hg⟩;refine FI ((F _ hKb (nsK hns)).run FJ [] s₁ H ⟨[.ref a],[]⟩ [.ref a] [.ref a] _ _ hr e0 (hbind s₁ (.ref a)) (.cons rfl .nil) (hsp H hO hS)) fun r s' h=>?_;cases r with
   | error e=>exact (hCX H e s' h).elim
   | ok fl =>
     cases fl with
     | next=>exact x3 h
     | brk=>exact x3 h
     | cont=>exact x3 h
     | ret u =>
       obtain ⟨v,H',os,bare,un,hok',r',q⟩:=h; have q':v=.bl true:=q; subst q'; obtain rfl:u=AO true:=r'; refine ⟨rfl,OldK.of_keep fun b o e=>?_,os,bare⟩;cases q:H b with
       | none=>exact un.keep b o e q (by intro z; exact absurd (show b∈([]:List wX) from z) (by simp)) (by simp)
       | some u =>
         rcases hO b with z | ⟨ob,xs,z⟩
         . rw [q] at z; cases z
         . have z2:=un.frzs b ob _ z
           obtain ⟨e1,_⟩:=hok b _ z; obtain ⟨e2,_⟩:=hok' b _ z2; rw [e] at e1; cases e1; exact e2
 cases hk:K.lookup a with
 | some o =>
   have e:=KX a o hk; rw [ha] at e; cases e; refine core (fun _=>none) (fun _=>.inl rfl) (.inr ⟨_,vs.toArray,_,hk,rfl,rfl,rfl,by rw [xE,lenV]; exact hl,by simpa using rv⟩) (fun b u z=>by have z':(none:Option HO)=some u:=z; cases z') (fun b z=>absurd rfl z) fun z=>absurd rfl z
 | none =>
   refine core (fun b=>if b=a then some (.frz { cls:=.type "list",data:=.seq vs.toArray } (.lst (ns.map V.int))) else none) (fun b=>?_) (.inl (.inr ⟨{ cls:=.type "list",data:=.seq vs.toArray },if_pos rfl⟩)) (fun b u z=>?_) (fun b z=>?_) fun _=>hk
   . by_cases hb:b=a
     . exact .inr ⟨_,_,if_pos hb⟩
     . exact .inl (if_neg hb)
   . by_cases hb:b=a
     . have z':=(if_pos hb).symm.trans z
       cases z'; subst hb; exact ⟨ha,by rw [wT]; exact hl,vs,_,rv,ha⟩
     . have z':=(if_neg hb).symm.trans z
       cases z'
   . by_cases hb:b=a
     . exact hb
     . exact absurd (if_neg hb) z
end L2
namespace L2
open PySem PySem.Spec PyProof.Rows
theorem nU {l:PySem.W.OpenLaw} {n k:Nat} {q:xT} {loose:List Str} {XP:(Str->Option wM)->yW->Prop} {YP:yC->yW->Prop} {d:DefRec} {K:CI->wQ} {CX:yC->CXT} {sp:yC->Sp} {x:Str}
   (hn:l.most=some n) (hn2:n<=sizeLine) (hdf:d.params.defaults=[]) (hr:Room k FJ)
   (hY:∀ (w:yC) (h:yW),YP w h->(K w.params).In h)
   (F:∀ (w:yC) (mg:Str->Option wM) (fa:wX) (h:yW),(K w.params).In h->h.Ns zK mg->mg d.name=some (.ref fa) ->
     ∃ fd:AU,(∀ (s:wO) (u:wM),BindsTo s fd ⟨[u],[]⟩ [(x,u)]) /\
       ∀ base:yW,(K w.params).In base->base.Ns zK mg->FnOk l.prog w (K w.params) mg base (CX w) k fa fd [x] (sp w))
   (hsp:∀ (w:yC) (H:Hp) (a:wX) (ns:List Int),ns.length<=n->wI H->SqL (K w.params) H a (ns.map V.int)->sp w [.ref a] H (fun v _=>v=.bl true) fun _ _ _=>False)
   (hCX:∀ (w:yC) (H:Hp) (s:wO) (e:wM) (s':wO),CX w [] H s (fun _ _ _=>False) e s'->False) :
   PySem.W.WalkO q loose XP YP l.row.toRowW d [] (fun f vs=>PySem.call f vs):=by
 refine Att.attach_call hn hdf fun w s₀ s₁ mg mb fa o pm cd doc a vs ns G Y ho hd hcd hmg hobj hints hlen hg=>?_;have KX:=hY w _ Y;obtain ⟨fd,hb,hF⟩:=F w mg fa _ KX G.T.g hmg;exact mH KX G.T.g G.T.b G.T.builtins G.T.nolimit hg hobj hints (xD hlen hn2) hr hF hb (fun H hO hS=>hsp w H a ns hlen hO hS) fun H e s'=>hCX w H s₁ e s'
end L2
namespace L2
open PySem PySem.Spec PyProof.Rows
def inClass (s:n0) (j:Nat):n0:=match s with
 | .ClassDef _ _ _ body _ _ _ _ _ _ _=>body.getD j (.Pass ⟨0,0,0,0⟩)
 | _=>.Pass ⟨0,0,0,0⟩
abbrev CX0:CXT:=fun _ _ _ _ _ _=>False
abbrev E0:XK:=fun _ _ _=>False
theorem eT {X:Cx}:eA CX0 X E0:=fun _ _ _ _ _ _ _ h=>h.elim
structure Fun (K:wQ) (x qual:Str) (st:n0) (f:wX) (fd:AU):Prop where
 ex:∃ (oc:wM) (od:Option wX) (kV doc pm:wM) (an:Option wX) (cdv ct:wM) (osl:Array (Option wM)),
   fd=yY x qual (O2 st) (B9 st) (A7 st) .none kV doc pm an cdv ct/\K.lookup f=some ⟨oc,od,.func fd,osl⟩/\l6 K cdv qual=true
 kp:zR K (.ref f)=true
section
variable {P:xT} {w:yC} {K:wQ} {mg:Str->Option wM} {base:yW}
theorem Fun.ok {x qual:Str} {st:n0} {f:wX} {fd:AU} {N ps:List Str} {k:Nat} {sp:Sp} (F:Fun K x qual st f fd) (S:FnScope N ps (A7 st)) (len:∀ vs H Q E,sp vs H Q E->vs.length=ps.length)
   (hbody:∀ (cdv:wM) (A:yZ) (outer:List Env) (s:wO) (H:Hp) (vs:List V) (Q:VK) (E:XK),Room k (A.deeper (EY qual (A7 st) s.heap.objs.size f cdv))->sp vs H Q E ->
     ∃ t,PSs (iX CX0 P w K mg base N qual (A7 st) f cdv A outer s H E).nox (B9 st) t/\t { nx:=fun _ H'=>Q .non H',rt:=Q } (Dh N vs) H):FnOk P w K mg base CX0 (k+1) f fd ps sp:=by
 obtain ⟨oc,od,kV,doc,pm,an,cdv,ct,osl,rfl,lk,hcd⟩:=F.ex;refine fn_of lk hcd S len fun A outer s H vs Q E hr hsp=>?_;obtain ⟨t,h,q⟩:=hbody cdv A outer s H vs Q E hr hsp;exact ⟨t,h.nox,q⟩
theorem Fun.binds {x qual:Str} {st:n0} {f:wX} {fd:AU} {ps:List Str} (F:Fun K x qual st f fd)
   (h:∀ (kV doc pm:wM) (an:Option wX) (cdv ct:wM) (us:List wM),us.length=ps.length->CT (yY x qual (O2 st) (B9 st) (A7 st) .none kV doc pm an cdv ct) ⟨us,[]⟩=pure (ps.zip us)):Binds K fd ps []:=by
 obtain ⟨oc,od,kV,doc,pm,an,cdv,ct,osl,rfl,lk,hcd⟩:=F.ex;exact .all (h kV doc pm an cdv ct)
theorem mQ {x qual:Str} {st:n0} {f:wX} {oc:wM} {od an:Option wX} {osl:Array (Option wM)} {kV doc pm cdv ct:wM} (l:K.lookup f=some ⟨oc,od,.func (yY x qual (O2 st) (B9 st) (A7 st) .none kV doc pm an cdv ct),osl⟩)
   (c:l6 K cdv qual=true) (k:zR K (.ref f)=true):Fun K x qual st f (yY x qual (O2 st) (B9 st) (A7 st) .none kV doc pm an cdv ct):=⟨⟨oc,od,kV,doc,pm,an,cdv,ct,osl,rfl,l,c⟩,k⟩
end
def Same (H H':Hp):Prop:=∀ b o,H b=some o->H' b=some o
theorem Same.refl (H:Hp):Same H H:=fun _ _ h=>h
theorem Same.trans {H H1 H2:Hp} (a:Same H H1) (b:Same H1 H2):Same H H2:=fun c o h=>b c o (a c o h)
theorem Same.free {H H':Hp} (e:Same H H') {l:wX} (h:H' l=Option.none):H l=Option.none:=by
 cases q:H l with
 | none=>rfl
 | some o =>
   rw [e l o q] at h; cases h
end L2
section
namespace Sm
open PySem PySem.Spec PyProof.Rows L2
abbrev St:=L2.St
section
variable {prog:xT} {w:yC} {A:yZ} {R:Result->wO->Prop} {s:wO}
theorem Ye {elt target iter:Expr} {ifs:List Expr} {scope:Scope} {pos:Pos} {it acc:wM} {env:Env} (I:Nat->wO->Prop)
   (turn:∀ n s,I n s->wpAny (xU prog w) A (BV it) (fun r s₁=>match r with
     | none=>R (.ok .next) s₁
     | some v => wpAny (xU prog w) A (DP target it v) (fun _ s₁' => wpAny (xU prog w) A (assign target env v) (fun _ s₂ =>
         wpAny (xU prog w) A (forIn ifs true fun c r=>if r=true then do let ok <- isTrue c env (eval c env); pure (l8 ok) else pure (l8 r)) (fun ok s₃ =>
           if ok=true then wpAny (xU prog w) A (eval elt env) (fun x s₄ =>
             wpAny (xU prog w) A (call (.builtin "list.append") [acc,x]) (fun _ s₅=>∃ m,m < n/\I m s₅) (fun _ _=>False) s₄) (fun _ _=>False) s₃
           else ∃ m,m < n/\I m s₃) (fun _ _=>False) s₂) (fun _ _=>False) s₁') (fun _ _=>False) s₁) (fun _ _=>False) s)
   (n:Nat) (h:I n s):DH (xU prog w) A (.compLoop (.ListComp elt [⟨target,iter,ifs,0⟩] scope pos) 0 it acc env) R s:=by
 refine codeAny_loop rfl I (fun n s hI=>?_) n h;show wpAny _ A ((compTurn (.ListComp elt [⟨target,iter,ifs,0⟩] scope pos) 0 it acc env).onRaise (fun x=>do noteFrame x env; theTreesLotGoes x)) _ _ s;refine wpAny_noted ?_;rw [compTurn_list];refine wL (wpAny_standAt (wL (zU (turn n s hI) (fun r s₁ h₁=>?_) fun _ _ h'=>h'.elim)));cases r with
 | none=>exact wN h₁
 | some v =>
   refine wL (zU h₁ (fun _ s₁' h₁'=>?_) fun _ _ h'=>h'.elim);refine wL (zU h₁' (fun _ s₂ h₂=>wL (zU h₂ (fun ok s₃ h₃=>?_) fun _ _ h'=>h'.elim)) fun _ _ h'=>h'.elim);cases ok with
   | false=>exact wN ⟨rfl,h₃⟩
   | true =>
     exact wL (wL (zU h₃ (fun x s₄ h₄=>wL (zU h₄ (fun _ s₅ h₅=>wN (wN ⟨rfl,h₅⟩)) fun _ _ h'=>h'.elim)) fun _ _ h'=>h'.elim))
end
def bL (X:Cx) (s₃:wO) (H₃:Hp) (scope:Scope) (cl:List (Str×wX)) (N':List Str) (fp:List wX):Cx :=
 { X with N:=N',s₀:=s₃,H₀:=H₃,env:=compEnvC scope cl s₃.heap.objs.size X.env,outer:=X.stack,stack:=X.stack,ex:=fp,fn:=fun _=>false,pn:=[],xe:=fun _ _=>False }
structure Blk (X X':Cx) (N':List Str) (sc':Scope):Prop where
 prog:X'.prog=X.prog
 w:X'.w=X.w
 K:X'.K=X.K
 mg:X'.mg=X.mg
 base:X'.base=X.base
 A:X'.A=X.A
 calm:X'.calm=X.calm
 N:X'.N=N'
 sc:X'.env.scope=sc'
 xe:X'.xe=fun _ _=>False
structure Clos (X:Cx) (scope:Scope) (cl:List (Str×wX)):Prop where
 clo:closureFor scope X.env=pure cl
 sub:∀ x c,cl.lookup x=some c->X.env.cells.lookup x=some c
 has:∀ x,(l4 scope X.env).names.lookup x=some .cell\/(l4 scope X.env).names.lookup x=some .free->∃ c,cl.lookup x=some c
section
variable {X:Cx} {pins:List (wX×Obj)} {Z:St} {H:Hp} {s₃:wO}
theorem wB {scope:Scope} {cl:List (Str×wX)} {N':List Str} {fp:List wX} (I:Inv X pins Z H s₃) (hk:scope.kind=.function) (C:Clos X scope cl) (hfp:∀ b∈fp,So X pins H b) (hlt:∀ b∈fp,b < s₃.heap.objs.size) :
   (bL X s₃ H scope cl N' fp).Ok where
 mod:=I.ok.mod
 kind:=hk
 glob:=I.ok.glob
 blt:=I.ok.blt
 above:=xH _
 inj:=fun x y c h1 h2=>I.ok.inj x y c (C.sub x c h1) (C.sub y c h2)
 has:=fun x h=>C.has x h
 cab:=fun x c h=>nomatch h
 hd:=I.ok.hd
 frames:=I.ok.frames
 stk:=.inl rfl
 exf:=fun b hb=>⟨yE (hlt b hb),fun x c h=>(hfp b hb).2.2.2.2.1 x c (C.sub x c h)⟩
 bs:=fun b o e=>I.bs b o e
 bsz:=xD I.ok.bsz I.sz
 noex:=fun b o e hb=>by
   rcases (hfp b hb).2.2.2.1 with z | z
   . exact I.ok.noex b o e z
   . exact absurd (xZ (xL e) (xD I.ok.bsz z)) (n4 _)
 exfs:=fun b hb z=>by
   rcases wR.mp (I.stkSub b z) with q | q
   . exact (hfp b hb).2.1 q
   . exact (hfp b hb).2.2.1 q
 funs:=I.stack
 frf:=I.stkFree
def Gs (Z:St) (cap:List Nat):St:=cap.map fun j=>Z[j]?.join
theorem rM {scope:Scope} {cl:List (Str×wX)} {xs:List Str} {cap:List Nat} {capN:List Str} {fp:List wX} {h₁:yW} {tk:Nat} (I:Inv X pins Z H s₃) (hk:scope.kind=.function) (C:Clos X scope cl) (hfp:∀ b∈fp,So X pins H b) (hlt:∀ b∈fp,b < s₃.heap.objs.size)
   (hcap:cap.map (fun j=>X.N[j]?)=capN.map some) (hcl:∀ x∈capN,(l4 scope X.env).names.lookup x=some .cell\/(l4 scope X.env).names.lookup x=some .free)
   (hvis:∀ x∈capN,X.env.scope.names.lookup x=some .cell\/X.env.scope.names.lookup x=some .free) {m:Str->Option wM}
   (hns:h₁.Ns s₃.heap.objs.size m) (old:∀ b o,s₃.heap.get? b=some o->h₁.get? b=some o) :
   Inv (bL X s₃ H scope cl (xs++capN) fp) [] (xs.map (fun _=>none)++Gs Z cap) H { s₃ with heap:=h₁,toks:=tk }:=by
 have hlen:cap.length=capN.length:=by simpa using congrArg AX hcap
 refine ⟨wB I hk C hfp hlt,rfl,I.bare,Un.kept old,⟨m,hns,fun i x v e1 e2 e3=>?_⟩,fun x c e=>?_,I.hok.fresh (xH _),fun x c e=>I.freeC x c (C.sub x c e),fun p hp=>absurd (show p∈([]:List (wX×Obj)) from hp) (by simp),I.hok.kept old,?_⟩
 . have e1':(xs++capN)[i]? = some x:=e1
   by_cases hi:i < xs.length
   . rw [yG (by simpa using hi),xS] at e2
     cases q:xs[i]? with
     | none=>rw [q] at e2; cases e2
     | some z=>rw [q] at e2; cases e2
   . rw [yL (by simpa using hi)] at e2
     rw [yL (by lia)] at e1'; rw [wT] at e2;generalize i - xs.length=j at e1' e2;unfold Gs at e2; rw [xS] at e2; have hc:(cap.map (fun j=>X.N[j]?))[j]? = some (some x):=by rw [hcap,xS,e1']; rfl
     rw [xS] at hc;cases q:cap[j]? with
     | none=>rw [q] at e2; cases e2
     | some k =>
       rw [q] at e2 hc; simp only [AW] at e2 hc; have hc':X.N[k]? = some x:=yF hc; have hs:Z[k]? = some (some v):=by
         cases z:Z[k]? with
         | none=>rw [z] at e2; cases e2
         | some z'=>rw [z] at e2; cases z' with
           | none=>cases e2
           | some z''=>cases e2; rfl
       have hx:x∈capN:=e8 e1'; obtain ⟨m',hm',hl'⟩:=I.loc; obtain ⟨u,r,l⟩:=hl' k x v hc' hs (by rcases hvis x hx with z | z; exact .inr (.inl z); exact .inr (.inr z));refine ⟨u,r,.inr ⟨hcl x hx,?_⟩⟩; obtain ⟨c,hcc⟩:=C.has x (hcl x hx); refine ⟨c,hcc,?_⟩; rcases l with ⟨z,_⟩ | ⟨_,c',e',z⟩
       . have z':X.env.scope.names.lookup x=some .local:=z
         rcases hvis x hx with y | y <;> (rw [z'] at y; cases y)
       . rw [C.sub x c hcc] at e'; cases e'
         obtain ⟨o,ho,hd⟩:=z; exact ⟨o,old _ _ ho,hd⟩
 . obtain ⟨v,o,ho,hd⟩:=I.cell x c (C.sub x c e)
   exact ⟨v,o,old _ _ ho,hd⟩
 . show (xs.map (fun _=>none)++Gs Z cap).length=(xs++capN).length
   unfold Gs; rw [xO,xO,wT,wT,hlen]
end
def Wk (Z1 Z2:St):Prop:=Z1.length=Z2.length/\∀ (i:Nat) v,Z1[i]? = some (some v)->Z2[i]? = some (some v)
def eB (wi:TI) (Zb:St->St) (g:TG) (tt:TT) (te:TE):TE:=fun Z H Q=>wi Z H fun J H1=>∀ D,H1 D=none->∃ W:Nat->Nat->Hp->Prop,(∃ m,W 0 m (upd H1 D (.lst [])))/\∀ i m H,W i m H ->
 (J.stop i H/\Q (.ref D) H)\/(J.go i H/\∃ N:Hp->Prop,(∀ H',N H'->∃ m',m' < m/\W (i+1) m' H')/\∀ x H',J.yld i H x H'->g x (Zb Z) H' fun Z2 H2=>Wk (Zb Z) Z2/\tt Z2 H2 fun b H3 =>
   if b=true then te Z2 H3 fun y H4=>∃ acc,H4 D=some (.lst acc)/\acc.length < sizeLine/\N (upd H4 D (.lst (acc++[y]))) else N H3)
def PTs (X:Cx) (ifs:List Expr) (t:TT):Prop :=
 ∀ (pins:List (wX×Obj)) (s:wO) (Z:St) (H:Hp) (Q:Bool->Hp->Prop),Inv X pins Z H s->t Z H Q ->
   wpAny (xU X.prog X.w) X.A (forIn ifs true fun c r=>if r=true then do let ok <- isTrue c X.env (eval c X.env); pure (l8 ok) else pure (l8 r)) (TP X pins Z Q) X.xe s
theorem pA {X:Cx}:PTs X [] (fun _ H Q=>Q true H):=fun _ _ _ H _ I h=>wpAny_tests_nil ⟨H,I,h⟩
theorem oZ {X:Cx} {c:Expr} {t:TT} (h:PT X c t):PTs X [c] t:=fun pins s Z H Q I q=>wpAny_tests_one (h pins s Z H Q I q)
structure CompFacts (X:Cx) (scope:Scope) (xs capN:List Str) (cap:List Nat):Prop where
 kind:scope.kind=.function
 nocell:∀ y∈scope.names,y.2≠.cell
 names:∀ y∈scope.names,y.2=.local->scope.names.lookup y.1=some .local
 clos:∃ cl,Clos X scope cl
 hcap:cap.map (fun j=>X.N[j]?)=capN.map some
 hcl:∀ x∈capN,(l4 scope X.env).names.lookup x=some .cell\/(l4 scope X.env).names.lookup x=some .free
 hvis:∀ x∈capN,X.env.scope.names.lookup x=some .cell\/X.env.scope.names.lookup x=some .free
section
variable {X:Cx} {tg elt iter:Expr} {ifs:List Expr} {scope:Scope} {pos:Pos} {wi:TI} {g:TG} {tt:TT} {te:TE} {xs capN:List Str} {cap:List Nat}
theorem bC {use:Option (wM->Sem Unit)} {Q:wM->wO->Prop} {QQ:VK} (hc:X.calm=true) (F:CompFacts X scope xs capN cap) (hi:PI X tg iter wi)
   (hg:∀ X',Blk X X' (xs++capN) (l4 scope X.env)->PG X' tg g) (ht:∀ X',Blk X X' (xs++capN) (l4 scope X.env)->PTs X' ifs tt) (he:∀ X',Blk X X' (xs++capN) (l4 scope X.env)->PE X' elt te)
   (hs:∀ x,zS iter X.env x=pure x)
   {pins:List (wX×Obj)} {s:wO} {Z:St} {H:Hp} (I:Inv X pins Z H s) (h:eB wi (fun Z=>xs.map (fun _=>none)++Gs Z cap) g tt te Z H QQ) {ps:Pos}
   (fin:∀ (s':wO) (H':Hp) (D C:wX) (m:Str->Option wM),Inv X pins Z H' s'->s'.heap.Ns C m->(H' C=none/\X.s₀.heap.objs.size<=C/\C≠X.env.locals/\(∀ x c,X.env.cells.lookup x=some c->c≠C)/\∀ p∈X.pn++pins,p.1≠C) ->
     QQ (.ref D) H'->compPost (xU X.prog X.w) X.A X.xe use Q (.ref D) C (.ok .next) s') :
   wpAny (xU X.prog X.w) X.A (comprehension (.ListComp elt [⟨tg,iter,ifs,0⟩] scope pos) scope X.env ps (newList []) false (eval iter X.env) use) Q X.xe s:=by
 obtain ⟨cl,C⟩:=F.clos;refine wpAny_comprehension_free rfl hs C.clo F.kind F.names (thn (hi pins s Z H _ I h) fun v s1 h1=>thn h1 fun itv s2 h2=>?_);obtain ⟨it,fp,tn,J,H2,e,I2,T,st2,f2,h3⟩:=h2;subst e;refine zL ?_;obtain ⟨W,⟨m0,w0⟩,turn⟩:=h3 s2.heap.objs.size I2.fresh;have I3:Inv X pins Z (upd H2 s2.heap.objs.size (.lst [])) { s2 with heap:=s2.heap.push { cls:=.type "list",dict:=none,data:=.seq ([]:List wM).toArray } }:=I2.lnew (t':=s2.toks) .nil (l7 _);generalize hH3:upd H2 s2.heap.objs.size (HO.lst [])=H3 at I3 w0;generalize hs3:({ s2 with heap:=s2.heap.push { cls:=.type "list",dict:=none,data:=.seq ([]:List wM).toArray } }:wO)=s3 at I3
 have hD3:H3 s2.heap.objs.size=some (.lst []):=by rw [<- hH3]; exact D3
 have kp3:∀ b o,s2.heap.get? b=some o->s3.heap.get? b=some o:=fun b o e=>by rw [<- hs3]; exact xG _ e
 have hDlt:s2.heap.objs.size < s3.heap.objs.size:=by rw [<- hs3]; show _ < (s2.heap.push _).objs.size; rw [Heap.size_push]; exact FC _
 have flt:∀ b∈fp,b < s2.heap.objs.size:=fun b hb=>by
   obtain ⟨o,e,_⟩:=T.obj 0 _ st2 b hb; exact xL e
 have flt3:∀ b∈fp,b < s3.heap.objs.size:=fun b hb=>Nat.lt_trans (flt b hb) hDlt;have f3:∀ b∈fp,So X pins H3 b:=fun b hb=>⟨by rw [<- hH3,C8 (yE (flt b hb))]; exact (f2 b hb).1,(f2 b hb).2⟩;have st3:tn 0 s3.heap:=T.keep 0 _ _ st2 fun b hb o e=>kp3 b o e;show wpAny _ _ (newFunctionEnv scope X.env.globals cl [] X.env.qual none .none (some X.env)) _ _ s3;refine wpAny_newFunctionEnv F.nocell (by intro y hy; simp at hy) (fun h₁ hns₁ hsb₁=>?_) F.kind;have old:∀ b o,s3.heap.get? b=some o->h₁.get? b=some o:=fun b o e=>hsb₁.extBut b o (yE (xL e)) (xG _ e);have B:Blk X (bL X s3 H3 scope cl (xs++capN) fp) (xs++capN) (l4 scope X.env):=⟨rfl,rfl,rfl,rfl,rfl,rfl,rfl,rfl,rfl,rfl⟩
 have J0:Inv (bL X s3 H3 scope cl (xs++capN) fp) [] (xs.map (fun _=>none)++Gs Z cap) H3 { s3 with heap:=h₁,toks:=s3.toks+([]:List (Str×wM)).length } :=
   rM I3 F.kind C f3 flt3 F.hcap F.hcl F.hvis hns₁ old
 have st4:tn 0 h₁:=T.keep 0 _ _ st3 fun b hb o e=>old b o e;have hg':=hg _ B;have ht':=ht _ B;have he':=he _ B;generalize hX':bL X s3 H3 scope cl (xs++capN) fp=X' at B J0 hg' ht' he';have hex:X'.ex=fp:=by rw [<- hX']; rfl
 have hloc:X'.env.locals=s3.heap.objs.size:=by rw [<- hX']; rfl
 have henv:X'.env=compEnvC scope cl s3.heap.objs.size X.env:=by rw [<- hX']; rfl
 have hpn:X'.pn=[]:=by rw [<- hX']; rfl
 have hxe:X'.xe=fun _ _=>False:=by rw [<- hX']; rfl
 have hH0:X'.H₀=H3:=by rw [<- hX']; rfl
 have hs0:X'.s₀=s3:=by rw [<- hX']; rfl
 have hfs:X'.fs=frs X.stack:=by rw [<- hX']; rfl
 have hP:X'.prog=X.prog:=B.prog;have hw:X'.w=X.w:=B.w;have hA:X'.A=X.A:=B.A;have nfs:∀ b∈fp,b∉X'.fs:=fun b hb z=>J0.ok.exfs b (by rw [hex]; exact hb) z;have stat:∀ {pn':List (wX×Obj)} {H':Hp},(∀ b∈fp,H' b=none)->(∀ p∈pn',p.1∉fp)->∀ b∈fp,So X' pn' H' b:=fun {pn' H'} hn hp b hb =>
   ⟨hn b hb,by rw [hloc]; exact yE (flt3 b hb),nfs b hb,.inl (by rw [hex]; exact hb),fun x c e=>(J0.ok.exf b (by rw [hex]; exact hb)).2 x c e,fun p hp' z=>by
     rw [hpn,xP] at hp'; exact hp p hp' (z▸hb)⟩
 have loop : ∀ s₀' : wO, Inv X' [] (xs.map (fun _ => none) ++ Gs Z cap) H3 s₀' -> tn 0 s₀'.heap ->
     DH (xU X.prog X.w) X.A (.compLoop (.ListComp elt [⟨tg,iter,ifs,0⟩] scope pos) 0 (.ref it) (.ref s2.heap.objs.size) X'.env) (compPost (xU X.prog X.w) X.A X.xe use Q (.ref s2.heap.objs.size) s3.heap.objs.size) s₀':=by
   intro s₀' J1 st5; refine Ye (fun n s'=>∃ i H',Inv X' [] (xs.map (fun _=>none)++Gs Z cap) H' s'/\tn i s'.heap/\(∀ b∈fp,H' b=none)/\W i n H') ?_ m0 ⟨0,H3,J1,st5,fun b hb=>(f3 b hb).1,w0⟩;rintro n s4 ⟨i,H4,J4,st4,fr4,w4⟩;rcases turn i n H4 w4 with ⟨stop,qn⟩ | ⟨go,N,hN,step⟩
   . have hd:=T.done X' B.prog B.w B.K (B.calm.trans hc) i [] s4 _ H4 (fun _ _=>False) J4 (stat fr4 (by simp)) st4 stop
     rw [hA] at hd; refine thn hd fun r s5 hZ2=>?_;obtain ⟨hr,J5⟩:=hZ2; subst hr; have un:Un (frs X.stack) fp H3 H4 s3.heap s5.heap:=by
       have:=J5.base; rw [hfs,hex,hH0,hs0] at this; exact this
     have ho:s5.os=s3.os:=by rw [J5.os,hs0]
     have hok5:HOk X.prog X.w H4 s5.heap:=by have:=J5.hok; rw [hP,hw] at this; exact this
     have I5:Inv X pins Z H4 s5:=I3.call' ho un hok5 J5.bare fun b hb=>⟨(f3 b hb).2.2.2.1,(f3 b hb).2.1,(f3 b hb).2.2.2.2.1,(f3 b hb).2.2.2.2.2⟩;obtain ⟨m5,hm5,_⟩:=J5.loc; rw [hloc] at hm5; refine fin s5 H4 _ s3.heap.objs.size m5 I5 hm5 ⟨by have:=J5.free; rw [hloc] at this; exact this,I3.sz,BH I3.lt,fun x c e z=>?_,fun p hp z=>?_⟩ qn
     . obtain ⟨v,q⟩:=I3.cell x c e
       exact absurd q.lt (by rw [z]; exact n4 _)
     . exact absurd (xL (I3.pin p hp).1) (by rw [z]; exact n4 _)
   . have hd:=T.item X' B.prog B.w B.K (B.calm.trans hc) i [] s4 _ H4 (fun _ _=>False) J4 (stat fr4 (by simp)) st4 go
     rw [hA] at hd; refine thn hd fun r s5 hZ2=>?_;obtain ⟨u,hr,h5⟩:=hZ2; subst hr; refine thn h5 fun _ s6 hZ2=>?_;obtain ⟨x,H6,J6,r6,y6,st6,fr6⟩:=hZ2; have J6':=J6.pinned (stat fr6 (by simp)) (T.obj _ _ st6);rw [xP] at J6'; have hgx:=hg' _ s6 _ H6 x u _ J6' r6 (step x H6 y6); rw [hP,hw,hA,hxe] at hgx; refine thn hgx fun _ s7 hZ2=>?_;obtain ⟨Z7,H7,J7,wk7,q7⟩:=hZ2; have htx:=ht' _ s7 Z7 H7 _ J7 q7; rw [hP,hw,hA,hxe] at htx; refine thn htx fun ok s8 hZ2=>?_;obtain ⟨H8,J8,q8⟩:=hZ2; have again:∀ {H9:Hp} {s9:wO},Inv X' (Qv fp s6.heap) Z7 H9 s9->N H9->(∃ m,m < n/\∃ i H',Inv X' [] (xs.map (fun _=>none)++Gs Z cap) H' s9/\tn i s9.heap/\(∀ b∈fp,H' b=none)/\W i m H'):=fun {H9 s9} J9 n9=>by
       obtain ⟨m',hm,w9⟩:=hN H9 n9; have pin9:∀ b∈fp,∀ o,s6.heap.get? b=some o->s9.heap.get? b=some o/\H9 b=none:=fun b hb o e=>by
         have:=J9.pin (b,o) (zD _ (Jl hb e)); exact ⟨this.1,this.2.1⟩
       refine ⟨m',hm,i+1,H9,(J9.weak wk7.1 wk7.2).pins_of (fun p hp=>nomatch hp),T.keep _ _ _ st6 fun b hb o e=>(pin9 b hb o e).1,fun b hb=>?_,w9⟩;obtain ⟨o,e,d⟩:=T.obj _ _ st6 b hb; exact (pin9 b hb o e).2
     cases ok with
     | false =>
       rw [if_neg (by decide)] at q8 ⊢;exact again J8 q8
     | true =>
       rw [if_pos rfl] at q8 ⊢;have hex:=he' _ s8 Z7 H8 _ J8 q8; rw [hP,hw,hA,hxe] at hex; refine thn hex fun y s9 hZ2=>?_;obtain ⟨x9,H9,J9,r9,acc,ha,hz,n9⟩:=hZ2; have hap:=Mf (X:=X') _ s9 Z7 H9 (.ref s2.heap.objs.size) [x9] (.ref s2.heap.objs.size) [y] (fun _ H'=>N H') J9 rfl (.cons r9 .nil) ⟨_,acc,x9,rfl,rfl,ha,hz,n9⟩;rw [hP,hw,hA,hxe] at hap; exact thn hap fun _ s10 hZ2=>by obtain ⟨_,H10,J10,_,n10⟩:=hZ2; exact again J10 n10
 have e0:({ (newEnv scope s3.heap.objs.size X.env.globals cl X.env.qual none .none (some X.env) DJ:Env) with scope:=l4 scope X.env }:Env)=X'.env:=by rw [henv]; rfl
 have e1:(newEnv scope s3.heap.objs.size X.env.globals cl X.env.qual none .none (some X.env) DJ:Env).locals=s3.heap.objs.size:=rfl;show DH _ _ (.compStart _ 0 (.ref it) (.ref s2.heap.objs.size) ({ (newEnv scope s3.heap.objs.size X.env.globals cl X.env.qual none .none (some X.env) DJ:Env) with scope:=l4 scope X.env }:Env)) (compPost _ _ _ _ _ _ s3.heap.objs.size) _;rw [e0];exact codeAny_compStart_list (loop _ J0 st4) (T.self _ 0 _ _ _ st4 (loop _ J0 st4))
theorem eS (hc:X.calm=true) (F:X.Ok->CompFacts X scope xs capN cap) (hi:PI X tg iter wi)
   (hg:∀ X',Blk X X' (xs++capN) (l4 scope X.env)->PG X' tg g) (ht:∀ X',Blk X X' (xs++capN) (l4 scope X.env)->PTs X' ifs tt) (he:∀ X',Blk X X' (xs++capN) (l4 scope X.env)->PE X' elt te)
   (hs:∀ x,zS iter X.env x=pure x:=by intro _; rfl):PE X (.ListComp elt [⟨tg,iter,ifs,0⟩] scope pos) (eB wi (fun Z=>xs.map (fun _=>none)++Gs Z cap) g tt te):=by
 intro pins s Z H Q I h;rw [eval_ListComp];refine bC (use:=none) hc (F I.ok) hi hg ht he hs I h fun s' H' D C m I' hm hZ7 q=>?_;obtain ⟨c1,c2,c3,c4,c5⟩:=hZ7;refine ⟨m,hm,fun h' sb=>?_⟩;exact ⟨.ref D,H',I'.turned (t':=s'.toks) (fun b o hb e=>(sb.2 b hb).trans e) c1 c3 (.inr c2) c4 c5,rfl,q⟩
theorem Qu {i:Nat} {y:Str} {py spos:Pos} (hc:X.calm=true) (F:X.Ok->CompFacts X scope xs capN cap) (hi:PI X tg iter wi)
   (hg:∀ X',Blk X X' (xs++capN) (l4 scope X.env)->PG X' tg g) (ht:∀ X',Blk X X' (xs++capN) (l4 scope X.env)->PTs X' ifs tt) (he:∀ X',Blk X X' (xs++capN) (l4 scope X.env)->PE X' elt te)
   (hN:X.N.Nodup) (hy:X.N[i]? = some y) (hl:X.env.scope.names.lookup y=some .local) (hsw:j3 (.ListComp elt [⟨tg,iter,ifs,0⟩] scope pos) (some (.Name y py)) spos.line X.env=pure true)
   (hs:∀ x,zS iter X.env x=pure x:=by intro _; rfl):PS X (.Assign [.Name y py] (.ListComp elt [⟨tg,iter,ifs,0⟩] scope pos) spos) (tAsg (eB wi (fun Z=>xs.map (fun _=>none)++Gs Z cap) g tt te) (Aw i)):=by
 intro pins s Z H D0 I h;rw [exec_Assign_Name_used _ _ _ _ hsw];refine wL (wpAny_standAt (wL ?_));show wpAny _ _ (do let _ <- comprehension (.ListComp elt [⟨tg,iter,ifs,0⟩] scope pos) scope X.env _ (newList []) false (eval iter X.env) (some (assign (.Name y py) X.env))) _ _ s;refine wL (zU (bC (use:=some (assign (.Name y py) X.env)) (Q:=fun _ s'=>SP X pins D0 .next s') hc (F I.ok) hi hg ht he hs I h fun s' H' D C m I' hm hY33 q=>?_) (fun _ s' hq=>wN (wN hq)) fun _ _ e=>e);obtain ⟨c1,c2,c3,c4,c5⟩:=hY33;show wpAny _ _ (assign (.Name y py) X.env (.ref D)) _ _ s'
 refine wpAny_assign_Name (Up I' hN hy (.inl hl) (v:=.ref D) rfl (fun s'' I'' hY34=>?_) (.inr hl));obtain ⟨a,sa,ea⟩:=hY34;have haC:a≠C:=by
   rcases ea with z | z
   . rw [z]; exact Ne.symm c3
   . exact c4 _ _ z
 refine ⟨m,hm.sameBut sa (Ne.symm haC),fun h' sb=>?_⟩;exact ⟨_,H',I''.turned (t':=s''.toks) (fun b o hb e=>(sb.2 b hb).trans e) c1 c3 (.inr c2) c4 c5,q⟩
end
end Sm
end
section
namespace L2
open PySem PySem.Spec PyProof.Rows
section
variable {X:Cx} {pins:List (wX×Obj)} {Z:St} {H:Hp} {s:wO}
theorem Inv.big (I:Inv X pins Z H s):l5 < s.heap.objs.size:=by
 have h:zK < s.heap.objs.size:=(I.mod.glob.keeps I.bk).lt;exact Nat.lt_trans (by decide) h
end
def wJ (i:Expr):Prop:=∀ ov iv,FZ i false ov iv=operate [ov,iv] (BO ov iv)
theorem oC {prog:xT} {w:yC} {A:yZ} {E:wM->wO->Prop} {s:wO} {env:Env} {value slice:Expr} {pos:Pos} {T id:String} {Q:wM->wO->Prop}
   (hl:EW (.type T) "__getitem__" = pure (some (.builtin id))) (hs:wJ slice)
   (h:wpAny (xU prog w) A (eval value env) (fun o s₁=>wpAny (xU prog w) A (eval slice env) (fun i s₂=>s₂.TypeIs o T/\wpAny (xU prog w) A (BO o i) Q E s₂) E s₁) E s) :
   wpAny (xU prog w) A (eval (.Subscript value slice pos) env) Q E s:=by
 refine Subscript_ (zU h (fun o s₁ h₁=>zU h₁ (fun i s₂ h₂=>?_) fun _ _ x=>x) fun _ _ x=>x);obtain ⟨hT,h₂⟩:=h₂;unfold subscriptTail;refine wL ?_;rw [getitemInPython_of_ne hT.not_modules];refine wL (n5 hT hl ?_);have fin:wpAny (xU prog w) A (FZ slice false o i) (fun r s₃=>wpAny (xU prog w) A (letTemporaryGo value o r>>=fun _=>pure r) Q E s₃) E s₂:=by
   rw [hs o i]; exact wpAny_operating (zU h₂ (fun r s₃ h₃=>wL (wpAny_letTemporaryGo (wN h₃))) fun _ _ x=>x)
 first
   | exact wN (wL fin)
   | exact wL (wN (wL fin))
   | exact wL fin
theorem mU {P:xT} {w:yC} {H:Hp} (h:yW) (hb:l5 < h.objs.size):ObjOk P w H (h.push { cls:=.type "dict",data:=.dict #[] }) h.objs.size (.dT []) :=
 ⟨l7 _,beq_eq_false_iff_ne.mpr (Ne.symm (yE hb)),[],.nil,_,#[],0,xN _ rfl,⟨rfl,rfl,rfl⟩,rfl,rfl,List.nodup_nil⟩
def sX:TE:=fun _ H Q=>∀ p,H p=none->Q (.ref p) (upd H p (.dT []))
section
variable {X:Cx} {pos:Pos}
theorem lI:PE X (.Dict [] [] pos) sX:=fun pins s Z H Q I h =>
 wpAny_Dict_empty ⟨.ref s.heap.objs.size,_,I.laid (a:=s.heap.objs.size) (o:=.dT []) (t':=s.toks) (fun _ _ q=>xG _ q) (xH _) (mU s.heap I.big),rfl,h _ (I.hok.fresh (xH _))⟩
end
def jQ:List (TE×TE)->St->Hp->(List (V×V)->Hp->Prop)->Prop
 | [],_,H,Q=>Q [] H
 | (tk,tv)::r,Z,H,Q=>tk Z H fun x H1=>tv Z H1 fun y H2=>jQ r Z H2 fun ps H3=>Q ((x,y)::ps) H3
abbrev VV:List (V×V)->List (wM×wM)->Prop:=zJ fun p q=>RelV p.1 q.1/\RelV p.2 q.2
def PPs (X:Cx) (pos:Pos) (keys:List (Option Expr)) (values:List Expr) (trs:List (TE×TE)):Prop :=
 ∀ (pins:List (wX×Obj)) (s:wO) (Z:St) (H:Hp) (Q:List (V×V)->Hp->Prop),Inv X pins Z H s->jQ trs Z H Q ->
   wpAny (xU X.prog X.w) X.A (evalPairs (pairTrees keys values X.env pos)) (fun vs s'=>∃ ps H',Inv X pins Z H' s'/\VV ps vs/\Q ps H') X.xe s
theorem pD {X:Cx} {pos:Pos}:PPs X pos [] [] []:=fun pins s Z H Q I h=>pairTrees_nil_walk ⟨[],H,I,.nil,h⟩
theorem kZ {X:Cx} {pos:Pos} {k v:Expr} {ks:List (Option Expr)} {vs:List Expr} {tk tv:TE} {trs:List (TE×TE)} (hk:PE X k tk) (hv:PE X v tv) (hr:PPs X pos ks vs trs) :
   PPs X pos (some k::ks) (v::vs) ((tk,tv)::trs):=fun pins s Z H Q I h =>
 pairTrees_cons_walk (thn (hk pins s Z H _ I h) fun u s1 ⟨x,H1,I1,rx,q1⟩=>thn (hv pins s1 Z H1 _ I1 q1) fun w2 s2 ⟨y,H2,I2,ry,q2⟩ =>
   thn (hr pins s2 Z H2 _ I2 q2) fun ws s3 hZ2=>by obtain ⟨ps,H3,I3,rel,q3⟩:=hZ2; exact ⟨(x,y)::ps,H3,I3,.cons ⟨rx,ry⟩ rel,q3⟩)
structure M1 (X:Cx) (o:Expr) (m:Str) (apos:Pos) (e:Expr) (cpos:Pos):Prop where
 base:m4 o m X.env (eval o X.env)=eval o X.env
 few:((zP cpos (wY [e] X.env)).all (fun x => !x.1)&&(CW cpos (AN [] X.env)).all (fun x=>x.1.isSome)
   && decide (([e]:List Expr).length+([]:List y9).length+(if ([]:List y9).isEmpty then 0 else 1) < 30))=true
 line:(apos.endLine==cpos.line)=true
 trees:zP cpos (wY [e] X.env)=[(false,eval e X.env)]
structure M2 (X:Cx) (o:Expr) (m:Str) (apos:Pos) (e f:Expr) (cpos:Pos):Prop where
 base:m4 o m X.env (eval o X.env)=eval o X.env
 few:((zP cpos (wY [e,f] X.env)).all (fun x => !x.1)&&(CW cpos (AN [] X.env)).all (fun x=>x.1.isSome)
   && decide (([e,f]:List Expr).length+([]:List y9).length+(if ([]:List y9).isEmpty then 0 else 1) < 30))=true
 line:(apos.endLine==cpos.line)=true
 trees:zP cpos (wY [e,f] X.env)=[(false,eval e X.env),(false,eval f X.env)]
end L2
end
section
namespace Sm
open PySem PySem.Spec PyProof.Rows L2
inductive Res (α:Type) where
 | ok (a:α)
 | exc (c:Str)
 | no
noncomputable def Res.bind {α β:Type}:Res α->(α->Res β)->Res β
 | .ok a,k=>k a
 | .exc c,_=>.exc c
 | .no,_=>.no
noncomputable def ofO {α:Type}:Option α->Res α
 | some a=>.ok a
 | none=>.no
inductive Sl where
 | un
 | sh (d:wK)
 | ow (d:wK)
 | fd (kvs:List (wK×wK))
abbrev Dn:=List Sl
mutual
noncomputable def Rep (G:Hp):wK->V->Prop
 | .none,v=>v=.non
 | .bool b,v=>v=.bl b
 | .int i,v=>v=.int i
 | .str x,v=>v=.str x/\yB x=true/\x.length<=sizeLine
 | .list ds,v=>∃ a xs,v=.ref a/\Rd G a (.lst xs)/\RepL G ds xs
 | .tuple ds,v=>∃ a xs,v=.ref a/\G a=some (.tup xs)/\RepL G ds xs
 | .dict _,_=>False
noncomputable def RepL (G:Hp):List wK->List V->Prop
 | [],xs=>xs=[]
 | d::ds,xs=>∃ x r,xs=x::r/\Rep G d x/\RepL G ds r
end
theorem Rd.mono {G G':Hp} (h:Same G G') {a:wX} {u:HO} (r:Rd G a u):Rd G' a u:=by
 rcases r with r | ⟨o,r⟩
 . exact .inl (h _ _ r)
 . exact .inr ⟨o,h _ _ r⟩
mutual
theorem Rep.mono {G G':Hp} (h:Same G G'):∀ {d:wK} {v:V},Rep G d v->Rep G' d v
 | .none,_,r=>r
 | .bool _,_,r=>r
 | .int _,_,r=>r
 | .str _,_,r=>r
 | .list _,_,r=>by obtain ⟨a,xs,e,q,l⟩:=r; exact ⟨a,xs,e,Rd.mono h q,RepL.mono h l⟩
 | .tuple _,_,r=>by obtain ⟨a,xs,e,q,l⟩:=r; exact ⟨a,xs,e,h _ _ q,RepL.mono h l⟩
 | .dict _,_,r=>r.elim
theorem RepL.mono {G G':Hp} (h:Same G G'):∀ {ds:List wK} {xs:List V},RepL G ds xs->RepL G' ds xs
 | [],_,r=>r
 | _::_,_,r=>by obtain ⟨x,t,e,q,l⟩:=r; exact ⟨x,t,e,Rep.mono h q,RepL.mono h l⟩
end
mutual
theorem Rep.lay {G:Hp}:∀ {d:wK} {v:V},Rep G d v->d.canLay0=true
 | .none,_,r=>rfl
 | .bool _,_,r=>rfl
 | .int _,_,r=>rfl
 | .str _,_,r=>r.2.1
 | .list _,_,r=>by obtain ⟨a,xs,e,q,l⟩:=r; exact RepL.lay l
 | .tuple _,_,r=>by obtain ⟨a,xs,e,q,l⟩:=r; exact RepL.lay l
 | .dict _,_,r=>r.elim
theorem RepL.lay {G:Hp}:∀ {ds:List wK} {xs:List V},RepL G ds xs->j5 ds=true
 | [],_,r=>rfl
 | _::_,_,r=>by
   obtain ⟨x,t,e,q,l⟩:=r; rw [j5,Rep.lay q,RepL.lay l]; rfl
end
noncomputable section
variable {G:Hp}
theorem RepL.cons {d:wK} {ds:List wK} {x:V} {xs:List V} (h:Rep G d x) (t:RepL G ds xs):RepL G (d::ds) (x::xs):=⟨x,xs,rfl,h,t⟩
theorem RepL.length:∀ {ds:List wK} {xs:List V},RepL G ds xs->ds.length=xs.length:=by
 intro iN; induction iN with
 | nil=>intro _ r; cases (show _=_ from r); rfl
 | cons d ds ih=>intro _ r; obtain ⟨x,t,rfl,q,l⟩:=r; simp [ih l]
theorem RepL.get:∀ {ds:List wK} {xs:List V} {i:Nat} {d:wK},RepL G ds xs->ds[i]? = some d->∃ x,xs[i]? = some x/\Rep G d x
 | [],_,_,_,_,e=>by simp at e
 | d::ds,_,0,_,r,e=>by obtain ⟨x,t,rfl,q,l⟩:=r; simp at e; subst e; exact ⟨x,rfl,q⟩
 | d::ds,_,i+1,_,r,e=>by
   obtain ⟨x,t,rfl,q,l⟩:=r; obtain ⟨y,h1,h2⟩:=RepL.get (i:=i) l (by simpa using e);exact ⟨y,by simpa using h1,h2⟩
theorem RepL.append:∀ {ds es:List wK} {xs ys:List V},RepL G ds xs->RepL G es ys->RepL G (ds++es) (xs++ys):=by
 intro iN; induction iN with
 | nil=>intro _ _ _ r q; cases (show _=_ from r); exact q
 | cons d ds ih=>intro _ _ _ r q; obtain ⟨x,t,rfl,h,l⟩:=r; exact RepL.cons h (ih l q)
theorem RepL.drop:∀ (n:Nat) {ds:List wK} {xs:List V},RepL G ds xs->RepL G (ds.drop n) (xs.drop n)
 | 0,_,_,r=>r
 | _+1,[],_,r=>by cases (show _=_ from r); exact rfl
 | n+1,d::ds,_,r=>by obtain ⟨x,t,rfl,h,l⟩:=r; exact RepL.drop n l
theorem RepL.take:∀ (n:Nat) {ds:List wK} {xs:List V},RepL G ds xs->RepL G (ds.take n) (xs.take n)
 | 0,_,_,r=>rfl
 | _+1,[],_,r=>by cases (show _=_ from r); exact rfl
 | n+1,d::ds,_,r=>by obtain ⟨x,t,rfl,h,l⟩:=r; exact RepL.cons h (RepL.take n l)
theorem RepL.rep {ds:List wK} {xs:List V} (r:RepL G ds xs):∀ k:Nat,RepL G (xF k ds).flatten (xF k xs).flatten:=by
 intro iN; induction iN with
 | zero=>skip; exact rfl
 | succ k ih =>
   skip
   rw [l3,l3,u6,u6]; exact RepL.append r (ih)
theorem RepL.ints (ns:List Int):RepL G (ns.map j6) (ns.map V.int):=by
 induction ns with
 | nil=>exact rfl
 | cons n ns ih=>exact RepL.cons rfl ih
theorem RepL.dropLast {ds:List wK} {xs:List V} (r:RepL G ds xs):RepL G ds.dropLast xs.dropLast:=by
 rw [GT,GT,r.length];exact RepL.take _ r
end
structure Grow (G H G' H':Hp):Prop where
 g:Same G G'
 h:Same H H'
 gh:Same G' H'
 fr:∀ b o,G' b=some o->G b=some o\/H b=none\/∃ xs,o=HO.tup xs
theorem Grow.refl {G H:Hp} (h:Same G H):Grow G H G H:=⟨Same.refl _,Same.refl _,h,fun _ _ e=>.inl e⟩
theorem Grow.trans {G H G1 H1 G2 H2:Hp} (a:Grow G H G1 H1) (b:Grow G1 H1 G2 H2):Grow G H G2 H2 :=
 ⟨a.g.trans b.g,a.h.trans b.h,b.gh,fun c o e=>by
   rcases b.fr c o e with q | q | q
   . exact a.fr c o q
   . exact .inr (.inl (a.h.free q))
   . exact .inr (.inr q)⟩
theorem Same.upd {H:Hp} {p:wX} {o:HO} (h:H p=none):Same H (upd H p o):=fun b u e=>by
 rw [C8 (E6 e h)]; exact e
theorem Grow.new {G H:Hp} {p:wX} {o:HO} (s:Same G H) (h:H p=none):Grow G H (upd G p o) (upd H p o):=by
 have hg:G p=none:=s.free h;refine ⟨Same.upd hg,Same.upd h,fun b u e=>?_,fun b u e=>?_⟩
 . by_cases hb:b=p
   . subst hb; rw [D3] at e ⊢; exact e
   . rw [C8 hb] at e ⊢; exact s _ _ e
 . by_cases hb:b=p
   . subst hb; exact .inr (.inl h)
   . rw [C8 hb] at e; exact .inl e
theorem Grow.own {G H:Hp} {p:wX} {o:HO} (s:Same G H) (h:H p=none):Grow G H G (upd H p o) :=
 ⟨Same.refl _,Same.upd h,s.trans (Same.upd h),fun _ _ e=>.inl e⟩
noncomputable def vL:Key->wK
 | .inl i=>.int i
 | .inr x=>.str x
noncomputable def sC (kk:List (Key×V)):List (List Key×V):=kk.map fun p=>([p.1],p.2)
noncomputable def OwnK (G H:Hp) (a:wX):List wK->Prop
 | [.dict kvs]=>∃ kk:List (Key×V),H a=some (.dK kk)/\kvs.map (·.1)=(sC kk).map (fun p=>yR (p.1.map vL))/\RepL G (kvs.map (·.2)) ((sC kk).map (·.2))
 | [.dict kvs,.none]=>∃ kk:List (wK×V),H a=some (.dN kk)/\kvs.map (·.1)=kk.map (·.1)/\RepL G (kvs.map (·.2)) (kk.map (·.2))
 | _=>False
theorem OwnK.keep {G G' H H':Hp} {a:wX} {xs:List wK} (g:Same G G') (e:∀ o,H a=some o->H' a=some o) (h:OwnK G H a xs):OwnK G' H' a xs:=by
 unfold OwnK at h ⊢;split at h
 . obtain ⟨kk,h1,h2,h3⟩:=h
   exact ⟨kk,e _ h1,h2,h3.mono g⟩
 . obtain ⟨kk,h1,h2,h3⟩:=h
   exact ⟨kk,e _ h1,h2,h3.mono g⟩
 . exact h.elim
theorem OwnK.is {G H:Hp} {a:wX} {xs:List wK} (h:OwnK G H a xs):∃ o,H a=.some o:=by
 unfold OwnK at h;split at h
 . obtain ⟨kk,h1,_⟩:=h
   exact ⟨_,h1⟩
 . obtain ⟨kk,h1,_⟩:=h
   exact ⟨_,h1⟩
 . exact h.elim
noncomputable def OwnOk (G H:Hp) (a:wX):wK->Prop
 | .list ds=>∃ xs,H a=some (.lst xs)/\RepL G ds xs
 | .dict kvs=>∃ kk:List (List Key×V),H a=some (.dT kk)/\kvs.map (·.1)=kk.map (fun p=>yR (p.1.map vL))/\RepL G (kvs.map (·.2)) (kk.map (·.2))
 | .tuple xs=>OwnK G H a xs
 | _=>False
def FdOk (G:Hp) (o:Option V) (kvs:List (wK×wK)):Prop:=match kvs with
 | (.dict [],.none)::r=>∃ a,∃ kk:List (wK×V),o=some (.ref a)/\Rd G a (.dN kk)/\r.map (·.1)=kk.map (·.1)/\RepL G (r.map (·.2)) (kk.map (·.2))
 | _=>∃ a ob,∃ kk:List (List Key×V),o=some (.ref a)/\G a=some (.frz ob (.dT kk))/\kvs.map (·.1)=kk.map (fun p=>yR (p.1.map vL))/\RepL G (kvs.map (·.2)) (kk.map (·.2))
theorem FdOk.mono {G G':Hp} {o:Option V} {kvs:List (wK×wK)} (g:Same G G') (h:FdOk G o kvs):FdOk G' o kvs:=by
 unfold FdOk at h ⊢;split at h
 . obtain ⟨a,kk,h1,h2,h3,h4⟩:=h
   exact ⟨a,kk,h1,Rd.mono g h2,h3,h4.mono g⟩
 . obtain ⟨a,ob,kk,h1,h2,h3,h4⟩:=h
   exact ⟨a,ob,kk,h1,g _ _ h2,h3,h4.mono g⟩
noncomputable def SlOk (G H:Hp) (o:Option V):Sl->Prop
 | .un=>True
 | .sh d=>∃ v,o=some v/\Rep G d v
 | .ow d=>∃ a,o=some (.ref a)/\G a=none/\OwnOk G H a d
 | .fd kvs=>FdOk G o kvs
structure SR (G H:Hp) (Z:St) (δ:Dn):Prop where
 sub:Same G H
 len:Z.length=δ.length
 sl:∀ (i:Nat) (s:Sl),δ[i]? = some s->SlOk G H (Z[i]?.join) s
 ap:∀ (i j:Nat) (a:wX) (d e:wK),δ[i]? = some (.ow d)->δ[j]? = some (.ow e)->Z[i]?.join=some (.ref a)->Z[j]?.join=some (.ref a)->i=j
theorem OwnOk.some {G H:Hp} {a:wX} {d:wK} (h:OwnOk G H a d):∃ o,H a=some o:=by
 cases d with
 | list ds=>obtain ⟨xs,e,_⟩:=h; exact ⟨_,e⟩
 | dict kvs=>obtain ⟨xs,e,_⟩:=h; exact ⟨_,e⟩
 | tuple xs=>exact OwnK.is h
 | _=>exact (show False from h).elim
theorem OwnOk.grow {G H G' H':Hp} (g:Grow G H G' H') {a:wX} {d:wK} (h:OwnOk G H a d):OwnOk G' H' a d:=by
 cases d with
 | list ds=>obtain ⟨xs,e,r⟩:=h; exact ⟨xs,g.h _ _ e,r.mono g.g⟩
 | dict kvs=>obtain ⟨xs,e,k,r⟩:=h; exact ⟨xs,g.h _ _ e,k,r.mono g.g⟩
 | tuple xs=>exact OwnK.keep g.g (fun o e=>g.h _ _ e) h
 | _=>exact (show False from h).elim
theorem OwnOk.noTup {G H:Hp} {a:wX} {d:wK} (h:OwnOk G H a d) {xs:List V} (e:H a=.some (HO.tup xs)):False:=by
 cases d with
 | list ds=>obtain ⟨_,z,_⟩:=h; rw [e] at z; cases z
 | dict kvs=>obtain ⟨_,z,_⟩:=h; rw [e] at z; cases z
 | tuple ys =>
   have h':OwnK G H a ys:=h; unfold OwnK at h';split at h'
   . obtain ⟨_,z,_⟩:=h'; rw [e] at z; cases z
   . obtain ⟨_,z,_⟩:=h'; rw [e] at z; cases z
   . exact h'
 | _=>exact (show False from h).elim
theorem SlOk.grow {G H G' H':Hp} (g:Grow G H G' H') {o:Option V} {s:Sl} (h:SlOk G H o s):SlOk G' H' o s:=by
 cases s with
 | un=>trivial
 | sh d=>obtain ⟨v,e,r⟩:=h; exact ⟨v,e,r.mono g.g⟩
 | fd kvs=>exact FdOk.mono g.g h
 | ow d =>
   obtain ⟨a,e,n,r⟩:=h; refine ⟨a,e,?_,r.grow g⟩;cases q:G' a with
   | none=>rfl
   | some u =>
     obtain ⟨o',eo⟩:=r.some; rcases g.fr a u q with z | z | ⟨xs,rfl⟩
     . rw [n] at z; cases z
     . rw [eo] at z; cases z
     . exact ((r.grow g).noTup (g.gh _ _ q)).elim
theorem SR.grow {G H G' H':Hp} {Z:St} {δ:Dn} (S:SR G H Z δ) (g:Grow G H G' H'):SR G' H' Z δ :=
 ⟨g.gh,S.len,fun i s e=>(S.sl i s e).grow g,S.ap⟩
abbrev EK:=Str->Hp->Prop
def Aft (E:EK) (G H:Hp) (r:Res wK) (Q:VK):Prop:=match r with
 | .ok d=>∀ v G' H',Grow G H G' H'->Rep G' d v->Q v H'
 | .exc c=>∀ G' H',Grow G H G' H'->E c H'
 | .no=>False
def tD (E:EK) (f:Dn->Res wK):TE:=fun Z H Q=>∃ G δ,SR G H Z δ/\Aft E G H (f δ) Q
abbrev DE (X:Cx) (E:EK) (e:Expr) (f:Dn->Res wK):Prop:=PE X e (tD E f)
theorem Aft.grow {E:EK} {G H G' H':Hp} {r:Res wK} {Q:VK} (g:Grow G H G' H') (a:Aft E G H r Q):Aft E G' H' r Q:=by
 cases r with
 | ok d=>exact fun v G2 H2 g2 q=>a v G2 H2 (g.trans g2) q
 | exc c=>exact fun G2 H2 g2=>a G2 H2 (g.trans g2)
 | no=>exact a
theorem PE.imp {X:Cx} {e:Expr} {t t':TE} (h:PE X e t) (i:∀ Z H Q,t' Z H Q->t Z H Q):PE X e t':=fun pins s Z H Q I q=>h pins s Z H Q I (i _ _ _ q)
theorem K2 {E:EK} {G H:Hp} {Z:St} {δ:Dn} {f:Dn->Res wK} {k:wK->Res wK} {Q R:VK} (S:SR G H Z δ) (a:Aft E G H ((f δ).bind k) Q)
   (h:∀ d v G1 H1,Grow G H G1 H1->Rep G1 d v->SR G1 H1 Z δ->Aft E G1 H1 (k d) Q->R v H1):tD E f Z H R:=by
 refine ⟨G,δ,S,?_⟩;cases e:f δ with
 | ok d =>
   rw [e] at a; exact fun v G' H' g r=>h d v G' H' g r (S.grow g) (Aft.grow g a)
 | exc c=>rw [e] at a; exact a
 | no=>rw [e] at a; exact a
noncomputable section
variable {X:Cx} {E:EK} {pos:Pos}
noncomputable def vC (d:wK):Dn->Res wK:=fun _=>.ok d
noncomputable def A5 (i:Nat):Dn->Res wK:=fun δ=>match δ[i]? with
 | some (.sh d)=>.ok d
 | _=>.no
theorem B4 {i:Int} {j:Nat}:DE X E (.Constant (.int i) j pos) (vC (.int i)):=PE.imp uD fun Z H Q hZ3=>by obtain ⟨G,δ,S,a⟩:=hZ3; exact a _ G H (Grow.refl S.sub) rfl
theorem P1 {b:Bool} {j:Nat}:DE X E (.Constant (.bool b) j pos) (vC (.bool b)):=PE.imp pe_bl fun Z H Q hZ3=>by obtain ⟨G,δ,S,a⟩:=hZ3; exact a _ G H (Grow.refl S.sub) rfl
theorem Xz {j:Nat}:DE X E (.Constant .none j pos) (vC .none):=PE.imp uB fun Z H Q hZ3=>by obtain ⟨G,δ,S,a⟩:=hZ3; exact a _ G H (Grow.refl S.sub) rfl
theorem L4 {x:Str} {j:Nat} (h:yB x=true:=by decide +kernel) (hl:x.length<=sizeLine:=by decide +kernel):DE X E (.Constant (.str x) j pos) (vC (.str x)) :=
 PE.imp lC fun Z H Q hZ3=>by obtain ⟨G,δ,S,a⟩:=hZ3; exact a _ G H (Grow.refl S.sub) ⟨rfl,h,hl⟩
theorem vV {i:Nat} {x:Str} (hN:X.N[i]? = some x) (hv:Vis X.env.scope x) (hd:(x==("__debug__" : Str))=false) (hcd:(x==("__classdict__" : Str))=false):DE X E (.Name x pos) (A5 i) :=
 PE.imp (cR hN hv hd hcd) fun Z H Q hZ3=>by
   obtain ⟨G,δ,S,a⟩:=hZ3; unfold A5 at a;split at a
   . rename_i d e
     obtain ⟨v,e1,r⟩:=S.sl i _ e; refine ⟨v,?_,a _ G H (Grow.refl S.sub) r⟩;cases q:Z[i]? with
     | none=>rw [q] at e1; cases e1
     | some w=>rw [q] at e1; cases w with
       | none=>cases e1
       | some w=>cases e1; rfl
   . exact a.elim
noncomputable def b2 (f g:Dn->Res wK) (op:wK->wK->Option wK):Dn->Res wK:=fun δ=>(f δ).bind fun x=>(g δ).bind fun y=>ofO (op x y)
def OpD (r:R2) (op:wK->wK->Option wK):Prop:=∀ (G H:Hp) (x y:V) (a b d:wK) (Q:VK),Same G H->Rep G a x->Rep G b y->op a b=some d->(∀ v G' H',Grow G H G' H'->Rep G' d v->Q v H')->r x y H Q
theorem jR {r:R2} {op:wK->wK->Option wK} {f g:Dn->Res wK} (ho:OpD r op) {Z:St} {H:Hp} {Q:VK} (h:tD E (b2 f g op) Z H Q):tOp r (tD E f) (tD E g) Z H Q:=by
 obtain ⟨G,δ,S,a⟩:=h;refine K2 S a fun d1 v1 G1 H1 g1 r1 S1 a1=>?_;refine K2 S1 a1 fun d2 v2 G2 H2 g2 r2 S2 a2=>?_;cases e:op d1 d2 with
 | none=>rw [e] at a2; exact a2.elim
 | some d=>rw [e] at a2; exact ho G2 H2 v1 v2 d1 d2 d Q S2.sub (r1.mono g2.g) r2 e a2
theorem bA {a b:Expr} {o:Operator} {r:R2} {op:wK->wK->Option wK} {f g:Dn->Res wK} (hr:OpR X (CU o) r) (ho:OpD r op) (ha:DE X E a f) (hb:DE X E b g):DE X E (.BinOp a o b pos) (b2 f g op) :=
 PE.imp (pe_op hr ha hb) fun _ _ _ h=>jR ho h
theorem fL {a b:Expr} {o:j7} {r:R2} {op:wK->wK->Option wK} {f g:Dn->Res wK} (hr:OpR X (zE o) r) (ho:OpD r op) (ha:DE X E a f) (hb:DE X E b g) (hm:behindInMarks o b=false):DE X E (.Compare a [o] [b] pos) (b2 f g op) :=
 PE.imp (pH hr ha hb hm) fun _ _ _ h=>jR ho h
end
end Sm
end
noncomputable section
namespace Sm
open PySem PySem.Spec PyProof.Rows L2
noncomputable section
variable {X:Cx} {pins:List (wX×Obj)} {Z:St} {H G:Hp} {s:wO}
theorem Am (I:Inv X pins Z H s) {a:wX} {xs:List V} (hG:Same G H) (r:Rd G a (.lst xs)):xs.length<=sizeLine/\∃ (its:List wM) (n:Nat),Vals xs its/\s.heap.get? a=some { cls:=.type "list",data:=.seq its.toArray n } :=
 (Rd.ok (Rd.mono hG r) I.hok:ObjOk X.prog X.w H s.heap a (.lst xs))
theorem Lw (I:Inv X pins Z H s) {a:wX} {xs:List V} (hG:Same G H) (r:G a=some (.tup xs)):xs.length<=sizeLine/\∃ its:List wM,Vals xs its/\DU s.heap a its.toArray :=
 (I.hok a _ (hG _ _ r):ObjOk X.prog X.w H s.heap a (.tup xs))
mutual
theorem Rep.reads (I:Inv X pins Z H s) (hG:Same G H):∀ {d:wK} {v:V} {u:wM},Rep G d v->RelV v u->∃ as,Reads s.heap u d as
 | .none,_,_,r,q=>by cases (show _=_ from r); cases q; exact ⟨_,.none⟩
 | .bool _,_,_,r,q=>by cases (show _=_ from r); cases q; exact ⟨_,.bool _⟩
 | .int _,_,_,r,q=>by cases (show _=_ from r); obtain ⟨t,rfl⟩:=q; exact ⟨_,.int _ _⟩
 | .str _,_,_,r,q=>by cases r.1; obtain ⟨t,rfl⟩:=q; exact ⟨_,.str _ _⟩
 | .list _,_,_,r,q=>by
   obtain ⟨a,xs,rfl,h,l⟩:=r; cases q; obtain ⟨z,its,n,rv,e⟩:=Am I hG h; obtain ⟨as,ra⟩:=RepL.reads I hG l rv; exact ⟨_,.list e rfl rfl (by simpa using ra)⟩
 | .tuple _,_,_,r,q=>by
   obtain ⟨a,xs,rfl,h,l⟩:=r; cases q; obtain ⟨z,its,rv,o,e,c,n,hd⟩:=Lw I hG h; obtain ⟨as,ra⟩:=RepL.reads I hG l rv; exact ⟨_,.tuple e c hd (by simpa using ra)⟩
 | .dict _,_,_,r,_=>r.elim
theorem RepL.reads (I:Inv X pins Z H s) (hG:Same G H):∀ {ds:List wK} {xs:List V} {us:List wM},RepL G ds xs->Vals xs us->∃ as,GO s.heap us ds as
 | [],_,_,r,q=>by cases (show _=_ from r); cases q; exact ⟨_,.nil⟩
 | _::_,_,_,r,q=>by
   obtain ⟨x,t,rfl,h,l⟩:=r;cases q with
   | cons q qs =>
     obtain ⟨as,r1⟩:=Rep.reads I hG h q; obtain ⟨bs,r2⟩:=RepL.reads I hG l qs; exact ⟨_,.cons r1 r2⟩
end
end
noncomputable def dEq (a b:wK):Option wK:=if min a.depth b.depth<=64 then some (.bool (xA a b)) else none
noncomputable def dNe (a b:wK):Option wK:=if min a.depth b.depth<=64 then some (.bool (!PyData.eqv a b)) else none
def oU (neg:Bool):R2:=fun x y H Q=>∃ G a b,Same G H/\Rep G a x/\Rep G b y/\min a.depth b.depth<=64/\Q (.bl (if neg then !PyData.eqv a b else xA a b)) H
noncomputable section
variable {X:Cx}
theorem lP (hu:X.A.units+64 < i4):OpR X (zE .Eq) (oU false):=by
 rintro pins s Z H x y v u Q I rx ry ⟨G,a,b,hG,ra,rb,hm,q⟩;obtain ⟨as,r1⟩:=ra.reads I hG rx;obtain ⟨bs,r2⟩:=rb.reads I hG ry;exact SeqAt.compareEq_reads r1 r2 ra.lay rb.lay (by lia) ⟨.bl _,H,I,rfl,q⟩
theorem uK (hu:X.A.units+64 < i4):OpR X (zE .NotEq) (oU true):=by
 rintro pins s Z H x y v u Q I rx ry ⟨G,a,b,hG,ra,rb,hm,q⟩;obtain ⟨as,r1⟩:=ra.reads I hG rx;obtain ⟨bs,r2⟩:=rb.reads I hG ry;exact SeqAt.compareNe_reads r1 r2 ra.lay rb.lay (by lia) ⟨.bl _,H,I,rfl,q⟩
theorem lR:OpD (oU false) dEq:=by
 intro G H x y a b d Q hG ra rb e q;unfold dEq at e;split at e
 . rename_i h; cases e; exact ⟨G,a,b,hG,ra,rb,h,q _ G H (Grow.refl hG) rfl⟩
 . cases e
theorem uM:OpD (oU true) dNe:=by
 intro G H x y a b d Q hG ra rb e q;unfold dNe at e;split at e
 . rename_i h; cases e; exact ⟨G,a,b,hG,ra,rb,h,q _ G H (Grow.refl hG) rfl⟩
 . cases e
end
noncomputable def sF (x y:Str):Bool := !(Builtin.Str.occurrences y x 0 y.length 1).isEmpty
noncomputable def dIn (neg:Bool) (a b:wK):Option wK:=match b with
 | .list ds=>if min (yV ds) a.depth<=62 then some (.bool (if neg then !ds.any fun y=>xA y a else ds.any fun y=>xA y a)) else none
 | .tuple ds=>if min (yV ds) a.depth<=62 then some (.bool (if neg then !ds.any fun y=>xA y a else ds.any fun y=>xA y a)) else none
 | .str y=>match a with
   | .str x=>some (.bool (if neg then !sF x y else sF x y))
   | _=>none
 | _=>none
def tU (neg:Bool):R2:=fun x y H Q=>∃ G a b d,Same G H/\Rep G a x/\Rep G b y/\dIn neg a b=some (.bool d)/\Q (.bl d) H
noncomputable section
variable {X:Cx}
theorem lO (hu:X.A.units+64 < i4):OpR X (zE .In) (tU false):=by
 rintro pins s Z H x y v u Q I rx ry ⟨G,a,b,d,hG,ra,rb,e,q⟩;cases b with
 | list ds =>
   replace e:(if _ then _ else _)=some _:=e;split at e
   . rename_i h
     cases e; obtain ⟨as,r1⟩:=ra.reads I hG rx; obtain ⟨bs,r2⟩:=rb.reads I hG ry; exact SeqAt.in_list_reads r2 r1 rb.lay ra.lay (by lia) ⟨.bl _,H,I,rfl,q⟩
   . cases e
 | tuple ds =>
   replace e:(if _ then _ else _)=some _:=e;split at e
   . rename_i h
     cases e; obtain ⟨as,r1⟩:=ra.reads I hG rx; obtain ⟨bs,r2⟩:=rb.reads I hG ry; exact SeqAt.in_tuple_reads r2 r1 rb.lay ra.lay (by lia) ⟨.bl _,H,I,rfl,q⟩
   . cases e
 | str z =>
   cases a with
   | str z' =>
     cases e;cases ra.1; cases rb.1;obtain ⟨t,rfl⟩:=rx; obtain ⟨t',rfl⟩:=ry; exact in_str ⟨.bl _,H,I,rfl,q⟩
   | _=>cases e
 | _=>cases e
theorem gW (hu:X.A.units+64 < i4):OpR X (zE .NotIn) (tU true):=by
 rintro pins s Z H x y v u Q I rx ry ⟨G,a,b,d,hG,ra,rb,e,q⟩;cases b with
 | list ds =>
   replace e:(if _ then _ else _)=some _:=e;split at e
   . rename_i h
     cases e; obtain ⟨as,r1⟩:=ra.reads I hG rx; obtain ⟨bs,r2⟩:=rb.reads I hG ry; exact SeqAt.notIn_list_reads r2 r1 rb.lay ra.lay (by lia) ⟨.bl _,H,I,rfl,q⟩
   . cases e
 | tuple ds =>
   replace e:(if _ then _ else _)=some _:=e;split at e
   . rename_i h
     cases e; obtain ⟨as,r1⟩:=ra.reads I hG rx; obtain ⟨bs,r2⟩:=rb.reads I hG ry; exact SeqAt.notIn_tuple_reads r2 r1 rb.lay ra.lay (by lia) ⟨.bl _,H,I,rfl,q⟩
   . cases e
 | str z =>
   cases a with
   | str z' =>
     cases e;cases ra.1; cases rb.1;obtain ⟨t,rfl⟩:=rx; obtain ⟨t',rfl⟩:=ry; exact notIn_str ⟨.bl _,H,I,rfl,q⟩
   | _=>cases e
 | _=>cases e
theorem Rv {neg:Bool} {a b d:wK} (e:dIn neg a b=some d):∃ k,d=.bool k:=by
 cases b with
 | list ds=>replace e:(if _ then _ else _)=some _:=e; split at e <;> cases e; exact ⟨_,rfl⟩
 | tuple ds=>replace e:(if _ then _ else _)=some _:=e; split at e <;> cases e; exact ⟨_,rfl⟩
 | str z=>cases a with
   | str z'=>cases e; exact ⟨_,rfl⟩
   | _=>cases e
 | _=>cases e
theorem cU {neg:Bool}:OpD (tU neg) (dIn neg):=by
 intro G H x y a b d Q hG ra rb e q;obtain ⟨k,rfl⟩:=Rv e;exact ⟨G,a,b,k,hG,ra,rb,e,q _ G H (Grow.refl hG) rfl⟩
end
noncomputable def E2:wK->wK->Option wK
 | .int i,.int j=>some (.int (i+j))
 | .str x,.str y=>if x.length+y.length<=sizeLine then some (.str (x++y)) else none
 | .list xs,.list ys=>if xs.length+ys.length<=sizeLine then some (.list (xs++ys)) else none
 | .tuple xs,.tuple ys=>if xs.length+ys.length<=sizeLine then some (.tuple (xs++ys)) else none
 | _,_=>none
def rV:R2:=fun x y H Q=>∃ G a b d,Same G H/\Rep G a x/\Rep G b y/\E2 a b=some d/\∀ v G' H',Grow G H G' H'->Rep G' d v->Q v H'
theorem Fi {x y:Str} (hx:yB x=true) (hy:yB y=true):yB (x++y)=true:=by
 unfold yB at *;show (x.cps++y.cps).all _=true;rw [Array.all_append,hx,hy]; rfl
theorem Pt (x y:Str):(x++y).length=x.length+y.length:=by
 show (x.cps++y.cps).size=_;rw [Array.size_append]; rfl
noncomputable section
variable {X:Cx}
theorem fJ {pins:List (wX×Obj)} {Z:St} {H G:Hp} {s:wO} {Q:VK} {ds:List wK} {xs:List V} {its:List wM} {t':Nat} (I:Inv X pins Z H s) (hG:Same G H) (rv:Vals xs its) (rl:RepL G ds xs) (hz:xs.length<=sizeLine)
   (q:∀ v G' H',Grow G H G' H'->Rep G' (.tuple ds) v->Q v H'):EP X pins Z Q (.ref s.heap.objs.size) { s with heap:=s.heap.push { cls:=.type "tuple",data:=.seq its.toArray },toks:=t' }:=by
 refine ⟨.ref s.heap.objs.size,_,I.laid (t':=t') (o:=.tup xs) (fun b ob q=>xG _ q) (xH _) ⟨hz,its,rv,IsTup.new _ _⟩,rfl,q _ (upd G s.heap.objs.size (.tup xs)) _ (Grow.new hG I.fresh) ⟨_,xs,rfl,D3,rl.mono (Same.upd (hG.free I.fresh))⟩⟩
theorem Xx {pins:List (wX×Obj)} {Z:St} {H G:Hp} {s:wO} {Q:VK} {ds:List wK} {xs:List V} {its:List wM} {t':Nat} (I:Inv X pins Z H s) (hG:Same G H) (rv:Vals xs its) (rl:RepL G ds xs) (hz:xs.length<=sizeLine)
   (q:∀ v G' H',Grow G H G' H'->Rep G' (.list ds) v->Q v H'):EP X pins Z Q (.ref s.heap.objs.size) { s with heap:=s.heap.push { cls:=.type "list",data:=.seq its.toArray },toks:=t' }:=by
 refine ⟨.ref s.heap.objs.size,_,I.lnew (t':=t') rv hz,rfl,q _ (upd G s.heap.objs.size (.lst xs)) _ (Grow.new hG I.fresh) ⟨_,xs,rfl,.inl D3,rl.mono (Same.upd (hG.free I.fresh))⟩⟩
theorem pN:OpR X (CU .Add) rV:=by
 rintro pins s Z H x y v u Q I rx ry ⟨G,a,b,d,hG,ra,rb,e,q⟩;cases a with
 | int i=>cases b with
   | int j =>
     cases e;cases (show _=_ from ra); cases (show _=_ from rb);obtain ⟨t,rfl⟩:=rx; obtain ⟨t',rfl⟩:=ry; exact add_int ⟨.int _,H,I.tok _,⟨_,rfl⟩,q _ G H (Grow.refl hG) rfl⟩
   | _=>cases e
 | str i=>cases b with
   | str j =>
     replace e:(if _ then _ else _)=some d:=e;split at e
     . rename_i hz
       cases e; obtain ⟨e1,o1,_⟩:=ra; obtain ⟨e2,o2,_⟩:=rb;cases e1; cases e2;obtain ⟨t,rfl⟩:=rx; obtain ⟨t',rfl⟩:=ry; exact add_str (fun t' tk=>⟨.str (i++j),H,I.tok _,⟨_,rfl⟩,q _ G H (Grow.refl hG) ⟨rfl,Fi o1 o2,by rw [Pt]; exact hz⟩⟩) hz
     . cases e
   | _=>cases e
 | list xs=>cases b with
   | list ys =>
     replace e:(if _ then _ else _)=some d:=e;split at e
     . rename_i hz
       cases e; obtain ⟨l,vs,rfl,h1,l1⟩:=ra; obtain ⟨l',ws,rfl,h2,l2⟩:=rb;cases rx; cases ry;obtain ⟨z1,its1,n1,v1,e1⟩:=Am I hG h1; obtain ⟨z2,its2,n2,v2,e2⟩:=Am I hG h2; have q1:=v1.length; have q2:=v2.length; have q3:=l1.length; have q4:=l2.length; refine PySem.P.add_list e1 e2 ?_ (by rw [xE,xE]; lia);have ea:its1.toArray++its2.toArray=(its1++its2).toArray:=by simp
       rw [ea]; exact Xx (t':=s.toks) I hG (v1.append v2) (l1.append l2) (by rw [xO]; lia) q
     . cases e
   | _=>cases e
 | tuple xs=>cases b with
   | tuple ys =>
     replace e:(if _ then _ else _)=some d:=e;split at e
     . rename_i hz
       cases e; obtain ⟨l,vs,rfl,h1,l1⟩:=ra; obtain ⟨l',ws,rfl,h2,l2⟩:=rb;cases rx; cases ry;obtain ⟨z1,its1,v1,p1⟩:=Lw I hG h1; obtain ⟨z2,its2,v2,p2⟩:=Lw I hG h2; have q1:=v1.length; have q2:=v2.length; have q3:=l1.length; have q4:=l2.length;by_cases hx:its1=[]
       . subst hx
         obtain ⟨⟨cls,dd,data,sl⟩,ho,hc,n,hd⟩:=id p1; obtain ⟨⟨cls2,dd2,data2,sl2⟩,ho2,hc2,n2,hd2⟩:=id p2; simp only at hc hd hc2 hd2; subst hc hd hc2 hd2; refine concat_meets ⟨_,ho,rfl⟩ ⟨_,ho2,rfl⟩ FT seq_tuple_add BW BP (BL _ _)
           (tuple_addW0 l l' _ _ n n2 dd dd2 sl sl2 (by simp)) ⟨ho,ho2,?_⟩
         have hxs:xs=[]:=by
           have:xs.length=0:=by rw [q3,q1]; rfl
           exact zI.mp this
         subst hxs; exact ⟨.ref l',H,I,rfl,q _ G H (Grow.refl hG) ⟨l',ws,rfl,h2,l2⟩⟩
       . refine HT.cat_tup p1 p2 hx (fun hy=>?_) (fun hy=>?_) (by lia)
         . subst hy
           have hys:ys=[]:=by
             have:ys.length=0:=by rw [q4,q2]; rfl
             exact zI.mp this
           subst hys; rw [xV] at q; exact ⟨.ref l,H,I,rfl,q _ G H (Grow.refl hG) ⟨l,vs,rfl,h1,l1⟩⟩
         . exact fJ (t':=s.toks) I hG (v1.append v2) (l1.append l2) (by rw [xO]; lia) q
     . cases e
   | _=>cases e
 | _=>cases e
theorem pR:OpD rV E2:=fun G H x y a b d Q hG ra rb e q=>⟨G,a,b,d,hG,ra,rb,e,q⟩
noncomputable def nB:wK->wK->Option wK
 | .int i,.int j=>some (.int (i - j))
 | _,_=>none
noncomputable def Ua:wK->wK->Option wK
 | .int i,.int j=>if 0 < j then some (.int (i % j)) else none
 | _,_=>none
noncomputable def Nk:wK->wK->Option wK
 | .int i,.int j=>if 0 < j/\j < 1073741824 then some (.int (i / j)) else none
 | _,_=>none
theorem Xi {r:R2} {op:wK->wK->Option wK} (h:∀ a b d,op a b=some d->∃ i j k,a=.int i/\b=.int j/\d=.int k/\∀ H Q,Q (V.int k) H->r (.int i) (.int j) H Q):OpD r op:=by
 intro G H x y a b d Q hG ra rb e q;obtain ⟨i,j,k,rfl,rfl,rfl,hr⟩:=h a b d e;cases (show _=_ from ra); cases (show _=_ from rb);exact hr H Q (q _ G H (Grow.refl hG) rfl)
theorem pO:OpD (rI0 fun i j=>.int (i - j)) nB:=Xi fun a b d e=>by
 unfold nB at e;split at e
 . cases e; exact ⟨_,_,_,rfl,rfl,rfl,fun H Q q=>⟨_,_,rfl,rfl,q⟩⟩
 . cases e
theorem pQ:OpD (rI (fun _ j=>0 < j) fun i j=>.int (i % j)) Ua:=Xi fun a b d e=>by
 unfold Ua at e;split at e
 . split at e
   . rename_i h; cases e; exact ⟨_,_,_,rfl,rfl,rfl,fun H Q q=>⟨_,_,rfl,rfl,h,q⟩⟩
   . cases e
 . cases e
theorem lQ:OpD (rI CDiv fun i j=>.int (i / j)) Nk:=Xi fun a b d e=>by
 unfold Nk at e;split at e
 . split at e
   . rename_i h; cases e; exact ⟨_,_,_,rfl,rfl,rfl,fun H Q q=>⟨_,_,rfl,rfl,h,q⟩⟩
   . cases e
 . cases e
end
end Sm
end
noncomputable section
namespace Sm
open PySem PySem.Spec PyProof.Rows L2
open PySem.AutoSeq1 (wpAny_loadPart')
noncomputable def O4 (n:Nat) (x:Str):Str:=⟨(xF n x.cps).foldl (· ++ ·) #[]⟩
theorem iR (l:List (Array Nat)):∀ acc:Array Nat,(l.foldl (· ++ ·) acc).toList=acc.toList++(l.map GF).flatten:=by
 induction l with
 | nil=>intro acc; simp
 | cons a l ih=>intro acc; rw [List.foldl_cons,ih]; simp
theorem Al (n:Nat) (x:Str):(O4 n x).cps.toList=(xF n x.cps.toList).flatten:=by
 unfold O4;rw [iR]; simp
theorem gJ {x:Str} (h:yB x=true) (n:Nat):yB (O4 n x)=true:=by
 unfold yB at *;rw [<- ES,f9] at *;rw [Al];intro c hc;obtain ⟨l,hl,hc⟩:=List.mem_flatten.mp hc;rw [List.eq_of_mem_replicate hl] at hc;exact h c hc
theorem Pu (n:Nat) (x:Str):(O4 n x).length=n*x.length:=by
 show (O4 n x).cps.size=n*x.cps.size;rw [<- z0,Al,fD,z0]
theorem Zc (x:Str):O4 0 x=Str.empty:=rfl
theorem bY (x:Str):O4 1 x=x:=by
 have:(O4 1 x).cps=x.cps:=by
   apply Array.toList_inj.mp;rw [Al]; simp
 cases x; cases h:O4 1 _; rw [h] at this; cases this; rfl
theorem bZ {x:Str} (n:Nat) (h:x.length=0):O4 n x=x:=by
 have hx:x.cps = #[]:=Array.size_eq_zero_iff.mp h;have:(O4 n x).cps=x.cps:=by
   apply Array.toList_inj.mp;rw [Al,hx]; simp
 cases x; cases h:O4 n _; rw [h] at this; cases this; rfl
noncomputable def V1:wK->wK->Option wK
 | .int i,.int j=>if (-(2 ^ 64) < i/\i < 2 ^ 64)\/(-(2 ^ 64) < j/\j < 2 ^ 64) then some (.int (i*j)) else none
 | .str x,.int n=>if -(2 ^ 63)<=n/\n < 2 ^ 63/\x.length*n.toNat<=sizeLine then some (.str (O4 n.toNat x)) else none
 | .list xs,.int n=>if -(2 ^ 63)<=n/\n < 2 ^ 63/\xs.length*n.toNat<=sizeLine then some (.list (xF n.toNat xs).flatten) else none
 | _,_=>none
def rT:R2:=fun x y H Q=>∃ G a b d,Same G H/\Rep G a x/\Rep G b y/\V1 a b=some d/\∀ v G' H',Grow G H G' H'->Rep G' d v->Q v H'
theorem pP:OpD rT V1:=fun G H x y a b d Q hG ra rb e q=>⟨G,a,b,d,hG,ra,rb,e,q⟩
theorem gZ:fillsNumberSlot (.type "tuple") "mul" = pure false:=by
 unfold fillsNumberSlot;first | rfl | kernel_rfl | decide +kernel
theorem oS:seqRepeat? (.type "tuple")=pure (some (.builtin "tuple.__mul__")):=by
 unfold seqRepeat?;first | rfl | kernel_rfl
theorem mM (a:Int) (t:Tok) (l:wX) (items:Array wM) (n:Nat) (dd:Option wX) (sl:Array (Option wM)) :
   Meets (l0.«int.__rmul__» ⟨[.int a t,.ref l],[]⟩) (fun _ R s=>s.heap.get? l=some { cls:=.type "tuple",dict:=dd,data:=.seq items n,slots:=sl }/\R (.ok (.ret CY)) s) :=
 .of_wp fun prog w A R s h=>by obtain ⟨hp,g,d,tk,os⟩:=s; obtain ⟨hl,h⟩:=h; wp_walk; exact ⟨_,rfl,h⟩
theorem jN (l:wX) (items:Array wM) (n:Nat) (x:Int) (u:Tok) (dd:Option wX) (sl:Array (Option wM)) (h1:¬ (decide (x < -(2 ^ 63:Int))||decide (x≥2 ^ 63))=true) (h2:¬ (items.isEmpty||x==1)=true) (h3:¬ (decide (x<=0)||items.isEmpty)=true)
   (h4:¬ (items.size:Int)*x>(2 ^ 63 - 1) / 8) (h5:¬ Builtin.Tuple.tupleTooMany (items.size*x)=true) (h6:(ED (fun x1 x2=>x1++x2) #[] (xF x.toNat items)).size<=sizeLine) :
   Meets (l0.«tuple.__mul__» ⟨[.ref l,.int x u],[]⟩) (fun _ R s=>s.heap.get? l=some { cls:=.type "tuple",dict:=dd,data:=.seq items n,slots:=sl }/\R (.ok (.ret (zA s.heap.objs.size))) { s with heap:=s.heap.push { cls:=FM "tuple",data:=Data.seq (ED (fun x1 x2=>x1++x2) #[] (xF x.toNat items)) },toks:=s.toks }) :=
 .of_wp fun prog w A R s h=>by
   obtain ⟨hp,g,d,tk,os⟩:=s; obtain ⟨hl,h⟩:=h;have f1:=GZ
   wp_walk using zW hl
   rw [if_neg h1]
   wp_walk using zW hl
   rw [if_neg h4]
   wp_walk using zW hl
   exact ⟨_,rfl,h⟩
theorem jM (l:wX) (items:Array wM) (n:Nat) (x:Int) (u:Tok) (dd:Option wX) (sl:Array (Option wM)) (h1:¬ (decide (x < -(2 ^ 63:Int))||decide (x≥2 ^ 63))=true) (h2:(items.isEmpty||x==1)=true) :
   Meets (l0.«tuple.__mul__» ⟨[.ref l,.int x u],[]⟩) (fun _ R s=>s.heap.get? l=some { cls:=.type "tuple",dict:=dd,data:=.seq items n,slots:=sl }/\R (.ok (.ret (.ref l))) s) :=
 .of_wp fun prog w A R s h=>by
   obtain ⟨hp,g,d,tk,os⟩:=s; obtain ⟨hl,h⟩:=h;have f1:=GZ
   wp_walk using zW hl
   rw [if_neg h1]
   wp_walk using zW hl
   exact ⟨_,rfl,h⟩
noncomputable section
variable {X:Cx}
theorem pL:OpR X (CU .Mult) rT:=by
 rintro pins s Z H x y v u Q I rx ry ⟨G,a,b,d,hG,ra,rb,e,q⟩;have h63:=Hi;obtain ⟨k,rfl⟩:∃ k,b=.int k:=by unfold V1 at e; split at e <;> first | exact ⟨_,rfl⟩ | cases e
 cases (show _=_ from rb);obtain ⟨t',rfl⟩:=ry;cases a with
 | int i =>
   replace e:(if _ then _ else _)=some d:=e;split at e
   . rename_i hc
     cases e;cases (show _=_ from ra);obtain ⟨t,rfl⟩:=rx; exact mul_int ⟨.int _,H,I.tok _,⟨_,rfl⟩,q _ G H (Grow.refl hG) rfl⟩ (CMul.ok hc)
   . cases e
 | str z =>
   replace e:(if _ then _ else _)=some d:=e;split at e
   . rename_i hc
     obtain ⟨hc1,hc2,hc3⟩:=hc; cases e; obtain ⟨e1,o1,l1⟩:=ra; cases e1; obtain ⟨t,rfl⟩:=rx; have fin:∀ tk,Q (.str (O4 k.toNat z)) H/\Inv X pins Z H { s with toks:=tk }:=fun tk=>⟨q _ G H (Grow.refl hG) ⟨rfl,gJ o1 _,by rw [Pu,GQ]; exact hc3⟩,I.tok _⟩;refine PySem.P.mul_str (by rw [decide_eq_false (by lia),decide_eq_false (by lia)]; rfl) (fun h1 _=>?_) (fun h1 _=>?_) ?_
     . intro hgt
       have hk:(0:Int) < k:=by lia
       have h2:(2 ^ 63 - 1) / k+1<=(z.length:Int):=by lia
       have h3:(2 ^ 63 - 1:Int) < ((2 ^ 63 - 1) / k+1)*k:=Int.lt_ediv_add_one_mul_self _ hk; have h4:((2 ^ 63 - 1) / k+1)*k<=(z.length:Int)*k:=Int.mul_le_mul_of_nonneg_right h2 (by lia);have h5:(z.length:Int)*k=((z.length*k.toNat:Nat):Int):=by
         rw [Int.natCast_mul,Int.toNat_of_nonneg (by lia)]
       lia
     . unfold Builtin.Str.tooLong
       exact decide_eq_false (by lia)
     . by_cases h1:k < 1
       . rw [if_pos h1]
         have:k.toNat=0:=by lia
         rw [this,Zc] at fin; exact ⟨by decide,⟨.str _,H,(fin _).2,⟨_,rfl⟩,(fin 0).1⟩⟩
       . rw [if_neg h1]
         by_cases h2:(k==1||z.length==0)=true
         . rw [if_pos h2]
           rw [CL] at h2; have ez:O4 k.toNat z=z:=by
             rcases h2 with h2 | h2
             . have:k=1:=j4 h2
               subst this; exact bY z
             . exact bZ _ (j4 h2)
           rw [ez] at fin; exact ⟨.str _,H,I,⟨_,rfl⟩,(fin 0).1⟩
         . rw [if_neg h2]
           exact ⟨by show (O4 k.toNat z).length<=_; rw [Pu,GQ]; exact hc3,⟨.str _,H,(fin _).2,⟨_,rfl⟩,(fin 0).1⟩⟩
   . cases e
 | list xs =>
   replace e:(if _ then _ else _)=some d:=e;split at e
   . rename_i hc
     obtain ⟨hc1,hc2,hc3⟩:=hc; cases e; obtain ⟨l,vs,rfl,h1,l1⟩:=ra; cases rx; have q3:=l1.length; obtain ⟨z,its,n,r,e⟩:=Am I hG h1; have hl:=r.length; have hlen:its.toArray.size*k.toNat<=sizeLine:=by rw [xE,<- hl,<- q3]; exact hc3
     have hcap:¬ its.toArray.size*k.toNat>(2 ^ 63 - 1) / 8:=by
       have:(sizeLine:Nat)<=(2 ^ 63 - 1) / 8:=by decide
       lia
     have hfit:¬ (!Builtin.List.listFitsIndex k)=true:=by
       rw [fitsIndex_both hc1 hc2]; exact c8
     have hlong:¬ u9 (its.toArray.size*k.toNat)=true:=by
       rw [aD hlen]; exact c8
     have hnew:ED (fun x1 x2=>x1++x2) #[] (xF (if its.toArray.isEmpty=true then 0 else k.toNat) its.toArray)=(xF k.toNat its).flatten.toArray:=by
       have f0:∀ m:Nat,ED (fun x1 x2=>x1++x2) #[] (xF m its.toArray)=(xF m its).flatten.toArray:=fun m=>by
         have:=iQ its m []; rw [xP] at this; exact this
       rw [f0];cases its with
       | nil=>simp
       | cons a r'=>rw [if_neg (by simp)]
     refine wpAny_binaryOp_repeat_ref (T := "list") (U := "int") (by decide) ⟨_,e,rfl⟩ (fun s'=>typeIs_int s' k t') noFill_list_mul F.fills_int_mul F.slot_int_rmul repeat_list F.slot_int_index.lookup
       (EZ F.slot_int_rmul (typeIs_int s k t') F.entry_int_rmul (F.args_int_rmul_2 _ _) (int___rmul___int_list k t' l its.toArray n)
         ⟨e,rfl,⟨_,e,rfl⟩,EZ F.slot_list_mul ⟨_,e,rfl⟩ F.entry_list_mul (F.args_list_mul_2 _ _) (AutoListH.list___mul___list_int_3 l its.toArray n k t' hfit hcap hlong) ⟨e,?_⟩⟩)
     rw [hnew]; exact Xx (t':=s.toks) I hG (r.rep k.toNat) (l1.rep k.toNat) (by rw [fD,GQ,<- q3]; exact hc3) q
   . cases e
 | _=>cases e
end
end Sm
end
noncomputable section
namespace Sm
open PySem PySem.Spec PyProof.Rows L2
open PySem.AutoSeq1 (wpAny_loadPart')
open PySem.MeetsSeq PySem.MeetsSeq2 PySem.MeetsSeq3
noncomputable def iO:j7->Int->Int->Bool
 | .Lt,i,j=>decide (i < j)
 | .LtE,i,j=>decide (i<=j)
 | .Gt,i,j=>decide (j < i)
 | _,i,j=>decide (j<=i)
noncomputable def Qr:j7->Str->Str->Bool
 | .Lt,x,y=>decide (x.cps.toList < y.cps.toList)
 | .LtE,x,y => !decide (y.cps.toList < x.cps.toList)
 | .Gt,x,y=>decide (y.cps.toList < x.cps.toList)
 | _,x,y => !decide (x.cps.toList < y.cps.toList)
noncomputable def bQ:j7->Nat->Nat->Bool
 | .Lt,m,n=>decide (m < n)
 | .LtE,m,n=>decide (m<=n)
 | .Gt,m,n=>decide (m>n)
 | _,m,n=>decide (m≥n)
noncomputable def rX:j7->Bool
 | .Lt=>true | .LtE=>true | .Gt=>true | .GtE=>true | _=>false
mutual
noncomputable def Rx (op:j7):wK->wK->Option Bool
 | .int i,.int j=>some (iO op i j)
 | .str x,.str y=>some (Qr op x y)
 | .tuple xs,.tuple ys=>Ev op xs ys
 | _,_=>none
noncomputable def Ev (op:j7):List wK->List wK->Option Bool
 | [],ys=>some (bQ op 0 ys.length)
 | x::xs,[]=>some (bQ op (xs.length+1) 0)
 | x::xs,y::ys=>if xA x y=true then Ev op xs ys else Rx op x y
end
def nQ (op:j7) (A:yZ) (s:wO) (u v:wM) (k:Bool):Prop:=∀ (prog:xT) (w:yC) (E:wM->wO->Prop) (Q:wM->wO->Prop),Q (.bool k) s->wpAny (xU prog w) A (richCompare op u v) Q E s
theorem tQ {op:j7} (h:rX op=true) (A:yZ) (s:wO) (i j:Int) (t u:Tok):nQ op A s (.int i t) (.int j u) (iO op i j):=fun prog w E Q q=>by
 cases op with
 | Lt=>exact (lt_int q:wpAny (xU prog w) A (zE .Lt (.int i t) (.int j u)) Q E s)
 | LtE=>exact (le_int q:wpAny (xU prog w) A (zE .LtE (.int i t) (.int j u)) Q E s)
 | Gt=>exact (gt_int q:wpAny (xU prog w) A (zE .Gt (.int i t) (.int j u)) Q E s)
 | GtE=>exact (ge_int q:wpAny (xU prog w) A (zE .GtE (.int i t) (.int j u)) Q E s)
 | _=>cases h
theorem tP {op:j7} (h:rX op=true) (A:yZ) (s:wO) (x y:Str) (t u:Tok):nQ op A s (.str x t) (.str y u) (Qr op x y):=fun prog w E Q q=>by
 cases op with
 | Lt=>exact (PySem.P.lt_str q:wpAny (xU prog w) A (zE .Lt (.str x t) (.str y u)) Q E s)
 | LtE=>exact (PySem.P.le_str (by simpa [Qr] using q):wpAny (xU prog w) A (zE .LtE (.str x t) (.str y u)) Q E s)
 | Gt=>exact (PySem.P.gt_str q:wpAny (xU prog w) A (zE .Gt (.str x t) (.str y u)) Q E s)
 | GtE=>exact (PySem.P.ge_str (by simpa [Qr] using q):wpAny (xU prog w) A (zE .GtE (.str x t) (.str y u)) Q E s)
 | _=>cases h
def Dw (op:j7) (A:yZ) (s:wO) (vs ws:List wM) (ds es:List wK):Prop :=
 ∀ (i:Nat) (v w:wM) (d e:wK),vs[i]? = some v->ws[i]? = some w->ds[i]? = some d->es[i]? = some e->SeqAt.EqAt A s v w (xA d e)/\∀ k,Rx op d e=some k->nQ op A s v w k
theorem Sr (l b:wX) (items items2:Array wM) (n n2:Nat) (dd dd2:Option wX) (sl sl2:Array (Option wM)) (ds es:List wK) (k:Bool) (hz1:items.toList.length=ds.length) (hz2:items2.toList.length=es.length) (hk:Ev .Lt ds es=some k) :
   Meets (l0.«tuple.__lt__» ⟨[.ref l,.ref b],[]⟩)
     (fun A R s=>s.heap.get? l=some { cls:=.type "tuple",dict:=dd,data:=.seq items n,slots:=sl }/\s.heap.get? b=some { cls:=.type "tuple",dict:=dd2,data:=.seq items2 n2,slots:=sl2 } /\
       Dw .Lt A.in1 s items.toList items2.toList ds es/\R (.ok (.ret (.bool k))) s) :=
 .of_wp fun prog w A R s h=>by
   obtain ⟨hp,g,d,tk,os⟩:=s; obtain ⟨hl,hb,hI,h⟩:=h;have f2:=FF; have z1:items.size=ds.length:=by rw [<- hz1]; simp
   have z2:items2.size=es.length:=by rw [<- hz2]; simp
   wp_walk using zW hl,zW hb,BD _ (fun L8 b s'=>b.1=none/\s'=⟨hp,g,d,tk,os⟩/\∃ (vs ws:List wM) (ds' es':List wK),L8=vs.zip ws /\
     vs.length=ds'.length/\ws.length=es'.length/\ds'.length+items2.size=es'.length+items.size/\Dw .Lt A.in1 ⟨hp,g,d,tk,os⟩ vs ws ds' es'/\Ev .Lt ds' es'=some k) _
   case turn =>
     rintro ⟨y,x⟩ L8 b s' ⟨hb',rfl,vs,ws,ds',es',hz,hv,hw,hlen,hI',hR⟩;cases vs with
     | nil=>rw [List.zip_nil_left] at hz; cases hz
     | cons v0 vs =>
       cases ws with
       | nil=>rw [List.zip_nil_right] at hz; cases hz
       | cons w0 ws =>
         cases ds' with
         | nil=>simp at hv
         | cons d0 ds' =>
           cases es' with
           | nil=>simp at hw
           | cons e0 es' =>
             rw [BI] at hz;injection hz with hyx hrest
             injection hyx with hy hx
             subst hy hx; simp only [xB] at hlen hv hw; obtain ⟨he,hc⟩:=hI' 0 y x d0 e0 rfl rfl rfl rfl; have hI2:Dw .Lt A.in1 ⟨hp,g,d,tk,os⟩ vs ws ds' es':=fun i v w d e h1 h2 h3 h4=>hI' (i+1) v w d e (by simpa using h1) (by simpa using h2) (by simpa using h3) (by simpa using h4);rw [Ev] at hR; refine wL (he prog w _ _ ?_);cases q:xA d0 e0 with
             | true =>
               rw [q,if_pos rfl] at hR
               wp_walk
               exact ⟨rfl,rfl,_,_,_,_,hrest,by lia,by lia,by lia,hI2,hR⟩
             | false =>
               rw [q,if_neg (by decide)] at hR; have hri:=hc k hR prog w
               wp_walk using hri
               exact ⟨_,rfl,by simpa using h⟩
   case fin =>
     rintro ⟨b1,b2⟩ s' ⟨hb',rfl,vs,ws,ds',es',hz,hv,hw,hlen,hI',hR⟩;simp only at hb'; subst hb'; have hv':k=decide (items.size < items2.size):=by
       cases ds' with
       | nil =>
         rw [Ev] at hR; have:=yF hR; rw [<- this]; simp only [yD] at hlen; simp only [bQ]; exact decide_eq_decide.mpr (by lia)
       | cons d0 ds' =>
         cases es' with
         | nil =>
           rw [Ev] at hR; have:=yF hR; rw [<- this]; simp only [yD,xB] at hlen; simp only [bQ]; exact decide_eq_decide.mpr (by lia)
         | cons e0 es' =>
           cases vs with
           | nil=>simp at hv
           | cons v0 vs =>
             cases ws with
             | nil=>simp at hw
             | cons w0 ws=>rw [BI] at hz; cases hz
     rw [hv'] at h
     wp_walk
     exact ⟨_,rfl,by simpa [CQ] using h⟩
   case h =>
     exact ⟨rfl,rfl,items.toList,items2.toList,ds,es,rfl,hz1,hz2,by lia,hI,hk⟩
theorem Ss (l b:wX) (items items2:Array wM) (n n2:Nat) (dd dd2:Option wX) (sl sl2:Array (Option wM)) (ds es:List wK) (k:Bool) (hz1:items.toList.length=ds.length) (hz2:items2.toList.length=es.length) (hk:Ev .LtE ds es=some k) :
   Meets (l0.«tuple.__le__» ⟨[.ref l,.ref b],[]⟩)
     (fun A R s=>s.heap.get? l=some { cls:=.type "tuple",dict:=dd,data:=.seq items n,slots:=sl }/\s.heap.get? b=some { cls:=.type "tuple",dict:=dd2,data:=.seq items2 n2,slots:=sl2 } /\
       Dw .LtE A.in1 s items.toList items2.toList ds es/\R (.ok (.ret (.bool k))) s) :=
 .of_wp fun prog w A R s h=>by
   obtain ⟨hp,g,d,tk,os⟩:=s; obtain ⟨hl,hb,hI,h⟩:=h;have f2:=FF; have z1:items.size=ds.length:=by rw [<- hz1]; simp
   have z2:items2.size=es.length:=by rw [<- hz2]; simp
   wp_walk using zW hl,zW hb,BD _ (fun L8 b s'=>b.1=none/\s'=⟨hp,g,d,tk,os⟩/\∃ (vs ws:List wM) (ds' es':List wK),L8=vs.zip ws /\
     vs.length=ds'.length/\ws.length=es'.length/\ds'.length+items2.size=es'.length+items.size/\Dw .LtE A.in1 ⟨hp,g,d,tk,os⟩ vs ws ds' es'/\Ev .LtE ds' es'=some k) _
   case turn =>
     rintro ⟨y,x⟩ L8 b s' ⟨hb',rfl,vs,ws,ds',es',hz,hv,hw,hlen,hI',hR⟩;cases vs with
     | nil=>rw [List.zip_nil_left] at hz; cases hz
     | cons v0 vs =>
       cases ws with
       | nil=>rw [List.zip_nil_right] at hz; cases hz
       | cons w0 ws =>
         cases ds' with
         | nil=>simp at hv
         | cons d0 ds' =>
           cases es' with
           | nil=>simp at hw
           | cons e0 es' =>
             rw [BI] at hz;injection hz with hyx hrest
             injection hyx with hy hx
             subst hy hx; simp only [xB] at hlen hv hw; obtain ⟨he,hc⟩:=hI' 0 y x d0 e0 rfl rfl rfl rfl; have hI2:Dw .LtE A.in1 ⟨hp,g,d,tk,os⟩ vs ws ds' es':=fun i v w d e h1 h2 h3 h4=>hI' (i+1) v w d e (by simpa using h1) (by simpa using h2) (by simpa using h3) (by simpa using h4);rw [Ev] at hR; refine wL (he prog w _ _ ?_);cases q:xA d0 e0 with
             | true =>
               rw [q,if_pos rfl] at hR
               wp_walk
               exact ⟨rfl,rfl,_,_,_,_,hrest,by lia,by lia,by lia,hI2,hR⟩
             | false =>
               rw [q,if_neg (by decide)] at hR; have hri:=hc k hR prog w
               wp_walk using hri
               exact ⟨_,rfl,by simpa using h⟩
   case fin =>
     rintro ⟨b1,b2⟩ s' ⟨hb',rfl,vs,ws,ds',es',hz,hv,hw,hlen,hI',hR⟩;simp only at hb'; subst hb'; have hv':k=decide (items.size<=items2.size):=by
       cases ds' with
       | nil =>
         rw [Ev] at hR; have:=yF hR; rw [<- this]; simp only [yD] at hlen; simp only [bQ]; exact decide_eq_decide.mpr (by lia)
       | cons d0 ds' =>
         cases es' with
         | nil =>
           rw [Ev] at hR; have:=yF hR; rw [<- this]; simp only [yD,xB] at hlen; simp only [bQ]; exact decide_eq_decide.mpr (by lia)
         | cons e0 es' =>
           cases vs with
           | nil=>simp at hv
           | cons v0 vs =>
             cases ws with
             | nil=>simp at hw
             | cons w0 ws=>rw [BI] at hz; cases hz
     rw [hv'] at h
     wp_walk
     exact ⟨_,rfl,by simpa [CQ] using h⟩
   case h =>
     exact ⟨rfl,rfl,items.toList,items2.toList,ds,es,rfl,hz1,hz2,by lia,hI,hk⟩
theorem kP {op:j7} (ho:op=.Lt\/op=.LtE) {A:yZ} {s:wO} {l b:wX} {items items2:Array wM} {ds es:List wK} {k:Bool} (hl:DU s.heap l items) (hb:DU s.heap b items2) (hz1:items.toList.length=ds.length) (hz2:items2.toList.length=es.length)
   (hI:Dw op A.in1 s items.toList items2.toList ds es) (hk:Ev op ds es=some k) (hu:A.units < i4):nQ op A s (.ref l) (.ref b) k:=fun prog w E Q q=>by
 obtain ⟨⟨cls,dd,data,sl⟩,ho1,hc,n,hd⟩:=id hl;obtain ⟨⟨cls2,dd2,data2,sl2⟩,ho2,hc2,n2,hd2⟩:=id hb;simp only at hc hd hc2 hd2;subst hc hd hc2 hd2;rcases ho with rfl | rfl
 . exact richCompare_meets_room (op := .Lt) ⟨_, ho1, rfl⟩ ⟨_, ho2, rfl⟩ PySem.F.slot_tuple_lt PySem.F.entry_tuple_lt (PySem.F.args_tuple_lt_2 _ _) (Sr l b items items2 n n2 dd dd2 sl sl2 ds es k hz1 hz2 hk)
     ⟨ho1,ho2,hI,show AO k≠CY/\Q (.bool k) s from ⟨(fun x=>nomatch x),q⟩⟩ hu
 . exact richCompare_meets_room (op := .LtE) ⟨_, ho1, rfl⟩ ⟨_, ho2, rfl⟩ PySem.F.slot_tuple_le PySem.F.entry_tuple_le (PySem.F.args_tuple_le_2 _ _) (Ss l b items items2 n n2 dd dd2 sl sl2 ds es k hz1 hz2 hk)
     ⟨ho1,ho2,hI,show AO k≠CY/\Q (.bool k) s from ⟨(fun x=>nomatch x),q⟩⟩ hu
theorem wA {op:j7} {i:Int} {b:wK} {k:Bool} (e:Rx op (.int i) b=some k):∃ j,b=.int j/\k=iO op i j:=by cases b <;> cases e; exact ⟨_,rfl,rfl⟩
theorem vZ {op:j7} {i:Str} {b:wK} {k:Bool} (e:Rx op (.str i) b=some k):∃ j,b=.str j/\k=Qr op i j:=by cases b <;> cases e; exact ⟨_,rfl,rfl⟩
theorem vY {op:j7} {i:List wK} {b:wK} {k:Bool} (e:Rx op (.tuple i) b=some k):∃ j,b=.tuple j/\Ev op i j=some k:=by cases b with | tuple j=>exact ⟨j,rfl,e⟩ | _=>cases e
noncomputable def ordB:wK->Bool
 | .int _=>true | .str _=>true | .tuple _=>true | _=>false
theorem Yg {op:j7} {a b:wK} {k:Bool} (h:ordB a=false) (e:Rx op a b=some k):False:=by cases a <;> first | (cases h; done) | cases e
mutual
theorem eL {op:j7} (ho:op=.Lt\/op=.LtE):∀ (a b:wK) (A:yZ) (s:wO) (u v:wM) (as bs:List wX) (k:Bool),Reads s.heap u a as->Reads s.heap v b bs->a.canLay0=true->b.canLay0=true->A.units+a.depth < i4->Rx op a b=some k->nQ op A s u v k
 | .int i,b,A,s,_,_,_,_,k,ra,rb,_,_,_,e=>by
   obtain ⟨j,rfl,rfl⟩:=wA e;cases ra; cases rb; exact tQ (by rcases ho with rfl | rfl <;> rfl) A s i j _ _
 | .str x,b,A,s,_,_,_,_,k,ra,rb,_,_,_,e=>by
   obtain ⟨j,rfl,rfl⟩:=vZ e;cases ra; cases rb; exact tP (by rcases ho with rfl | rfl <;> rfl) A s x j _ _
 | .tuple xs,b,A,s,_,_,_,_,k,ra,rb,ha,hb,hu,e=>by
   obtain ⟨ys,rfl,e⟩:=vY e;cases ra with
   | tuple h1 h2 h3 h4 =>
     cases rb with
     | tuple k1 k2 k3 k4 =>
       have hu':A.units+(yV xs+1) < i4:=hu; refine kP ho ⟨_,h1,h2,_,h3⟩ ⟨_,k1,k2,_,k3⟩ (EO _ _ _ h4) (EO _ _ _ k4) ?_ e (by lia);exact Zt ho xs ys A.in1 s _ _ _ _ h4 k4 ha hb (by show A.units+1+_ < _; lia)
 | .none,b,_,_,_,_,_,_,_,_,_,_,_,_,e=>(Yg (a:=.none) rfl e).elim
 | .bool c,b,_,_,_,_,_,_,_,_,_,_,_,_,e=>(Yg (a:=.bool c) rfl e).elim
 | .list c,b,_,_,_,_,_,_,_,_,_,_,_,_,e=>(Yg (a:=.list c) rfl e).elim
 | .dict c,b,_,_,_,_,_,_,_,_,_,_,_,_,e=>(Yg (a:=.dict c) rfl e).elim
theorem Zt {op:j7} (ho:op=.Lt\/op=.LtE):∀ (xs ys:List wK) (A:yZ) (s:wO) (vs ws:List wM) (as bs:List wX),GO s.heap vs xs as->GO s.heap ws ys bs->j5 xs=true->j5 ys=true->A.units+yV xs < i4->Dw op A s vs ws xs ys
 | [],_,_,_,_,_,_,_,_,_,_,_,_=>fun i v w d e h1 h2 h3 h4=>by simp at h3
 | _::_,[],_,_,_,_,_,_,_,_,_,_,_=>fun i v w d e h1 h2 h3 h4=>by simp at h4
 | x::xs,y::ys,A,s,_,_,_,_,ra,rb,ha,hb,hu=>by
   have ha':x.canLay0=true/\j5 xs=true:=by simpa [j5] using ha
   have hb':y.canLay0=true/\j5 ys=true:=by simpa [j5] using hb
   have hu':A.units+max x.depth (yV xs) < i4:=hu;cases ra with
   | cons r1 r2 =>
     cases rb with
     | cons q1 q2 =>
       intro i v w d e h1 h2 h3 h4;cases i with
       | zero =>
         simp at h1 h2 h3 h4;subst h1 h2 h3 h4; exact ⟨SeqAt.eqAt_reads _ _ _ _ _ _ _ _ r1 q1 ha'.1 hb'.1 (by lia),fun k hk=>eL ho _ _ A s _ _ _ _ k r1 q1 ha'.1 hb'.1 (by lia) hk⟩
       | succ i=>exact Zt ho xs ys A s _ _ _ _ r2 q2 ha'.2 hb'.2 (by lia) i v w d e (by simpa using h1) (by simpa using h2) (by simpa using h3) (by simpa using h4)
end
noncomputable def I0 (op:j7) (a b:wK):Option wK:=if a.depth<=60 then (Rx op a b).map .bool else none
def kR (op:j7):R2:=fun x y H Q=>∃ G a b k,Same G H/\Rep G a x/\Rep G b y/\a.depth<=60/\Rx op a b=some k/\Q (.bl k) H
noncomputable section
variable {X:Cx}
theorem Dm {op:j7} (ho:op=.Lt\/op=.LtE) (hu:X.A.units+64 < i4):OpR X (zE op) (kR op):=by
 rintro pins s Z H x y v u Q I rx ry ⟨G,a,b,k,hG,ra,rb,hd,e,q⟩;obtain ⟨as,r1⟩:=ra.reads I hG rx;obtain ⟨bs,r2⟩:=rb.reads I hG ry;have:=eL ho a b X.A s v u as bs k r1 r2 ra.lay rb.lay (by lia) e X.prog X.w X.xe (EP X pins Z Q) ⟨.bl k,H,I,rfl,q⟩;rcases ho with rfl | rfl
 . exact this
 . exact this
theorem eV {op:j7} (ho:op=.Gt\/op=.GtE):OpR X (zE op) (fun x y H Q=>∃ i j,x=.int i/\y=.int j/\Q (.bl (iO op i j)) H):=by
 rintro pins s Z H x y v u Q I rx ry ⟨i,j,e1,e2,q⟩;subst e1 e2;obtain ⟨t,rfl⟩:=rx;obtain ⟨t',rfl⟩:=ry;rcases ho with rfl | rfl
 . exact gt_int ⟨.bl _,H,I,rfl,q⟩
 . exact ge_int ⟨.bl _,H,I,rfl,q⟩
theorem Bv {op:j7}:OpD (kR op) (I0 op):=by
 intro G H x y a b d Q hG ra rb e q;unfold I0 at e;split at e
 . rename_i h
   cases e1:Rx op a b with
   | none=>rw [e1] at e; cases e
   | some k=>rw [e1] at e; cases e; exact ⟨G,a,b,k,hG,ra,rb,h,e1,q _ G H (Grow.refl hG) rfl⟩
 . cases e
noncomputable def Gm (op:j7):wK->wK->Option wK
 | .int i,.int j=>some (.bool (iO op i j))
 | _,_=>none
theorem aA {op:j7}:OpD (fun x y H Q=>∃ i j,x=.int i/\y=.int j/\Q (.bl (iO op i j)) H) (Gm op):=by
 intro G H x y a b d Q hG ra rb e q;cases a with
 | int i=>cases b with
   | int j=>cases e; cases (show _=_ from ra); cases (show _=_ from rb); exact ⟨i,j,rfl,rfl,q _ G H (Grow.refl hG) rfl⟩
   | _=>cases e
 | _=>cases e
end
end Sm
end
noncomputable section
namespace Sm
open PySem PySem.Spec PyProof.Rows L2
theorem Res.bind_assoc {α β γ:Type} (r:Res α) (f:α->Res β) (g:β->Res γ):(r.bind f).bind g=r.bind fun x=>(f x).bind g:=by cases r <;> rfl
structure Cxt (P:xT) (w:yC) (K:wQ) (mg:Str->Option wM) (base:yW) (X:Cx) (N:List Str) (sc:Scope) (k:Nat) (df:Bool):Prop where
 hP:X.prog=P
 hw:X.w=w
 hK:X.K=K
 hmg:X.mg=mg
 hb:X.base=base
 hN:X.N=N
 hs:X.env.scope=sc
 calm:X.calm=true
 room:Room k X.A
 fn:df=true->∀ x,X.fn x=true
 own:PassesOwn (xU X.prog X.w) X.A X.env X.xe
def Ie (scope sc:Scope):Scope :=
 { scope with names:=scope.names.map fun (n,k)=>if (k==.free&&sc.kind==.function&&sc.names.lookup n==some .cell) then (n,.cell) else (n,k) }
theorem eK {X:Cx} {scope sc:Scope} (h:X.env.scope=sc):l4 scope X.env=Ie scope sc:=by subst h; rfl
noncomputable section
variable {P:xT} {w:yC} {K:wQ} {mg:Str->Option wM} {base:yW} {X:Cx} {N:List Str} {sc:Scope} {k:Nat} {df:Bool} {E:EK} {pos:Pos}
theorem Cxt.blk (C:Cxt P w K mg base X N sc k df) {X':Cx} {N':List Str} {scope:Scope} (B:Blk X X' N' (l4 scope X.env)):Cxt P w K mg base X' N' (Ie scope sc) k false :=
 ⟨B.prog.trans C.hP,B.w.trans C.hw,B.K.trans C.hK,B.mg.trans C.hmg,B.base.trans C.hb,B.N,B.sc.trans (eK C.hs),B.calm.trans C.calm,by rw [B.A]; exact C.room,(fun h=>by cases h),by rw [B.xe]; exact AQ⟩
theorem Cxt.hu (C:Cxt P w K mg base X N sc k df):X.A.units+64 < i4:=C.room.units
noncomputable def okVar (N:List Str) (sc:Scope) (i:Nat) (x:Str):Bool :=
 (N[i]? == some x)&&(match sc.names.lookup x with | some .local=>true | some .cell=>true | some .free=>true | _=>false) && !(x==("__debug__" : Str)) && !(x==("__classdict__" : Str))
theorem A8 (C:Cxt P w K mg base X N sc k df) (i:Nat) {x:Str} (h:okVar N sc i x=true):DE X E (.Name x pos) (A5 i):=by
 unfold okVar at h;simp only [xX,BR] at h;obtain ⟨⟨⟨h1,h2⟩,h3⟩,h4⟩:=h;refine vV (by rw [C.hN]; exact j4 h1) ?_ h3 h4;rw [C.hs];unfold Vis;cases q:sc.names.lookup x with
 | none=>rw [q] at h2; cases h2
 | some z =>
   rw [q] at h2;cases z with
   | «local» => exact .inl rfl
   | cell=>exact .inr (.inl rfl)
   | free=>exact .inr (.inr rfl)
   | _=>cases h2
noncomputable def okGl (sc:Scope) (x:Str):Bool:=(sc.names.lookup x==some .globalImplicit) && !(x==("__debug__" : Str)) && !(x==("__name__" : Str))
theorem okGl.gl (C:Cxt P w K mg base X N sc k df) {x:Str} (h:okGl sc x=true):Gl X x/\(x==("__debug__" : Str))=false/\x ≠ "__name__" := by
 unfold okGl at h;simp only [xX,BR] at h;obtain ⟨⟨h1,h2⟩,h3⟩:=h;refine ⟨?_,h2,by simpa using h3⟩;unfold Gl;show X.env.scope.names.lookup x=_;rw [C.hs]; exact j4 h1
theorem Ya (C:Cxt P w K mg base X N sc k df) {x z:Str} (h:okGl sc x=true) (hm:∃ t,mg x=some (.str z t)) (hz:yB z=true:=by decide +kernel) (hl:z.length<=sizeLine:=by decide +kernel):DE X E (.Name x pos) (vC (.str z)):=by
 obtain ⟨t,hm⟩:=hm;obtain ⟨h1,h2,h3⟩:=okGl.gl C h;exact PE.imp (eR (v:=.str z) h1 (by rw [C.hmg]; exact hm) ⟨t,rfl⟩ h2) fun Z H Q hZ3=>by obtain ⟨G,δ,S,a⟩:=hZ3; exact a _ G H (Grow.refl S.sub) ⟨rfl,hz,hl⟩
theorem Yb (C:Cxt P w K mg base X N sc k df) {x:Str} {i:Int} (h:okGl sc x=true) (hm:∃ t,mg x=some (.int i t)):DE X E (.Name x pos) (vC (.int i)):=by
 obtain ⟨t,hm⟩:=hm;obtain ⟨h1,h2,h3⟩:=okGl.gl C h;exact PE.imp (eR (v:=.int i) h1 (by rw [C.hmg]; exact hm) ⟨t,rfl⟩ h2) fun Z H Q hZ3=>by obtain ⟨G,δ,S,a⟩:=hZ3; exact a _ G H (Grow.refl S.sub) rfl
variable {a b c:Expr} {f g f':Dn->Res wK}
theorem F8 (ha:DE X E a f) (hb:DE X E b g):DE X E (.BinOp a .Add b pos) (b2 f g E2):=bA pN pR ha hb
theorem d_sub (ha:DE X E a f) (hb:DE X E b g):DE X E (.BinOp a .Sub b pos) (b2 f g nB):=bA uJ pO ha hb
theorem Et (ha:DE X E a f) (hb:DE X E b g):DE X E (.BinOp a .Mult b pos) (b2 f g V1):=bA pL pP ha hb
theorem Vp (ha:DE X E a f) (hb:DE X E b g):DE X E (.BinOp a .Mod b pos) (b2 f g Ua):=bA uL pQ ha hb
theorem Yc (ha:DE X E a f) (hb:DE X E b g):DE X E (.BinOp a .FloorDiv b pos) (b2 f g Nk):=bA pM lQ ha hb
theorem aX (C:Cxt P w K mg base X N sc k df) (ha:DE X E a f) (hb:DE X E b g):DE X E (.Compare a [.Eq] [b] pos) (b2 f g dEq):=fL (lP C.hu) lR ha hb (Hh _)
theorem vW (C:Cxt P w K mg base X N sc k df) (ha:DE X E a f) (hb:DE X E b g):DE X E (.Compare a [.Lt] [b] pos) (b2 f g (I0 .Lt)):=fL (Dm (.inl rfl) C.hu) Bv ha hb (Hh _)
theorem d_ge (C:Cxt P w K mg base X N sc k df) (ha:DE X E a f) (hb:DE X E b g):DE X E (.Compare a [.GtE] [b] pos) (b2 f g (Gm .GtE)):=fL (eV (.inr rfl)) aA ha hb (Hh _)
theorem d_in (C:Cxt P w K mg base X N sc k df) (ha:DE X E a f) (hb:DE X E b g) (hm:behindInMarks .In b=false:=by with_unfolding_all rfl):DE X E (.Compare a [.In] [b] pos) (b2 f g (dIn false)):=fL (lO C.hu) cU ha hb hm
noncomputable def W8 (f g f':Dn->Res wK) (op op':wK->wK->Option wK):Dn->Res wK:=fun δ=>(f δ).bind fun x=>(g δ).bind fun y=>(ofO (op x y)).bind fun z=>match z with
 | .bool true=>(f' δ).bind fun u=>ofO (op' y u)
 | .bool false=>.ok (.bool false)
 | _=>.no
theorem aZ {o o':j7} {r r':R2} {op op':wK->wK->Option wK} (hr:OpR X (zE o) r) (ho:OpD r op) (hr':OpR X (zE o') r') (ho':OpD r' op') (ha:DE X E a f) (hb:DE X E b g) (hc:DE X E c f')
   (hm:EJ [o,o'] [b,c]=false):DE X E (.Compare a [o,o'] [b,c] pos) (W8 f g f' op op'):=by
 refine PE.imp (lL hr hr' ha hb hc hm) fun Z H Q hZ3=>?_;obtain ⟨G,δ,S,aft⟩:=hZ3;refine K2 S aft fun d1 v1 G1 H1 g1 r1 S1 a1=>?_;refine K2 S1 a1 fun d2 v2 G2 H2 g2 r2 S2 a2=>?_;cases e:op d1 d2 with
 | none=>rw [e] at a2; exact a2.elim
 | some d =>
   rw [e] at a2; refine ho G2 H2 v1 v2 d1 d2 d _ S2.sub (r1.mono g2.g) r2 e fun v G3 H3 g3 r3=>?_;cases d with
   | bool kk =>
     refine ⟨kk,r3,?_⟩; have S3:=S2.grow g3;cases kk with
     | false=>rw [if_neg (by decide)]; exact a2 _ G3 H3 g3 rfl
     | true =>
       rw [if_pos rfl]; refine K2 S3 (Aft.grow g3 a2) fun d4 v4 G4 H4 g4 r4 S4 a4=>?_;cases e':op' d2 d4 with
       | none=>rw [e'] at a4; exact a4.elim
       | some d=>rw [e'] at a4; exact ho' G4 H4 v2 v4 d2 d4 d Q S4.sub (r2.mono (g3.g.trans g4.g)) r4 e' a4
   | _=>exact (show False from a2).elim
theorem iT (C:Cxt P w K mg base X N sc k df) (ha:DE X E a f) (hb:DE X E b g) (hc:DE X E c f') (hm:EJ [.LtE,.LtE] [b,c]=false:=by with_unfolding_all rfl):DE X E (.Compare a [.LtE,.LtE] [b,c] pos) (W8 f g f' (I0 .LtE) (I0 .LtE)) :=
 aZ (Dm (.inr rfl) C.hu) Bv (Dm (.inr rfl) C.hu) Bv ha hb hc hm
theorem aY (C:Cxt P w K mg base X N sc k df) (ha:DE X E a f) (hb:DE X E b g) (hc:DE X E c f') (hm:EJ [.LtE,.Lt] [b,c]=false:=by with_unfolding_all rfl):DE X E (.Compare a [.LtE,.Lt] [b,c] pos) (W8 f g f' (I0 .LtE) (I0 .Lt)) :=
 aZ (Dm (.inr rfl) C.hu) Bv (Dm (.inl rfl) C.hu) Bv ha hb hc hm
noncomputable def Af:wK->Bool
 | .none=>true
 | _=>false
noncomputable def b1 (f:Dn->Res wK) (op:wK->Option wK):Dn->Res wK:=fun δ=>(f δ).bind fun x=>ofO (op x)
theorem Rep.non {G:Hp} {d:wK} {v:V} (r:Rep G d v):decide (v=.non)=Af d:=by
 cases d with
 | none=>cases (show _=_ from r); rfl
 | bool _=>cases (show _=_ from r); rfl
 | int _=>cases (show _=_ from r); rfl
 | str _=>cases r.1; rfl
 | list _=>obtain ⟨a,xs,rfl,_⟩:=r; rfl
 | tuple _=>obtain ⟨a,xs,rfl,_⟩:=r; rfl
 | dict _=>exact (show False from r).elim
theorem d_isN {j:Nat} {p:Pos} (ha:DE X E a f):DE X E (.Compare a [.Is] [.Constant .none j p] pos) (b1 f fun d=>some (.bool (Af d))):=by
 refine PE.imp (Xg (uH ha)) fun Z H Q hZ3=>?_;obtain ⟨G,δ,S,aft⟩:=hZ3;exact K2 S aft fun d1 v1 G1 H1 g1 r1 S1 a1=>by rw [r1.non]; exact a1 _ G1 H1 (Grow.refl S1.sub) rfl
noncomputable def nC:wK->Option wK
 | .int i=>some (.int (-i))
 | _=>none
theorem sI (ha:DE X E a f):DE X E (.UnaryOp .USub a pos) (b1 f nC):=by
 refine PE.imp (pe_un sP ha) fun Z H Q hZ3=>?_;obtain ⟨G,δ,S,aft⟩:=hZ3;refine K2 S aft fun d1 v1 G1 H1 g1 r1 S1 a1=>?_;cases d1 with
 | int i=>cases (show _=_ from r1); exact ⟨i,rfl,a1 _ G1 H1 (Grow.refl S1.sub) rfl⟩
 | _=>exact (show False from a1).elim
noncomputable def W6 (f g:Dn->Res wK):Dn->Res wK:=fun δ=>(f δ).bind fun x=>match x with
 | .bool true=>g δ
 | .bool false=>.ok (.bool false)
 | _=>.no
noncomputable def vOr (f g:Dn->Res wK):Dn->Res wK:=fun δ=>(f δ).bind fun x=>match x with
 | .bool false=>g δ
 | .bool true=>.ok (.bool true)
 | _=>.no
noncomputable def dNot:wK->Option wK
 | .bool b=>some (.bool (!b))
 | _=>none
variable {L8:List Expr}
theorem Bt {op:BoolOp} (ha:DE X E a f):DE X E (.BoolOp op [a] pos) f:=tZ ha
theorem V0 (ha:DE X E a f) (hb:DE X E (.BoolOp .And (b::L8) pos) g):DE X E (.BoolOp .And (a::b::L8) pos) (W6 f g):=by
 refine PE.imp (uF ha hb) fun Z H Q hZ3=>?_;obtain ⟨G,δ,S,aft⟩:=hZ3;refine K2 S aft fun d1 v1 G1 H1 g1 r1 S1 a1=>?_;cases d1 with
 | bool kk =>
   refine ⟨kk,r1,?_⟩;cases kk with
   | true=>rw [if_pos rfl]; exact ⟨G1,δ,S1,a1⟩
   | false=>rw [if_neg (by decide)]; exact a1 _ G1 H1 (Grow.refl S1.sub) rfl
 | _=>exact (show False from a1).elim
theorem d_or (ha:DE X E a f) (hb:DE X E (.BoolOp .Or (b::L8) pos) g):DE X E (.BoolOp .Or (a::b::L8) pos) (vOr f g):=by
 refine PE.imp (pe_or ha hb) fun Z H Q hZ3=>?_;obtain ⟨G,δ,S,aft⟩:=hZ3;refine K2 S aft fun d1 v1 G1 H1 g1 r1 S1 a1=>?_;cases d1 with
 | bool kk =>
   refine ⟨kk,r1,?_⟩;cases kk with
   | true=>rw [if_pos rfl]; exact a1 _ G1 H1 (Grow.refl S1.sub) rfl
   | false=>rw [if_neg (by decide)]; exact ⟨G1,δ,S1,a1⟩
 | _=>exact (show False from a1).elim
theorem d_not (ha:DE X E a f):DE X E (.UnaryOp .Not a pos) (b1 f dNot):=by
 refine PE.imp (uA ha) fun Z H Q hZ3=>?_;obtain ⟨G,δ,S,aft⟩:=hZ3;refine K2 S aft fun d1 v1 G1 H1 g1 r1 S1 a1=>?_;cases d1 with
 | bool kk=>exact ⟨kk,r1,a1 _ G1 H1 (Grow.refl S1.sub) rfl⟩
 | _=>exact (show False from a1).elim
def AftT (E:EK) (G H:Hp) (r:Res Bool) (Q:Bool->Hp->Prop):Prop:=match r with
 | .ok d=>∀ G' H',Grow G H G' H'->Q d H'
 | .exc c=>∀ G' H',Grow G H G' H'->E c H'
 | .no=>False
def tT (E:EK) (f:Dn->Res Bool):TT:=fun Z H Q=>∃ G δ,SR G H Z δ/\AftT E G H (f δ) Q
abbrev DT (X:Cx) (E:EK) (e:Expr) (f:Dn->Res Bool):Prop:=PT X e (tT E f)
abbrev DW (X:Cx) (E:EK) (e:Expr) (f:Dn->Res Bool):Prop:=PW X e (tT E f)
theorem AftT.grow {E:EK} {G H G' H':Hp} {r:Res Bool} {Q:Bool->Hp->Prop} (g:Grow G H G' H') (a:AftT E G H r Q):AftT E G' H' r Q:=by
 cases r with
 | ok d=>exact fun G2 H2 g2=>a G2 H2 (g.trans g2)
 | exc c=>exact fun G2 H2 g2=>a G2 H2 (g.trans g2)
 | no=>exact a
theorem PT.imp {X:Cx} {e:Expr} {t t':TT} (h:PT X e t) (i:∀ Z H Q,t' Z H Q->t Z H Q):PT X e t':=fun pins s Z H Q I q=>h pins s Z H Q I (i _ _ _ q)
theorem PW.imp {X:Cx} {e:Expr} {t t':TT} (h:PW X e t) (i:∀ Z H Q,t' Z H Q->t Z H Q):PW X e t':=fun wh pins s Z H Q I q=>h wh pins s Z H Q I (i _ _ _ q)
theorem Ah {E:EK} {G H:Hp} {Z:St} {δ:Dn} {f:Dn->Res wK} {k:wK->Res Bool} {Q:Bool->Hp->Prop} {R:VK} (S:SR G H Z δ) (a:AftT E G H ((f δ).bind k) Q)
   (h:∀ d v G1 H1,Grow G H G1 H1->Rep G1 d v->SR G1 H1 Z δ->AftT E G1 H1 (k d) Q->R v H1):tD E f Z H R:=by
 refine ⟨G,δ,S,?_⟩;cases e:f δ with
 | ok d =>
   rw [e] at a; exact fun v G' H' g r=>h d v G' H' g r (S.grow g) (AftT.grow g a)
 | exc c=>rw [e] at a; exact a
 | no=>rw [e] at a; exact a
theorem Ju {E:EK} {G H:Hp} {Z:St} {δ:Dn} {f:Dn->Res Bool} {k:Bool->Res Bool} {Q R:Bool->Hp->Prop} (S:SR G H Z δ) (a:AftT E G H ((f δ).bind k) Q)
   (h:∀ d G1 H1,Grow G H G1 H1->SR G1 H1 Z δ->AftT E G1 H1 (k d) Q->R d H1):tT E f Z H R:=by
 refine ⟨G,δ,S,?_⟩;cases e:f δ with
 | ok d =>
   rw [e] at a; exact fun G' H' g=>h d G' H' g (S.grow g) (AftT.grow g a)
 | exc c=>rw [e] at a; exact a
 | no=>rw [e] at a; exact a
theorem dX {E:EK} {G H:Hp} {Z:St} {δ:Dn} {f:Dn->Res Bool} {k:Bool->Res wK} {Q:VK} {R:Bool->Hp->Prop} (S:SR G H Z δ) (a:Aft E G H ((f δ).bind k) Q)
   (h:∀ d G1 H1,Grow G H G1 H1->SR G1 H1 Z δ->Aft E G1 H1 (k d) Q->R d H1):tT E f Z H R:=by
 refine ⟨G,δ,S,?_⟩;cases e:f δ with
 | ok d =>
   rw [e] at a; exact fun G' H' g=>h d G' H' g (S.grow g) (Aft.grow g a)
 | exc c=>rw [e] at a; exact a
 | no=>rw [e] at a; exact a
noncomputable def Yt:wK->Option Bool
 | .none=>some false
 | .bool b=>some b
 | .int i=>some (i != 0)
 | .str x=>some (x.length != 0)
 | .list xs=>some (!xs.isEmpty)
 | .tuple xs=>some (!xs.isEmpty)
 | .dict _=>none
noncomputable def C4 (f:Dn->Res wK):Dn->Res Bool:=fun δ=>(f δ).bind fun d=>ofO (Yt d)
theorem RepL.isEmpty {G:Hp} {ds:List wK} {xs:List V} (r:RepL G ds xs):ds.isEmpty=xs.isEmpty:=by
 have:=r.length;cases ds <;> cases xs <;> simp at this ⊢
theorem Rep.truV {G H:Hp} (hG:Same G H) {d:wK} {v:V} (r:Rep G d v) {kk:Bool} (e:Yt d=some kk):wG K v H kk:=by
 cases d with
 | none=>cases (show _=_ from r); cases e; rfl
 | bool _=>cases (show _=_ from r); cases e; rfl
 | int _=>cases (show _=_ from r); cases e; rfl
 | str x =>
   cases r.1; cases e;refine ⟨r.2.2,?_⟩; show (x.length != 0)=((x.length:Int) != 0);rw [i6]; simp
 | list _=>obtain ⟨a,xs,rfl,h1,l1⟩:=r; cases e; exact .inl ⟨xs,.inl (Rd.mono hG h1),by rw [l1.isEmpty]⟩
 | tuple _=>obtain ⟨a,xs,rfl,h1,l1⟩:=r; cases e; exact .inr (.inl ⟨xs,.inl (.inl (hG _ _ h1)),by rw [l1.isEmpty]⟩)
 | dict _=>cases e
theorem Bq (ha:DE X E a f) (he:∀ whole,isTrue a X.env whole=(do let v <- whole; standAt a.pos; holding [v] (truthy v)):=by intro _; rfl):DT X E a (C4 f):=by
 refine PT.imp (Zw ha he) fun Z H Q hZ3=>?_;obtain ⟨G,δ,S,aft⟩:=hZ3;refine Ah S aft fun d1 v1 G1 H1 g1 r1 S1 a1=>?_;cases e:Yt d1 with
 | none=>rw [e] at a1; exact a1.elim
 | some kk=>rw [e] at a1; exact ⟨kk,r1.truV S1.sub e,a1 G1 H1 (Grow.refl S1.sub)⟩
theorem Jb {o:j7} {r:R2} {op:wK->wK->Option wK} (hr:OpR X (zE o) r) (ho:OpD r op) (hbool:∀ x y d,op x y=some d->∃ kk,d=.bool kk) (ha:DE X E a f) (hb:DE X E b g) (hm:behindInMarks o b=false) :
   DT X E (.Compare a [o] [b] pos) (C4 (b2 f g op)):=by
 refine PT.imp (pB hr ha hb hm) fun Z H Q hZ3=>?_;obtain ⟨G,δ,S,aft⟩:=hZ3;have aft':AftT E G H ((f δ).bind fun x=>(g δ).bind fun y=>(ofO (op x y)).bind fun d=>ofO (Yt d)) Q:=by
   unfold C4 b2 at aft; simp only [Res.bind_assoc] at aft; exact aft
 refine Ah S aft' fun d1 v1 G1 H1 g1 r1 S1 a1=>?_;refine Ah S1 a1 fun d2 v2 G2 H2 g2 r2 S2 a2=>?_;cases e:op d1 d2 with
 | none=>rw [e] at a2; exact a2.elim
 | some d =>
   rw [e] at a2; obtain ⟨kk,rfl⟩:=hbool _ _ _ e; exact ho G2 H2 v1 v2 d1 d2 _ _ S2.sub (r1.mono g2.g) r2 e fun v G3 H3 g3 r3=>⟨kk,r3,a2 G3 H3 g3⟩
theorem rK (x y d:wK) (e:dEq x y=some d):∃ kk,d=.bool kk:=by unfold dEq at e; split at e <;> cases e; exact ⟨_,rfl⟩
theorem rJ (x y d:wK) (e:dNe x y=some d):∃ kk,d=.bool kk:=by unfold dNe at e; split at e <;> cases e; exact ⟨_,rfl⟩
theorem Lf {op:j7} (x y d:wK) (e:I0 op x y=some d):∃ kk,d=.bool kk:=by
 unfold I0 at e; split at e
 . obtain ⟨kk,_,rfl⟩:=yN.mp e; exact ⟨_,rfl⟩
 . cases e
theorem jA {op:j7} (x y d:wK) (e:Gm op x y=some d):∃ kk,d=.bool kk:=by
 unfold Gm at e; split at e
 . cases e; exact ⟨_,rfl⟩
 . cases e
theorem El (C:Cxt P w K mg base X N sc k df) (ha:DE X E a f) (hb:DE X E b g):DT X E (.Compare a [.Eq] [b] pos) (C4 (b2 f g dEq)):=Jb (lP C.hu) lR rK ha hb (Hh _)
theorem Li (C:Cxt P w K mg base X N sc k df) (ha:DE X E a f) (hb:DE X E b g):DT X E (.Compare a [.NotEq] [b] pos) (C4 (b2 f g dNe)):=Jb (uK C.hu) uM rJ ha hb (Hh _)
theorem gI (C:Cxt P w K mg base X N sc k df) (ha:DE X E a f) (hb:DE X E b g):DT X E (.Compare a [.Lt] [b] pos) (C4 (b2 f g (I0 .Lt))):=Jb (Dm (.inl rfl) C.hu) Bv Lf ha hb (Hh _)
theorem t_le (C:Cxt P w K mg base X N sc k df) (ha:DE X E a f) (hb:DE X E b g):DT X E (.Compare a [.LtE] [b] pos) (C4 (b2 f g (I0 .LtE))):=Jb (Dm (.inr rfl) C.hu) Bv Lf ha hb (Hh _)
theorem t_gt (C:Cxt P w K mg base X N sc k df) (ha:DE X E a f) (hb:DE X E b g):DT X E (.Compare a [.Gt] [b] pos) (C4 (b2 f g (Gm .Gt))):=Jb (eV (.inl rfl)) aA jA ha hb (Hh _)
theorem t_in (C:Cxt P w K mg base X N sc k df) (ha:DE X E a f) (hb:DE X E b g) (hm:behindInMarks .In b=false:=by with_unfolding_all rfl):DT X E (.Compare a [.In] [b] pos) (C4 (b2 f g (dIn false))):=Jb (lO C.hu) cU (fun _ _ _ e=>Rv e) ha hb hm
theorem nY (C:Cxt P w K mg base X N sc k df) (ha:DE X E a f) (hb:DE X E b g) (hm:behindInMarks .NotIn b=false:=by with_unfolding_all rfl):DT X E (.Compare a [.NotIn] [b] pos) (C4 (b2 f g (dIn true))):=Jb (gW C.hu) cU (fun _ _ _ e=>Rv e) ha hb hm
theorem sS {j:Nat} {p:Pos} (ha:DE X E a f):DT X E (.Compare a [.IsNot] [.Constant .none j p] pos) (fun δ=>(f δ).bind fun d=>.ok (!Af d)):=by
 refine PT.imp (kU (pJ ha)) fun Z H Q hZ3=>?_;obtain ⟨G,δ,S,aft⟩:=hZ3;exact Ah S aft fun d1 v1 G1 H1 g1 r1 S1 a1=>by rw [r1.non]; exact ⟨_,rfl,a1 G1 H1 (Grow.refl S1.sub)⟩
variable {c1 c2:Dn->Res Bool}
noncomputable def X8 (c:Dn->Res Bool):Dn->Res Bool:=fun δ=>(c δ).bind fun b=>.ok (!b)
noncomputable def W5 (c c':Dn->Res Bool):Dn->Res Bool:=fun δ=>(c δ).bind fun b=>if b=true then c' δ else .ok false
noncomputable def cOr (c c':Dn->Res Bool):Dn->Res Bool:=fun δ=>(c δ).bind fun b=>if b=true then .ok true else c' δ
theorem Ek (ha:DT X E a c1):DT X E (.UnaryOp .Not a pos) (X8 c1):=by
 refine PT.imp (tX ha) fun Z H Q hZ3=>?_;obtain ⟨G,δ,S,aft⟩:=hZ3;exact Ju S aft fun d G1 H1 g1 S1 a1=>a1 G1 H1 (Grow.refl S1.sub)
theorem Ez (ha:DT X E a c1):DW X E (.BoolOp .And [a] pos) c1:=oW ha
theorem Pj (ha:DT X E a c1):DW X E (.BoolOp .Or [a] pos) c1:=tV ha
theorem Jx (ha:DT X E a c1) (hb:DW X E (.BoolOp .And (b::L8) pos) c2):DW X E (.BoolOp .And (a::b::L8) pos) (W5 c1 c2):=by
 refine PW.imp (tW ha hb) fun Z H Q hZ3=>?_;obtain ⟨G,δ,S,aft⟩:=hZ3;refine Ju S aft fun d G1 H1 g1 S1 a1=>?_;cases d with
 | true=>rw [if_pos rfl]; exact ⟨G1,δ,S1,a1⟩
 | false=>rw [if_neg (by decide)]; exact a1 G1 H1 (Grow.refl S1.sub)
theorem Sq (ha:DT X E a c1) (hb:DW X E (.BoolOp .Or (b::L8) pos) c2):DW X E (.BoolOp .Or (a::b::L8) pos) (cOr c1 c2):=by
 refine PW.imp (pw_or ha hb) fun Z H Q hZ3=>?_;obtain ⟨G,δ,S,aft⟩:=hZ3;refine Ju S aft fun d G1 H1 g1 S1 a1=>?_;cases d with
 | true=>rw [if_pos rfl]; exact a1 G1 H1 (Grow.refl S1.sub)
 | false=>rw [if_neg (by decide)]; exact ⟨G1,δ,S1,a1⟩
theorem w_t (h:DW X E a c1):DT X E a c1:=h.pt
noncomputable def vIf (c:Dn->Res Bool) (f g:Dn->Res wK):Dn->Res wK:=fun δ=>(c δ).bind fun b=>if b=true then f δ else g δ
theorem rB (hc:DT X E c c1) (ha:DE X E a f) (hb:DE X E b g):DE X E (.IfExp c a b pos) (vIf c1 f g):=by
 refine PE.imp (lH hc ha hb) fun Z H Q hZ3=>?_;obtain ⟨G,δ,S,aft⟩:=hZ3;refine dX S aft fun d G1 H1 g1 S1 a1=>?_;cases d with
 | true=>rw [if_pos rfl]; exact ⟨G1,δ,S1,a1⟩
 | false=>rw [if_neg (by decide)]; exact ⟨G1,δ,S1,a1⟩
end
end Sm
end
noncomputable section
namespace Sm
open PySem PySem.Spec PyProof.Rows L2
noncomputable section
variable {w:yC} {K:wQ} {X:Cx} {k:Nat} {E:EK} {pos:Pos} {a b c e:Expr} {es:List Expr} {f g:Dn->Res wK} {fs:Dn->Res (List wK)}
def AftL (E:EK) (G H:Hp) (r:Res (List wK)) (Q:List V->Hp->Prop):Prop:=match r with
 | .ok ds=>∀ vs G' H',Grow G H G' H'->RepL G' ds vs->Q vs H'
 | .exc c=>∀ G' H',Grow G H G' H'->E c H'
 | .no=>False
def tA (E:EK) (fs:Dn->Res (List wK)):TA:=fun Z H Q=>∃ G δ,SR G H Z δ/\AftL E G H (fs δ) Q
structure DA (X:Cx) (E:EK) (es:List Expr) (n:Nat) (fs:Dn->Res (List wK)):Prop where
 pa:PA X es (tA E fs)
 len:∀ δ ds,fs δ=.ok ds->ds.length=n
theorem PA.imp {X:Cx} {es:List Expr} {t t':TA} (h:PA X es t) (i:∀ Z H Q,t' Z H Q->t Z H Q):PA X es t':=fun p pins s Z H Q I q=>h p pins s Z H Q I (i _ _ _ q)
theorem AftL.grow {E:EK} {G H G' H':Hp} {r:Res (List wK)} {Q:List V->Hp->Prop} (g:Grow G H G' H') (a:AftL E G H r Q):AftL E G' H' r Q:=by
 cases r with
 | ok d=>exact fun v G2 H2 g2 q=>a v G2 H2 (g.trans g2) q
 | exc c=>exact fun G2 H2 g2=>a G2 H2 (g.trans g2)
 | no=>exact a
theorem Pi {α:Type} {E:EK} {G H:Hp} {Z:St} {δ:Dn} {f:Dn->Res wK} {k:wK->Res α} {R:VK} {W:Hp->Hp->Res α->Prop} (S:SR G H Z δ) (a:W G H ((f δ).bind k)) (hg:∀ {G H G' H':Hp} {r:Res α},Grow G H G' H'->W G H r->W G' H' r)
   (hx:∀ c,W G H (.exc c)->∀ G' H',Grow G H G' H'->E c H') (hn:W G H .no->False)
   (h:∀ d v G1 H1,Grow G H G1 H1->Rep G1 d v->SR G1 H1 Z δ->W G1 H1 (k d)->R v H1):tD E f Z H R:=by
 refine ⟨G,δ,S,?_⟩;cases e:f δ with
 | ok d=>rw [e] at a; exact fun v G' H' g r=>h d v G' H' g r (S.grow g) (hg g a)
 | exc c=>rw [e] at a; exact hx c a
 | no=>rw [e] at a; exact hn a
theorem Df {α:Type} {E:EK} {G H:Hp} {Z:St} {δ:Dn} {fs:Dn->Res (List wK)} {k:List wK->Res α} {R:List V->Hp->Prop} {W:Hp->Hp->Res α->Prop} (S:SR G H Z δ) (a:W G H ((fs δ).bind k)) (hg:∀ {G H G' H':Hp} {r:Res α},Grow G H G' H'->W G H r->W G' H' r)
   (hx:∀ c,W G H (.exc c)->∀ G' H',Grow G H G' H'->E c H') (hn:W G H .no->False)
   (h:∀ ds vs G1 H1,fs δ=.ok ds->Grow G H G1 H1->RepL G1 ds vs->SR G1 H1 Z δ->W G1 H1 (k ds)->R vs H1):tA E fs Z H R:=by
 refine ⟨G,δ,S,?_⟩;cases e:fs δ with
 | ok d=>rw [e] at a; exact fun v G' H' g r=>h d v G' H' e g r (S.grow g) (hg g a)
 | exc c=>rw [e] at a; exact hx c a
 | no=>rw [e] at a; exact hn a
noncomputable def B2:Dn->Res (List wK):=fun _=>.ok []
noncomputable def A4 (f:Dn->Res wK) (fs:Dn->Res (List wK)):Dn->Res (List wK):=fun δ=>(f δ).bind fun d=>(fs δ).bind fun ds=>.ok (d::ds)
theorem B3:DA X E [] 0 B2:=⟨PA.imp Z5 fun Z H Q hZ3=>by obtain ⟨G,δ,S,a⟩:=hZ3; exact a [] G H (Grow.refl S.sub) rfl,fun δ ds e=>by cases e; rfl⟩
noncomputable def Xm:Expr->Bool
 | .Starred .. => false
 | _=>true
theorem gK {a:Expr} {es:List Expr} {env:Env} (h:Xm a=true):wY (a::es) env=(false,eval a env)::wY es env:=by
 cases a <;> first | rfl | cases h
theorem A6 {n:Nat} (ha:DE X E a f) (hr:DA X E es n fs) (hs:Xm a=true:=by rfl):DA X E (a::es) (n+1) (A4 f fs):=by
 refine ⟨PA.imp (P7 ha hr.pa (gK hs)) fun Z H Q ⟨G,δ,S,aft⟩=>?_,fun δ ds e=>?_⟩
 . refine Pi (W:=fun G H r=>AftL E G H r Q) S aft (fun g a=>AftL.grow g a) (fun c a=>a) (fun a=>a) fun d v G1 H1 g1 r1 S1 a1=>?_
   refine Df (W:=fun G H r=>AftL E G H r Q) S1 a1 (fun g a=>AftL.grow g a) (fun c a=>a) (fun a=>a) fun ds vs G2 H2 e g2 r2 S2 a2=>?_;exact a2 _ G2 H2 (Grow.refl S2.sub) (RepL.cons (r1.mono g2.g) r2)
 . unfold A4 at e
   cases h1:f δ with
   | ok d =>
     rw [h1] at e;cases h2:fs δ with
     | ok ds' =>
       simp only [Res.bind,h2] at e; cases e; rw [xB,hr.len δ ds' h2]
     | exc c=>simp only [Res.bind,h2] at e; cases e
     | no=>simp only [Res.bind,h2] at e; cases e
   | exc c=>rw [h1] at e; cases e
   | no=>rw [h1] at e; cases e
noncomputable def E8 (fs:Dn->Res (List wK)):Dn->Res wK:=fun δ=>(fs δ).bind fun ds=>.ok (.tuple ds)
noncomputable def I8 (fs:Dn->Res (List wK)):Dn->Res wK:=fun δ=>(fs δ).bind fun ds=>.ok (.list ds)
theorem K4 {n x1:Nat} (h:DA X E es n fs) (hn:n<=sizeLine:=by decide):DE X E (.Tuple es x1 pos) (E8 fs):=by
 refine PE.imp (tY h.pa) fun Z H Q hZ3=>?_;obtain ⟨G,δ,S,aft⟩:=hZ3;refine Df (W:=fun G H r=>Aft E G H r Q) S aft (fun g a=>Aft.grow g a) (fun c a=>a) (fun a=>a) fun ds vs G1 H1 e g1 r1 S1 a1=>?_;refine ⟨by rw [<- r1.length,h.len δ ds e]; exact hn,fun p hp=>?_⟩;exact a1 _ (upd G1 p (.tup vs)) _ (Grow.new S1.sub hp) ⟨p,vs,rfl,D3,r1.mono (Same.upd (S1.sub.free hp))⟩
def nS (E:EK) (G H:Hp) (r:Res (List wK)) (Q:VK):Prop:=match r with
 | .ok ds=>∀ p xs G' H',Grow G H G' H'->H p=none->G' p=none->H' p=some (.lst xs)->RepL G' ds xs->Q (.ref p) H'
 | .exc c=>∀ G' H',Grow G H G' H'->E c H'
 | .no=>False
def tF (E:EK) (f:Dn->Res (List wK)):TE:=fun Z H Q=>∃ G δ,SR G H Z δ/\nS E G H (f δ) Q
abbrev DF (X:Cx) (E:EK) (e:Expr) (f:Dn->Res (List wK)):Prop:=PE X e (tF E f)
theorem Grow.share {G H G' H':Hp} {p:wX} {o:HO} (g:Grow G H G' H') (hp:H p=none) (hg:G' p=none) (hH:H' p=some o):Grow G H (upd G' p o) H' :=
 ⟨g.g.trans (Same.upd hg),g.h,fun b u e=>by
   by_cases hb:b=p
   . subst hb; rw [D3] at e; cases e; exact hH
   . rw [C8 hb] at e; exact g.gh _ _ e,fun b u e=>by
   by_cases hb:b=p
   . subst hb; exact .inr (.inl hp)
   . rw [C8 hb] at e; exact g.fr _ _ e⟩
theorem L6 (h:DF X E e fs):DE X E e (I8 fs):=by
 refine PE.imp h fun Z H Q hY35=>?_;obtain ⟨G,δ,S,aft⟩:=hY35;refine ⟨G,δ,S,?_⟩;unfold I8 at aft;cases e:fs δ with
 | ok ds =>
   rw [e] at aft; exact fun p xs G' H' g hp hg hH r=>aft _ _ H' (g.share hp hg hH) ⟨p,xs,rfl,.inl D3,r.mono (Same.upd hg)⟩
 | exc c=>rw [e] at aft; exact aft
 | no=>rw [e] at aft; exact aft
theorem X5 {n:Nat} (h:DA X E es n fs) (hn:n<=sizeLine:=by decide):DF X E (.List es pos) fs:=by
 refine PE.imp (lG h.pa) fun Z H Q hY36=>?_;obtain ⟨G,δ,S,aft⟩:=hY36;refine ⟨G,δ,S,?_⟩;cases e:fs δ with
 | ok ds =>
   rw [e] at aft; refine fun vs G1 H1 g1 r1=>⟨by rw [<- r1.length,h.len δ ds e]; exact hn,fun p hp=>?_⟩;exact aft p vs G1 _ (g1.trans (Grow.own g1.gh hp)) (g1.h.free hp) (g1.gh.free hp) D3 r1
 | exc c=>rw [e] at aft; exact aft
 | no=>rw [e] at aft; exact aft
noncomputable def dIx:wK->wK->Option wK
 | .list ds,.int i=>atI ds i
 | .tuple ds,.int i=>atI ds i
 | .str x,.int i=>(atI x.cps.toList i).map fun c=>.str ⟨#[c]⟩
 | _,_=>none
theorem fW {G:Hp} {ds:List wK} {xs:List V} {i:Int} {d:wK} (r:RepL G ds xs) (e:atI ds i=some d):∃ x,atI xs i=some x/\Rep G d x:=by
 unfold atI at e ⊢;rw [<- r.length];cases q:ixN ds.length i with
 | none=>rw [q] at e; cases e
 | some j=>rw [q] at e; exact r.get e
theorem uN:OpD (rIx K) dIx:=by
 intro G H x y a b d Q hG ra rb e q;cases b with
 | int i =>
   cases (show _=_ from rb);cases a with
   | list ds =>
     obtain ⟨p,xs,rfl,h1,l1⟩:=ra; obtain ⟨v,e1,r1⟩:=fW l1 e; exact .inl ⟨p,xs,i,v,rfl,rfl,.inl (Rd.mono hG h1),e1,q _ G H (Grow.refl hG) r1⟩
   | tuple ds =>
     obtain ⟨p,xs,rfl,h1,l1⟩:=ra; obtain ⟨v,e1,r1⟩:=fW l1 e; exact .inr (.inl ⟨p,xs,i,v,rfl,rfl,.inl (.inl (hG _ _ h1)),e1,q _ G H (Grow.refl hG) r1⟩)
   | str z =>
     obtain ⟨e0,o1,l1⟩:=ra; subst e0; obtain ⟨cc,e1,rfl⟩:=yN.mp e; refine .inr (.inr ⟨z,i,cc,rfl,rfl,l1,e1,q _ G H (Grow.refl hG) ⟨rfl,?_,?_⟩⟩)
     . obtain ⟨j,_,h2,_⟩:=Ph e1
       have hm:cc∈z.cps.toList:=e8 h2; unfold yB at *;rw [<- ES,f9] at o1; have:=o1 cc hm;simpa using this
     . show 1<=sizeLine; decide
   | _=>cases e
 | _=>cases a <;> cases e
theorem D8 (ha:DE X E a f) (hb:DE X E b g) (hs:fZ b:=by exact fun _ _=>rfl):DE X E (.Subscript a b pos) (b2 f g dIx) :=
 PE.imp (pe_ix vO ha hb hs) fun _ _ _ h=>jR uN h
noncomputable def Jn (xs:List wK) (lo hi:Option Int):List wK:=(xs.drop (HT.sIx xs.length 0 lo)).take (HT.sIx xs.length xs.length hi - HT.sIx xs.length 0 lo)
noncomputable def bB (d:wK) (lo hi:Option Int):Option wK:=match d with
 | .list ds=>some (.list (Jn ds lo hi))
 | .tuple ds=>some (.tuple (Jn ds lo hi))
 | _=>none
theorem fP {G:Hp} {ds:List wK} {xs:List V} (r:RepL G ds xs) (lo hi:Option Int):RepL G (Jn ds lo hi) (iY xs lo hi):=by
 unfold Jn iY;rw [r.length];exact (r.drop _).take _
noncomputable def rSlD:V->Option Int->Option Int->Hp->VK->Prop:=fun x lo hi H Q=>∃ G a d,Same G H/\Rep G a x/\bB a lo hi=some d/\∀ v G' H',Grow G H G' H'->Rep G' d v->Q v H'
theorem Ih {prog:xT} {w:yC} {A:yZ} {E:wM->wO->Prop} {s:wO} {t sl:wX} {items:Array wM} {vl vu:wM} {lo hi:Option Int} {Q:wM->wO->Prop} (ht:DU s.heap t items) (hs:s.heap.IsSliceOf sl vl vu .none) (pl:EH vl lo) (pu:EH vu hi)
   (hw:HT.sIx items.size 0 lo=0/\HT.sIx items.size items.size hi=items.size) (h:Q (.ref t) s):wpAny (xU prog w) A (BO (.ref t) (.ref sl)) Q E s:=by
 obtain ⟨os,hos,hcs,hds⟩:=id hs;have hTs:s.TypeIs (.ref sl) "slice" := ⟨os,hos,hcs⟩;unfold BO;try with_reducible refine c9 ?_
 first | refine wL (wN ?_) | skip
 refine wL (CB ht.typeIs (by decide) ?_);refine wL (zT (name:=p4 "__getitem__") ht.typeIs g9
   (zZ g9 ht.typeIs entry_tuple_getitem ?_ (args_tuple_getitem _ _)))
 show wpAny _ _ (AS (.ref t)>>=_) _ _ s;refine wL (tupleItemsOf_ ht ?_);refine wL (FG hTs ?_);rw [if_pos (by decide)];refine wL (HT.sliceApplied_gen hs pl pu ?_);show wpAny _ _ (if (((HT.sIx items.size 0 lo:Nat):Int)==0&&(1:Int)==1&&(HT.sIx items.size items.size hi - HT.sIx items.size 0 lo)==items.size)=true then _ else _) _ _ s;rw [if_pos (by rw [hw.1,hw.2]; simp)];unfold Builtin.Tuple.tupleIsExact;refine wL (wL (FG ht.typeIs (wN ?_)));rw [if_pos (by decide)];first
   | exact wL (i0 (wN ⟨_,rfl,wN h⟩))
   | exact wL (i0 (wL (wN (wN ⟨_,rfl,wN h⟩))))
theorem sl_D:SlR X rSlD:=by
 rintro pins s Z H x v vl vu lo hi sl Q I rx hs pl pu ⟨G,a,d,hG,ra,e,q⟩;cases a with
 | list ds =>
   cases e; obtain ⟨p,xs,rfl,h1,l1⟩:=ra; cases rx; obtain ⟨z,its,n,r,e1⟩:=Am I hG h1; have hlen:=r.length; have hl:s.heap.IsList p its.toArray:=⟨_,e1,rfl,n,rfl⟩; refine ⟨"list",_,FH.lookup,hl.typeIs,?_⟩; refine wpAny_getItem_list_slice hl hs pl pu .none (by simp) ?_ (by rw [xE] <;> lia)
   rw [Im,<- hlen]; exact Xx (t':=s.toks) I hG ((r.drop (HT.sIx xs.length 0 lo)).take (HT.sIx xs.length xs.length hi - HT.sIx xs.length 0 lo)) (fP l1 lo hi) (xD (Hs xs lo hi) z) q
 | tuple ds =>
   cases e; obtain ⟨p,xs,rfl,h1,l1⟩:=ra; cases rx; obtain ⟨z,its,r,ht⟩:=Lw I hG h1; have hlen:its.toArray.size=xs.length:=by rw [xE]; exact r.length.symm
   refine ⟨"tuple",_,g9.lookup,ht.typeIs,?_⟩;by_cases hw:HT.sIx xs.length 0 lo=0/\HT.sIx xs.length xs.length hi=xs.length
   . refine Ih ht hs pl pu (by rw [hlen]; exact hw) ⟨.ref p,H,I,rfl,q _ G H (Grow.refl hG) ⟨p,xs,rfl,h1,?_⟩⟩
     have:Jn ds lo hi=ds:=by
       unfold Jn; rw [l1.length,hw.1,hw.2,BJ,Nat.sub_zero,<- l1.length,List.take_length]
     rw [this]; exact l1
   . refine HT.getItem_tuple_cut ht hs pl pu (by rw [hlen]; exact hw) ?_ (by rw [hlen]; exact z)
     rw [hlen]; exact fJ (t':=s.toks) I hG ((r.drop (HT.sIx xs.length 0 lo)).take (HT.sIx xs.length xs.length hi - HT.sIx xs.length 0 lo)) (fP l1 lo hi) (xD (Hs xs lo hi) z) q
 | _=>cases e
def AftO (E:EK) (G H:Hp) (r:Res (Option Int)) (Q:Option Int->Hp->Prop):Prop:=match r with
 | .ok ds=>∀ G' H',Grow G H G' H'->Q ds H'
 | .exc c=>∀ G' H',Grow G H G' H'->E c H'
 | .no=>False
def tO (E:EK) (f:Dn->Res (Option Int)):TO:=fun Z H Q=>∃ G δ,SR G H Z δ/\AftO E G H (f δ) Q
abbrev DO (X:Cx) (E:EK) (e:Option Expr) (f:Dn->Res (Option Int)):Prop:=PO X e (tO E f)
theorem PO.imp {X:Cx} {e:Option Expr} {t t':TO} (h:PO X e t) (i:∀ Z H Q,t' Z H Q->t Z H Q):PO X e t':=fun pins s Z H Q I q=>h pins s Z H Q I (i _ _ _ q)
noncomputable def Kt:Dn->Res (Option Int):=fun _=>.ok none
noncomputable def Ks (f:Dn->Res wK):Dn->Res (Option Int):=fun δ=>(f δ).bind fun d=>match d with
 | .int i=>.ok (some i)
 | _=>.no
theorem AftO.grow {E:EK} {G H G' H':Hp} {r:Res (Option Int)} {Q:Option Int->Hp->Prop} (g:Grow G H G' H') (a:AftO E G H r Q):AftO E G' H' r Q:=by
 cases r with
 | ok d=>exact fun G2 H2 g2=>a G2 H2 (g.trans g2)
 | exc c=>exact fun G2 H2 g2=>a G2 H2 (g.trans g2)
 | no=>exact a
theorem Xl:DO X E none Kt:=PO.imp pF fun Z H Q hZ3=>by obtain ⟨G,δ,S,a⟩:=hZ3; exact a G H (Grow.refl S.sub)
theorem Xk (h:DE X E e f):DO X E (some e) (Ks f):=by
 refine PO.imp (pE h) fun Z H Q hZ3=>?_;obtain ⟨G,δ,S,aft⟩:=hZ3;refine Pi (W:=fun G H r=>AftO E G H r Q) S aft (fun g a=>AftO.grow g a) (fun c a=>a) (fun a=>a) fun d v G1 H1 g1 r1 S1 a1=>?_;cases d with
 | int i=>exact ⟨i,r1,a1 G1 H1 (Grow.refl S1.sub)⟩
 | _=>exact (show False from a1).elim
theorem bN {α:Type} {E:EK} {G H:Hp} {Z:St} {δ:Dn} {fs:Dn->Res (Option Int)} {k:Option Int->Res α} {R:Option Int->Hp->Prop} {W:Hp->Hp->Res α->Prop} (S:SR G H Z δ) (a:W G H ((fs δ).bind k)) (hg:∀ {G H G' H':Hp} {r:Res α},Grow G H G' H'->W G H r->W G' H' r)
   (hx:∀ c,W G H (.exc c)->∀ G' H',Grow G H G' H'->E c H') (hn:W G H .no->False)
   (h:∀ ds G1 H1,Grow G H G1 H1->SR G1 H1 Z δ->W G1 H1 (k ds)->R ds H1):tO E fs Z H R:=by
 refine ⟨G,δ,S,?_⟩;cases e:fs δ with
 | ok d=>rw [e] at a; exact fun G' H' g=>h d G' H' g (S.grow g) (hg g a)
 | exc c=>rw [e] at a; exact hx c a
 | no=>rw [e] at a; exact hn a
noncomputable def vSl (f:Dn->Res wK) (lo hi:Dn->Res (Option Int)):Dn->Res wK:=fun δ=>(f δ).bind fun x=>(lo δ).bind fun l=>(hi δ).bind fun u=>ofO (bB x l u)
variable {lo hi:Option Expr} {fl fh:Dn->Res (Option Int)} {p2:Pos}
theorem Pe (he:DE X E e f) (hl:DO X E lo fl) (hu:DO X E hi fh):DE X E (.Subscript e (.Slice lo hi none p2) pos) (vSl f fl fh):=by
 refine PE.imp (lD sl_D he hl hu) fun Z H Q hZ3=>?_;obtain ⟨G,δ,S,aft⟩:=hZ3;refine K2 S aft fun d v G1 H1 g1 r1 S1 a1=>?_;refine bN (W:=fun G H r=>Aft E G H r Q) S1 a1 (fun g a=>Aft.grow g a) (fun c a=>a) (fun a=>a) fun l G2 H2 g2 S2 a2=>?_;refine bN (W:=fun G H r=>Aft E G H r Q) S2 a2 (fun g a=>Aft.grow g a) (fun c a=>a) (fun a=>a) fun u G3 H3 g3 S3 a3=>?_;cases e:bB d l u with
 | none=>rw [e] at a3; exact a3.elim
 | some z=>rw [e] at a3; exact ⟨G3,d,z,S3.sub,r1.mono (g2.g.trans g3.g),e,a3⟩
end
end Sm
end
noncomputable section
namespace Sm
open PySem PySem.Spec PyProof.Rows L2
noncomputable section
variable {P:xT} {w:yC} {K:wQ} {mg:Str->Option wM} {base:yW} {X:Cx} {N:List Str} {sc:Scope} {k:Nat} {df:Bool} {E:EK} {pos p:Pos} {a b c e:Expr} {es:List Expr} {f g:Dn->Res wK} {fs:Dn->Res (List wK)}
noncomputable def rCD (op:List wK->Option wK):List V->Hp->VK->Prop:=fun vs H Q=>∃ G ds d,Same G H/\RepL G ds vs/\op ds=some d/\∀ v G' H',Grow G H G' H'->Rep G' d v->Q v H'
noncomputable def vFn (fs:Dn->Res (List wK)) (op:List wK->Option wK):Dn->Res wK:=fun δ=>(fs δ).bind fun ds=>ofO (op ds)
theorem rR {op:List wK->Option wK} {Z:St} {H:Hp} {Q:VK} (h:tD E (vFn fs op) Z H Q):tCB (rCD op) (tA E fs) Z H Q:=by
 obtain ⟨G,δ,S,aft⟩:=h;refine Df (W:=fun G H r=>Aft E G H r Q) S aft (fun g a=>Aft.grow g a) (fun c a=>a) (fun a=>a) fun ds vs G1 H1 e g1 r1 S1 a1=>?_;cases e:op ds with
 | none=>rw [e] at a1; exact a1.elim
 | some d=>rw [e] at a1; exact ⟨G1,ds,d,S1.sub,r1,e,a1⟩
theorem Lc {x:Str} {id:String} {n:Nat} {op:List wK->Option wK} (C:Cxt P w K mg base X N sc k df) (hc:Y7 X (.builtin id) (rCD op)) (h:okGl sc x=true) (hm:mg x=none) (hv:o0 x=some (.builtin id)) (ha:DA X E (e::es) n fs)
   (he:wY (e::es) X.env=(false,eval e X.env)::wY es X.env:=by rfl) (hpl:(zP pos (wY es X.env)).any (·.1)=false:=by rfl):DE X E (.Call (.Name x p) (e::es) [] pos) (vFn fs op):=by
 obtain ⟨h1,h2,h3⟩:=okGl.gl C h;exact PE.imp (Qw hc h1 (by rw [C.hmg]; exact hm) hv ha.pa h3 h2 he hpl) fun _ _ _ q=>rR q
theorem Rt {x:Str} {T:String} {n:Nat} {op:List wK->Option wK} (C:Cxt P w K mg base X N sc k df) (hc:Y7 X (.type T) (rCD op)) (h:okGl sc x=true) (hm:mg x=none) (hv:o0 x=some (.type T)) (ha:DA X E (e::es) n fs)
   (he:wY (e::es) X.env=(false,eval e X.env)::wY es X.env:=by rfl) (hpl:(zP pos (wY es X.env)).any (·.1)=false:=by rfl):DE X E (.Call (.Name x p) (e::es) [] pos) (vFn fs op):=by
 obtain ⟨h1,h2,h3⟩:=okGl.gl C h;exact PE.imp (Uz hc h1 (by rw [C.hmg]; exact hm) hv ha.pa h3 h2 he hpl) fun _ _ _ q=>rR q
theorem Km {G:Hp} {d:wK} {vs:List V} (r:RepL G [d] vs):∃ v,vs=[v]/\Rep G d v:=by
 obtain ⟨x,t,rfl,h,l⟩:=r; cases (show _=_ from l); exact ⟨x,rfl,h⟩
theorem tM {G:Hp} {d d':wK} {vs:List V} (r:RepL G [d,d'] vs):∃ v v',vs=[v,v']/\Rep G d v/\Rep G d' v':=by
 obtain ⟨x,t,rfl,h,l⟩:=r;obtain ⟨y,rfl,h'⟩:=Km l;exact ⟨x,y,rfl,h,h'⟩
noncomputable def U1:List wK->Option wK
 | [.list ds]=>some (.int ds.length)
 | [.tuple ds]=>some (.int ds.length)
 | [.str x]=>some (.int x.length)
 | _=>none
theorem dM:Y7 X (.builtin "len") (rCD U1):=by
 rintro pins s Z H xs us Q I r ⟨G,ds,d,hG,rl,e,q⟩;unfold U1 at e;split at e
 . rename_i ys
   cases e; obtain ⟨v,rfl,a,vs,rfl,h1,l1⟩:=Km rl; exact Ry pins s Z H _ us Q I r ⟨_,ys.length,rfl,.inl ⟨vs,.inl (Rd.mono hG h1),l1.length⟩,q _ G H (Grow.refl hG) rfl⟩
 . rename_i ys
   cases e; obtain ⟨v,rfl,a,vs,rfl,h1,l1⟩:=Km rl; exact Ry pins s Z H _ us Q I r ⟨_,ys.length,rfl,.inr ⟨vs,.inl (.inl (hG _ _ h1)),l1.length⟩,q _ G H (Grow.refl hG) rfl⟩
 . rename_i x
   cases e; obtain ⟨v,rfl,r1⟩:=Km rl;cases r1.1;exact Ry pins s Z H _ us Q I r ⟨_,x.length,rfl,⟨r1.2.2,rfl⟩,q _ G H (Grow.refl hG) rfl⟩
 . cases e
theorem X6 {n:Nat} (C:Cxt P w K mg base X N sc k df) (h:okGl sc "len" = true) (hm:mg "len" = none) (ha:DA X E (e::es) n fs)
   (he:wY (e::es) X.env=(false,eval e X.env)::wY es X.env:=by rfl) (hpl:(zP pos (wY es X.env)).any (·.1)=false:=by rfl):DE X E (.Call (.Name "len" p) (e::es) [] pos) (vFn fs U1) :=
 Lc C dM h hm PySem.boot_len ha he hpl
noncomputable def An:List wK->Option (List Bool)
 | []=>some []
 | .bool b::ds=>(An ds).map (b::·)
 | _::_=>none
noncomputable def Gr:List wK->Option wK
 | [.list ds]=>(An ds).map fun bs=>.bool (bs.all id)
 | _=>none
noncomputable def iW:List wK->Option wK
 | [.list ds]=>(An ds).map fun bs=>.bool (bs.any id)
 | _=>none
theorem Mp {G:Hp}:∀ {ds:List wK} {xs:List V} {us:List wM} {bs:List Bool},RepL G ds xs->Vals xs us->An ds=some bs->us=bs.map AO
 | [],_,_,_,r,q,e=>by cases (show _=_ from r); cases q; cases e; rfl
 | .bool b::ds,_,_,_,r,q,e=>by
   obtain ⟨x,t,rfl,h,l⟩:=r;cases (show _=_ from h);cases q with
   | cons q qs =>
     cases q; obtain ⟨bs,e1,rfl⟩:=yN.mp e; rw [Mp l qs e1]; rfl
 | .none::_,_,_,_,_,_,e=>by cases e
 | .int _::_,_,_,_,_,_,e=>by cases e
 | .str _::_,_,_,_,_,_,e=>by cases e
 | .list _::_,_,_,_,_,_,e=>by cases e
 | .tuple _::_,_,_,_,_,_,e=>by cases e
 | .dict _::_,_,_,_,_,_,e=>by cases e
theorem fF {s:wO} {h':yW} {o:Obj} (hk:∀ b x,b∉[s.heap.objs.size]->(s.heap.push o).get? b=some x->h'.get? b=some x):∀ b x,s.heap.get? b=some x->h'.get? b=some x :=
 fun b x e=>hk b x (fun hm=>by rw [wS.mp hm] at e; exact n4 _ (xL e)) (xG _ e)
theorem gS (bs:List Bool):((i5 bs.length).all fun i=>(bs[i]?).getD true)=bs.all id:=by
 rw [i6,f9,f9];constructor
 . intro h b hb
   obtain ⟨i,hi,rfl⟩:=List.getElem_of_mem hb; have:=h i (a9.mpr hi)
   rwa [yJ hi] at this
 . intro h i hi
   have hi':=a9.mp hi; rw [yJ hi']; exact h _ (BZ hi')
theorem gR (bs:List Bool):((i5 bs.length).any fun i=>(bs[i]?).getD true)=bs.any id:=by
 rw [i6,CA,CA];constructor
 . rintro ⟨i,hi,h⟩
   have hi':=a9.mp hi; rw [yJ hi'] at h; exact ⟨_,BZ hi',h⟩
 . rintro ⟨b,hb,h⟩
   obtain ⟨i,hi,rfl⟩:=List.getElem_of_mem hb; exact ⟨i,a9.mpr hi,by rw [yJ hi]; exact h⟩
theorem dR (hc:X.calm=true):Y7 X (.builtin "all") (rCD Gr):=by
 rintro pins s Z H xs us Q I r ⟨G,ds,d,hG,rl,e,q⟩;unfold Gr at e;split at e
 . rename_i ys
   obtain ⟨bs,e1,rfl⟩:=yN.mp e; obtain ⟨v,rfl,a,vs,rfl,h1,l1⟩:=Km rl; obtain ⟨u,rfl,ru⟩:=Nb r; cases ru; obtain ⟨z,its,n,rv,e2⟩:=Am I hG h1; have hb:=Mp l1 rv e1; have hl:s.heap.IsList a its.toArray:=⟨_,e2,rfl,n,rfl⟩; have hlt:a < s.heap.objs.size:=xL e2; refine call_all_walk (CC hl ?_); refine ⟨s.heap.objs.size,[s.heap.objs.size,a],[s.heap.objs.size],its.toArray.size,_,_,fun i=>(bs[i]?).getD true,rfl,Walks.list (A:=X.A.in1) (I.ok.hd hc) _ a (yE hlt) its.toArray,
     ⟨⟨_,xN _ rfl,rfl,rfl⟩,hl.push _⟩,fun i v s' Q' E' hP hQ=>?_,fun h' tk hk=>?_⟩
   . have hP':its[i]? = some v:=by simpa using hP
     rw [hb,xS] at hP'; obtain ⟨b,e3,rfl⟩:=yN.mp hP'; simp only [e3,EL] at hQ; exact zB hQ
   . have el:its.toArray.size=bs.length:=by rw [xE,hb,wT]
     rw [el,gS]; exact ⟨.bl _,H,I.kept (fF hk),rfl,q _ G H (Grow.refl hG) rfl⟩
 . cases e
theorem dQ (hc:X.calm=true):Y7 X (.builtin "any") (rCD iW):=by
 rintro pins s Z H xs us Q I r ⟨G,ds,d,hG,rl,e,q⟩;unfold iW at e;split at e
 . rename_i ys
   obtain ⟨bs,e1,rfl⟩:=yN.mp e; obtain ⟨v,rfl,a,vs,rfl,h1,l1⟩:=Km rl; obtain ⟨u,rfl,ru⟩:=Nb r; cases ru; obtain ⟨z,its,n,rv,e2⟩:=Am I hG h1; have hb:=Mp l1 rv e1; have hl:s.heap.IsList a its.toArray:=⟨_,e2,rfl,n,rfl⟩; have hlt:a < s.heap.objs.size:=xL e2; refine call_any_walk (CC hl ?_); refine ⟨s.heap.objs.size,[s.heap.objs.size,a],[s.heap.objs.size],its.toArray.size,_,_,fun i=>(bs[i]?).getD true,rfl,Walks.list (A:=X.A.in1) (I.ok.hd hc) _ a (yE hlt) its.toArray,
     ⟨⟨_,xN _ rfl,rfl,rfl⟩,hl.push _⟩,fun i v s' Q' E' hP hQ=>?_,fun h' tk hk=>?_⟩
   . have hP':its[i]? = some v:=by simpa using hP
     rw [hb,xS] at hP'; obtain ⟨b,e3,rfl⟩:=yN.mp hP'; simp only [e3,EL] at hQ; exact zB hQ
   . have el:its.toArray.size=bs.length:=by rw [xE,hb,wT]
     rw [el,gR]; exact ⟨.bl _,H,I.kept (fF hk),rfl,q _ G H (Grow.refl hG) rfl⟩
 . cases e
theorem Nj {n:Nat} (C:Cxt P w K mg base X N sc k df) (h:okGl sc "all" = true) (hm:mg "all" = none) (ha:DA X E (e::es) n fs)
   (he:wY (e::es) X.env=(false,eval e X.env)::wY es X.env:=by rfl) (hpl:(zP pos (wY es X.env)).any (·.1)=false:=by rfl):DE X E (.Call (.Name "all" p) (e::es) [] pos) (vFn fs Gr) :=
 Lc C (dR C.calm) h hm (by decide +kernel) ha he hpl
theorem d_any {n:Nat} (C:Cxt P w K mg base X N sc k df) (h:okGl sc "any" = true) (hm:mg "any" = none) (ha:DA X E (e::es) n fs)
   (he:wY (e::es) X.env=(false,eval e X.env)::wY es X.env:=by rfl) (hpl:(zP pos (wY es X.env)).any (·.1)=false:=by rfl):DE X E (.Call (.Name "any" p) (e::es) [] pos) (vFn fs iW) :=
 Lc C (dQ C.calm) h hm (by decide +kernel) ha he hpl
noncomputable def Mn:List wK->Option wK
 | [.list ds]=>some (.list ds)
 | [.tuple ds]=>some (.list ds)
 | _=>none
noncomputable def Ho:List wK->Option wK
 | [.list ds]=>some (.tuple ds)
 | [.tuple ds]=>some (.tuple ds)
 | _=>none
noncomputable def iU:List wK->Option wK
 | [.int i,.int j]=>some (.int (if i < j then j else i))
 | _=>none
noncomputable def Vr:List wK->Option wK
 | [.int i]=>some (.int i)
 | [.bool b]=>some (.int (if b then 1 else 0))
 | _=>none
theorem bH:Y7 X (.type "list") (rCD Mn):=by
 rintro pins s Z H xs us Q I r ⟨G,ds,d,hG,rl,e,q⟩;unfold Mn at e;split at e
 . rename_i ys
   cases e; obtain ⟨v,rfl,a,vs,rfl,h1,l1⟩:=Km rl; exact Ld pins s Z H _ us Q I r ⟨a,vs,rfl,.inl (.inl (Rd.mono hG h1)),fun l hl=>q _ (upd G l (.lst vs)) _ (Grow.new hG hl) ⟨l,vs,rfl,.inl D3,l1.mono (Same.upd (hG.free hl))⟩⟩
 . rename_i ys
   cases e; obtain ⟨v,rfl,a,vs,rfl,h1,l1⟩:=Km rl; exact Ld pins s Z H _ us Q I r ⟨a,vs,rfl,.inr (.inl (.inl (hG _ _ h1))),fun l hl=>q _ (upd G l (.lst vs)) _ (Grow.new hG hl) ⟨l,vs,rfl,.inl D3,l1.mono (Same.upd (hG.free hl))⟩⟩
 . cases e
theorem dI:Y7 X (.type "tuple") (rCD Ho):=by
 rintro pins s Z H xs us Q I r ⟨G,ds,d,hG,rl,e,q⟩;unfold Ho at e;split at e
 . rename_i ys
   cases e; obtain ⟨v,rfl,a,vs,rfl,h1,l1⟩:=Km rl; exact Iy pins s Z H _ us Q I r ⟨a,vs,rfl,.inl ⟨.inl (Rd.mono hG h1),fun l hl=>q _ (upd G l (.tup vs)) _ (Grow.new hG hl) ⟨l,vs,rfl,D3,l1.mono (Same.upd (hG.free hl))⟩⟩⟩
 . rename_i ys
   cases e; obtain ⟨v,rfl,a,vs,rfl,h1,l1⟩:=Km rl; exact Iy pins s Z H _ us Q I r ⟨a,vs,rfl,.inr ⟨.inl (.inl (hG _ _ h1)),q _ G H (Grow.refl hG) ⟨a,vs,rfl,h1,l1⟩⟩⟩
 . cases e
theorem dL (hc:X.calm=true):Y7 X (.builtin "max") (rCD iU):=by
 rintro pins s Z H xs us Q I r ⟨G,ds,d,hG,rl,e,q⟩;unfold iU at e;split at e
 . rename_i i j
   cases e; obtain ⟨v,v',rfl,e1,e2⟩:=tM rl;cases (show _=_ from e1); cases (show _=_ from e2);refine iZ hc pins s Z H _ us Q I r ⟨i,j,rfl,?_⟩; have:=q (.int (if i < j then j else i)) G H (Grow.refl hG) rfl;first | exact this | (simpa [max_def] using this) | trace_state
 . cases e
theorem dO:Y7 X (.type "int") (rCD Vr):=by
 rintro pins s Z H xs us Q I r ⟨G,ds,d,hG,rl,e,q⟩;unfold Vr at e;split at e
 . rename_i i
   cases e; obtain ⟨v,rfl,e1⟩:=Km rl;cases (show _=_ from e1);exact Vt pins s Z H _ us Q I r (.inl ⟨i,rfl,q _ G H (Grow.refl hG) rfl⟩)
 . rename_i b
   cases e; obtain ⟨v,rfl,e1⟩:=Km rl;cases (show _=_ from e1);refine Vt pins s Z H _ us Q I r (.inr ⟨b,rfl,?_⟩); have:=q (.int (if b then 1 else 0)) G H (Grow.refl hG) rfl;cases b <;> exact this
 . cases e
theorem rA {n:Nat} (C:Cxt P w K mg base X N sc k df) (h:okGl sc "list" = true) (hm:mg "list" = none) (ha:DA X E (e::es) n fs)
   (he:wY (e::es) X.env=(false,eval e X.env)::wY es X.env:=by rfl) (hpl:(zP pos (wY es X.env)).any (·.1)=false:=by rfl):DE X E (.Call (.Name "list" p) (e::es) [] pos) (vFn fs Mn) :=
 Rt C bH h hm (by decide +kernel) ha he hpl
theorem dG {n:Nat} (C:Cxt P w K mg base X N sc k df) (h:okGl sc "tuple" = true) (hm:mg "tuple" = none) (ha:DA X E (e::es) n fs)
   (he:wY (e::es) X.env=(false,eval e X.env)::wY es X.env:=by rfl) (hpl:(zP pos (wY es X.env)).any (·.1)=false:=by rfl):DE X E (.Call (.Name "tuple" p) (e::es) [] pos) (vFn fs Ho) :=
 Rt C dI h hm (by decide +kernel) ha he hpl
theorem d_max {n:Nat} (C:Cxt P w K mg base X N sc k df) (h:okGl sc "max" = true) (hm:mg "max" = none) (ha:DA X E (e::es) n fs)
   (he:wY (e::es) X.env=(false,eval e X.env)::wY es X.env:=by rfl) (hpl:(zP pos (wY es X.env)).any (·.1)=false:=by rfl):DE X E (.Call (.Name "max" p) (e::es) [] pos) (vFn fs iU) :=
 Lc C (dL C.calm) h hm (by decide +kernel) ha he hpl
theorem vX {n:Nat} (C:Cxt P w K mg base X N sc k df) (h:okGl sc "int" = true) (hm:mg "int" = none) (ha:DA X E (e::es) n fs)
   (he:wY (e::es) X.env=(false,eval e X.env)::wY es X.env:=by rfl) (hpl:(zP pos (wY es X.env)).any (·.1)=false:=by rfl):DE X E (.Call (.Name "int" p) (e::es) [] pos) (vFn fs Vr) :=
 Rt C dO h hm (by decide +kernel) ha he hpl
noncomputable def Wi:wK->String
 | .none => "NoneType" | .bool _ => "bool" | .int _ => "int" | .str _ => "str" | .list _ => "list" | .tuple _ => "tuple" | .dict _ => "dict"
noncomputable def Kx (T:String) (d:wK):Bool:=(Wi d==T)||(T == "int" && Wi d == "bool")
noncomputable def uQ (T:String):Bool:=T == "int" || T == "bool" || T == "str" || T == "list" || T == "tuple"
theorem vF {K:wQ} {T:String} (h:uQ T=true) (d:wK) (hd:∀ kvs,d≠.dict kvs):PySem.W.kitOne K (.type (Wi d)) (.type T)=some (Kx T d):=by
 unfold uQ at h;simp only [CL,beq_iff_eq] at h;rcases h with (((h | h) | h) | h) | h <;> subst h <;> cases d <;> first | kernel_rfl | exact absurd rfl (hd _)
theorem Rep.tyOf {G H:Hp} (hG:Same G H) {d:wK} {v:V} (r:Rep G d v):TyOf K H v (.type (Wi d)):=by
 cases d with
 | none=>cases (show _=_ from r); exact .non
 | bool _=>cases (show _=_ from r); exact .bl _
 | int _=>cases (show _=_ from r); exact .int _
 | str x=>cases r.1; exact .str _
 | list _ =>
   obtain ⟨a,xs,rfl,h1,l1⟩:=r; rcases h1 with h1 | ⟨o,h1⟩
   . exact .lst (hG _ _ h1)
   . exact .frz (hG _ _ h1)
 | tuple _=>obtain ⟨a,xs,rfl,h1,l1⟩:=r; exact .tup (hG _ _ h1)
 | dict _=>exact (show False from r).elim
theorem Ax {T:Str} {Tn:String} {p1:Pos} (C:Cxt P w K mg base X N sc k df) (h:okGl sc "isinstance" = true) (hm:mg "isinstance" = none) (hT:okGl sc T=true) (hmT:mg T=none) (hbT:o0 T=some (.type Tn)) (hk:uQ Tn=true) (ha:DE X E a f)
   (he:wY (a::[.Name T p1]) X.env=(false,eval a X.env)::wY [.Name T p1] X.env:=by rfl) (he2:wY [.Name T p1] X.env=(false,eval (.Name T p1) X.env)::wY [] X.env:=by rfl) (hpl:(zP pos (wY [.Name T p1] X.env)).any (·.1)=false:=by rfl) :
   DE X E (.Call (.Name "isinstance" p) [a,.Name T p1] [] pos) (b1 f fun d=>some (.bool (Kx Tn d))):=by
 obtain ⟨h1,h2,h3⟩:=okGl.gl C h;obtain ⟨t1,t2,t3⟩:=okGl.gl C hT;have hc:Y7 X (.builtin "isinstance") (fun vs H Q=>∃ G d v,Same G H/\Rep G d v/\vs=[v,.ty Tn]/\Q (.bl (Kx Tn d)) H):=by
   rintro pins s Z H xs us Q I r ⟨G,d,v,hG,rd,e,q⟩;subst e; obtain ⟨u,u',rfl,r1,r2⟩:=rO r;cases (show u'=FM Tn from r2);refine iH I r1 (rd.tyOf hG) (vF hk d fun kvs z=>?_) fun tk=>⟨.bl _,H,I.tok _,rfl,q⟩;subst z; exact rd
 refine PE.imp (Qw hc h1 (by rw [C.hmg]; exact hm) (by decide +kernel) (P7 ha (P7 (pI (v:=.ty Tn) t1 (by rw [C.hmg]; exact hmT) hbT rfl t3 t2) Z5 he2) he) h3 h2 he hpl) fun Z H Q hY53=>?_;obtain ⟨G,δ,S,aft⟩:=hY53;refine K2 S aft fun d v G1 H1 g1 r1 S1 a1=>?_;exact ⟨G1,d,v,S1.sub,r1,rfl,a1 _ G1 H1 (Grow.refl S1.sub) rfl⟩
noncomputable def Fh:List wK->Option (List Str)
 | []=>some []
 | .str b::ds=>(Fh ds).map (b::·)
 | _::_=>none
noncomputable def Vq (x:Str):wK->Option wK
 | .list ds=>(Fh ds).bind fun ys=>if (ys.map (·.length)).sum+ys.length*x.length<=16777216/\yB (m9 x ys)=true/\(m9 x ys).length<=sizeLine then some (.str (m9 x ys)) else none
 | _=>none
theorem Za {G:Hp}:∀ {ds:List wK} {xs:List V} {us:List wM} {ys:List Str},RepL G ds xs->Vals xs us->Fh ds=some ys->GH us ys
 | [],_,_,_,r,q,e=>by cases (show _=_ from r); cases q; cases e; exact .nil
 | .str b::ds,_,_,_,r,q,e=>by
   obtain ⟨x,t,rfl,h,l⟩:=r;cases h.1;cases q with
   | cons q qs =>
     obtain ⟨tk,rfl⟩:=q; obtain ⟨bs,e1,rfl⟩:=yN.mp e; exact .cons _ _ (Za l qs e1)
 | .none::_,_,_,_,_,_,e=>by cases e
 | .int _::_,_,_,_,_,_,e=>by cases e
 | .bool _::_,_,_,_,_,_,e=>by cases e
 | .list _::_,_,_,_,_,_,e=>by cases e
 | .tuple _::_,_,_,_,_,_,e=>by cases e
 | .dict _::_,_,_,_,_,_,e=>by cases e
theorem pW:MtR X "str.join" (fun x vs H Q=>∃ G z v d r,Same G H/\x=.str z/\vs=[v]/\Rep G d v/\Vq z d=some (.str r)/\Q (.str r) H):=by
 rintro pins s Z H x vs v us Q I rx rv ⟨G,z,y,d,r,hG,e1,e2,rd,e,q⟩;subst e1 e2;obtain ⟨t,rfl⟩:=rx;obtain ⟨u,rfl,ru⟩:=rv.one;cases d with
 | list ds =>
   obtain ⟨ys,e3,e4⟩:=FX.mp e;split at e4
   . rename_i hc
     cases e4; obtain ⟨l,xs,rfl,h1,l1⟩:=rd; cases ru; obtain ⟨zz,its,n,rv2,e5⟩:=Am I hG h1; refine join_list ⟨_,e5,rfl,n,rfl⟩ (by simpa using Za l1 rv2 e3) hc.1 fun t' k=>⟨.str _,H,I.tok _,⟨t',?_⟩,q⟩;rw [j4 (join_plain_closes z ys)]
   . cases e4
 | _=>cases e
noncomputable def Uk (x:Str) (f:Dn->Res wK):Dn->Res wK:=fun δ=>(f δ).bind fun d=>ofO (Vq x d)
theorem iV {z:Str} {d d':wK} (e:Vq z d=some d'):∃ r,d'=.str r/\yB r=true/\r.length<=sizeLine:=by
 cases d with
 | list ds =>
   obtain ⟨ys,e3,e4⟩:=FX.mp e;split at e4
   . rename_i hc; cases e4; exact ⟨_,rfl,hc.2.1,hc.2.2⟩
   . cases e4
 | _=>cases e
theorem mY {z:Str} {j:Nat} {p1 apos cpos:Pos} (ha:DE X E a f) (hbase:m4 (.Constant (.str z) j p1) "join" X.env (eval (.Constant (.str z) j p1) X.env)=eval (.Constant (.str z) j p1) X.env:=by rfl)
   (hfew:((zP cpos (wY [a] X.env)).all (fun x => !x.1)&&(CW cpos (AN [] X.env)).all (fun x=>x.1.isSome)
     && decide ([a].length+([]:List y9).length+(if ([]:List y9).isEmpty then 0 else 1) < 30))=true:=by rfl)
   (hline:(apos.endLine==cpos.line)=true:=by rfl) (hs:wY [a] X.env=(false,eval a X.env)::wY [] X.env:=by rfl) (hplain:(zP cpos (wY [] X.env)).any (·.1)=false:=by rfl) :
   DE X E (.Call (.Attribute (.Constant (.str z) j p1) "join" apos) [a] [] cpos) (Uk z f):=by
 refine PE.imp (Zy FW PySem.F.slot_str_join PySem.F.type_str_join pW lC (P7 ha Z5 hs) hbase hfew hline hs hplain) fun Z H Q hY54=>?_;obtain ⟨G,δ,S,aft⟩:=hY54;refine ⟨rfl,?_⟩;refine K2 S aft fun d v G1 H1 g1 r1 S1 a1=>?_;cases e:Vq z d with
 | none=>rw [e] at a1; exact a1.elim
 | some d' =>
   obtain ⟨r,rfl,o1,o2⟩:=iV e; rw [e] at a1; exact ⟨G1,z,v,d,r,S1.sub,rfl,rfl,r1,e,a1 _ G1 H1 (Grow.refl S1.sub) ⟨rfl,o1,o2⟩⟩
def spD (n:Nat) (m:List wK->Res wK):Sp:=fun vs H Q _=>∃ G ds d,Same G H/\RepL G ds vs/\ds.length=n/\m ds=.ok d/\∀ v G' H',Grow G H G' H'->Rep G' d v->Q v H'
structure Fn (P:xT) (w:yC) (K:wQ) (mg:Str->Option wM) (base:yW) (x:Str) (k n:Nat) (m:List wK->Res wK):Prop where
 ex:∃ f fd ps,ps.length=n/\FnOk P w K mg base CX0 k f fd ps (spD n m)/\mg x=some (.ref f)/\zR K (.ref f)=true/\Binds K fd ps []
def E0k:EK:=fun _ _=>False
noncomputable def B6 (fs:Dn->Res (List wK)) (m:List wK->Res wK):Dn->Res wK:=fun δ=>(fs δ).bind m
theorem C2 {x:Str} {j n:Nat} {m:List wK->Res wK} (C:Cxt P w K mg base X N sc k df) (F:Fn P w K mg base x j n m) (hj:j<=k) (h:okGl sc x=true) (ha:DA X E0k (e::es) n fs)
   (he:wY (e::es) X.env=(false,eval e X.env)::wY es X.env:=by rfl) (hpl:(zP pos (wY es X.env)).any (·.1)=false:=by rfl):DE X E0k (.Call (.Name x p) (e::es) [] pos) (B6 fs m):=by
 obtain ⟨f,fd,ps,hps,F,hm,hk,hb⟩:=F.ex;obtain ⟨h1,h2,h3⟩:=okGl.gl C h;have F':FnOk X.prog X.w X.K X.mg X.base CX0 j f fd ps (spD n m):=by rw [C.hP,C.hw,C.hK,C.hmg,C.hb]; exact F
 refine PE.imp (Pa F' (C.room.mono hj) h1 (by rw [C.hmg]; exact hm) (by rw [C.hK]; exact hk) (by rw [C.hK]; exact hb) .nil (eT (X:=X)) ha.pa h2 he hpl) fun Z H Q hY55=>?_;obtain ⟨G,δ,S,aft⟩:=hY55;refine Df (W:=fun G H r=>Aft E0k G H r Q) S aft (fun g a=>Aft.grow g a) (fun c a=>a) (fun a=>a) fun ds vs G1 H1 e g1 r1 S1 a1=>?_;rw [xV];cases q:m ds with
 | ok d=>rw [q] at a1; exact ⟨G1,ds,d,S1.sub,r1,ha.len δ ds e,q,a1⟩
 | exc c=>rw [q] at a1; exact (a1 G1 H1 (Grow.refl S1.sub)).elim
 | no=>rw [q] at a1; exact a1.elim
end
end Sm
end
noncomputable section
namespace Sm
open PySem PySem.Spec PyProof.Rows L2
def Its (z:Str):It:=⟨fun i _=>i < z.cps.size,fun i H x H'=>H'=H/\∃ c,z.cps[i]? = some c/\x=.str ⟨#[c]⟩,fun i _=>z.cps.size<=i⟩
theorem bW {P:xT} {w:yC} {K:wQ} {tg:Expr} (it:wX) (z:Str) (t:Tok):Turn P w K tg (Its z) [it] it (fun i h=>h.IsStrIter it "str_ascii_iterator" z t i) where
 mem:=by simp
 obj:=fun i h st b hb=>by
   have e:b=it:=by simpa using hb
   subst e; obtain ⟨o,e,c,d⟩:=st; exact ⟨o,e,fun v z=>by rw [d] at z; cases z⟩
 keep:=fun i h h' st k=>by
   obtain ⟨o,e,c,d⟩:=st; exact ⟨o,k it (by simp) o e,c,d⟩
 item:=by
   intro X hP hw hK hc i pins s Z H E I hf st hg; subst hP hw hK; obtain ⟨f0,f1,f2,f3,f4,f5⟩:=hf it (by simp);have hi:i < z.cps.size:=hg; refine wpAny_pyNext_ascii_item st (c:=z.cps[i]) (by simp [hi]) fun h' st' sb=>?_;have I1:Inv X pins Z H { s with heap:=h',toks:=s.toks+1 }:=I.turned (fun b o hb e=>(sb.2 b hb).trans e) f0 f1 f3 f4 f5;obtain ⟨o,e,c,d⟩:=id st'; exact ⟨_,rfl,Vm (s:={ s with heap:=h',toks:=s.toks+1 }) e c d (by decide) ⟨.str ⟨#[z.cps[i]]⟩,H,I1,⟨_,rfl⟩,⟨rfl,_,by simp [hi],rfl⟩,st',fun b hb=>(hf b hb).1⟩⟩
 done:=by
   intro X hP hw hK hc i pins s Z H E I hf st hg; subst hP hw hK; obtain ⟨f0,f1,f2,f3,f4,f5⟩:=hf it (by simp);have hi:z.cps.size<=i:=hg; exact wpAny_pyNext_ascii_end (I.ok.hd hc) st (by simpa using hi) fun h' eb=>⟨rfl,I.turned (t':=s.toks) (fun b o hb e=>eb b o hb e) f0 f1 f3 f4 f5⟩
 self:=fun _ _ _ _ _ st h=>wpAny_pyIter_striter_ascii st h
theorem gD {P:xT} {w:yC} {K:wQ} {tg:Expr} (it:wX) (z:Str) (t:Tok):Turn P w K tg (Its z) [it] it (fun i h=>h.IsStrIter it "str_iterator" z t i) where
 mem:=by simp
 obj:=fun i h st b hb=>by
   have e:b=it:=by simpa using hb
   subst e; obtain ⟨o,e,c,d⟩:=st; exact ⟨o,e,fun v z=>by rw [d] at z; cases z⟩
 keep:=fun i h h' st k=>by
   obtain ⟨o,e,c,d⟩:=st; exact ⟨o,k it (by simp) o e,c,d⟩
 item:=by
   intro X hP hw hK hc i pins s Z H E I hf st hg; subst hP hw hK; obtain ⟨f0,f1,f2,f3,f4,f5⟩:=hf it (by simp);have hi:i < z.cps.size:=hg; refine wpAny_pyNext_wide_item st (c:=z.cps[i]) (by simp [hi]) fun h' st' sb=>?_;have I1:Inv X pins Z H { s with heap:=h',toks:=s.toks+1 }:=I.turned (fun b o hb e=>(sb.2 b hb).trans e) f0 f1 f3 f4 f5;obtain ⟨o,e,c,d⟩:=id st'; exact ⟨_,rfl,Vm (s:={ s with heap:=h',toks:=s.toks+1 }) e c d (by decide) ⟨.str ⟨#[z.cps[i]]⟩,H,I1,⟨_,rfl⟩,⟨rfl,_,by simp [hi],rfl⟩,st',fun b hb=>(hf b hb).1⟩⟩
 done:=by
   intro X hP hw hK hc i pins s Z H E I hf st hg; subst hP hw hK; obtain ⟨f0,f1,f2,f3,f4,f5⟩:=hf it (by simp);have hi:z.cps.size<=i:=hg; exact wpAny_pyNext_wide_end (I.ok.hd hc) st (by simpa using hi) fun h' eb=>⟨rfl,I.turned (t':=s.toks) (fun b o hb e=>eb b o hb e) f0 f1 f3 f4 f5⟩
 self:=fun _ _ _ _ _ st h=>wpAny_pyIter_striter_wide st h
def Ite (K:wQ) (a:wX):It :=
 ⟨fun i H=>∃ xs x,SqL K H a xs/\xs[i]? = some x,fun i H x H'=>∃ p y,H p=none/\x=.ref p/\H'=upd H p (.tup [.int i,y])/\∀ xs,SqL K H a xs->xs[i]? = some y,fun i H=>∃ xs,SqL K H a xs/\xs.length<=i⟩
theorem gF {P:xT} {w:yC} {K:wQ} {elts:List Expr} {x1:Nat} {tp:Pos} (a e it:wX) (hne:e≠it):Turn P w K (.Tuple elts x1 tp) (Ite K a) [e,it] e (fun i h=>(∃ old,IsEnum h e it (i:Int) old)/\h.IsListIter it a i) where
 mem:=by simp
 obj:=fun i h st b hb=>by
   obtain ⟨⟨old,h1⟩,o,h2,c,d⟩:=st; rcases wR.mp hb with rfl | hb
   . exact ⟨_,h1,fun v z=>by cases z⟩
   . have e':b=it:=by simpa using hb
     subst e'; exact ⟨o,h2,fun v z=>by rw [d] at z; cases z⟩
 keep:=fun i h h' st k=>by
   obtain ⟨⟨old,h1⟩,o,h2,c,d⟩:=st; exact ⟨⟨old,k e (by simp) _ h1⟩,o,k it (by simp) o h2,c,d⟩
 item:=by
   intro X hP hw hK hc i pins s Z H E I hf st hg; subst hP hw hK; obtain ⟨⟨old,he⟩,st⟩:=st; obtain ⟨xs,x,hq,hx⟩:=hg; obtain ⟨its,rv,p,hz⟩:=I.list hq; obtain ⟨u,hu,ru⟩:=rv.get hx; obtain ⟨f0,f1,f2,f3,f4,f5⟩:=hf e (by simp);obtain ⟨g0,g1,g2,g3,g4,g5⟩:=hf it (by simp);refine wpAny_pyNext_enum_item he st p.isList (x:=u) (by simpa using hu) hne fun h' he' st' ht' hsz kp=>?_;refine ⟨_,rfl,wpAny_letOwnedTupleGo_enum he' fun h2 he2 sb=>?_⟩;have hfr:H s.heap.objs.size=none:=I.fresh; have elt:e < s.heap.objs.size:=xL he; have ilt:it < s.heap.objs.size:=by obtain ⟨o,h,_⟩:=st; exact xL h
   have kp2:∀ b o,b≠e->b≠it->s.heap.get? b=some o->h2.get? b=some o:=fun b o h1 h3 q=>(sb.2 b h1).trans (kp b o h1 h3 q);have I1:Inv X pins Z H { s with heap:=h2,toks:=s.toks+1 }:=by
     refine I.step (g':=s.gens) (d':=s.drawn) (ch:=[e,it]) (fun b hb=>?_) (fun b o _ _ hcb q _=>kp2 b o (fun z=>hcb (by simp [z])) (fun z=>hcb (by simp [z])) q) (fun b o _ _ hcb q _=>⟨o.slots,kp2 b o (fun z=>hcb (by simp [z])) (fun z=>hcb (by simp [z])) q⟩) (fun _ _ _ _ n=>n)
       (fun b o hcb q=>⟨o,kp2 b o (fun z=>hcb (by simp [z])) (fun z=>hcb (by simp [z])) q⟩) (fun _ _ q=>q) (fun _ _ _ q=>q) (fun b ps q=>⟨#[],by rw [q]; simp⟩) (fun m hm=>?_) (fun b u' q=>?_) I.bare
     . rcases wR.mp hb with rfl | hb
       . exact ⟨f3,f1,f4,f5⟩
       . have e':b=it:=by simpa using hb
         subst e'; exact ⟨g3,g1,g4,g5⟩
     . obtain ⟨o,es,ep,ho,r⟩:=hm
       exact ⟨o,es,ep,kp2 _ o (Ne.symm f1) (Ne.symm g1) ho,r⟩
     . refine (I.hok b u' q).stay (fun c v hcc q'=>kp2 c v ?_ ?_ q') (fun _ q'=>q') fun _ _ q'=>q'
       . rintro rfl
         rcases hcc with z | z
         . subst z; rw [f0] at q; cases q
         . rw [f0] at z; cases z
       . rintro rfl
         rcases hcc with z | z
         . subst z; rw [g0] at q; cases q
         . rw [g0] at z; cases z
   have htt:h2.get? s.heap.objs.size=some { cls:=.type "tuple",data:=.seq #[.int i s.toks,u] }:=(sb.2 _ (BH elt)).trans ht'; have Hold:∀ b o,H b=some o->b≠s.heap.objs.size:=fun b o q z=>by subst z; rw [hfr] at q; cases q
   have I2:Inv X pins Z (upd H s.heap.objs.size (.tup [.int i,x])) { s with heap:=h2,toks:=s.toks+1 }:=by
     have nb:∀ b o,b≠s.heap.objs.size->s.heap.get? b=some o->True:=fun _ _ _ _=>trivial;have base':Un X.fs X.ex X.H₀ (upd H s.heap.objs.size (.tup [.int i,x])) X.s₀.heap h2:=by
       have B:=I1.base; have ne0:∀ b o,X.s₀.heap.get? b=some o->b≠s.heap.objs.size:=fun b o q=>yE (xZ (xL q) I.sz);exact ⟨B.keep,B.slot,fun b o q n hx=>by rw [C8 (ne0 b o q)]; exact B.free b o q n hx,B.there,
         fun b ys q=>by rw [C8 (Hold b _ (B.tups b ys q))]; exact B.tups b ys q,fun b o' u' q=>by rw [C8 (Hold b _ (B.frzs b o' u' q))]; exact B.frzs b o' u' q,
         fun b ps q=>by obtain ⟨m,q'⟩:=B.tbls b ps q; exact ⟨m,by rw [C8 (Hold b _ q')]; exact q'⟩⟩
     have hok':HOk X.prog X.w (upd H s.heap.objs.size (.tup [.int i,x])) h2:=fun b o q=>by
       by_cases hb:b=s.heap.objs.size
       . subst hb
         rw [D3] at q; cases q; refine ⟨by show 2<=sizeLine; decide,[.int i s.toks,u],.cons ⟨_,rfl⟩ (.cons ru .nil),⟨_,htt,rfl,0,rfl⟩⟩
       . rw [C8 hb] at q
         exact (I1.hok b o q).stay (fun _ _ _ q'=>q') (fun c q'=>by rw [C8 (Hold c _ q')]; exact q') fun c ys q'=>by rw [C8 (Hold c _ q')]; exact q'
     refine ⟨I1.ok,I1.os,I1.bare,base',I1.loc,I1.cell,?_,fun y c q=>?_,fun p hp=>?_,hok',I1.len⟩
     . rw [C8 (yE I.lt)]; exact I1.free
     . obtain ⟨v,oc,hoc,_⟩:=I.cell y c q
       rw [C8 (yE (xL hoc))]; exact I1.freeC y c q
     . obtain ⟨q1,q2,q3,q4,q5⟩:=I1.pin p hp
       refine ⟨q1,?_,q3,q4,q5⟩; rw [C8 (yE (xL (I.pin p hp).1))]; exact q2
   refine ⟨.ref s.heap.objs.size,_,I2,rfl,⟨_,x,hfr,rfl,rfl,fun ys hy=>by rw [I.list_inj hy hq]; exact hx⟩,⟨⟨_,by push_cast; exact he2⟩,?_⟩,fun b hb=>?_⟩
   . obtain ⟨o,q,c,d⟩:=st'
     exact ⟨o,(sb.2 it (Ne.symm hne)).trans q,c,d⟩
   . rcases wR.mp hb with rfl | hb
     . rw [C8 (yE elt)]; exact f0
     . have e':b=it:=by simpa using hb
       subst e'; rw [C8 (yE ilt)]; exact g0
 done:=by
   intro X hP hw hK hc i pins s Z H E I hf st hg; subst hP hw hK; obtain ⟨⟨old,he⟩,st⟩:=st; obtain ⟨xs,hq,hx⟩:=hg; obtain ⟨its,rv,p,hz⟩:=I.list hq; obtain ⟨g0,g1,g2,g3,g4,g5⟩:=hf it (by simp);have hl:=rv.length; exact wpAny_pyNext_enum_end (I.ok.hd hc) he st p.isList (by simp; lia) fun h' eb=>⟨rfl,I.turned (t':=s.toks) (fun b o hb e=>eb b o hb e) g0 g1 g3 g4 g5⟩
 self:=fun _ _ _ _ _ st h=>by
   obtain ⟨⟨old,he⟩,_⟩:=st; exact wpAny_pyIter_enum he h
end Sm
end
noncomputable section
namespace Sm
open PySem PySem.Spec PyProof.Rows L2
structure Walk (J:It) (G:Hp) (ds:List wK):Prop where
 go:∀ (i:Nat) (H:Hp),i < ds.length->Same G H->J.go i H
 yld:∀ (i:Nat) (d:wK) (G2 H:Hp) (x:V) (H':Hp),ds[i]? = some d->Same G G2->Same G2 H->J.yld i H x H'->∃ G3,Grow G2 H G3 H'/\Rep G3 d x
 stop:∀ (i:Nat) (H:Hp),ds.length<=i->Same G H->J.stop i H
def AftI (E:EK) (G H:Hp) (r:Res (List wK)) (R:It->Hp->Prop):Prop:=match r with
 | .ok ds=>∀ J G' H',Grow G H G' H'->Walk J G' ds->R J H'
 | .exc c=>∀ G' H',Grow G H G' H'->E c H'
 | .no=>False
def tI (E:EK) (f:Dn->Res (List wK)):TI:=fun Z H R=>∃ G δ,SR G H Z δ/\AftI E G H (f δ) R
abbrev DI (X:Cx) (E:EK) (tg e:Expr) (f:Dn->Res (List wK)):Prop:=PI X tg e (tI E f)
theorem AftI.grow {E:EK} {G H G' H':Hp} {r:Res (List wK)} {Q:It->Hp->Prop} (g:Grow G H G' H') (a:AftI E G H r Q):AftI E G' H' r Q:=by
 cases r with
 | ok d=>exact fun v G2 H2 g2 q=>a v G2 H2 (g.trans g2) q
 | exc c=>exact fun G2 H2 g2=>a G2 H2 (g.trans g2)
 | no=>exact a
theorem PI.imp {X:Cx} {tg e:Expr} {t t':TI} (h:PI X tg e t) (i:∀ Z H Q,t' Z H Q->t Z H Q):PI X tg e t':=fun pins s Z H Q I q=>h pins s Z H Q I (i _ _ _ q)
noncomputable def Je (x:Str):List wK:=x.cps.toList.map fun c=>.str ⟨#[c]⟩
noncomputable def E5:wK->Res (List wK)
 | .list ds=>.ok ds
 | .tuple ds=>.ok ds
 | .str x=>.ok (Je x)
 | _=>.no
theorem gA {K:wQ} {G:Hp} {a:wX} {xs:List V} {ds:List wK} (h:Rd G a (.lst xs)) (l:RepL G ds xs):Walk (Itl K a) G ds where
 go:=fun i H hi hG=>by
   have hi':i < xs.length:=by rw [<- l.length]; exact hi
   exact ⟨xs,xs[i],.inl (Rd.mono hG h),by simp [hi']⟩
 yld:=fun i d G2 H x H' e h1 h2 hy=>by
   obtain ⟨rfl,hy⟩:=hy; obtain ⟨y,e1,r⟩:=l.get e; have:=hy xs (.inl (Rd.mono (h1.trans h2) h)); rw [e1] at this; cases this; exact ⟨G2,Grow.refl h2,r.mono h1⟩
 stop:=fun i H hi hG=>⟨xs,.inl (Rd.mono hG h),by rw [<- l.length]; exact hi⟩
theorem jH {K:wQ} {G:Hp} {a:wX} {xs:List V} {ds:List wK} (h:G a=some (.tup xs)) (l:RepL G ds xs):Walk (Itt K a) G ds where
 go:=fun i H hi hG=>by
   have hi':i < xs.length:=by rw [<- l.length]; exact hi
   exact ⟨xs,xs[i],.inl (.inl (hG _ _ h)),by simp [hi']⟩
 yld:=fun i d G2 H x H' e h1 h2 hy=>by
   obtain ⟨rfl,hy⟩:=hy; obtain ⟨y,e1,r⟩:=l.get e; have:=hy xs (.inl (.inl (h2 _ _ (h1 _ _ h)))); rw [e1] at this; cases this; exact ⟨G2,Grow.refl h2,r.mono h1⟩
 stop:=fun i H hi hG=>⟨xs,.inl (.inl (hG _ _ h)),by rw [<- l.length]; exact hi⟩
theorem Yr {G:Hp} {z:Str} (ho:yB z=true):Walk (Its z) G (Je z) where
 go:=fun i H hi hG=>by
   show i < z.cps.size;simpa [Je] using hi
 yld:=fun i d G2 H x H' e h1 h2 hy=>by
   obtain ⟨rfl,c,hc,rfl⟩:=hy; have e':(z.cps.toList.map fun c=>c6 ⟨#[c]⟩)[i]? = some d:=e;rw [xS,p7,hc] at e';cases e'; refine ⟨G2,Grow.refl h2,rfl,?_,by show 1<=sizeLine; decide⟩;unfold yB at ho ⊢;rw [<- ES,f9] at ho; have:=ho c (by rw [<- p7] at hc; exact e8 hc);simpa using this
 stop:=fun i H hi hG=>by
   show z.cps.size<=i;simpa [Je] using hi
theorem bS {G:Hp} (lo:Int) (n:Nat):Walk (Itr lo n) G ((i5 n).map fun (i:Nat)=>j6 (lo+i)) where
 go:=fun i H hi hG=>by
   show i < n;simpa using hi
 yld:=fun i d G2 H x H' e h1 h2 hy=>by
   obtain ⟨rfl,rfl⟩:=hy; rw [xS] at e;by_cases hi:i < n
   . rw [List.getElem?_range hi] at e; cases e; exact ⟨G2,Grow.refl h2,rfl⟩
   . rw [s0 (by simpa using hi)] at e; cases e
 stop:=fun i H hi hG=>by
   show n<=i;simpa using hi
noncomputable def Ix (ds:List wK):List wK:=ds.mapIdx fun i d=>.tuple [.int i,d]
theorem gB {K:wQ} {G:Hp} {a:wX} {xs:List V} {ds:List wK} (h:Rd G a (.lst xs)) (l:RepL G ds xs):Walk (Ite K a) G (Ix ds) where
 go:=fun i H hi hG=>by
   have hi':i < xs.length:=by rw [<- l.length]; simpa [Ix] using hi
   exact ⟨xs,xs[i],.inl (Rd.mono hG h),by simp [hi']⟩
 yld:=fun i d G2 H x H' e h1 h2 hy=>by
   obtain ⟨p,y,hp,rfl,rfl,hy⟩:=hy; unfold Ix at e; rw [GY] at e; obtain ⟨d0,e0,rfl⟩:=yN.mp e; obtain ⟨y',e1,r⟩:=l.get e0; have:=hy xs (.inl (Rd.mono (h1.trans h2) h)); rw [e1] at this; cases this; refine ⟨upd G2 p (.tup [.int i,y]),Grow.new h2 hp,p,_,rfl,D3,RepL.cons rfl (RepL.cons (r.mono (h1.trans (Same.upd (h2.free hp)))) rfl)⟩
 stop:=fun i H hi hG=>⟨xs,.inl (Rd.mono hG h),by rw [<- l.length]; simpa [Ix] using hi⟩
noncomputable section
variable {P:xT} {w:yC} {K:wQ} {mg:Str->Option wM} {base:yW} {X:Cx} {N:List Str} {sc:Scope} {k:Nat} {df:Bool} {E:EK} {pos p:Pos} {tg a b c e:Expr} {f g:Dn->Res wK} {fs src:Dn->Res (List wK)}
theorem M9 (ha:DE X E a f):DI X E tg a (fun δ=>(f δ).bind E5):=by
 rintro pins s Z H R I ⟨G,δ,S,aft⟩;have h:=Pi (R:=fun v H1=>∃ G1 d,Same G1 H1/\Rep G1 d v/\AftI E G1 H1 (E5 d) R) (W:=fun G H r=>AftI E G H r R) S aft (fun g a=>AftI.grow g a) (fun c a=>a) (fun a=>a) fun d v G1 H1 g1 r1 S1 a1=>⟨G1,d,S1.sub,r1,a1⟩;refine thn (ha pins s Z H _ I h) fun v s1 hZ2=>?_;obtain ⟨x,H1,I1,rx,G1,d,hG,rd,a1⟩:=hZ2;cases d with
 | list ds =>
   obtain ⟨p,xs,rfl,h1,l1⟩:=rd; cases rx; obtain ⟨zz,its,n,rv,e1⟩:=Am I1 hG h1; refine CC ⟨_,e1,rfl,n,rfl⟩ ?_; refine ⟨s1.heap.objs.size,[s1.heap.objs.size],_,_,H1,rfl,I1.kept (t':=s1.toks) fun b o e=>xG _ e,gE p _,⟨_,xN _ rfl,rfl,rfl⟩,fun b hb=>?_,a1 _ G1 H1 (Grow.refl hG) (gA h1 l1)⟩;have e:b=s1.heap.objs.size:=by simpa using hb
   subst e; exact I1.fpOk (xH _) I1.fresh
 | tuple ds =>
   obtain ⟨p,xs,rfl,h1,l1⟩:=rd; cases rx; obtain ⟨zz,its,rv,pt⟩:=Lw I1 hG h1; refine wpAny_pyIter_tuple (show s1.heap.IsTuple p its.toArray from pt) ?_;refine ⟨s1.heap.objs.size,[s1.heap.objs.size],_,_,H1,rfl,I1.kept (t':=s1.toks) fun b o e=>xG _ e,bU p _,⟨_,xN _ rfl,rfl,rfl⟩,fun b hb=>?_,a1 _ G1 H1 (Grow.refl hG) (jH h1 l1)⟩;have e:b=s1.heap.objs.size:=by simpa using hb
   subst e; exact I1.fpOk (xH _) I1.fresh
 | str z =>
   obtain ⟨e0,o1,l1⟩:=rd; subst e0; obtain ⟨t,rfl⟩:=rx;cases ha:z.cps.all (· < 128)
   . refine wpAny_pyIter_wide ha ?_
     refine ⟨s1.heap.objs.size,[s1.heap.objs.size],_,_,H1,rfl,I1.kept (t':=s1.toks) fun b o e=>xG _ e,gD _ z t,⟨_,xN _ rfl,rfl,rfl⟩,fun b hb=>?_,a1 _ G1 H1 (Grow.refl hG) (Yr o1)⟩;have e:b=s1.heap.objs.size:=by simpa using hb
     subst e; exact I1.fpOk (xH _) I1.fresh
   . refine wpAny_pyIter_ascii ha ?_
     refine ⟨s1.heap.objs.size,[s1.heap.objs.size],_,_,H1,rfl,I1.kept (t':=s1.toks) fun b o e=>xG _ e,bW _ z t,⟨_,xN _ rfl,rfl,rfl⟩,fun b hb=>?_,a1 _ G1 H1 (Grow.refl hG) (Yr o1)⟩;have e:b=s1.heap.objs.size:=by simpa using hb
     subst e; exact I1.fpOk (xH _) I1.fresh
 | _=>exact (show False from a1).elim
noncomputable def Bo (lo hi:Int):List wK:=(i5 (hi - lo).toNat).map fun (i:Nat)=>j6 (lo+i)
noncomputable def Jg:List wK->Res (List wK)
 | [.int j]=>if -(2 ^ 62)<=j/\j < 2 ^ 62 then .ok (Bo 0 j) else .no
 | _=>.no
theorem Hk {n:Nat} (C:Cxt P w K mg base X N sc k df) (h:okGl sc "range" = true) (hm:mg "range" = none) (ha:DA X E [a] n fs) (hs:wY [a] X.env=[(false,eval a X.env)]:=by rfl) :
   DI X E tg (.Call (.Name "range" p) [a] [] pos) (fun δ=>(fs δ).bind Jg):=by
 refine PI.imp (gV (okGl.gl C h).1 (by rw [C.hmg]; exact hm) ha.pa hs) fun Z H Q hY56=>?_;obtain ⟨G,δ,S,aft⟩:=hY56;refine Df (W:=fun G H r=>AftI E G H r Q) S aft (fun g a=>AftI.grow g a) (fun c a=>a) (fun a=>a) fun ds vs G1 H1 e g1 r1 S1 a1=>?_;unfold Jg at a1;split at a1
 . rename_i j
   split at a1
   . rename_i hc
     obtain ⟨v,rfl,e1⟩:=Km r1;cases (show _=_ from e1);refine ⟨j,rfl,hc.1,hc.2,a1 _ G1 H1 (Grow.refl S1.sub) ?_⟩; have:=bS (G:=G1) 0 j.toNat; unfold Bo; rw [Int.sub_zero]; exact this
   . exact a1.elim
 . exact a1.elim
noncomputable def Rp:List wK->Res (List wK)
 | [.list ds]=>.ok (Ix ds)
 | _=>.no
theorem vQ {n x1:Nat} {elts:List Expr} {tp:Pos} (C:Cxt P w K mg base X N sc k df) (h:okGl sc "enumerate" = true) (hm:mg "enumerate" = none) (ha:DA X E [a] n fs) (he:wY [a] X.env=(false,eval a X.env)::wY [] X.env:=by rfl) (hpl:(zP pos (wY [] X.env)).any (·.1)=false:=by rfl) :
   DI X E (.Tuple elts x1 tp) (.Call (.Name "enumerate" p) [a] [] pos) (fun δ=>(fs δ).bind Rp):=by
 rintro pins s Z H R I ⟨G,δ,S,aft⟩;obtain ⟨h1,h2,h3⟩:=okGl.gl C h;have hh:=Df (R:=fun vs H1=>∃ G1 ds,Same G1 H1/\RepL G1 ds vs/\AftI E G1 H1 (Rp ds) R) (W:=fun G H r=>AftI E G H r R) S aft (fun g a=>AftI.grow g a) (fun c a=>a) (fun a=>a) fun ds vs G1 H1 e g1 r1 S1 a1=>⟨G1,ds,S1.sub,r1,a1⟩;refine AK (Mg I h1 (by rw [C.hmg]; exact hm) boot_enumerate ?_ h3 h2);refine o7 (thn (ha.pa pos pins s Z H _ I hh) fun us s1 hY58=>?_) he hpl;obtain ⟨vs,H1,I1,rv,G1,ds,hG,rl,a1⟩:=hY58;unfold Rp at a1;split at a1
 . rename_i ys
   obtain ⟨v,rfl,l,xs,rfl,q1,l1⟩:=Km rl; obtain ⟨u,rfl,ru⟩:=Nb rv; cases ru; obtain ⟨zz,its,nn,rw',e1⟩:=Am I1 hG q1; refine call_enumerate_list ⟨_,e1,rfl,nn,rfl⟩ fun h' he' hit hsz kp=>?_;have I2:Inv X pins Z H1 { s1 with heap:=h' }:=I1.kept (t':=s1.toks) kp; refine wpAny_pyIter_enum he' ?_; refine ⟨s1.heap.objs.size+1,[s1.heap.objs.size+1,s1.heap.objs.size],_,_,H1,rfl,I2,gF l _ _ (BH (FC _)),⟨⟨_,he'⟩,hit⟩,fun b hb=>?_,a1 _ G1 H1 (Grow.refl hG) (gB q1 l1)⟩;rcases wR.mp hb with rfl | hb
   . exact I1.fpOk (BA _) (I1.hok.fresh (BA _))
   . have e:b=s1.heap.objs.size:=by simpa using hb
     subst e; exact I1.fpOk (xH _) I1.fresh
 . exact a1.elim
noncomputable def D9 (d:wK):Res (List Sl):=.ok [.sh d]
noncomputable def De:wK->Res (List Sl)
 | .tuple [a,b]=>.ok [.sh a,.sh b]
 | _=>.no
noncomputable def D4 (bnd:wK->Res (List Sl)) (δc:Dn) (tt:Dn->Res Bool) (el:Dn->Res wK):List wK->Res (List wK)
 | []=>.ok []
 | d::ds=>match bnd d with
   | .ok sl=>match tt (sl++δc) with
     | .ok true=>match el (sl++δc) with
       | .ok y=>match D4 bnd δc tt el ds with
         | .ok r=>.ok (y::r)
         | _=>.no
       | _=>.no
     | .ok false=>D4 bnd δc tt el ds
     | _=>.no
   | _=>.no
noncomputable def Ej (δ:Dn) (cap:List Nat):Dn:=cap.map fun j=>δ[j]?.getD .un
noncomputable def F5 (src:Dn->Res (List wK)) (bnd:wK->Res (List Sl)) (cap:List Nat) (tt:Dn->Res Bool) (el:Dn->Res wK):Dn->Res (List wK):=fun δ=>(src δ).bind fun ds=>if ds.length<=sizeLine then D4 bnd (Ej δ cap) tt el ds else .no
def GOk (g:TG) (m:Nat) (bnd:wK->Res (List Sl)):Prop:=∀ (G H:Hp) (d:wK) (x:V) (sl:List Sl) (τ:St) (Q:St->Hp->Prop),Same G H->Rep G d x->bnd d=.ok sl->(∀ vs:List V,vs.length=m->sl.length=m->(∀ (i:Nat) s,sl[i]? = some s->SlOk G H (vs[i]?) s/\∃ d,s=.sh d)->Q (vs.map some++τ) H)->g x (xF m none++τ) H Q
theorem gok1:GOk (Aw 0) 1 D9:=by
 intro G H d x sl τ Q hG r e h;cases e;exact h [x] rfl rfl fun i s hs=>by
   cases i with
   | zero=>cases hs; exact ⟨⟨x,rfl,r⟩,d,rfl⟩
   | succ i=>simp at hs
theorem gok2:GOk (qJ K 2 (Rm (Aw 0) (Rm (Aw 1) qK))) 2 De:=by
 intro G H d x sl τ Q hG r e h;cases d with
 | tuple ds =>
   match ds,e with
   | [a,b],e =>
     cases e; obtain ⟨p,xs,rfl,h1,l1⟩:=r; obtain ⟨v,v',rfl,r1,r2⟩:=tM l1; refine ⟨p,_,rfl,.inl (.inl (hG _ _ h1)),rfl,v,[v'],rfl,v',[],rfl,rfl,?_⟩; exact h [v,v'] rfl rfl fun i s hs=>by
       match i with
       | 0=>cases hs; exact ⟨⟨v,rfl,r1⟩,a,rfl⟩
       | 1=>cases hs; exact ⟨⟨v',rfl,r2⟩,b,rfl⟩
       | i+2=>simp at hs
 | _=>cases e
theorem SR.cap {G H:Hp} {Z:St} {δ:Dn} (S:SR G H Z δ) (cap:List Nat) (hnd:cap.Nodup) {vs:List V} {sl:List Sl} (hv:vs.length=sl.length) (h:∀ (i:Nat) s,sl[i]? = some s->SlOk G H (vs[i]?) s/\∃ d,s=.sh d):SR G H (vs.map some++Gs Z cap) (sl++Ej δ cap):=by
 have hlt:∀ i,i < sl.length->(vs.map some++Gs Z cap)[i]? = (vs[i]?).map some:=fun i hi=>by
   rw [yG (by rw [wT,hv]; exact hi),xS]
 have hge:∀ i,¬ i < sl.length->(vs.map some++Gs Z cap)[i]? = (cap[i - sl.length]?).map fun j=>Z[j]?.join:=fun i hi=>by
   rw [yL (by rw [wT,hv]; lia)];unfold Gs; rw [xS,wT,hv]
 have hd:∀ i,¬ i < sl.length->(sl++Ej δ cap)[i]? = (cap[i - sl.length]?).map fun j=>δ[j]?.getD .un:=fun i hi=>by
   rw [yL (by lia)]; unfold Ej; rw [xS]
 refine ⟨S.sub,by simp [hv,Gs,Ej],fun i s e=>?_,fun i j a d d' ei ej hi hj=>?_⟩
 . by_cases hi:i < sl.length
   . rw [yG hi] at e
     rw [hlt i hi]; have:=(h i s e).1;cases q:vs[i]? with
     | none=>rw [q] at this; exact this
     | some v=>rw [q] at this; exact this
   . rw [hd i hi] at e
     rw [hge i hi];cases q:cap[i - sl.length]? with
     | none=>rw [q] at e; cases e
     | some j =>
       rw [q] at e; simp only [AW,CZ] at e; subst e; show SlOk G H (some (Z[j]?.join)).join _;cases q2:δ[j]? with
       | none=>trivial
       | some s=>exact S.sl j s q2
 . have key : ∀ i d, (sl ++ Ej δ cap)[i]? = some (.ow d) -> ¬ i < sl.length /\ ∃ j, cap[i - sl.length]? = some j /\ δ[j]? = some (.ow d) := fun i d e => by
     have hi:¬ i < sl.length:=fun hi=>by
       rw [yG hi] at e; obtain ⟨_,d',z⟩:=h i _ e; cases z
     refine ⟨hi,?_⟩; rw [hd i hi] at e;cases q:cap[i - sl.length]? with
     | none=>rw [q] at e; cases e
     | some j =>
       rw [q] at e; simp only [AW,CZ] at e; refine ⟨j,rfl,?_⟩;cases q2:δ[j]? with
       | none=>rw [q2] at e; cases e
       | some s=>rw [q2] at e; cases e; rfl
   obtain ⟨n1,j1,c1,o1⟩:=key i d ei; obtain ⟨n2,j2,c2,o2⟩:=key j d' ej; rw [hge i n1,c1] at hi; rw [hge j n2,c2] at hj; have hi':Z[j1]?.join=some (.ref a):=hi; have hj':Z[j2]?.join=some (.ref a):=hj; have:=S.ap j1 j2 a d d' o1 o2 hi' hj'; subst this; have:=(List.getElem?_inj (xQ.mp c1).1 hnd).mp (c1.trans c2.symm);lia
theorem mE (xs:List Str):xs.map (fun _=>(none:Option V))=xF xs.length none:=by
 induction xs with
 | nil=>rfl
 | cons a t ih=>rw [wU,ih]; rfl
theorem Ow {xs:List Str} {cap:List Nat} {g:TG} {m:Nat} {bnd:wK->Res (List Sl)} {tt:Dn->Res Bool} {el:Dn->Res wK} (hx:xs.length=m) (hnd:cap.Nodup) (hg:GOk g m bnd) {Z:St} {H:Hp} {Q:VK} (h:tF E (F5 src bnd cap tt el) Z H Q) :
   eB (tI E src) (fun Z=>xs.map (fun _=>none)++Gs Z cap) g (tT E0k tt) (tD E0k el) Z H Q:=by
 obtain ⟨G,δ,S,aft⟩:=h;refine ⟨G,δ,S,?_⟩;unfold F5 at aft;cases e:src δ with
 | exc c=>rw [e] at aft; exact aft
 | no=>rw [e] at aft; exact aft
 | ok ds =>
   rw [e] at aft; intro J G1 H1 g1 W D hD; have aft1:nS E G H (if ds.length<=sizeLine then D4 bnd (Ej δ cap) tt el ds else .no) Q:=aft;by_cases hz:ds.length<=sizeLine
   . rw [if_pos hz] at aft1
     have S1:=S.grow g1; have hmap:xs.map (fun _=>(none:Option V))=xF m none:=by rw [<- hx]; exact mE xs
     refine ⟨fun i n H'=>n=ds.length - i/\i<=ds.length/\∃ G' acc yd,Grow G1 H1 G' H'/\G' D=none/\H' D=some (.lst acc)/\RepL G' yd acc/\yd.length<=i /\
       nS E G H (match D4 bnd (Ej δ cap) tt el (ds.drop i) with | .ok r=>.ok (yd++r) | _=>.no) Q,⟨_,rfl,l7 _,G1,[],[],Grow.own g1.gh hD,g1.gh.free hD,D3,rfl,xH _,?_⟩,?_⟩
     . rw [BJ]
       cases q:D4 bnd (Ej δ cap) tt el ds with
       | ok r=>rw [q] at aft1; exact aft1
       | exc c =>
         exfalso;have:∀ l c,D4 bnd (Ej δ cap) tt el l≠.exc c:=by
           intro l c;induction l with
           | nil=>intro z; cases z
           | cons d l ih =>
             unfold D4; intro z;split at z
             . split at z
               . split at z
                 . split at z <;> cases z
                 . cases z
               . exact ih z
               . cases z
             . cases z
         exact this ds c q
       | no=>rw [q] at aft1; exact aft1
     . rintro i n H' ⟨rfl,hi,G',acc,yd,g2,nD,hDa,ry,hyl,aft2⟩
       by_cases hlt:i < ds.length
       . refine .inr ⟨W.go i H' hlt (g2.g.trans g2.gh), fun H'' => ∃ n', n' < ds.length - i /\ (n' = ds.length - (i + 1) /\ i + 1 <= ds.length /\ ∃ G' acc yd, Grow G1 H1 G' H'' /\ G' D = none /\ H'' D = some (.lst acc) /\ RepL G' yd acc /\ yd.length <= i + 1 /\
           nS E G H (match D4 bnd (Ej δ cap) tt el (ds.drop (i+1)) with | .ok r=>.ok (yd++r) | _=>.no) Q),fun H'' q=>?_,fun x H'' hy=>?_⟩
         . obtain ⟨n',h1,h2⟩:=q
           exact ⟨n',h1,h2⟩
         . have hd:ds[i]? = some ds[i]:=yJ hlt
           have hdrop:ds.drop i=ds[i]::ds.drop (i+1):=i7 hlt; obtain ⟨G3,g3,r3⟩:=W.yld i _ G' H' x H'' hd g2.g g2.gh hy; have g13:=g2.trans g3; have nD3:G3 D=none:=by
             cases q:G3 D with
             | none=>rfl
             | some u => rcases g3.fr D u q with z | z | ⟨xs, rfl⟩
                         . rw [nD] at z; cases z
                         . rw [hDa] at z; cases z
                         . have:=g3.gh _ _ q; rw [g3.h _ _ hDa] at this; cases this
           rw [hdrop] at aft2; unfold D4 at aft2; rw [hmap];cases eb:bnd ds[i] with
           | exc c=>rw [eb] at aft2; exact aft2.elim
           | no=>rw [eb] at aft2; exact aft2.elim
           | ok sl =>
             rw [eb] at aft2; refine hg G3 H'' _ x sl _ _ g3.gh r3 eb fun vs hv hs hsl=>⟨⟨by rw [xO,xO,q9,wT,hv],fun j v z=>?_⟩,?_⟩
             . by_cases hj:j < m
               . rw [yG (by rw [q9]; exact hj),j9] at z
                 split at z <;> cases z
               . rw [yL (by rw [q9]; exact i8.mp hj),q9] at z
                 rw [yL (by rw [wT,hv]; exact i8.mp hj),wT,hv];exact z
             . have Sb:SR G3 H'' (vs.map some++Gs Z cap) (sl++Ej δ cap):=(S1.grow g13).cap cap hnd (hv.trans hs.symm) hsl
               refine ⟨G3,_,Sb,?_⟩; simp only at aft2;cases et:tt (sl++Ej δ cap) with
               | exc c=>rw [et] at aft2; exact aft2.elim
               | no=>rw [et] at aft2; exact aft2.elim
               | ok kk =>
                 rw [et] at aft2; intro G4 H4 g4; have nD4:G4 D=none:=by
                   cases q:G4 D with
                   | none=>rfl
                   | some u => rcases g4.fr D u q with z | z | ⟨xs, rfl⟩
                               . rw [nD3] at z; cases z
                               . rw [g3.h _ _ hDa] at z; cases z
                               . have:=g4.gh _ _ q; rw [g4.h _ _ (g3.h _ _ hDa)] at this; cases this
                 have hD4:H4 D=some (.lst acc):=g4.h _ _ (g3.h _ _ hDa);cases kk with
                 | false =>
                   rw [if_neg (by decide)]; exact ⟨_,by lia,rfl,hlt,G4,acc,yd,g13.trans g4,nD4,hD4,ry.mono (g3.g.trans g4.g),by lia,aft2⟩
                 | true =>
                   rw [if_pos rfl]; refine ⟨G4,_,Sb.grow g4,?_⟩; simp only at aft2;cases ee:el (sl++Ej δ cap) with
                   | exc c=>rw [ee] at aft2; exact aft2.elim
                   | no=>rw [ee] at aft2; exact aft2.elim
                   | ok y =>
                     rw [ee] at aft2; intro v G5 H5 g5 r5; have nD5:G5 D=none:=by
                       cases q:G5 D with
                       | none=>rfl
                       | some u => rcases g5.fr D u q with z | z | ⟨xs, rfl⟩
                                   . rw [nD4] at z; cases z
                                   . rw [hD4] at z; cases z
                                   . have:=g5.gh _ _ q; rw [g5.h _ _ hD4] at this; cases this
                     have hD5:H5 D=some (.lst acc):=g5.h _ _ hD4; have hal:acc.length<=i:=by rw [<- ry.length]; exact hyl
                     refine ⟨acc,hD5,by lia,_,by lia,rfl,hlt,G5,acc++[v],yd++[y],?_,nD5,D3,?_,by rw [xO,AR]; lia,?_⟩
                     . have g15:=(g13.trans g4).trans g5
                       refine ⟨g15.g,fun b o q=>?_,fun b o q=>?_,g15.fr⟩
                       . rw [C8 (E6 q hD)]; exact g15.h _ _ q
                       . rw [C8 (E6 q nD5)]; exact g15.gh _ _ q
                     . exact (ry.mono (g3.g.trans (g4.g.trans g5.g))).append (RepL.cons r5 rfl)
                     . simp only at aft2
                       cases er:D4 bnd (Ej δ cap) tt el (ds.drop (i+1)) with
                       | ok r =>
                         rw [er] at aft2; simp only [zQ,List.singleton_append]; exact aft2
                       | exc c=>rw [er] at aft2; exact aft2
                       | no=>rw [er] at aft2; exact aft2
       . refine .inl ⟨W.stop i H' (i8.mp hlt) (g2.g.trans g2.gh),?_⟩
         have:ds.drop i=[]:=AJ (i8.mp hlt); rw [this] at aft2; unfold D4 at aft2; have aft3:nS E G H (.ok (yd++[])) Q:=aft2; rw [xV] at aft3; exact aft3 D acc G' H' (g1.trans g2) (g1.h.free hD) nD hDa ry
   . rw [if_neg hz] at aft1; exact aft1.elim
end
end Sm
end
noncomputable section
namespace Sm
open PySem PySem.Spec PyProof.Rows L2
noncomputable def Fu (cells:List (Str×wX)):List (Str×BX)->List (Str×wX)->List (Str×wX)
 | [],cs=>cs
 | (n,kd)::r,cs=>if kd==.free then Fu cells r ((n,(cells.lookup n).getD 0)::cs) else Fu cells r cs
theorem bF {env:Env}:∀ (names:List (Str×BX)) (cs:List (Str×wX)),(∀ y∈names,y.2=.free->∃ c,env.cells.lookup y.1=some c) ->
   (forIn names cs fun (x:Str×BX) (r:List (Str×wX))=>if (x.2==o8)=true then do let c <- cellOf env x.1; pure (l8 ((x.1,c)::r)) else pure (l8 r))=(pure (Fu env.cells names cs):Sem (List (Str×wX)))
 | [],cs,_=>rfl
 | (n,kd)::r,cs,h=>by
   rw [CJ]; have ih:=fun cs=>bF r cs fun y hy=>h y (f8 _ hy);unfold Fu;by_cases hk:(kd==o8)=true
   . obtain ⟨c,hc⟩:=h (n,kd) c7 (j4 hk)
     have hc':cellOf env n=pure c:=by unfold cellOf; rw [show env.cells.lookup n=some c from hc]
     simp only [hk,if_true,hc',pure_bind]; rw [show env.cells.lookup n=some c from hc]; exact ih _
   . simp only [hk,if_false,pure_bind]
     exact ih _
theorem Jo {cells:List (Str×wX)}:∀ {names:List (Str×BX)} {cs:List (Str×wX)} {y:Str×wX},y∈Fu cells names cs->y∈cs\/((y.1,o8)∈names/\y.2=(cells.lookup y.1).getD 0)
 | [],cs,y,h=>.inl h
 | (n,kd)::r,cs,y,h=>by
   unfold Fu at h;by_cases hk:(kd==o8)=true
   . rw [if_pos hk] at h
     have hk':=j4 hk; subst hk'; rcases Jo h with z | ⟨z1,z2⟩
     . rcases wR.mp z with rfl | z
       . exact .inr ⟨c7,rfl⟩
       . exact .inl z
     . exact .inr ⟨f8 _ z1,z2⟩
   . rw [if_neg hk] at h
     rcases Jo h with z | ⟨z1,z2⟩
     . exact .inl z
     . exact .inr ⟨f8 _ z1,z2⟩
theorem Jp {cells:List (Str×wX)} {x:Str}:∀ {names:List (Str×BX)} {cs:List (Str×wX)},((x,o8)∈names\/∃ c,(x,c)∈cs)->∃ c,(x,c)∈Fu cells names cs
 | [],cs,h=>by
   rcases h with h | h
   . cases h
   . exact h
 | (n,kd)::r,cs,h=>by
   unfold Fu;by_cases hk:(kd==o8)=true
   . rw [if_pos hk]
     refine Jp ?_; rcases h with h | ⟨c,h⟩
     . rcases wR.mp h with q | q
       . cases q; exact .inr ⟨_,c7⟩
       . exact .inl q
     . exact .inr ⟨c,f8 _ h⟩
   . rw [if_neg hk]
     refine Jp ?_; rcases h with h | ⟨c,h⟩
     . rcases wR.mp h with q | q
       . cases q; exact absurd rfl hk
       . exact .inl q
     . exact .inr ⟨c,h⟩
theorem Gj {α:Type} {x:Str} {c:α} {l:List (Str×α)} (h:l.lookup x=some c):(x,c)∈l:=n6 h
theorem Iv {α:Type} {x:Str}:∀ {l:List (Str×α)} {c:α},(x,c)∈l->∃ c',l.lookup x=some c'
 | [],_,h=>by cases h
 | (n,d)::r,c,h=>by
   rw [List.lookup_cons];cases q:x==n with
   | true=>exact ⟨d,rfl⟩
   | false =>
     rcases wR.mp h with z | z
     . cases z; simp at q
     . exact Iv z
theorem rF {X:Cx} (ok:X.Ok) {scope:Scope} (hnc:∀ y∈scope.names,y.2≠.cell) (hfree:∀ y∈scope.names,y.2=.free->X.env.scope.names.lookup y.1=some .cell\/X.env.scope.names.lookup y.1=some .free):∃ cl,Clos X scope cl:=by
 have hc:∀ y∈scope.names,y.2=.free->∃ c,X.env.cells.lookup y.1=some c:=fun y hy hf=>ok.has y.1 (hfree y hy hf);refine ⟨Fu X.env.cells scope.names [],⟨?_,fun x c h=>?_,fun x h=>?_⟩⟩
 . have:=bF (env:=X.env) scope.names [] hc
   unfold closureFor; simp only;rw [this]; rfl
 . rcases Jo (Gj h) with z | ⟨z1,z2⟩
   . cases z
   . obtain ⟨c',e⟩:=hc _ z1 rfl
     have e':X.env.cells.lookup x=some c':=e; have z2':c=(X.env.cells.lookup x).getD 0:=z2; rw [e'] at z2' ⊢;rw [z2']; rfl
 . have hm : (x, o8) ∈ scope.names := by
     have key:∀ kd,(l4 scope X.env).names.lookup x=some kd->(kd=.cell\/kd=.free)->(x,o8)∈scope.names:=fun kd hl hkd=>by
       have hm:=Gj hl; unfold l4 at hm; simp only [xK] at hm; obtain ⟨⟨n,k0⟩,hy,e⟩:=hm; simp only at e;split at e
       . rename_i hc'
         cases e; have:k0=.free:=by
           rw [xX,xX] at hc'; exact j4 hc'.1.1
         subst this; exact hy
       . cases e
         rcases hkd with rfl | rfl
         . exact absurd rfl (hnc _ hy)
         . exact hy
     rcases h with h | h
     . exact key _ h (.inl rfl)
     . exact key _ h (.inr rfl)
   obtain ⟨c,hc'⟩:=Jp (cells:=X.env.cells) (names:=scope.names) (cs:=[]) (x:=x) (.inl hm); exact Iv hc'
noncomputable def okComp (N:List Str) (sc scope:Scope) (xs capN:List Str) (cap:List Nat):Bool :=
 decide (scope.kind=.function)&&scope.names.all (fun y=>decide (y.2≠.cell))&&scope.names.all (fun y=>decide (y.2=.local->scope.names.lookup y.1=some .local)) &&
 scope.names.all (fun y=>decide (y.2=.free->sc.names.lookup y.1=some .cell\/sc.names.lookup y.1=some .free))&&decide (cap.map (fun j=>N[j]?)=capN.map some) &&
 capN.all (fun x=>decide ((Ie scope sc).names.lookup x=some .cell\/(Ie scope sc).names.lookup x=some .free))&&capN.all (fun x=>decide (sc.names.lookup x=some .cell\/sc.names.lookup x=some .free)) &&
 decide ((xs++capN).Nodup)&&xs.all (fun x=>decide ((Ie scope sc).names.lookup x=some .local))&&decide (cap.Nodup)
noncomputable section
variable {P:xT} {w:yC} {K:wQ} {mg:Str->Option wM} {base:yW} {X:Cx} {N:List Str} {sc:Scope} {k:Nat} {df:Bool} {E:EK} {pos px py tp:Pos} {a c elt iter:Expr} {ifs:List Expr} {f g el:Dn->Res wK} {src:Dn->Res (List wK)} {tt:Dn->Res Bool} {scope:Scope} {capN:List Str} {cap:List Nat}
structure CompOk (N:List Str) (sc scope:Scope) (xs capN:List Str) (cap:List Nat):Prop where
 h1:scope.kind=.function
 h2:∀ y∈scope.names,y.2≠.cell
 h3:∀ y∈scope.names,y.2=.local->scope.names.lookup y.1=some .local
 h4:∀ y∈scope.names,y.2=.free->sc.names.lookup y.1=some .cell\/sc.names.lookup y.1=some .free
 h5:cap.map (fun j=>N[j]?)=capN.map some
 h6:∀ x∈capN,(Ie scope sc).names.lookup x=some .cell\/(Ie scope sc).names.lookup x=some .free
 h7:∀ x∈capN,sc.names.lookup x=some .cell\/sc.names.lookup x=some .free
 h8:(xs++capN).Nodup
 h9:∀ x∈xs,(Ie scope sc).names.lookup x=some .local
 h10:cap.Nodup
theorem okComp.ok {xs:List Str} (h:okComp N sc scope xs capN cap=true):CompOk N sc scope xs capN cap:=by
 unfold okComp at h;simp only [xX,f9,decide_eq_true_eq] at h;obtain ⟨⟨⟨⟨⟨⟨⟨⟨⟨h1,h2⟩,h3⟩,h4⟩,h5⟩,h6⟩,h7⟩,h8⟩,h9⟩,h10⟩:=h;exact ⟨h1,h2,h3,h4,h5,h6,h7,h8,h9,h10⟩
theorem Ft {xs:List Str} (C:Cxt P w K mg base X N sc k df) (h:CompOk N sc scope xs capN cap) (ok:X.Ok):CompFacts X scope xs capN cap:=by
 refine ⟨h.h1,h.h2,h.h3,rF ok h.h2 fun y hy hf=>?_,by rw [C.hN]; exact h.h5,fun x hx=>?_,fun x hx=>?_⟩
 . rw [C.hs]; exact h.h4 y hy hf
 . rw [eK C.hs]; exact h.h6 x hx
 . rw [C.hs]; exact h.h7 x hx
abbrev DTs (X:Cx) (E:EK) (ifs:List Expr) (f:Dn->Res Bool):Prop:=PTs X ifs (tT E f)
noncomputable def K5:Dn->Res Bool:=fun _=>.ok true
theorem P6:DTs X E [] K5:=fun pins s Z H Q I hZ6=>by obtain ⟨G,δ,S,a⟩:=hZ6; exact pA pins s Z H Q I (a G H (Grow.refl S.sub))
theorem Iz (h:DT X E c tt):DTs X E [c] tt:=oZ h
theorem L3 {x:Str} (C:Cxt P w K mg base X N sc k df) (cap:List Nat) (capN:List Str) (ho:okComp N sc scope [x] capN cap=true) (hi:DI X E (.Name x px) iter src)
   (ht:∀ X',Cxt P w K mg base X' ([x]++capN) (Ie scope sc) k false->DTs X' E0k ifs tt) (he:∀ X',Cxt P w K mg base X' ([x]++capN) (Ie scope sc) k false->DE X' E0k elt el)
   (hs:∀ x,zS iter X.env x=pure x:=by intro _; rfl):DF X E (.ListComp elt [⟨.Name x px,iter,ifs,0⟩] scope pos) (F5 src D9 cap tt el):=by
 have o:=okComp.ok ho;refine PE.imp (eS (g:=Aw 0) C.calm (Ft C o) hi (fun X' B=>?_) (fun X' B=>ht X' (C.blk B)) (fun X' B=>he X' (C.blk B)) hs) fun Z H Q h=>Ow (m:=1) rfl o.h10 gok1 h;have C':=C.blk B;have hl:X'.env.scope.names.lookup x=some .local:=by rw [C'.hs]; exact o.h9 x (by simp)
 exact Dk (by rw [C'.hN]; exact o.h8) (by rw [C'.hN]; rfl) (.inl hl) (.inr hl)
theorem qO {x y:Str} {x1:Nat} (C:Cxt P w K mg base X N sc k df) (cap:List Nat) (capN:List Str) (ho:okComp N sc scope [x,y] capN cap=true) (hi:DI X E (.Tuple [.Name x px,.Name y py] x1 tp) iter src)
   (ht:∀ X',Cxt P w K mg base X' ([x,y]++capN) (Ie scope sc) k false->DTs X' E0k ifs tt) (he:∀ X',Cxt P w K mg base X' ([x,y]++capN) (Ie scope sc) k false->DE X' E0k elt el)
   (hs:∀ x,zS iter X.env x=pure x:=by intro _; rfl):DF X E (.ListComp elt [⟨.Tuple [.Name x px,.Name y py] x1 tp,iter,ifs,0⟩] scope pos) (F5 src De cap tt el):=by
 have o:=okComp.ok ho;refine PE.imp (eS (g:=qJ K 2 (Rm (Aw 0) (Rm (Aw 1) qK))) C.calm (Ft C o) hi (fun X' B=>?_) (fun X' B=>ht X' (C.blk B)) (fun X' B=>he X' (C.blk B)) hs) fun Z H Q h=>Ow (m:=2) rfl o.h10 gok2 h;have C':=C.blk B;have hl:X'.env.scope.names.lookup x=some .local:=by rw [C'.hs]; exact o.h9 x (by simp)
 have hl2:X'.env.scope.names.lookup y=some .local:=by rw [C'.hs]; exact o.h9 y (by simp)
 have nd:X'.N.Nodup:=by rw [C'.hN]; exact o.h8
 have p1:PG X' (.Name x px) (Aw 0):=Dk nd (by rw [C'.hN]; rfl) (.inl hl) (.inr hl);have p2:PG X' (.Name y py) (Aw 1):=Dk nd (by rw [C'.hN]; rfl) (.inl hl2) (.inr hl2);have:=lB (n:=2) (k:=x1) (pos:=tp) C'.calm (Kq p1 (Kq p2 eQ));rw [C'.hK] at this;exact this
end
end Sm
end
noncomputable section
namespace Sm
open PySem PySem.Spec PyProof.Rows L2
inductive Out where
 | nx (δ:Dn)
 | rt (d:wK)
 | bk (δ:Dn)
 | ct (δ:Dn)
 | exc (c:Str)
 | no
structure SSt (G0 H0 G H:Hp) (Z:St) (δ:Dn):Prop where
 gr:Grow G0 H0 G H
 sr:SR G H Z δ
 fr:∀ (i:Nat) (d:wK) (a:wX),δ[i]? = some (.ow d)->Z[i]?.join=some (.ref a)->H0 a=none
theorem SSt.grow {G0 H0 G H G' H':Hp} {Z:St} {δ:Dn} (S:SSt G0 H0 G H Z δ) (g:Grow G H G' H'):SSt G0 H0 G' H' Z δ:=⟨S.gr.trans g,S.sr.grow g,S.fr⟩
def Na (E:EK) (G0 H0:Hp) (o:Out) (D:Ends):Prop:=match o with
 | .nx δ=>∀ Z G H,SSt G0 H0 G H Z δ->D.nx Z H
 | .rt d=>∀ v G H,Grow G0 H0 G H->Rep G d v->D.rt v H
 | .bk δ=>∀ Z G H,SSt G0 H0 G H Z δ->D.bk Z H
 | .ct δ=>∀ Z G H,SSt G0 H0 G H Z δ->D.ct Z H
 | .exc c=>∀ G H,Grow G0 H0 G H->E c H
 | .no=>False
def tS (E:EK) (G0 H0:Hp) (g:Dn->Out):TS:=fun D Z H=>∃ G δ,SSt G0 H0 G H Z δ/\Na E G0 H0 (g δ) D
def DS (X:Cx) (E:EK) (st:n0) (g:Dn->Out):Prop:=∀ G0 H0,PS X st (tS E G0 H0 g)
def DSs (X:Cx) (E:EK) (st:List n0) (g:Dn->Out):Prop:=∀ G0 H0,PSs X st (tS E G0 H0 g)
theorem PS.imp {X:Cx} {st:n0} {t t':TS} (h:PS X st t) (i:∀ D Z H,t' D Z H->t D Z H):PS X st t':=fun pins s Z H D I q=>h pins s Z H D I (i _ _ _ q)
theorem PSs.imp {X:Cx} {st:List n0} {t t':TS} (h:PSs X st t) (i:∀ D Z H,t' D Z H->t D Z H):PSs X st t':=fun pins s Z H D I q=>h pins s Z H D I (i _ _ _ q)
noncomputable def O7 {α:Type} (r:Res α) (k:α->Out):Out:=match r with
 | .ok a=>k a
 | .exc c=>.exc c
 | .no=>.no
theorem Ht {E:EK} {G0 H0 G H:Hp} {Z:St} {δ:Dn} {f:Dn->Res wK} {k:wK->Out} {D:Ends} {R:VK} (S:SSt G0 H0 G H Z δ) (a:Na E G0 H0 (O7 (f δ) k) D)
   (h:∀ d v G1 H1,Grow G H G1 H1->Rep G1 d v->SSt G0 H0 G1 H1 Z δ->Na E G0 H0 (k d) D->R v H1):tD E f Z H R:=by
 refine ⟨G,δ,S.sr,?_⟩;cases e:f δ with
 | ok d=>rw [e] at a; exact fun v G' H' g r=>h d v G' H' g r (S.grow g) a
 | exc c=>rw [e] at a; exact fun G' H' g=>a G' H' (S.gr.trans g)
 | no=>rw [e] at a; exact a
theorem dY {E:EK} {G0 H0 G H:Hp} {Z:St} {δ:Dn} {f:Dn->Res (List wK)} {k:List wK->Out} {D:Ends} {R:VK} (S:SSt G0 H0 G H Z δ) (a:Na E G0 H0 (O7 (f δ) k) D)
   (h:∀ ds p xs G1 H1,Grow G H G1 H1->H p=none->G1 p=none->H1 p=some (.lst xs)->RepL G1 ds xs->SSt G0 H0 G1 H1 Z δ->Na E G0 H0 (k ds) D->R (.ref p) H1):tF E f Z H R:=by
 refine ⟨G,δ,S.sr,?_⟩;cases e:f δ with
 | ok d=>rw [e] at a; exact fun p xs G' H' g q1 q2 q3 q4=>h d p xs G' H' g q1 q2 q3 q4 (S.grow g) a
 | exc c=>rw [e] at a; exact fun G' H' g=>a G' H' (S.gr.trans g)
 | no=>rw [e] at a; exact a
theorem nM {E:EK} {G0 H0 G H:Hp} {Z:St} {δ:Dn} {f:Dn->Res Bool} {k:Bool->Out} {D:Ends} {R:Bool->Hp->Prop} (S:SSt G0 H0 G H Z δ) (a:Na E G0 H0 (O7 (f δ) k) D)
   (h:∀ d G1 H1,Grow G H G1 H1->SSt G0 H0 G1 H1 Z δ->Na E G0 H0 (k d) D->R d H1):tT E f Z H R:=by
 refine ⟨G,δ,S.sr,?_⟩;cases e:f δ with
 | ok d=>rw [e] at a; exact fun G' H' g=>h d G' H' g (S.grow g) a
 | exc c=>rw [e] at a; exact fun G' H' g=>a G' H' (S.gr.trans g)
 | no=>rw [e] at a; exact a
theorem nN {E:EK} {G0 H0 G H:Hp} {Z:St} {δ:Dn} {f:Dn->Res (List wK)} {k:List wK->Out} {D:Ends} {R:It->Hp->Prop} (S:SSt G0 H0 G H Z δ) (a:Na E G0 H0 (O7 (f δ) k) D)
   (h:∀ ds J G1 H1,Grow G H G1 H1->Walk J G1 ds->SSt G0 H0 G1 H1 Z δ->Na E G0 H0 (k ds) D->R J H1):tI E f Z H R:=by
 refine ⟨G,δ,S.sr,?_⟩;cases e:f δ with
 | ok d=>rw [e] at a; exact fun J G' H' g q=>h d J G' H' g q (S.grow g) a
 | exc c=>rw [e] at a; exact fun G' H' g=>a G' H' (S.gr.trans g)
 | no=>rw [e] at a; exact a
theorem J3 {α:Type} {l:List α} {i j:Nat} {v:α}:(l.set i v)[j]? = if i=j/\i < l.length then some v else l[j]? := by
 rw [List.getElem?_set];by_cases h:i=j
 . subst h
   by_cases hl:i < l.length
   . simp [hl]
   . simp [hl,s0 (i8.mp hl)]
 . simp [h]
theorem SSt.set_sh {G0 H0 G H:Hp} {Z:St} {δ:Dn} (S:SSt G0 H0 G H Z δ) {i:Nat} {v:V} {d:wK} (r:Rep G d v):SSt G0 H0 G H (Z.set i (some v)) (δ.set i (.sh d)):=by
 have hl:=S.sr.len;have key:∀ (j:Nat) (d':wK),(δ.set i (.sh d))[j]? = some (.ow d')->(Z.set i (some v))[j]? = Z[j]? /\ δ[j]? = some (.ow d'):=fun j d' e=>by
   rw [J3] at e;split at e
   . cases e
   . rename_i hn
     refine ⟨?_,e⟩; rw [J3,if_neg (by rw [hl]; exact hn)]
 refine ⟨S.gr,⟨S.sr.sub,by simp [hl],fun j s e=>?_,fun j1 j2 a d1 d2 e1 e2 h1 h2=>?_⟩,fun j d' a e h=>?_⟩
 . rw [J3] at e ⊢
   rw [hl];split at e
   . rename_i hc; cases e; rw [if_pos hc]; exact ⟨v,rfl,r⟩
   . rename_i hc; rw [if_neg hc]; exact S.sr.sl j s e
 . obtain ⟨k1,o1⟩:=key j1 d1 e1
   obtain ⟨k2,o2⟩:=key j2 d2 e2; rw [k1] at h1; rw [k2] at h2; exact S.sr.ap j1 j2 a d1 d2 o1 o2 h1 h2
 . obtain ⟨k1,o1⟩:=key j d' e
   rw [k1] at h; exact S.fr j d' a o1 h
theorem SSt.set_ow {G0 H0 G H:Hp} {Z:St} {δ:Dn} (S:SSt G0 H0 G H Z δ) {i:Nat} {p:wX} {d:wK} (h0:H0 p=none) (hg:G p=none) (ho:OwnOk G H p d) (hf:∀ (j:Nat) d',δ[j]? = some (.ow d')->Z[j]?.join≠some (.ref p)):SSt G0 H0 G H (Z.set i (some (.ref p))) (δ.set i (.ow d)):=by
 have hl:=S.sr.len;have key:∀ (j:Nat) (d':wK),(δ.set i (.ow d))[j]? = some (.ow d')->(i=j/\i < δ.length/\d'=d/\(Z.set i (some (.ref p)))[j]? = some (some (.ref p)))\/((Z.set i (some (.ref p)))[j]? = Z[j]? /\ δ[j]? = some (.ow d')):=fun j d' e=>by
   rw [J3] at e;split at e
   . rename_i hc; cases e; exact .inl ⟨hc.1,hc.2,rfl,by rw [J3,if_pos (by rw [hl]; exact hc)]⟩
   . rename_i hn
     refine .inr ⟨?_,e⟩; rw [J3,if_neg (by rw [hl]; exact hn)]
 refine ⟨S.gr,⟨S.sr.sub,by simp [hl],fun j s e=>?_,fun j1 j2 a d1 d2 e1 e2 h1 h2=>?_⟩,fun j d' a e h=>?_⟩
 . rw [J3] at e ⊢
   rw [hl];split at e
   . rename_i hc; cases e; rw [if_pos hc]; exact ⟨p,rfl,hg,ho⟩
   . rename_i hc; rw [if_neg hc]; exact S.sr.sl j s e
 . rcases key j1 d1 e1 with ⟨a1,b1,_,c1⟩ | ⟨k1,o1⟩
   . rcases key j2 d2 e2 with ⟨a2,b2,_,c2⟩ | ⟨k2,o2⟩
     . exact a1.symm.trans a2
     . rw [c1] at h1; cases h1
       rw [k2] at h2; exact absurd h2 (hf j2 d2 o2)
   . rcases key j2 d2 e2 with ⟨a2,b2,_,c2⟩ | ⟨k2,o2⟩
     . rw [c2] at h2; cases h2
       rw [k1] at h1; exact absurd h1 (hf j1 d1 o1)
     . rw [k1] at h1; rw [k2] at h2
       exact S.sr.ap j1 j2 a d1 d2 o1 o2 h1 h2
 . rcases key j d' e with ⟨a1,b1,_,c1⟩ | ⟨k1,o1⟩
   . rw [c1] at h; cases h; exact h0
   . rw [k1] at h; exact S.fr j d' a o1 h
theorem SSt.write {G0 H0 G H:Hp} {Z:St} {δ:Dn} (S:SSt G0 H0 G H Z δ) {i:Nat} {p:wX} {d d':wK} {o:HO} (hi:δ[i]? = some (.ow d)) (hp:Z[i]?.join=some (.ref p)) (hg:G p=none) (ho:OwnOk G (upd H p o) p d'):SSt G0 H0 G (upd H p o) Z (δ.set i (.ow d')):=by
 have h0:=S.fr i d p hi hp;have hil:i < δ.length:=(xQ.mp hi).1;have hsub:Same G (upd H p o):=fun b u e=>by rw [C8 (E6 e hg)]; exact S.sr.sub _ _ e
 have key:∀ (j:Nat) (e:wK),(δ.set i (.ow d'))[j]? = some (.ow e)->∃ e',δ[j]? = some (.ow e'):=fun j e h=>by
   rw [J3] at h;split at h
   . rename_i hc; rw [<- hc.1]; exact ⟨d,hi⟩
   . exact ⟨e,h⟩
 refine ⟨⟨S.gr.g,fun b u e=>by rw [C8 (E6 e h0)]; exact S.gr.h _ _ e,hsub,S.gr.fr⟩,⟨hsub,by simp [S.sr.len],fun j s e=>?_,fun j1 j2 a d1 d2 e1 e2 h1 h2=>?_⟩,fun j e a h1 h2=>?_⟩
 . rw [J3] at e
   split at e
   . rename_i hc; cases e; rw [<- hc.1]; exact ⟨p,hp,hg,ho⟩
   . rename_i hc
     have hs:=S.sr.sl j s e;cases s with
     | un=>trivial
     | sh d=>exact hs
     | fd _=>exact hs
     | ow d2 =>
       obtain ⟨a,e1,n1,ok⟩:=hs; refine ⟨a,e1,n1,?_⟩; have hne:a≠p:=by
         rintro rfl;exact hc ⟨S.sr.ap i j a d d2 hi e hp e1,hil⟩
       cases d2 with
       | list ds=>obtain ⟨xs,q,r⟩:=ok; exact ⟨xs,by rw [C8 hne]; exact q,r⟩
       | dict kvs=>obtain ⟨xs,q,r⟩:=ok; exact ⟨xs,by rw [C8 hne]; exact q,r⟩
       | tuple xs=>exact OwnK.keep (Same.refl _) (fun o q=>by rw [C8 hne]; exact q) ok
       | _=>exact (show False from ok).elim
 . obtain ⟨e1',o1⟩:=key j1 d1 e1
   obtain ⟨e2',o2⟩:=key j2 d2 e2; exact S.sr.ap j1 j2 a _ _ o1 o2 h1 h2
 . obtain ⟨e',o1⟩:=key j e h1
   exact S.fr j e' a o1 h2
noncomputable def fz (i:Nat) (δ:Dn):Dn:=match δ[i]? with
 | some (.ow (.list ds))=>δ.set i (.sh (.list ds))
 | _=>δ
theorem SSt.fz {G0 H0 G H:Hp} {Z:St} {δ:Dn} (S:SSt G0 H0 G H Z δ) (i:Nat):∃ G',SSt G0 H0 G' H Z (fz i δ):=by
 unfold Sm.fz;split
 . rename_i ds hi
   obtain ⟨p,hp,hg,xs,hx,r⟩:=S.sr.sl i _ hi; have h0:=S.fr i _ p hi hp; have g:Grow G0 H0 (upd G p (.lst xs)) H:=S.gr.share h0 hg hx; have hv:Z[i]? = some (some (.ref p)):=by
     cases q:Z[i]? with
     | none=>rw [q] at hp; cases hp
     | some z=>rw [q] at hp; cases z with
       | none=>cases hp
       | some z=>cases hp; rfl
   have key:∀ (j:Nat) (d':wK),(δ.set i (.sh (.list ds)))[j]? = some (.ow d')->δ[j]? = some (.ow d')/\j≠i:=fun j d' e=>by
     rw [J3] at e;split at e
     . cases e
     . rename_i hn
       refine ⟨e,fun z=>?_⟩;subst z; exact hn ⟨rfl,(xQ.mp hi).1⟩
   refine ⟨_,g,⟨g.gh,by simp [S.sr.len],fun j s e=>?_,fun j1 j2 a d1 d2 e1 e2 h1 h2=>S.sr.ap j1 j2 a d1 d2 (key j1 d1 e1).1 (key j2 d2 e2).1 h1 h2⟩,fun j d' a e h=>S.fr j d' a (key j d' e).1 h⟩;have sm:Same G (upd G p (.lst xs)):=Same.upd hg;by_cases hj:i=j/\i < δ.length
   . rw [J3,if_pos hj] at e
     cases e; rw [<- hj.1,hv]; exact ⟨_,rfl,p,xs,rfl,.inl D3,r.mono sm⟩
   . have e2:=e
     rw [J3,if_neg hj] at e2; have hs:=S.sr.sl j s e2;cases s with
     | un=>trivial
     | sh d=>obtain ⟨v,e1,r1⟩:=hs; exact ⟨v,e1,r1.mono sm⟩
     | fd _=>exact FdOk.mono sm hs
     | ow d2 =>
       obtain ⟨a,e1,n1,ok⟩:=hs; have hne:a≠p:=by
         rintro rfl;exact (key j d2 e).2 (S.sr.ap j i a d2 _ e2 hi e1 hp)
       refine ⟨a,e1,by rw [C8 hne]; exact n1,?_⟩;cases d2 with
       | list ds=>obtain ⟨xs,q,r⟩:=ok; exact ⟨xs,q,r.mono sm⟩
       | dict kvs=>obtain ⟨xs,q,k,r⟩:=ok; exact ⟨xs,q,k,r.mono sm⟩
       | tuple xs=>exact OwnK.keep sm (fun o q=>q) ok
       | _=>exact (show False from ok).elim
 . exact ⟨G,S⟩
noncomputable section
variable {P:xT} {w:yC} {K:wQ} {mg:Str->Option wM} {base:yW} {X:Cx} {N:List Str} {sc:Scope} {k:Nat} {df:Bool} {E:EK} {pos p px py:Pos} {a b c e elt iter:Expr} {ifs:List Expr} {f g el:Dn->Res wK} {fs src:Dn->Res (List wK)} {tt:Dn->Res Bool} {scope:Scope} {capN:List Str} {cap:List Nat} {st:n0} {sts sts':List n0} {g1 g2:Dn->Out}
noncomputable def E4:Dn->Out:=fun δ=>.nx δ
noncomputable def D1 (g1 g2:Dn->Out):Dn->Out:=fun δ=>match g1 δ with
 | .nx δ'=>g2 δ'
 | o=>o
theorem F9:DSs X E [] E4:=fun G0 H0=>PSs.imp eN fun D Z H hZ3=>by obtain ⟨G,δ,S,a⟩:=hZ3; exact a Z G H S
theorem B7 (h1:DS X E st g1) (h2:DSs X E sts g2):DSs X E (st::sts) (D1 g1 g2):=fun G0 H0=>by
 refine PSs.imp (Zx (h1 G0 H0) (h2 G0 H0)) fun D Z H hY59=>?_;obtain ⟨G,δ,S,a⟩:=hY59;refine ⟨G,δ,S,?_⟩;unfold D1 at a;cases e:g1 δ with
 | nx δ'=>rw [e] at a; exact fun Z' G' H' S'=>⟨G',δ',S',a⟩
 | rt d=>rw [e] at a; exact a
 | bk d=>rw [e] at a; exact a
 | ct d=>rw [e] at a; exact a
 | exc d=>rw [e] at a; exact a
 | no=>rw [e] at a; exact a
theorem C1 (h1:DS X E st g1):DSs X E [st] g1:=fun G0 H0=>Kn (h1 G0 H0)
noncomputable def sFz (i:Nat) (g:Dn->Out):Dn->Out:=fun δ=>g (fz i δ)
theorem kI (i:Nat) (h:DS X E st g1):DS X E st (sFz i g1):=fun G0 H0=>PS.imp (h G0 H0) fun D Z H hZ3=>by
 obtain ⟨G,δ,S,a⟩:=hZ3;obtain ⟨G',S'⟩:=S.fz i;exact ⟨G',_,S',a⟩
noncomputable def E9 (f:Dn->Res wK):Dn->Out:=fun δ=>O7 (f δ) .rt
theorem E3 (h:DE X E e f):DS X E (.Return (some e) pos) (E9 f):=fun G0 H0=>PS.imp (cP h) fun D Z H ⟨G,δ,S,a⟩ =>
 Ht S a fun d v G1 H1 g1 r1 S1 a1=>a1 v G1 H1 S1.gr r1
noncomputable def sIf (c:Dn->Res Bool) (g1 g2:Dn->Out):Dn->Out:=fun δ=>O7 (c δ) fun b=>if b=true then g1 δ else g2 δ
theorem Q6 (hc:DT X E c tt) (h1:DSs X E sts g1) (h2:DSs X E sts' g2):DS X E (.If c sts sts' pos) (sIf tt g1 g2):=fun G0 H0=>PS.imp (rW hc (h1 G0 H0) (h2 G0 H0)) fun D Z H ⟨G,δ,S,a⟩ =>
 nM S a fun d G1 H1 g1 S1 a1=>by
   cases d with
   | true=>rw [if_pos rfl]; exact ⟨G1,δ,S1,a1⟩
   | false=>rw [if_neg (by decide)]; exact ⟨G1,δ,S1,a1⟩
noncomputable def okSet (N:List Str) (sc:Scope) (df:Bool) (i:Nat) (x:Str):Bool:=decide (N.Nodup)&&decide (N[i]? = some x)&&(decide (sc.names.lookup x=some .local)||(decide (sc.names.lookup x=some .cell)&&df))
theorem okSet.ok (C:Cxt P w K mg base X N sc k df) {i:Nat} {x:Str} (h:okSet N sc df i x=true):X.N.Nodup/\X.N[i]? = some x/\Loc X.env.scope x/\(X.fn x=true\/X.env.scope.names.lookup x=some .local):=by
 unfold okSet at h;simp only [xX,CL,decide_eq_true_eq] at h;obtain ⟨⟨h1,h2⟩,h3⟩:=h;rw [C.hN];refine ⟨h1,h2,?_⟩;unfold L2.Loc;rw [C.hs];rcases h3 with h3 | ⟨h3,h4⟩
 . exact ⟨.inl h3,.inr h3⟩
 . exact ⟨.inr h3,.inl (C.fn h4 x)⟩
noncomputable def I9 (i:Nat) (f:Dn->Res wK):Dn->Out:=fun δ=>O7 (f δ) fun d=>.nx (δ.set i (.sh d))
theorem L9 {x:Str} (C:Cxt P w K mg base X N sc k df) (i:Nat) (ho:okSet N sc df i x=true) (h:DE X E e f) (hs:j3 e (some (.Name x p)) pos.line X.env=pure false:=by rfl):DS X E (.Assign [.Name x p] e pos) (I9 i f):=fun G0 H0=>by
 obtain ⟨h1,h2,h3,h4⟩:=okSet.ok C ho;exact PS.imp (Ly h1 h2 h3 h hs h4) fun D Z H hZ3=>by obtain ⟨G,δ,S,a⟩:=hZ3; exact Ht S a fun d v G1 H1 g1 r1 S1 a1=>a1 _ G1 H1 (S1.set_sh r1)
theorem Dd {G0 H0 G H:Hp} {Z:St} {δ:Dn} (S:SSt G0 H0 G H Z δ) {p:wX} (hp:H p=none) (j:Nat) (d':wK) (e:δ[j]? = some (.ow d')):Z[j]?.join≠some (.ref p):=fun z=>by
 obtain ⟨a,e1,_,ok⟩:=S.sr.sl j _ e;rw [e1] at z; cases z;obtain ⟨o,q⟩:=ok.some;rw [hp] at q; cases q
noncomputable def Oc (i:Nat) (f:Dn->Res (List wK)):Dn->Out:=fun δ=>O7 (f δ) fun ds=>.nx (δ.set i (.ow (.list ds)))
theorem eU {G0 H0:Hp} {D:Ends} {Z:St} {H:Hp} {i:Nat} (h:tS E G0 H0 (Oc i fs) D Z H):tF E fs Z H fun v H1=>D.nx (Z.set i (some v)) H1:=by
 obtain ⟨G,δ,S,a⟩:=h;refine dY S a fun ds p xs G1 H1 g1 q1 q2 q3 q4 S1 a1=>?_;exact a1 _ G1 H1 (S1.set_ow (S.gr.h.free q1) q2 ⟨xs,q3,q4⟩ (Dd S q1))
theorem Zq {x:Str} (C:Cxt P w K mg base X N sc k df) (i:Nat) (ho:okSet N sc df i x=true) (h:DF X E e fs) (hs:j3 e (some (.Name x p)) pos.line X.env=pure false:=by rfl):DS X E (.Assign [.Name x p] e pos) (Oc i fs):=fun G0 H0=>by
 obtain ⟨h1,h2,h3,h4⟩:=okSet.ok C ho;exact PS.imp (Ly h1 h2 h3 h hs h4) fun D Z H q=>eU q
noncomputable def Ma (sc scope:Scope) (x:Str) (l1 l2:Nat):Bool:=decide (sc.kind=.function)&&decide (sc.names.lookup x=some .local)&&decide (l1=l2) && !(scope.names.any fun (n,kd)=>n==x&&(kd==.local||kd==.cell))
theorem Uo {x:Str} {elt:Expr} {gens:List Comprehension} {ln:Nat} (C:Cxt P w K mg base X N sc k df) (h:Ma sc scope x p.line pos.line=true):j3 (.ListComp elt gens scope pos) (some (.Name x p)) ln X.env=pure true:=by
 unfold Ma at h;simp only [xX,decide_eq_true_eq] at h;obtain ⟨⟨⟨h1,h2⟩,h3⟩,h4⟩:=h;unfold j3;show pure (X.env.blockKind==.function&&X.env.kindOf x==some .local&&p.line==pos.line && !(scope.names.any fun (n,kd)=>n==x&&(kd==.local||kd==.cell)))=_;have e1:X.env.blockKind=.function:=by unfold Env.blockKind; rw [C.hs,h1]; rfl
 have e2:X.env.kindOf x=some .local:=by show X.env.scope.names.lookup x=_; rw [C.hs]; exact h2
 rw [e1,e2,h3,h4];simp
noncomputable section
variable {x y:Str} {i:Nat} {py spos:Pos}
theorem cL (C:Cxt P w K mg base X N sc k df) (i:Nat) (hset:okSet N sc df i y=true) (hsw:Ma sc scope y py.line pos.line=true) (cap:List Nat) (capN:List Str) (ho:okComp N sc scope [x] capN cap=true) (hi:DI X E (.Name x px) iter src)
   (ht:∀ X',Cxt P w K mg base X' ([x]++capN) (Ie scope sc) k false->DTs X' E0k ifs tt) (he:∀ X',Cxt P w K mg base X' ([x]++capN) (Ie scope sc) k false->DE X' E0k elt el)
   (hs:∀ x,zS iter X.env x=pure x:=by intro _; rfl):DS X E (.Assign [.Name y py] (.ListComp elt [⟨.Name x px,iter,ifs,0⟩] scope pos) spos) (Oc i (F5 src D9 cap tt el)):=fun G0 H0=>by
 obtain ⟨h1,h2,h3,h4⟩:=okSet.ok C hset;have o:=okComp.ok ho;have hl:X.env.scope.names.lookup y=some .local:=by
   rw [C.hs]; unfold Ma at hsw; simp only [xX,decide_eq_true_eq] at hsw; exact hsw.1.1.2
 refine PS.imp (Qu (g:=Aw 0) C.calm (Ft C o) hi (fun X' B=>?_) (fun X' B=>ht X' (C.blk B)) (fun X' B=>he X' (C.blk B)) h1 h2 hl (Uo C hsw) hs) fun D Z H h=>Ow (m:=1) rfl o.h10 gok1 (eU h);have C':=C.blk B;have hl:X'.env.scope.names.lookup x=some .local:=by rw [C'.hs]; exact o.h9 x (by simp)
 exact Dk (by rw [C'.hN]; exact o.h8) (by rw [C'.hN]; rfl) (.inl hl) (.inr hl)
noncomputable def kM (i:Nat) (f:Dn->Res (List wK)):Dn->Out:=fun δ=>O7 (f δ) fun ds=>.nx (δ.set i (.sh (.list ds)))
theorem pT {G0 H0:Hp} {D:Ends} {Z:St} {H:Hp} {i:Nat} (h:tS E G0 H0 (kM i fs) D Z H):tF E fs Z H fun v H1=>D.nx (Z.set i (some v)) H1:=by
 obtain ⟨G,δ,S,a⟩:=h;refine dY S a fun ds p xs G1 H1 g1 q1 q2 q3 q4 S1 a1=>?_;exact a1 _ _ H1 ((S.grow (g1.share q1 q2 q3)).set_sh ⟨p,xs,rfl,.inl D3,q4.mono (Same.upd q2)⟩)
end
end
end Sm
end
noncomputable section
namespace Sm
open PySem PySem.Spec PyProof.Rows L2
noncomputable section
variable {P:xT} {w:yC} {K:wQ} {mg:Str->Option wM} {base:yW} {X:Cx} {N:List Str} {sc:Scope} {k:Nat} {df:Bool} {E:EK} {pos p px py tp spos:Pos} {tg a b c e elt iter:Expr} {ifs:List Expr} {es:List Expr} {f g el:Dn->Res wK} {src:Dn->Res (List wK)} {tt:Dn->Res Bool} {scope:Scope} {capN:List Str} {cap:List Nat} {st:n0} {sts:List n0} {g1:Dn->Out} {x y:Str} {i:Nat}
theorem cM {x1:Nat} {x2:Str} (C:Cxt P w K mg base X N sc k df) (i:Nat) (hset:okSet N sc df i y=true) (hsw:Ma sc scope y py.line pos.line=true) (cap:List Nat) (capN:List Str) (ho:okComp N sc scope [x,x2] capN cap=true) (hi:DI X E (.Tuple [.Name x px,.Name x2 p] x1 tp) iter src)
   (ht:∀ X',Cxt P w K mg base X' ([x,x2]++capN) (Ie scope sc) k false->DTs X' E0k ifs tt) (he:∀ X',Cxt P w K mg base X' ([x,x2]++capN) (Ie scope sc) k false->DE X' E0k elt el)
   (hs:∀ x,zS iter X.env x=pure x:=by intro _; rfl):DS X E (.Assign [.Name y py] (.ListComp elt [⟨.Tuple [.Name x px,.Name x2 p] x1 tp,iter,ifs,0⟩] scope pos) spos) (kM i (F5 src De cap tt el)):=fun G0 H0=>by
 obtain ⟨h1,h2,h3,h4⟩:=okSet.ok C hset;have o:=okComp.ok ho;have hl:X.env.scope.names.lookup y=some .local:=by
   rw [C.hs]; unfold Ma at hsw; simp only [xX,decide_eq_true_eq] at hsw; exact hsw.1.1.2
 refine PS.imp (Qu (g:=qJ K 2 (Rm (Aw 0) (Rm (Aw 1) qK))) C.calm (Ft C o) hi (fun X' B=>?_) (fun X' B=>ht X' (C.blk B)) (fun X' B=>he X' (C.blk B)) h1 h2 hl (Uo C hsw) hs) fun D Z H h=>Ow (m:=2) rfl o.h10 gok2 (pT h);have C':=C.blk B;have hl:X'.env.scope.names.lookup x=some .local:=by rw [C'.hs]; exact o.h9 x (by simp)
 have hl2:X'.env.scope.names.lookup x2=some .local:=by rw [C'.hs]; exact o.h9 x2 (by simp)
 have nd:X'.N.Nodup:=by rw [C'.hN]; exact o.h8
 have p1:PG X' (.Name x px) (Aw 0):=Dk nd (by rw [C'.hN]; rfl) (.inl hl) (.inr hl);have p2:PG X' (.Name x2 p) (Aw 1):=Dk nd (by rw [C'.hN]; rfl) (.inl hl2) (.inr hl2);have:=lB (n:=2) (k:=x1) (pos:=tp) C'.calm (Kq p1 (Kq p2 eQ));rw [C'.hK] at this;exact this
noncomputable def Gq (i:Nat) (f:Dn->Res wK):Dn->Out:=fun δ=>match δ[i]? with
 | some (.ow (.list ds))=>O7 (f δ) fun d=>if ds.length < sizeLine then .nx (δ.set i (.ow (.list (ds++[d])))) else .no
 | _=>.no
theorem Ur {cpos apos:Pos} (C:Cxt P w K mg base X N sc k df) (i:Nat) (h:okVar N sc i x=true) (ha:DE X E a f)
   (hbase:m4 (.Name x p) "append" X.env (eval (.Name x p) X.env)=eval (.Name x p) X.env:=by rfl)
   (hfew:((zP cpos (wY [a] X.env)).all (fun x => !x.1)&&(CW cpos (AN [] X.env)).all (fun x=>x.1.isSome)
     && decide ([a].length+([]:List y9).length+(if ([]:List y9).isEmpty then 0 else 1) < 30))=true:=by rfl)
   (hline:(apos.endLine==cpos.line)=true:=by rfl) (hs:wY [a] X.env=(false,eval a X.env)::wY [] X.env:=by rfl) (hplain:(zP cpos (wY [] X.env)).any (·.1)=false:=by rfl)
   (hsw:j3 (.Call (.Attribute (.Name x p) "append" apos) [a] [] cpos) none pos.line X.env=pure false:=by rfl) :
   DS X E (.Expr (.Call (.Attribute (.Name x p) "append" apos) [a] [] cpos) pos) (Gq i f):=fun G0 H0=>by
 have hv:PE X (.Name x p) (nZ i):=by
   unfold okVar at h; simp only [xX,BR] at h; obtain ⟨⟨⟨h1,h2⟩,h3⟩,h4⟩:=h; refine cR (by rw [C.hN]; exact j4 h1) ?_ h3 h4;rw [C.hs]; unfold Vis;cases q:sc.names.lookup x with
   | none=>rw [q] at h2; cases h2
   | some z =>
     rw [q] at h2;cases z with
     | «local» => exact .inl rfl
     | cell=>exact .inr (.inl rfl)
     | free=>exact .inr (.inr rfl)
     | _=>cases h2
 refine PS.imp (Oz (Zy z9 FO FN Mf hv (P7 ha Z5 hs) hbase hfew hline hs hplain) hsw) fun D Z H hZ3=>?_;obtain ⟨G,δ,S,aft⟩:=hZ3;unfold Gq at aft;split at aft
 . rename_i ds hi
   obtain ⟨q,hq,hg,xs,hx,rl⟩:=S.sr.sl i _ hi; have hσ:Z[i]? = some (some (.ref q)):=by
     cases z:Z[i]? with
     | none=>rw [z] at hq; cases hq
     | some z'=>rw [z] at hq; cases z' with
       | none=>cases hq
       | some z''=>cases hq; rfl
   refine ⟨.ref q,hσ,.inl ⟨rfl,xs,.inl (.inl hx)⟩,?_⟩; refine Ht S aft fun d v G1 H1 g1 r1 S1 a1=>?_;split at a1
   . rename_i hz
     have hx1:H1 q=some (.lst xs):=g1.h _ _ hx; obtain ⟨q',hq',hg',_⟩:=S1.sr.sl i _ hi; rw [hq] at hq'; cases hq'; refine ⟨q,xs,v,rfl,rfl,hx1,by rw [<- rl.length]; exact hz,?_⟩;exact a1 Z G1 _ (S1.write hi hq hg' ⟨xs++[v],D3,(rl.mono g1.g).append (RepL.cons r1 rfl)⟩)
   . exact a1.elim
 . exact aft.elim
noncomputable def K3 (st:wK->Dn->Option Dn) (body:Dn->Out):List wK->Dn->Out
 | [],δ=>.nx δ
 | d::ds,δ=>match st d δ with
   | some δ1=>match body δ1 with
     | .nx δ'=>K3 st body ds δ'
     | .ct δ'=>K3 st body ds δ'
     | .bk δ'=>.nx δ'
     | o=>o
   | none=>.no
noncomputable def U5 (src:Dn->Res (List wK)) (st:wK->Dn->Option Dn) (body:Dn->Out):Dn->Out:=fun δ=>O7 (src δ) fun ds=>K3 st body ds δ
noncomputable def st1 (i:Nat):wK->Dn->Option Dn:=fun d δ=>some (δ.set i (.sh d))
noncomputable def st2 (i j:Nat):wK->Dn->Option Dn:=fun d δ=>match d with
 | .tuple [a,b]=>some ((δ.set i (.sh a)).set j (.sh b))
 | _=>none
def TgOk (K:wQ) (g:TG) (st:wK->Dn->Option Dn):Prop:=∀ (G0 H0 G H:Hp) (Z:St) (δ δ1:Dn) (d:wK) (x:V) (Q:St->Hp->Prop),SSt G0 H0 G H Z δ->Rep G d x->st d δ=some δ1->(∀ Z',SSt G0 H0 G H Z' δ1->Q Z' H)->g x Z H Q
theorem tg1 (i:Nat):TgOk K (Aw i) (st1 i):=fun G0 H0 G H Z δ δ1 d x Q S r e h=>by cases e; exact h _ (S.set_sh r)
theorem SSt.rebase {G0 H0 G1 H1 G H:Hp} {Z:St} {δ:Dn} (g:Grow G0 H0 G1 H1) (S:SSt G0 H0 G H Z δ) (h:Same G1 G):SSt G1 H0 G H Z δ :=
 ⟨⟨h,S.gr.h,S.gr.gh,fun b o e=>(S.gr.fr b o e).imp (fun z=>g.g _ _ z) id⟩,S.sr,S.fr⟩
theorem Grow.unbase {G0 H0 G1 H1 G H:Hp} (g:Grow G0 H0 G1 H1) (h:Grow G1 H0 G H):Grow G0 H0 G H :=
 ⟨g.g.trans h.g,h.h,h.gh,fun b o e=>(h.fr b o e).elim (fun z=>g.fr b o z) .inr⟩
theorem SSt.unbase {G0 H0 G1 H1 G H:Hp} {Z:St} {δ:Dn} (g:Grow G0 H0 G1 H1) (S:SSt G1 H0 G H Z δ):SSt G0 H0 G H Z δ:=⟨g.unbase S.gr,S.sr,S.fr⟩
theorem tG {gt:TG} {st:wK->Dn->Option Dn} (C:Cxt P w K mg base X N sc k df) (hi:DI X E tg iter src) (hg:PG X tg gt) (ht:TgOk K gt st) (hb:DSs X E sts g1) (hs:∀ x,zS iter X.env x=pure x):DS X E (.For tg iter sts [] pos) (U5 src st g1):=fun G0 H0=>by
 have hb':PSs X sts (fun D Z H=>∃ Gb,tS E Gb H0 g1 D Z H):=fun pins s Z H D I hZ6=>by obtain ⟨Gb,q⟩:=hZ6; exact hb Gb H0 pins s Z H D I q
 refine PS.imp (kY C.own C.calm hi hg hb' hs) fun D Z H hZ3=>?_;obtain ⟨G,δ,S,aft⟩:=hZ3;refine nN S aft fun ds J G1 H1 gr W S1 a1=>?_;have g01:=S1.gr;refine ⟨fun i n Z' H'=>n=ds.length - i/\i<=ds.length/\∃ G' δ',SSt G1 H0 G' H' Z' δ'/\Na E G0 H0 (K3 st g1 (ds.drop i) δ') D,⟨_,rfl,l7 _,G1,δ,S1.rebase g01 (Same.refl _),by rw [BJ]; exact a1⟩,?_⟩;rintro i n Z' H' ⟨rfl,hi,G',δ',S',a'⟩;by_cases hlt:i < ds.length
 . have hd:ds[i]? = some ds[i]:=yJ hlt
   have hdrop:ds.drop i=ds[i]::ds.drop (i+1):=i7 hlt; rw [hdrop] at a'; unfold K3 at a'; refine .inr ⟨W.go i H' hlt (S'.gr.g.trans S'.sr.sub),fun Z2 H2=>∃ G' δ',SSt G1 H0 G' H2 Z2 δ'/\Na E G0 H0 (K3 st g1 (ds.drop (i+1)) δ') D,fun Z2 H2 q=>⟨_,by omega,rfl,hlt,q⟩,fun x H'' hy=>?_⟩;obtain ⟨G3,g3,r3⟩:=W.yld i _ G' H' x H'' hd S'.gr.g S'.sr.sub hy; have S3:=S'.grow g3;cases es:st ds[i] δ' with
   | none=>rw [es] at a'; exact a'.elim
   | some δ1 =>
     rw [es] at a'; refine ht G1 H0 G3 H'' Z' δ' δ1 _ x _ S3 r3 es fun Z2 S4=>⟨G1,G3,δ1,S4,?_⟩;simp only at a';cases eo:g1 δ1 with
     | nx δ2=>rw [eo] at a'; exact fun Z3 G4 H4 S5=>⟨G4,δ2,S5,a'⟩
     | ct δ2=>rw [eo] at a'; exact fun Z3 G4 H4 S5=>⟨G4,δ2,S5,a'⟩
     | bk δ2=>rw [eo] at a'; exact fun Z3 G4 H4 S5=>a' Z3 G4 H4 (S5.unbase g01)
     | rt d=>rw [eo] at a'; exact fun v G4 H4 g r=>a' v G4 H4 (g01.unbase g) r
     | exc c=>rw [eo] at a'; exact fun G4 H4 g=>a' G4 H4 (g01.unbase g)
     | no=>rw [eo] at a'; exact a'
 . refine .inl ⟨W.stop i H' (i8.mp hlt) (S'.gr.g.trans S'.sr.sub),?_⟩
   have:ds.drop i=[]:=AJ (i8.mp hlt); rw [this] at a'; exact a' Z' G' H' (S'.unbase g01)
theorem Z4 (C:Cxt P w K mg base X N sc k df) (i:Nat) (ho:okSet N sc df i x=true) (hi:DI X E (.Name x p) iter src) (hb:DSs X E sts g1) (hs:∀ x,zS iter X.env x=pure x:=by intro _; rfl):DS X E (.For (.Name x p) iter sts [] pos) (U5 src (st1 i) g1):=by
 obtain ⟨h1,h2,h3,h4⟩:=okSet.ok C ho;exact tG C hi (Dk h1 h2 h3 h4) (tg1 i) hb hs
end
end Sm
end
noncomputable section
namespace Sm
open PySem PySem.Spec PyProof.Rows L2
noncomputable section
variable {P:xT} {w:yC} {K:wQ} {mg:Str->Option wM} {base:yW} {X:Cx} {N:List Str} {sc:Scope} {k:Nat} {df:Bool} {E:EK} {p:Pos} {a c e:Expr} {f g:Dn->Res wK} {x:Str} {i:Nat}
theorem okVar.pe (C:Cxt P w K mg base X N sc k df) (h:okVar N sc i x=true):PE X (.Name x p) (nZ i):=by
 unfold okVar at h;simp only [xX,BR] at h;obtain ⟨⟨⟨h1,h2⟩,h3⟩,h4⟩:=h;refine cR (by rw [C.hN]; exact j4 h1) ?_ h3 h4;rw [C.hs];unfold Vis;cases q:sc.names.lookup x with
 | none=>rw [q] at h2; cases h2
 | some z =>
   rw [q] at h2;cases z with
   | «local» => exact .inl rfl
   | cell=>exact .inr (.inl rfl)
   | free=>exact .inr (.inr rfl)
   | _=>cases h2
theorem SR.own {G H:Hp} {Z:St} {δ:Dn} (S:SR G H Z δ) {d:wK} (hi:δ[i]? = some (.ow d)):∃ q,Z[i]? = some (some (.ref q))/\G q=none/\OwnOk G H q d:=by
 obtain ⟨q,hq,hg,ok⟩:=S.sl i _ hi;refine ⟨q,?_,hg,ok⟩;cases z:Z[i]? with
 | none=>rw [z] at hq; cases hq
 | some z'=>rw [z] at hq; cases z' with
   | none=>cases hq
   | some z''=>cases hq; rfl
noncomputable def F2 (N:List Str) (ds:List wK):Dn:=ds.map .sh++xF (N.length - ds.length) .un
noncomputable def fnD (N:List Str) (g:Dn->Out):List wK->Res wK:=fun ds=>match g (F2 N ds) with
 | .rt d=>.ok d
 | .nx _=>.ok .none
 | .exc c=>.exc c
 | _=>.no
theorem Zf {G H:Hp} (hG:Same G H) {ds:List wK} {vs:List V} (r:RepL G ds vs) (N:List Str):SSt G H G H (Dh N vs) (F2 N ds):=by
 have hl:=r.length;have noow:∀ (i:Nat) (d:wK),(F2 N ds)[i]? ≠ some (.ow d):=fun i d e=>by
   unfold F2 at e;by_cases hi:i < ds.length
   . rw [yG (by simpa using hi),xS] at e
     cases q:ds[i]? with
     | none=>rw [q] at e; cases e
     | some z=>rw [q] at e; cases e
   . rw [yL (by simpa using i8.mp hi),j9] at e
     split at e <;> cases e
 refine ⟨Grow.refl hG,⟨hG,by unfold L2.Dh F2; simp [hl],fun i s e=>?_,fun i j a d d' e _ _ _=>absurd e (noow i d)⟩,fun i d a e _=>absurd e (noow i d)⟩;unfold F2 at e;by_cases hi:i < ds.length
 . rw [yG (by simpa using hi),xS] at e
   cases q:ds[i]? with
   | none=>rw [q] at e; cases e
   | some z =>
     rw [q] at e; cases e;obtain ⟨v,e1,rv⟩:=r.get q; unfold L2.Dh; rw [yG (by rw [wT,<- hl]; exact hi),xS,e1];exact ⟨v,rfl,rv⟩
 . rw [yL (by simpa using i8.mp hi),j9] at e
   split at e <;> cases e
   trivial
structure Def (K:wQ) (mg:Str->Option wM) (x:Str) (st:n0) (ps:List Str):Prop where
 ex:∃ f fd,L2.Fun K x x st f fd/\mg x=some (.ref f)/\Binds K fd ps []
theorem mR {x:Str} {st:n0} {ps:List Str} {n:Nat} {go:Dn->Out} {m:List wK->Res wK} {f:wX} {fd:AU} (F:L2.Fun K x x st f fd) (S:FnScope N ps (A7 st)) (hn:ps.length=n)
   (body:∀ X,Cxt P w K mg base X N (A7 st) k true->DSs X E0k (B9 st) go) (hm:m=fnD N go):FnOk P w K mg base CX0 (k+1) f fd ps (spD n m):=by
 subst hm;refine F.ok S (fun vs H Q E h=>?_) (fun cdv A outer s H vs Q E hr h=>?_)
 . obtain ⟨G,ds,d,_,r,hl,_⟩:=h
   rw [<- r.length,hl,hn]
 . obtain ⟨G,ds,d,hG,r,hl,em,q⟩:=h
   refine ⟨_,body _ ⟨rfl,rfl,rfl,rfl,rfl,rfl,rfl,rfl,hr,fun _ _=>rfl,AQ⟩ G H,G,_,Zf hG r N,?_⟩;unfold fnD at em;cases eg:go (F2 N ds) with
   | rt d'=>rw [eg] at em; cases em; exact fun v G' H' g r'=>q v G' H' g r'
   | nx δ=>rw [eg] at em; cases em; exact fun Z G' H' S'=>q _ G' H' S'.gr rfl
   | bk _=>rw [eg] at em; cases em
   | ct _=>rw [eg] at em; cases em
   | exc _=>rw [eg] at em; cases em
   | no=>rw [eg] at em; cases em
theorem Q8 {x:Str} {st:n0} {ps:List Str} {n:Nat} {go:Dn->Out} {m:List wK->Res wK} (F:Def K mg x st ps) (S:FnScope N ps (A7 st)) (hn:ps.length=n)
   (body:∀ X,Cxt P w K mg base X N (A7 st) k true->DSs X E0k (B9 st) go) (hm:m=fnD N go):Fn P w K mg base x (k+1) n m:=by
 obtain ⟨f,fd,F,hmg,hb⟩:=F.ex;exact ⟨f,fd,ps,hn,mR F S hn body hm,hmg,F.kp,hb⟩
end
end Sm
end
noncomputable section
namespace Sm
open PySem PySem.Spec PyProof.Rows L2
end Sm
end
noncomputable section
namespace Sm
open PySem PySem.Spec PyProof.Rows L2
noncomputable section
variable {X:Cx} {E:EK} {pos:Pos} {a e:Expr} {f:Dn->Res wK}
noncomputable def kN (f:Dn->Res wK):Dn->Out:=fun δ=>O7 (f δ) fun _=>.nx δ
theorem kJ (h:DE X E e f) (hs:j3 e none pos.line X.env=pure false:=by rfl):DS X E (.Expr e pos) (kN f):=fun G0 H0=>PS.imp (Oz h hs) fun D Z H ⟨G,δ,S,a⟩ =>
 Ht S a fun d v G1 H1 g1 r1 S1 a1=>a1 Z G1 H1 S1
end
end Sm
end
noncomputable section
namespace Sm
open PySem PySem.Spec PyProof.Rows L2
end Sm
end
noncomputable section
namespace Sm
open PySem PySem.Spec
theorem Xs:EW (.type "list") "keys" = pure none:=by
 rw [AG,m7]; kernel_rfl
theorem Xt:EW (.type "list") "__getattr__" = pure none:=by
 rw [AG,m7]; kernel_rfl
noncomputable section
variable {prog:xT} {w:yC} {A:yZ} {E:wM->wO->Prop} {h:yW} {g:Array GenState} {d:Drawn} {t:Nat} {os:OsState} {a:wX} {vs:Array wM} {n:Nat}
theorem iG {tk:Tok} {Q:Fin->wO->Prop} (hA:A.handled=none) (hx:h.get? a=some { cls:=.type "list",data:=.seq vs n })
   (hq:∀ h' tk' e,Heap.NewAttrErr h h' e (.ref a) "keys" -> E (.ref e) ⟨h',g,d,tk',os⟩) :
   wpAny (xU prog w) A (l0.«object.__getattribute__» ⟨[.ref a,.str "keys" tk],[]⟩) Q E ⟨h,g,d,t,os⟩:=by
 have hT:(⟨h,g,d,t,os⟩:wO).TypeIs (.ref a) "list" := ⟨_,hx,rfl⟩;have f4:=Xs;unfold l0.«object.__getattribute__»
 repeat (any_goals (first | assumption | wp_step))
 exact wpAny_raiseAttrError hA hq (attrMsg_fits (by decide +kernel) (by decide))
theorem iF {Q:Option wM->wO->Prop} (hA:A.handled=none) (hx:h.get? a=some { cls:=.type "list",data:=.seq vs n })
   (hq:∀ h' tk',(∀ b o,h.get? b=some o->h'.get? b=some o)->Q none ⟨h',g,d,tk',os⟩):wpAny (xU prog w) A (getAttr? (.ref a) "keys") Q E ⟨h,g,d,t,os⟩:=by
 have hT:∀ s':wO,s'.heap=h->s'.TypeIs (.ref a) "list" := fun s' e=>⟨_,by rw [e]; exact hx,rfl⟩;have f1:=sub_AttributeError;have f2:=F.slot_list_getattribute.lookup;have f3:=F.slot_list_getattribute.bind (.ref a);have f5:=Xt;unfold getAttr? getAttrBy? getAttrBy;refine wL (wpAny_mkText (wL (BF ?_)));have hT1:=hT ⟨h,g,d,t+1,os⟩ rfl
 repeat (any_goals (first | assumption | wp_step))
 refine codeAny_call_builtin F.slot_list_getattribute.plain F.entry_list_ga
   (F.slot_list_getattribute.check _ _ _ _ _ _ _ _ hT1 (F.args_list_getattribute_2 _ _)
     (iG hA hx fun h' tk' e hx'=>?_))
 obtain ⟨t',u',he⟩:=hx'.there;have kp:=hx'.keeps;show wpAny _ _ (getattributeRaised _ _ _ _ _ _ _) _ _ _;unfold getattributeRaised
 repeat (any_goals (first | assumption | wp_step))
 exact hq _ _ kp
end
end Sm
end
noncomputable section
namespace Sm
open PySem PySem.Spec PyProof.Rows L2
theorem Gk:entryFor table "dict.update.loop" = some l0.«dict.update.loop» := entryFor_of_tree ⋯
theorem Gi:plainId "dict.update.loop" = true:=by decide +kernel
end Sm
end
noncomputable section
namespace Sm
open PySem PySem.Spec PySem.Calls PyProof.Rows PySem.W Builtin Builtin.ObjectAttr Builtin.Getset_descriptor
end Sm
end
noncomputable section
namespace Sm
open PySem PySem.Spec PyProof.Rows L2
end Sm
end
noncomputable section
namespace Sm
open PySem PySem.SetTable
theorem few:∀ (n:Nat) (L:List Nat),(∀ e,e < n->e∈L)->n<=L.length:=by
 intro iN; induction iN with
 | zero=>intro _ _; exact l7 _
 | succ n ih =>
   intro L h; have a:=h n (by lia);have b:=ih (L.erase n) (fun e he=>(List.mem_erase_of_ne (by lia)).mpr (h e (by lia)));have c:=List.length_erase_of_mem a; have d:=List.length_pos_of_mem a;lia
theorem room {L:List Nat} {mask:Nat} (h:L.length<=mask):∃ e,e<=mask/\e∉L:=by
 by_cases c:∃ e,e<=mask/\e∉L
 . exact c
 . have:=few (mask+1) L (fun e he=>u8 fun hn=>c ⟨e,by lia,hn⟩)
   lia
end Sm
end
noncomputable section
namespace Sm
open PySem PySem.SetTable
end Sm
end
noncomputable section
namespace Sm
open PySem PySem.SetTable
end Sm
end
noncomputable section
namespace Sm
open PySem PySem.SetTable
end Sm
end
noncomputable section
namespace Sm
open PySem PySem.SetTable
structure Elems (prog:xT) (w:yC) (A:yZ) (E:wM->wO->Prop) (a:wX) where
 D:Type
 dec:DecidableEq D
 I:wO->Prop
 R:wM->D->Prop
 hash:D->Int
 heap:∀ {s:wO} {h':yW},I s->CG a s.heap h'->I { s with heap:=h' }
 toks:∀ {s:wO} (tk:Nat),I s->I { s with toks:=tk }
 ref:∀ {v:wM} {d:D},R v d->∃ b,v=.ref b
 eqB:∀ {s:wO} {y x:wM} {d d':D} {Q:Bool->wO->Prop},I s->R y d->R x d'->Q (@decide (d=d') (dec d d')) s->wpAny (xU prog w) A (eqBool y x) Q E s
 byV:∀ {s:wO} {x:wM} {d:D} {Q:Bool->wO->Prop},I s->R x d->(∀ b,Q b s)->wpAny (xU prog w) A (hashByValue 8 x) Q E s
 seen:∀ {s:wO} {x:wM} {d:D} {ys:List wM} {Q:Bool->wO->Prop},I s->R x d->(∀ y,y∈ys->∃ d',R y d')->Q false s->wpAny (xU prog w) A (searchCouldBeSeen x ys) Q E s
end Sm
end
noncomputable section
namespace Sm
open PySem PySem.SetTable
end Sm
end
noncomputable section
namespace Sm
open PySem PySem.SetTable
open L2 (isK Ig aR Hy)
mutual
theorem eqvK:∀ (a b:wK),isK a=true->isK b=true->(xA a b=true↔a=b)
 | .int i,.int j,_,_=>by simp [xA]
 | .str x,.str y,_,_=>by simp [xA]
 | .tuple xs,.tuple ys,ha,hb=>by
   simp only [xA,zY]; exact sG xs ys (by simpa [isK] using ha) (by simpa [isK] using hb)
 | .int _,.str _,_,_ | .int _,.tuple _,_,_ | .str _,.int _,_,_ | .str _,.tuple _,_,_ | .tuple _,.int _,_,_ | .tuple _,.str _,_,_=>by simp [xA]
 | .none,_,h,_ | .bool _,_,h,_ | .list _,_,h,_ | .dict _,_,h,_=>by simp [isK] at h
 | .int _,.none,_,h | .int _,.bool _,_,h | .int _,.list _,_,h | .int _,.dict _,_,h=>by simp [isK] at h
 | .str _,.none,_,h | .str _,.bool _,_,h | .str _,.list _,_,h | .str _,.dict _,_,h=>by simp [isK] at h
 | .tuple _,.none,_,h | .tuple _,.bool _,_,h | .tuple _,.list _,_,h | .tuple _,.dict _,_,h=>by simp [isK] at h
theorem sG:∀ (a b:List wK),Ig a=true->Ig b=true->(z4 a b=true↔a=b)
 | [],[],_,_=>by simp [z4]
 | [],_::_,_,_=>by simp [z4]
 | _::_,[],_,_=>by simp [z4]
 | x::xs,y::ys,ha,hb=>by
   simp only [Ig,xX] at ha hb; simp only [z4,xX,yP]; rw [eqvK x y ha.1 hb.1,sG xs ys ha.2 hb.2]
end
noncomputable section
variable {prog:xT} {w:yC} {E:wM->wO->Prop}
mutual
theorem Rk:∀ (k:wK) (v:wM) (as:List wX) (A:yZ) (s:wO) (Q:Int->wO->Prop),isK k=true->Reads s.heap v k as->A.units+k.depth < i4 ->
   (∀ tk,s.toks<=tk->Q (aR w k) { s with toks:=tk })->wpAny (xU prog w) A (pyHash v) Q E s
 | .int i,_,_,A,s,Q,_,x,_,h=>by cases x; exact wpAny_pyHash_int (h _ (BA _))
 | .str y,_,_,A,s,Q,_,x,_,h=>by cases x; exact wpAny_pyHash_str (h _ (BA _))
 | .tuple xs,_,_,A,s,Q,hk,x,hu,h=>by
   cases x with
   | tuple hg hc hd hr =>
     rename_i _ a o vs n;refine PySem.W.pyHash_slot (T := "tuple") ⟨_,hg,hc⟩ F.slot_tuple_hash F.entry_tuple_hash (F.args_tuple_hash_1 _) (FU _) (.inr (by lia)) ?_;show wpAny _ _ (AS (.ref a)>>=_) _ _ s;refine wL (wpAny_tupleItemsOf hg hd ?_); refine wL ?_; rw [<- Array.forIn_toList]; refine Vl xs _ _ A.in1 s #[] _ (by simpa [isK] using hk) hr (by simp only [yS,Around.in1_units] at hu ⊢; lia) fun tk b ht hb=>?_;show wpAny _ _ (retInt (EE b.toList)) _ _ _;rw [hb]; exact wL (wpAny_mkInt (wN ⟨_,_,rfl,h _ (AL ht)⟩))
 | .none,_,_,_,_,_,hk,_,_,_ | .bool _,_,_,_,_,_,hk,_,_,_ | .list _,_,_,_,_,_,hk,_,_,_ | .dict _,_,_,_,_,_,hk,_,_,_=>by simp [isK] at hk
theorem Vl:∀ (xs:List wK) (vs:List wM) (as:List wX) (A:yZ) (s:wO) (b:Array Int) (Q:Array Int->wO->Prop),Ig xs=true->GO s.heap vs xs as ->
   A.units+yV xs < i4->(∀ tk b',s.toks<=tk->b'.toList=b.toList++Hy w xs->Q b' { s with toks:=tk }) ->
   wpAny (xU prog w) A (forIn vs b fun x r=>do let h <- pyHash x; pure PUnit.unit; pure (l8 (r.push h))) Q E s
 | [],_,_,A,s,b,Q,_,x,_,h=>by cases x; exact wN (h s.toks b (xH _) (by simp [Hy]))
 | k::xs,_,_,A,s,b,Q,hk,x,hu,h=>by
   cases x with
   | cons x1 x2 =>
     simp only [Ig,xX,yV] at hk hu; rw [CJ]; refine wL (wL (Rk k _ _ A s _ hk.1 x1 (by lia) fun tk ht=>?_));refine wL (wN (wN ?_)); exact Vl xs _ _ A _ _ Q hk.2 x2 (by lia) fun tk' b' ht' hb=>h tk' b' (xD ht ht') (by simp [hb,Hy])
end
end
noncomputable section
variable {prog:xT} {w:yC} {A:yZ} {E:wM->wO->Prop}
mutual
theorem Ni:∀ (fuel:Nat) (k:wK) (v:wM) (as:List wX) (s:wO) (Q:Bool->wO->Prop),isK k=true->k.depth<=fuel->Reads s.heap v k as->Q true s ->
   wpAny (xU prog w) A (eqIsQuiet fuel v) Q E s
 | fuel,.int _,_,_,s,Q,_,_,x,h=>by cases x; rw [eqIsQuiet_byValue _ rfl]; exact wN h
 | fuel,.str _,_,_,s,Q,_,_,x,h=>by cases x; rw [eqIsQuiet_byValue _ rfl]; exact wN h
 | 0,.tuple _,_,_,s,Q,_,hd,x,h=>by simp [yS] at hd
 | fuel+1,.tuple xs,_,_,s,Q,hk,hdp,x,h=>by
   cases x with
   | tuple hg hc hd hr =>
     rename_i _ a o vs n;have hT:s.TypeIs (.ref a) "tuple" := ⟨_,hg,hc⟩; unfold eqIsQuiet; refine wL (n5 hT F.slot_tuple_eq.lookup ?_); show wpAny _ _ (isInstance (.ref a) (.type "tuple")>>=_) _ _ s;refine wL (CS hT isSubtype_tuple_tuple ?_); simp only [BS,l9,if_false]; refine wL (wpAny_seqItems hg hd ?_); refine wL ?_; show wpAny _ _ (forIn vs _ _) _ _ s;rw [<- Array.forIn_toList]; refine Qs fuel xs _ _ s _ (by simpa [isK] using hk) (by simp only [yS] at hdp; lia) hr ?_;exact wN h
 | _,.none,_,_,_,_,hk,_,_,_ | _,.bool _,_,_,_,_,hk,_,_,_ | _,.list _,_,_,_,_,hk,_,_,_ | _,.dict _,_,_,_,_,hk,_,_,_=>by simp [isK] at hk
theorem Qs:∀ (fuel:Nat) (xs:List wK) (vs:List wM) (as:List wX) (s:wO) (Q:Option Bool×Unit->wO->Prop),Ig xs=true->yV xs<=fuel->GO s.heap vs xs as ->
   Q (none,()) s ->
   wpAny (xU prog w) A (forIn vs ((none,()):Option Bool×Unit) fun x r=>do
     let b <- eqIsQuiet fuel x
     if (!b)=true then pure (ForInStep.done (some false,())) else do
       pure PUnit.unit
       pure (l8 (none,()))) Q E s
 | _,[],_,_,s,Q,_,_,x,h1=>by cases x; exact wN h1
 | fuel,k::xs,_,_,s,Q,hk,hdp,x,h1=>by
   cases x with
   | cons x1 x2 =>
     simp only [Ig,xX,yV] at hk hdp; rw [CJ]; refine wL (wL (Ni fuel k _ _ s _ hk.1 (by lia) x1 ?_));simp only [BS,l9,if_false]; exact wN (Qs fuel xs _ _ s Q hk.2 (by lia) x2 h1)
end
end
end Sm
end
noncomputable section
namespace Sm
open PySem PySem.Spec PyProof.Rows L2
end Sm
end
noncomputable section
namespace Sm
open PySem PySem.Spec PyProof.Rows L2 PySem.Builtin.Str
noncomputable section
variable {X:Cx} {e:Expr} {x:Str} {i:Nat}
noncomputable def Hq (z:Str):wK->Option wK
 | .str y=>match occurrences z y 0 z.length 1 with
   | i::_=>some (.int i)
   | []=>none
 | _=>none
theorem mC:MtR X "str.index" (fun x vs H Q=>∃ z y i L8,x=.str z/\vs=[.str y]/\occurrences z y 0 z.length 1=i::L8/\Q (.int (i:Nat)) H):=by
 rintro pins s Z H x vs v us Q I rx rv ⟨z,y,i,L8,e1,e2,e,q⟩;subst e1 e2;obtain ⟨t,rfl⟩:=rx;obtain ⟨u,rfl,ru⟩:=rv.one;obtain ⟨t2,rfl⟩:=ru;exact PySem.SC.index e ⟨.int i,H,I.tok _,⟨_,rfl⟩,q⟩
end
end Sm
end
noncomputable section
namespace Sm
open PySem PySem.Spec PyProof.Rows L2
noncomputable section
variable {X:Cx} {E:EK} {a b:Expr} {f g:Dn->Res wK} {x:Str} {i:Nat}
noncomputable def Ou (g f:Dn->Res wK):Dn->Res wK:=fun δ=>(g δ).bind fun z=>match z with
 | .str z=>(f δ).bind fun d=>ofO (Hq z d)
 | _=>.no
theorem mZ {apos cpos:Pos} (hb:DE X E b g) (ha:DE X E a f) (hbase:m4 b "index" X.env (eval b X.env)=eval b X.env:=by rfl)
   (hfew:((zP cpos (wY [a] X.env)).all (fun x => !x.1)&&(CW cpos (AN [] X.env)).all (fun x=>x.1.isSome)
     && decide ([a].length+([]:List y9).length+(if ([]:List y9).isEmpty then 0 else 1) < 30))=true:=by rfl)
   (hline:(apos.endLine==cpos.line)=true:=by rfl) (hs:wY [a] X.env=(false,eval a X.env)::wY [] X.env:=by rfl) (hplain:(zP cpos (wY [] X.env)).any (·.1)=false:=by rfl) :
   DE X E (.Call (.Attribute b "index" apos) [a] [] cpos) (Ou g f):=by
 refine PE.imp (Zy FW PySem.F.slot_str_index PySem.F.type_str_index mC hb (P7 ha Z5 hs) hbase hfew hline hs hplain) fun Z H Q hZ3=>?_;obtain ⟨G,δ,S,aft⟩:=hZ3;refine K2 S aft fun d0 v0 G0 H0 g0 r0 S0 a0=>?_;cases d0 with
 | str z =>
   cases r0.1;refine ⟨rfl,?_⟩; refine K2 S0 a0 fun d v G1 H1 g1 r1 S1 a1=>?_;cases d with
   | str y =>
     cases r1.1;cases eo:z8 z y 0 z.length 1 with
     | nil=>simp only [Hq,eo] at a1; exact (show False from a1).elim
     | cons i L8 =>
       simp only [Hq,eo] at a1; exact ⟨z,y,i,L8,rfl,rfl,eo,a1 _ G1 H1 (Grow.refl S1.sub) rfl⟩
   | _=>exact (show False from a1).elim
 | _=>exact (show False from a0).elim
end
end Sm
end
noncomputable section
namespace Sm
open PySem PySem.Spec PyProof.Rows L2
end Sm
end
noncomputable section
namespace Sm
open PySem PySem.Spec PyProof.Rows L2
end Sm
end
noncomputable section
namespace Sm
open PySem PySem.Spec PyProof.Rows L2
open AutoSeq1 (wpAny_loadPart')
end Sm
end
noncomputable section
namespace Sm
open PySem PySem.Spec PyProof.Rows L2
end Sm
end
noncomputable section
namespace Sm
open PySem PySem.W PyProof.Rows
noncomputable section
variable {prog:xT} {w:yC} {A:yZ} {E:wM->wO->Prop} {s:wO}
theorem Yf {T:String} {r d:wX} {n:Nat} {P:Nat->wM->Prop} {OK:yW->Prop} {Q:List wM->wO->Prop} (K:KdlSrc prog w T r d n P OK) (hh:A.handled=none) (hok:OK s.heap) (hn:n<=sizeLine)
   (hQ:∀ (h':yW) tk acc,(∀ b o,s.heap.get? b=some o->h'.get? b=some o)->ItemsOf P acc n->Q acc.toList { s with heap:=h',toks:=tk }):wpAny (xU prog w) A (collect (.ref r)) Q E s:=by
 have hlt:=K.there _ hok;have hS:(s.heap.push { cls:=.type "list",data:=.seq ([]:List wM).toArray }).get? s.heap.objs.size=some { cls:=.type "list",data:=.seq #[] 0 }:=xN _ rfl;unfold collect;refine wL (wpAny_runValue (BK F.entry_proto_collect ?_));rw [v9 F.plain_proto_collect _];refine wL (zL (wN ⟨plainId_quiet F.plain_list_iadd _,BK F.entry_list_iadd ?_⟩));rw [v9 F.plain_list_iadd _];refine zU (kdl_extend (A:=A) (s:={ s with heap:=s.heap.push { cls:=.type "list",data:=.seq ([]:List wM).toArray } })
   (R:=fun res s'=>∃ h' tk acc c,res=.ok (.ret (.ref s.heap.objs.size))/\s'={ s with heap:=h',toks:=tk }/\(∀ b o,s.heap.get? b=some o->h'.get? b=some o) /\
     h'.get? s.heap.objs.size=some { cls:=.type "list",dict:=none,data:=.seq acc c,slots := #[] }/\ItemsOf P acc n)
   K hh (K.keep _ _ hok fun b _ o e=>xG _ e) s.heap.objs.size (BH hlt.1) (BH hlt.2) (.ref s.heap.objs.size) 0 hS
   (fun h' tk acc c hk hS' hacc=>⟨h',tk,acc,c,rfl,rfl,fun b o e=>hk b o (yE (xL e)) (xG _ e),hS',hacc⟩) hn) (fun fin s' h=>?_) (fun e s' h=>?_)
 . cases fin with
   | done f =>
     obtain ⟨h',tk,acc,c,e,rfl,hk,hS',hacc⟩:=h; cases e; exact wL (wpAny_load hS' (wN (hQ h' tk acc hk hacc)))
   | again c' =>
     refine ⟨h.1,FI h.2 fun r s'' hr=>?_⟩;obtain ⟨h',tk,acc,c,rfl,rfl,hk,hS',hacc⟩:=hr; exact wL (wpAny_load hS' (wN (hQ h' tk acc hk hacc)))
 . obtain ⟨_,_,_,_,e,_⟩:=h
   cases e
end
end Sm
end
noncomputable section
namespace Sm
open PySem PySem.Spec PyProof.Rows L2
end Sm
end
noncomputable section
namespace Sm
open PySem PySem.Spec PyProof.Rows L2
end Sm
end
noncomputable section
namespace Sm
open PySem PySem.Spec PyProof.Rows L2
abbrev Kvs:=List (wK×wK)
noncomputable def Gn (g1:Dn->Out) (g2:Dn->Res Kvs):Dn->Res Kvs:=fun δ=>match g1 δ with
 | .nx δ'=>g2 δ'
 | .exc c=>.exc c
 | _=>.no
noncomputable def fnW (N:List Str) (g:Dn->Res Kvs):List wK->Res Kvs:=fun ds=>g (F2 N ds)
noncomputable def Ch (fs:Dn->Res (List wK)) (m:List wK->Res Kvs):Dn->Res Kvs:=fun δ=>(fs δ).bind m
noncomputable section
variable {X:Cx} {E:EK} {a:Expr} {st:n0}
noncomputable def sNo:Dn->Out:=fun _=>.no
theorem s_no:DS X E st sNo:=fun G0 H0 pins s Z H D I hZ8=>by obtain ⟨G,δ,S,a⟩:=hZ8; exact a.elim
end
end Sm
end
noncomputable section
namespace Sm
open PySem PySem.Spec PyProof.Rows L2
theorem Xe:Slot "reversed" "__init__" "object.__init__" :=
 .of (owner := "object") (n := "__init__") (by rw [AG,m7]; kernel_rfl) (by decide +kernel) (by decide +kernel) (by decide +kernel) (by first | exact .inl (by decide +kernel) | exact .inr (by decide +kernel)) (by rw [EF]; kernel_rfl)
theorem Lv:TypeCalled "reversed" "reversed.__new__" "object.__init__" :=
 ⟨by decide +kernel,by decide +kernel,⟨_,_,F.mro_reversed⟩,F.made_reversed,by decide +kernel,F.sub_reversed_self,Xe⟩
theorem Y4:Slot "reversed" "__next__" "reversed.__next__" :=
 .of (owner := "reversed") (n := "__next__") (by rw [AG,m7]; kernel_rfl) (by decide +kernel) (by decide +kernel) (by decide +kernel) (by first | exact .inl (by decide +kernel) | exact .inr (by decide +kernel)) (by rw [EF]; kernel_rfl)
theorem Kk:Slot "reversed" "__iter__" "reversed.__iter__" :=
 .of (owner := "reversed") (n := "__iter__") (by rw [AG,m7]; kernel_rfl) (by decide +kernel) (by decide +kernel) (by decide +kernel) (by first | exact .inl (by decide +kernel) | exact .inr (by decide +kernel)) (by rw [EF]; kernel_rfl)
theorem Iu:entryFor table "reversed.__next__" = some l0.«reversed.__next__» := entryFor_of_tree ⋯
theorem Tw:entryFor table "reversed.__iter__" = some l0.«dict_keyiterator.__iter__» := by
 exact entryFor_alias (id' := "dict_keyiterator.__iter__") ⋯ (by decide +kernel) (by decide +kernel) ⋯
theorem Kl (a:wM):argsOk "reversed.__next__" ⟨[a],[]⟩:=by unfold argsOk; kernel_rfl
theorem Xf (a:wM):argsOk "reversed.__iter__" ⟨[a],[]⟩:=by unfold argsOk; kernel_rfl
theorem oM:EW (.type "tuple") "__reversed__" = pure none:=by rw [AG,m7]; kernel_rfl
theorem oP:isSubtype (.type "tuple") (.type "dict")=pure false:=by rw [EF]; kernel_rfl
def IsRvT (h:yW) (a l:wX) (i:Int):Prop:=∃ o,h.get? a=some o/\o.cls=.type "reversed" /\ o.data=.fields #[.ref l,t9 i]
noncomputable section
variable {prog:xT} {w:yC} {A:yZ} {E:wM->wO->Prop} {s:wO}
theorem IsRvT.typeIs {a l:wX} {i:Int} (x:IsRvT s.heap a l i):s.TypeIs (.ref a) "reversed" := let ⟨o,ho,hc,_⟩:=x; ⟨o,ho,hc⟩
theorem oQ {l:wX} {items:Array wM} {Q₁:wM->wO->Prop} (hl:DU s.heap l items) (hz:items.size<=sizeLine)
   (h:∀ tk,Q₁ (.ref s.heap.objs.size) { s with heap:=s.heap.push { cls:=.type "reversed",data:=.fields #[.ref l,t9 ((items.size:Int) - 1)] },toks:=tk }) :
   DH (xU prog w) A (.call (.builtin "reversed.__new__") ⟨[.type "reversed",.ref l],[]⟩) (wants Q₁ E) s:=by
 refine codeAny_of_tree (wL (p9 (F.newCall_reversed_1 _) (wN ⟨plainId_quiet F.plain_reversed_new _,BK F.entry_reversed_new ?_⟩)));rw [v9 F.plain_reversed_new _];unfold l0.«reversed.__new__»;refine wL (p9 (newClass_reversed _) (wL (p9 (a:=()) (by first | rfl | kernel_rfl) (wL (p9 (a:=()) (by first | rfl | kernel_rfl) ?_)))));refine wL (n5 hl.typeIs oM ?_);try dsimp only
 refine wL (wL (CS hl.typeIs oP ?_));simp only [l9,if_false];refine wL (n5 hl.typeIs EX.lookup ?_);dsimp only;rw [if_pos (by decide +kernel)];refine wN ?_;simp only [BS,l9,if_false];have hn:=Hi;refine wL (len_tuple hl (by lia) (wL (p9 (a:=some (items.size:Int)) rfl ?_)));refine wL ?_;show wpAny _ _ (newObj (FM "reversed") (.fields #[.ref l,t9 ((items.size:Int) - 1)])) _ _ _;exact zL (wN (h _))
theorem oR {l:wX} {items:Array wM} {Q:wM->wO->Prop} (hl:DU s.heap l items) (hz:items.size<=sizeLine)
   (h:∀ tk,Q (.ref s.heap.objs.size) { s with heap:=s.heap.push { cls:=.type "reversed",data:=.fields #[.ref l,t9 ((items.size:Int) - 1)] },toks:=tk }):wpAny (xU prog w) A (call (.type "reversed") [.ref l]) Q E s:=by
 refine callType_codes (Q₁:=fun obj t=>t.TypeIs obj "reversed" /\ Q obj t) Lv (F.typeCall_reversed_1 _) F.entry_object_init (oQ hl hz fun tk=>⟨⟨_,xN _ rfl,rfl⟩,h tk⟩) fun obj t ht=>?_;exact ⟨ht.1,F.args_object_init_2 obj _,object_init_meets Lv.init.lookup Lv.made (by decide) prog w A.in1 _ t ⟨ht.1,rfl,ht.2⟩⟩
theorem oO {it l:wX} {i:Nat} {items:Array wM} {x:wM} {Q:Option wM->wO->Prop} (hit:IsRvT s.heap it l (i:Int)) (hl:DU s.heap l items) (hz:items.size<=sizeLine) (hx:items[i]? = some x)
   (hQ:∀ h' tk,IsRvT h' it l ((i:Int) - 1)->CG it s.heap h'->Q (some x) { s with heap:=h',toks:=tk }):wpAny (xU prog w) A (BV (.ref it)) Q E s:=by
 obtain ⟨o,ho,hc,hd⟩:=id hit;have hi:i < items.size:=by
   rcases Nat.lt_or_ge i items.size with h | h
   . exact h
   . simp [h] at hx
 have hn:=Hi;unfold BV;refine wL (BF ?_);refine zT (name:=p4 "__next__") hit.typeIs Y4 ?_;refine zZ Y4 hit.typeIs Iu ?_ (Kl _);unfold l0.«reversed.__next__»;refine wL (p9 (a:=(zA it,[])) rfl ?_);try dsimp only
 refine wL (AM ho hd (x:=.ref l) rfl (wL (AM ho hd (x:=t9 (i:Int)) rfl ?_)));show wpAny _ _ (if (i:Int) < 0 then _ else _) _ _ s;rw [if_neg (by lia)];refine wL (n5 hl.typeIs EX.lookup ?_);rw [if_neg (by simp)];refine wL (wpAny_mkInt (wL (BF ?_)));refine getItem_tuple (s:={ s with toks:=s.toks+1 }) (j:=i) hl (by lia) (by lia) ?_ hx ?_
 . unfold seqIndex?
   first | (simp; lia) | (rw [if_neg (by lia),if_pos (by lia)]; simp) | (split <;> simp_all <;> lia)
 . try dsimp only
   refine wL (AM (s:={ s with toks:=s.toks+1 }) ho hd (x:=t9 (i:Int)) rfl ?_); show wpAny _ _ (GK (.ref it) 1 (t9 ((i:Int) - 1))>>=_) _ _ _;refine wL (BU (s:={ s with toks:=s.toks+1 }) ho hd (by simp) ?_);refine wN ⟨x,rfl,wN (hQ _ _ ?_ (m6 ..))⟩; exact ⟨_,m3 _ ho (DB (p5 hd _)),(Obj.cls_mapFields ..).trans hc,by rw [p5 hd]; simp⟩
theorem tK {it l:wX} {j:Int} {Q:Option wM->wO->Prop} (hj:j < 0) (hh:A.handled=none) (hit:IsRvT s.heap it l j)
   (hQ:∀ h',Heap.ExtBut it s.heap h'->Q none { s with heap:=h' }):wpAny (xU prog w) A (BV (.ref it)) Q E s:=by
 obtain ⟨o,ho,hc,hd⟩:=id hit;unfold BV;refine wL (BF ?_);refine zT (name:=p4 "__next__") hit.typeIs Y4 ?_;refine zZ Y4 hit.typeIs Iu ?_ (Kl _);unfold l0.«reversed.__next__»;refine wL (p9 (a:=(zA it,[])) rfl ?_);try dsimp only
 refine wL (AM ho hd (x:=.ref l) rfl (wL (AM ho hd (x:=t9 j) rfl ?_)));show wpAny _ _ (if j < 0 then _ else _) _ _ s;rw [if_pos hj];refine wL (i0 ?_);have ho1:=m3 (GC (·.setIfInBounds 1 (t9 (-1)))) ho (DB (p5 hd _));have hd1:=p5 hd (fun a=>a.setIfInBounds 1 (t9 (-1)));refine wL ?_;show wpAny _ _ (GK (.ref it) 1 (t9 (-1))>>=fun _=>GK (.ref it) 0 .none) _ _ _;refine wL (BU ho hd (by simp) (BU ho1 hd1 (by simp) (wL ?_)))
 show wpAny _ _ (newExc (.type "StopIteration") []>>=_) _ _ _;refine wL ?_;simp only [newExc,newTuple];refine wL (zL ?_ (by size_fits));refine wL (m:=EG _ _) (p9 (a:=j8) (by first | rfl | (simp only [EG]; rfl)) (zL ?_ (by size_fits)));simp only [raiseNew];refine wL (wpAny_handled ?_);rw [show A.in1.handled=none from hh];refine wL (wN (wpAny_throw (wL ?_)));refine CS (T := "StopIteration") (b:=true) ⟨_,xN _ rfl,rfl⟩ isSubtype_stop ?_;refine wN (hQ _ (GE (GE ?_ _) _))
 intro b ob hb eb;exact ((m6 ..).extBut b ob hb ((m6 ..).extBut b ob hb eb))
theorem eH {it l:wX} {i:Int} {Q:wM->wO->Prop} (hit:IsRvT s.heap it l i) (h:Q (.ref it) s):wpAny (xU prog w) A (pyIter (.ref it)) Q E s:=by
 refine wpAny_pyIter_slot hit.typeIs Kk (zZ Kk hit.typeIs Tw ?_ (Xf _));show wpAny _ _ (ret (.ref it)) _ _ s;exact wN ⟨_,rfl, "reversed",_,hit.typeIs,Y4.lookup,h⟩
end
def ItV (K:wQ) (a:wX) (n:Nat):It :=
 ⟨fun i H=>i < n/\∃ xs x,SqT K H a xs/\xs.length=n/\xs[n - 1 - i]? = some x,fun i H x H'=>H'=H/\∀ xs,SqT K H a xs->xs[n - 1 - i]? = some x,fun i H=>n<=i⟩
theorem jL {P:xT} {w:yC} {K:wQ} {tg:Expr} (a it:wX) (n:Nat):Turn P w K tg (ItV K a n) [it] it (fun i h=>IsRvT h it a ((n:Int) - 1 - i)) where
 mem:=by simp
 obj:=fun i h st b hb=>by
   have e:b=it:=by simpa using hb
   subst e; obtain ⟨o,e,c,d⟩:=st; exact ⟨o,e,fun v z=>by rw [d] at z; cases z⟩
 keep:=fun i h h' st k=>by
   obtain ⟨o,e,r⟩:=st; exact ⟨o,k it (by simp) o e,r⟩
 item:=by
   intro X hP hw hK hc i pins s Z H E I hf st hg; subst hP hw hK; obtain ⟨hi,xs,x,hq,hn,hx⟩:=hg; obtain ⟨its,rv,p,hz⟩:=I.tuple hq; obtain ⟨u,hu,ru⟩:=rv.get hx; have hl:=rv.length; obtain ⟨f0,f1,f2,f3,f4,f5⟩:=hf it (by simp);have e1:(n:Int) - 1 - (i:Int)=((n - 1 - i:Nat):Int):=by lia
   rw [e1] at st; refine oO st (show DU s.heap a its.toArray from p) (by simp only [xE]; lia) (x:=u) (by simpa using hu) fun h' tk st' sb=>?_;have I1:Inv X pins Z H { s with heap:=h',toks:=tk }:=I.turned (t':=tk) (fun b o hb e=>(sb.2 b hb).trans e) f0 f1 f3 f4 f5;obtain ⟨o,e,c,d⟩:=id st'; refine ⟨u,rfl,Vm (s:={ s with heap:=h',toks:=tk }) e c d (by decide) ⟨x,H,I1,ru,⟨rfl,fun ys hy=>by rw [I.tuple_inj hy hq]; exact hx⟩,?_,fun b hb=>(hf b hb).1⟩⟩;have e2:((n - 1 - i:Nat):Int) - 1=(n:Int) - 1 - ((i+1:Nat):Int):=by lia
   rw [e2] at st'; exact st'
 done:=by
   intro X hP hw hK hc i pins s Z H E I hf st hg; subst hP hw hK; have hi:n<=i:=hg; obtain ⟨f0,f1,f2,f3,f4,f5⟩:=hf it (by simp);exact tK (by lia) (I.ok.hd hc) st fun h' eb=>⟨rfl,I.turned (t':=s.toks) (fun b o hb e=>eb b o hb e) f0 f1 f3 f4 f5⟩
 self:=fun _ _ _ _ _ st h=>eH st h
theorem jI {K:wQ} {G:Hp} {a:wX} {xs:List V} {ds:List wK} (h:G a=some (.tup xs)) (l:RepL G ds xs):Walk (ItV K a xs.length) G ds.reverse where
 go:=fun i H hi hG=>by
   have hi':i < xs.length:=by rw [<- l.length]; simpa using hi
   exact ⟨hi',xs,xs[xs.length - 1 - i],.inl (.inl (hG _ _ h)),rfl,by simp⟩
 yld:=fun i d G2 H x H' e h1 h2 hy=>by
   obtain ⟨rfl,hy⟩:=hy; have hlen:=l.length; have hi:i < ds.length:=by
     rcases Nat.lt_or_ge i ds.length with z | z
     . exact z
     . rw [s0 (by simpa using z)] at e; cases e
   rw [List.getElem?_reverse hi] at e; obtain ⟨y,e1,r⟩:=l.get e; have:=hy xs (.inl (.inl (h2 _ _ (h1 _ _ h)))); rw [hlen] at e1; rw [e1] at this; cases this; exact ⟨G2,Grow.refl h2,r.mono h1⟩
 stop:=fun i H hi hG=>by
   show xs.length<=i;rw [<- l.length]; simpa using hi
noncomputable def Zr:wK->Res (List wK)
 | .tuple ds=>.ok ds.reverse
 | _=>.no
noncomputable section
variable {P:xT} {w:yC} {K:wQ} {mg:Str->Option wM} {base:yW} {X:Cx} {N:List Str} {sc:Scope} {k:Nat} {df:Bool} {E:EK} {pos p:Pos} {tg a:Expr} {f:Dn->Res wK}
theorem i_rev (C:Cxt P w K mg base X N sc k df) (h:okGl sc "reversed" = true) (hm:mg "reversed" = none) (ha:DE X E a f) (he:wY [a] X.env=(false,eval a X.env)::wY [] X.env:=by rfl) (hpl:(zP pos (wY [] X.env)).any (·.1)=false:=by rfl) :
   DI X E tg (.Call (.Name "reversed" p) [a] [] pos) (fun δ=>(f δ).bind Zr):=by
 rintro pins s Z H R I ⟨G,δ,S,aft⟩;obtain ⟨h1,h2,h3⟩:=okGl.gl C h;have hh:=Pi (R:=fun v H1=>∃ v0 G1 d,[v]=[v0]/\Same G1 H1/\Rep G1 d v0/\AftI E G1 H1 (Zr d) R) (W:=fun G H r=>AftI E G H r R) S aft (fun g a=>AftI.grow g a) (fun c a=>a) (fun a=>a) fun d v G1 H1 g1 r1 S1 a1=>⟨v,G1,d,rfl,S1.sub,r1,a1⟩;refine AK (Mg I h1 (by rw [C.hmg]; exact hm) (show o0 "reversed" = some (.type "reversed") by decide +kernel) ?_ h3 h2);refine o7 (thn ((P7 ha Z5 he) pos pins s Z H (fun vs H1=>∃ v G1 d,vs=[v]/\Same G1 H1/\Rep G1 d v/\AftI E G1 H1 (Zr d) R) I ?_) fun us s1 ⟨vs,H1,I1,rx,v,G1,d,ev,hG,rd,a1⟩=>?_) he hpl
 . exact hh
 . subst ev
   obtain ⟨u,rfl,ru⟩:=Vals.one rx;cases d with
   | tuple ds =>
     obtain ⟨q,xs,rfl,hq,l1⟩:=rd; cases ru; obtain ⟨zz,its,rv,e1⟩:=Lw I1 hG hq; have hl:=rv.length; refine oR (show DU s1.heap q its.toArray from e1) (by simp only [xE]; lia) fun tk=>?_;have I2:Inv X pins Z H1 { s1 with heap:=s1.heap.push { cls:=.type "reversed",data:=.fields #[.ref q,t9 ((its.toArray.size:Int) - 1)] },toks:=tk }:=I1.kept (t':=tk) fun b o e=>xG _ e;have st:IsRvT (s1.heap.push { cls:=.type "reversed",data:=.fields #[.ref q,t9 ((its.toArray.size:Int) - 1)] }) s1.heap.objs.size q ((xs.length:Int) - 1 - ((0:Nat):Int)):=⟨_,xN _ rfl,rfl,by simp [hl]⟩
     refine eH (s:={ s1 with heap:=s1.heap.push { cls:=.type "reversed",data:=.fields #[.ref q,t9 ((its.toArray.size:Int) - 1)] },toks:=tk }) st ?_; refine ⟨s1.heap.objs.size,[s1.heap.objs.size],_,_,H1,rfl,I2,jL q _ xs.length,st,fun b hb=>?_,a1 _ G1 H1 (Grow.refl hG) (jI hq l1)⟩;have e:b=s1.heap.objs.size:=by simpa using hb
     subst e; exact I1.fpOk (xH _) (I1.hok.fresh (xH _))
   | _=>exact (show False from a1).elim
end
end Sm
end
noncomputable section
namespace Sm
open PySem PySem.Spec PyProof.Rows L2
end Sm
end
noncomputable section
namespace Sm
open PySem PySem.Spec PySem.W PyProof.Rows
end Sm
end
noncomputable section
namespace Sm
open PySem PySem.Spec PySem.W PyProof.Rows L2
end Sm
end
noncomputable section
namespace Sm
open PySem PySem.Spec PyProof.Rows L2
noncomputable section
variable {prog:xT} {w:yC} {A:yZ} {E:wM->wO->Prop} {s:wO}
theorem mL {d:wX} {od:Obj} {es:Array yU} {ep:Nat} {Q:wM->wO->Prop} (hd:(d==l5)=false) (hT:s.TypeIs (.ref d) "dict") (ho:s.heap.get? d=some od) (hdat:od.data=.dict es ep)
   (hQ:Q (.ref s.heap.objs.size) { s with heap:=s.heap.push { cls:=.type "dict_keyiterator",data:=.fields #[.ref d,.int 0 0,.int es.size 0,.int ep 0] } }) :
   wpAny (xU prog w) A (pyIter (.ref d)) Q E s:=by
 refine wpAny_pyIter_slot hT F.slot_dict_iter (zZ F.slot_dict_iter hT F.entry_dict_iter ?_ (F.args_dict_iter_1 _));unfold l0.«dict.__iter__» Builtin.Dict.dictSlotNone;refine wL (wL (BC hT (wN ?_)));have hz:∀ (R:wM->wO->Prop),wpAny (xU prog w) A.in1 (FD d) (fun _ t=>t=s) R s:=fun R=>by
   unfold FD; rw [hd]; exact wN rfl
 refine wL (p9 (a:=d) rfl (wL (zU (hz E) (fun _ t e=>?_) fun _ _ e=>e)));subst e;refine wL (y3 ho hdat (wL (zO ho hdat ?_)));refine wL (zL (wN ⟨_,rfl, "dict_keyiterator",_,⟨_,xN _ rfl,rfl⟩,F.slot_dict_keyiterator_next.lookup,?_⟩));simpa [t9] using hQ
theorem lW {it d:wX} {i ep:Nat} {od:Obj} {es:Array yU} {Q:Option wM->wO->Prop} (hit:s.heap.IsKeyIter it d i es.size ep) (hod:s.heap.get? d=some od) (hdd:od.data=.dict es ep) (hlt:i < es.size)
   (hQ:∀ h',h'.IsKeyIter it d (i+1) es.size ep->CG it s.heap h'->Q (some es[i].key) { s with heap:=h' }):wpAny (xU prog w) A (BV (.ref it)) Q E s:=by
 obtain ⟨o,ho,hc,hd⟩:=id hit;have hnew:(s.heap.update it (GC (·.setIfInBounds 1 (t9 ((i:Int)+1))))).IsKeyIter it d (i+1) es.size ep:=by
   refine ⟨_,m3 _ ho (DB (p5 hd _)),(Obj.cls_mapFields ..).trans hc,?_⟩; rw [p5 hd]; simp [t9]
 have hty:Shared.TypeIs { s with heap:=s.heap.update it (GC (·.setIfInBounds 1 (t9 ((i:Int)+1)))) } (.ref it) "dict_keyiterator" := hnew.typeIs;unfold BV;refine wL (BF ?_);refine zT (name:=p4 "__next__") hit.typeIs F.slot_dict_keyiterator_next ?_;refine zZ F.slot_dict_keyiterator_next hit.typeIs F.entry_dict_keyiterator_next ?_ (F.args_dict_keyiterator_next_1 _);refine wL (wN (wL (wL ?_)));refine wL (p8 hit.typeIs (wN ?_));refine wL (wpAny_fieldsOf ho hd ?_)
 simp only [show CH "dict_keyiterator" = false by decide,l9,if_false];show wpAny _ _ (if (zA d==j8)=true then _ else _) _ _ s;rw [if_neg (by exact c8)];refine wL (wN (wL (y3 hod hdd ?_)));rw [if_neg (by simp)];refine wL (wN (wL (zO hod hdd ?_)));rw [if_neg (by simp)];refine wN ?_;simp only [show ¬ ((i:Int) < 0) from by lia,if_false,Int.toNat_natCast,zV hlt];refine wL (wL (p8 hit.typeIs (wN ?_)))
 refine wL (DX hit.typeIs ?_);show wpAny _ _ (GK (.ref it) 1 (t9 ((i:Int)+1))>>=_) _ _ s;refine wL (BU ho hd (by simp) (wL (c9 ?_)));refine wL (DX hty ?_);first
   | exact wN (wN ⟨_,rfl,wN (hQ _ hnew (m6 ..))⟩)
   | (refine wL (DX hty ?_); exact wN (wN ⟨_,rfl,wN (hQ _ hnew (m6 ..))⟩))
theorem qR {it d:wX} {i ep:Nat} {od:Obj} {es:Array yU} {Q:Option wM->wO->Prop} (hh:A.handled=none) (hi:es.size<=i) (hit:s.heap.IsKeyIter it d i es.size ep) (hod:s.heap.get? d=some od) (hdd:od.data=.dict es ep)
   (hQ:∀ h',Heap.ExtBut it s.heap h'->Q none { s with heap:=h' }):wpAny (xU prog w) A (BV (.ref it)) Q E s:=by
 obtain ⟨o,ho,hc,hd⟩:=id hit;unfold BV;refine wL (BF ?_);refine zT (name:=p4 "__next__") hit.typeIs F.slot_dict_keyiterator_next ?_;refine zZ F.slot_dict_keyiterator_next hit.typeIs F.entry_dict_keyiterator_next ?_ (F.args_dict_keyiterator_next_1 _);refine wL (wN (wL (wL ?_)));refine wL (p8 hit.typeIs (wN ?_));refine wL (wpAny_fieldsOf ho hd ?_);simp only [show CH "dict_keyiterator" = false by decide,l9,if_false]
 show wpAny _ _ (if (zA d==j8)=true then _ else _) _ _ s;rw [if_neg (by exact c8)];refine wL (wN (wL (y3 hod hdd ?_)));rw [if_neg (by simp)];refine wL (wN (wL (zO hod hdd ?_)));rw [if_neg (by simp)];refine wN ?_;simp only [show ¬ ((i:Int) < 0) from by lia,if_false,Int.toNat_natCast,Array.getElem?_eq_none hi];refine wL (wL (p8 hit.typeIs (wN ?_)));show wpAny _ _ (GK (.ref it) 0 .none>>=_) _ _ s;refine wL (BU ho hd (by simp) ?_)
 show wpAny _ _ (newExc (.type "StopIteration") []>>=_) _ _ _;refine wL ?_;simp only [newExc,newTuple];refine wL (zL ?_ (by size_fits));refine wL (m:=EG _ _) (p9 (a:=j8) (by first | rfl | (simp only [EG]; rfl)) (zL ?_ (by size_fits)));simp only [raiseNew];refine wL (wpAny_handled ?_);rw [show A.in1.handled=none from hh];refine wL (wN (wpAny_throw (wL ?_)));refine CS (T := "StopIteration") (b:=true) ⟨_,xN _ rfl,rfl⟩ isSubtype_stop ?_;exact wN (hQ _ (((m6 ..).extBut.push _).push _))
end
end Sm
end
noncomputable section
namespace Sm
open PySem PySem.Spec PyProof.Rows L2
end Sm
end
noncomputable section
namespace Sm
open PySem PySem.Spec PyProof.Rows L2
noncomputable section
variable {P:xT} {w:yC} {K:wQ} {mg:Str->Option wM} {base:yW} {X:Cx} {N:List Str} {sc:Scope} {k:Nat} {df:Bool} {E:EK} {pos:Pos} {a b c e:Expr} {f g f':Dn->Res wK} {x:Str}
theorem Um (C:Cxt P w K mg base X N sc k df) (ha:DE X E a f) (hb:DE X E b g) (hc:DE X E c f') (hm:EJ [.LtE,.LtE] [b,c]=false:=by with_unfolding_all rfl) :
   DT X E (.Compare a [.LtE,.LtE] [b,c] pos) (C4 (W8 f g f' (I0 .LtE) (I0 .LtE))):=by
 have hr:OpR X (zE .LtE) (kR .LtE):=Dm (.inr rfl) C.hu;refine PT.imp (kW hr hr ha hb hc hm) fun Z H Q hZ3=>?_;obtain ⟨G,δ,S,aft⟩:=hZ3;have aft':AftT E G H ((f δ).bind fun x=>(g δ).bind fun y=>(ofO (I0 .LtE x y)).bind fun z=>(match z with
   | .bool true=>(f' δ).bind fun u=>ofO (I0 .LtE y u)
   | .bool false=>.ok (.bool false)
   | _=>.no).bind fun d=>ofO (Yt d)) Q:=by
   unfold C4 W8 at aft; simp only [Res.bind_assoc] at aft; exact aft
 refine Ah S aft' fun d1 v1 G1 H1 g1 r1 S1 a1=>?_;refine Ah S1 a1 fun d2 v2 G2 H2 g2 r2 S2 a2=>?_;cases e:I0 .LtE d1 d2 with
 | none=>rw [e] at a2; exact a2.elim
 | some d =>
   rw [e] at a2; obtain ⟨kk,rfl⟩:=Lf _ _ _ e; refine Bv G2 H2 v1 v2 d1 d2 _ _ S2.sub (r1.mono g2.g) r2 e fun v G3 H3 g3 r3=>⟨kk,r3,?_⟩;have S3:=S2.grow g3;cases kk with
   | false=>rw [if_neg (by decide)]; exact ⟨false,rfl,a2 G3 H3 g3⟩
   | true =>
     rw [if_pos rfl]; have a3:AftT E G3 H3 ((f' δ).bind fun u=>(ofO (I0 .LtE d2 u)).bind fun d=>ofO (Yt d)) Q:=by
       have h0:AftT E G3 H3 (((f' δ).bind fun u=>ofO (I0 .LtE d2 u)).bind fun d=>ofO (Yt d)) Q:=AftT.grow g3 a2;rw [Res.bind_assoc] at h0; exact h0
     refine Ah S3 a3 fun d4 v4 G4 H4 g4 r4 S4 a4=>?_;cases e':I0 .LtE d2 d4 with
     | none=>rw [e'] at a4; exact a4.elim
     | some d =>
       rw [e'] at a4; obtain ⟨k2,rfl⟩:=Lf _ _ _ e'; exact Bv G4 H4 v2 v4 d2 d4 _ _ S4.sub (r2.mono (g3.g.trans g4.g)) r4 e' fun v G5 H5 g5 r5=>⟨k2,r5,a4 G5 H5 g5⟩
end
end Sm
end
noncomputable section
namespace Sm
open PySem PySem.Spec PyProof.Rows PySem.W L2
structure NAt (h:yW) (v:wM) (d:wK):Prop where
 rd:∃ as,Reads h v d as
 nk:d=.none\/(isK d=true/\((∃ xs,d=.tuple xs)\/∃ z,d=.str z))
 lay:d.canLay0=true
 dp:d.depth<=8
theorem Mk {a b:wK} (ha:a=.none\/(isK a=true/\((∃ xs,a=.tuple xs)\/∃ z,a=.str z))) (hb:b=.none\/(isK b=true/\((∃ xs,b=.tuple xs)\/∃ z,b=.str z))):xA a b=true↔a=b:=by
 rcases ha with rfl | ⟨ha,ha'⟩
 . rcases hb with rfl | ⟨_,⟨ys,rfl⟩ | ⟨z,rfl⟩⟩
   . exact ⟨fun _=>rfl,fun _=>rfl⟩
   . exact ⟨fun h=>(by simp [xA] at h),fun h=>nomatch h⟩
   . exact ⟨fun h=>(by simp [xA] at h),fun h=>nomatch h⟩
 . rcases hb with rfl | ⟨hb,_⟩
   . rcases ha' with ⟨xs,rfl⟩ | ⟨z,rfl⟩
     . exact ⟨fun h=>(by simp [xA] at h),fun h=>nomatch h⟩
     . exact ⟨fun h=>(by simp [xA] at h),fun h=>nomatch h⟩
   . exact eqvK _ _ ha hb
noncomputable section
variable {prog:xT} {w:yC} {A:yZ} {E:wM->wO->Prop} {s:wO}
theorem NAt.val {h:yW} {v:wM} {d:wK} (x:NAt h v d):(d=.none/\v=.none)\/(∃ z t,d=.str z/\v=.str z t)\/∃ b,v=.ref b:=by
 obtain ⟨as,r⟩:=x.rd;rcases x.nk with rfl | ⟨_,⟨xs,rfl⟩ | ⟨z,rfl⟩⟩
 . cases r; exact .inl ⟨rfl,rfl⟩
 . cases r; exact .inr (.inr ⟨_,rfl⟩)
 . cases r; exact .inr (.inl ⟨_,_,rfl,rfl⟩)
theorem NAt.hash {v:wM} {d:wK} {Q:Int->wO->Prop} (x:NAt s.heap v d) (hu:A.units+8 < i4) (q:∀ tk,Q (X4 w d) { s with toks:=tk }):wpAny (xU prog w) A (pyHash v) Q E s:=by
 obtain ⟨as,r⟩:=x.rd;rcases x.nk with rfl | ⟨hk,hk'⟩
 . cases r
   unfold pyHash; have hv:[j8].any Value.onHeap=false:=rfl; have hT:s.TypeIs j8 "NoneType" := rfl; refine wL ?_; rw [cRoomFor,if_neg (by rw [hv]; decide)];refine wN (wL (n5 hT F.slot_NoneType_hash.lookup ?_)); show wpAny _ _ (if (some (Value.builtin "NoneType.__hash__")==some j8)=true then _ else _) Q E s;rw [if_neg (by rw [FU]; decide)];refine wL (n5 hT F.slot_NoneType_hash.lookup ?_); show wpAny _ _ (callSpecialIfBoundUnlessNone? j8 "__hash__" _>>=_) Q E s;refine wL (wpAny_callSpecialIfBoundUnlessNone?_slot hT F.slot_NoneType_hash (zZ F.slot_NoneType_hash hT F.entry_NoneType_hash (show wpAny _ _ (do ret (<- mkInt 0xFCA86420)) _ _ s from wpAny_ret_mkInt ?_) (F.args_NoneType_hash_1 _)))
   show wpAny _ _ (if (decide (-(2:Int) ^ 63<=0xFCA86420)&&decide ((0xFCA86420:Int) < 2 ^ 63))=true then _ else _) Q E _;rw [if_pos (by decide)]; exact wN (q _)
 . have e:X4 w d=aR w d:=by rcases hk' with ⟨_,rfl⟩ | ⟨_,rfl⟩ <;> rfl
   rw [e] at q; exact Rk _ _ as A s Q hk r (by have:=x.dp; lia) fun tk _=>q tk
theorem NAt.quiet {v:wM} {d:wK} {Q:Bool->wO->Prop} (x:NAt s.heap v d) (q:Q true s):wpAny (xU prog w) A (eqIsQuiet 8 v) Q E s:=by
 obtain ⟨as,r⟩:=x.rd;rcases x.nk with rfl | ⟨hk,hk'⟩
 . cases r; exact wN q
 . exact Ni 8 _ _ as s Q hk x.dp r q
theorem NAt.eq {v u:wM} {a b:wK} {Q:Bool->wO->Prop} (x:NAt s.heap v a) (y:NAt s.heap u b) (hu:A.units+8 < i4) (q:Q (xA a b) s):wpAny (xU prog w) A (eqBool v u) Q E s:=by
 obtain ⟨as,r⟩:=x.rd;obtain ⟨bs,r'⟩:=y.rd;exact SeqAt.eqBoolOverData prog w A E s v u a b as bs Q r r' x.lay y.lay (by have:=x.dp; lia) q
structure EsN (w:yC) (h:yW) (es:Array yU) (ks:List wK):Prop where
 len:es.size=ks.length
 ent:∀ (i:Nat) e,es[i]? = some e->∃ k,ks[i]? = some k/\NAt h e.key k/\e.hash=X4 w k
 nd:ks.Nodup
theorem cZ {d:wX} {o:Obj} {es:Array yU} {ep:Nat} {ks:List wK} {key:wM} {k:wK} {Q:Option Nat->wO->Prop} (hu:A.units+8 < i4) (ho:s.heap.get? d=some o) (hd:o.data=.dict es ep) (N:EsN w s.heap es ks) (x:NAt s.heap key k)
   (q1:∀ i,ks[i]? = some k->Q (some i) s) (q0:k∉ks->Q none s):wpAny (xU prog w) A (dictFind d key (X4 w k)) Q E s:=by
 have same:∀ i j a,ks[i]? = some a->ks[j]? = some a->i=j:=fun i j a h1 h2=>by
   have hi:=(xQ.mp h1).1; have hj:=(xQ.mp h2).1; have e1:=(xQ.mp h1).2; have e2:=(xQ.mp h2).2; exact (List.getElem_inj (h₀:=hi) (h₁:=hj) N.nd).mp (e1.trans e2.symm)
 unfold dictFind;try with_reducible refine c9 ?_
 refine wL (y3 ho hd ?_);dsimp only;have hin:∀ i∈placesWithHash es.size (fun i=>es[i]?.map (·.hash)) (X4 w k),∃ e,es[i]? = some e/\(e.hash==X4 w k)=true:=fun i hi=>by
   unfold placesWithHash at hi; have:=(zH.mp hi).2; simp only at this;cases he:es[i]? with
   | none=>rw [he] at this; cases this
   | some e=>rw [he] at this; exact ⟨e,rfl,by simpa using this⟩
 have hat:∀ i,ks[i]? = some k->i∈placesWithHash es.size (fun i=>es[i]?.map (·.hash)) (X4 w k):=fun i hi=>by
   have hlt:i < es.size:=by rw [N.len]; exact (xQ.mp hi).1
   have he:es[i]? = some es[i]:=zV hlt; obtain ⟨k',e1,_,e3⟩:=N.ent i _ he; rw [hi] at e1; cases e1; unfold placesWithHash; refine zH.mpr ⟨a9.mpr hlt,?_⟩; show (es[i]?.map (·.hash)==some (X4 w k))=true;rw [he]; simp [e3]
 have hnd:(placesWithHash es.size (fun i=>es[i]?.map (·.hash)) (X4 w k)).Nodup:=List.Pairwise.filter _ List.nodup_range;generalize placesWithHash es.size (fun i=>es[i]?.map (·.hash)) (X4 w k)=places at *;have lst:∀ i,(ks[i]? = some k->i∈([]:List Nat))->ks[i]? ≠ some k:=fun i h z=>nomatch h z;have no:(∀ i,ks[i]? = some k->i∈([]:List Nat))->k∉ks:=fun h z=>by
   obtain ⟨i,hi⟩:=CN.mp z; exact nomatch h i hi
 have plain:wpAny (xU prog w) A (dictWalkPlain d key (X4 w k) es places) Q E s:=by
   unfold dictWalkPlain; refine wL ?_; refine BD _ (fun L8 r s'=>s'=s/\r=(none,())/\(∀ i∈L8,i∈places)/\∀ i,ks[i]? = some k->i∈L8) _ ?_ ?_ _ _ ⟨rfl,rfl,fun _ h=>h,hat⟩
   . rintro i more r s' ⟨rfl,rfl,hsub,hall⟩
     obtain ⟨e,he,hh⟩:=hin i (hsub i (.head _)); obtain ⟨k',e1,y,_⟩:=N.ent i e he; rw [he]; dsimp only; rw [if_pos hh]; refine wL (zO ho hd ?_); refine wL (y.eq x hu ?_); refine wL (zO ho hd ?_); rw [if_neg (by simp)];by_cases c:k'=k
     . subst c
       rw [if_pos ((Mk y.nk x.nk).mpr rfl)]; refine wL (i0 (wN ?_)); exact wN (q1 i e1)
     . rw [if_neg (fun z=>c ((Mk y.nk x.nk).mp z))]
       refine wL (i0 (wN ?_)); refine ⟨rfl,rfl,fun j hj=>hsub j (.tail _ hj),fun j hj=>?_⟩;rcases wR.mp (hall j hj) with rfl | z
       . rw [e1] at hj; cases hj; exact absurd rfl c
       . exact z
   . rintro r s' ⟨rfl,rfl,_,hall⟩
     exact wN (q0 (no hall))
 have hwalk : ∀ (f : Nat -> Option (Option Nat) × Option Nat -> Sem (ForInStep (Option (Option Nat) × Option Nat))), (∀ i e k' r2 (Q' : ForInStep (Option (Option Nat) × Option Nat) -> wO -> Prop), es[i]? = some e -> (e.hash == X4 w k) = true -> NAt s.heap e.key k' ->
     (k'=k->r2=none/\Q' (.done (some (some i),none)) s/\Q' (.yield (none,some i)) s)->(k'≠k->Q' (.yield (none,r2)) s)->wpAny (xU prog w) A (f i (none,r2)) Q' E s) ->
     wpAny (xU prog w) A (forIn places (none,none) f) (fun r s'=>s'=s/\((r.1=none/\((r.2=none/\k∉ks)\/∃ i,r.2=some i/\ks[i]? = some k))\/∃ i,r.1=some (some i)/\ks[i]? = some k)) E s:=fun f hf=>by
   refine BD _ (fun L8 r s'=>s'=s/\r.1=none/\(∀ i∈L8,i∈places)/\L8.Nodup/\((r.2=none/\∀ i,ks[i]? = some k->i∈L8)\/∃ i,r.2=some i/\ks[i]? = some k/\i∉L8)) _ ?_ ?_ _ _ ⟨rfl,rfl,fun _ h=>h,hnd,.inl ⟨rfl,hat⟩⟩
   . rintro i more ⟨r1,r2⟩ s' ⟨rfl,rfl,hsub,hn,hr⟩
     obtain ⟨e,he,hh⟩:=hin i (hsub i (.head _)); obtain ⟨k',e1,y,_⟩:=N.ent i e he; rw [zG] at hn; refine hf i e k' r2 _ he hh y (fun c=>?_) fun c=>?_
     . subst c
       have h2:r2=none:=by
         rcases hr with ⟨z,_⟩ | ⟨j,_,z2,z3⟩
         . exact z
         . exact absurd (same i j _ e1 z2▸c7) z3
       exact ⟨h2,⟨rfl,.inr ⟨i,rfl,e1⟩⟩,rfl,rfl,fun j hj=>hsub j (.tail _ hj),hn.2,.inr ⟨i,rfl,e1,hn.1⟩⟩
     . refine ⟨rfl,rfl,fun j hj=>hsub j (.tail _ hj),hn.2,?_⟩
       rcases hr with ⟨z,hall⟩ | ⟨j,z1,z2,z3⟩
       . refine .inl ⟨z,fun j hj=>?_⟩
         rcases wR.mp (hall j hj) with rfl | z'
         . rw [e1] at hj; cases hj; exact absurd rfl c
         . exact z'
       . exact .inr ⟨j,z1,z2,fun z=>z3 (.tail _ z)⟩
   . rintro ⟨r1,r2⟩ s' ⟨rfl,rfl,_,_,hr⟩
     rcases hr with ⟨rfl,hall⟩ | ⟨j,rfl,z2,_⟩
     . exact ⟨rfl,.inl ⟨rfl,.inl ⟨rfl,no hall⟩⟩⟩
     . exact ⟨rfl,.inl ⟨rfl,.inr ⟨j,rfl,z2⟩⟩⟩
 have tell:∀ (Q':Bool->wO->Prop),Q' false s->wpAny (xU prog w) A (tableMayTell key (places.filterMap fun i=>es[i]?.map (·.key))) Q' E s:=fun Q' q'=>by
   unfold tableMayTell;split
   . exact wN q'
   . refine wL (x.quiet ?_)
     rw [if_neg (by decide)]; refine wL ?_; refine BD _ (fun L8 r s'=>s'=s/\r=(none,())/\∀ v∈L8,∃ k',NAt s.heap v k') _ ?_ ?_ _ _ ⟨rfl,rfl,fun v hv=>?_⟩
     . rintro v more r s' ⟨rfl,rfl,hr⟩
       obtain ⟨k',y⟩:=hr v (.head _); refine wL (y.quiet ?_); rw [if_neg (by decide)]; exact wN ⟨rfl,rfl,fun v hv=>hr v (.tail _ hv)⟩
     . rintro r s' ⟨rfl,rfl,_⟩
       exact wN q'
     . obtain ⟨i,_,hi⟩:=AD.mp hv
       cases he:es[i]? with
       | none=>rw [he] at hi; cases hi
       | some e =>
         rw [he] at hi; have hk:e.key=v:=by simpa using hi
         obtain ⟨k',_,y,_⟩:=N.ent i e he; exact ⟨k',hk▸y⟩
 have fork:∀ (m:Bool->Sem (Option Nat)),wpAny (xU prog w) A (m false) Q E s->wpAny (xU prog w) A (if ((places.filterMap fun i=>es[i]?.map (·.key))==[key])=true then (pure false>>=m) else (tableMayTell key (places.filterMap fun i=>es[i]?.map (·.key))>>=m)) Q E s:=fun m h=>by
   split
   . exact wL (wN h)
   . exact wL (tell _ h)
 rcases x.val with ⟨_,rfl⟩ | ⟨z,t,rfl,rfl⟩ | ⟨b,rfl⟩
 . dsimp only
   by_cases hc:(j8::places.filterMap fun i=>es[i]?.map (·.key)).all GM=true
   . rw [if_pos hc]; exact plain
   . rw [if_neg hc]
     refine fork _ ?_; rw [if_neg (by simp)]; refine wL (zU (hwalk _ fun i e k' r2 Q' he hh y c1 c0=>?_) (fun r s' z=>?_) fun _ _ z=>z)
     . dsimp only
       rw [he]; dsimp only; rw [if_pos hh]; refine wL (zO ho hd (wL (y.eq x hu (wL (zO ho hd ?_))))); rw [if_neg (by simp)];by_cases c:k'=k
       . obtain ⟨rfl,d1,d2⟩:=c1 c
         rw [if_pos ((Mk y.nk x.nk).mpr c),if_neg (by simp)]; refine wL (i0 ?_);split
         . exact wN d1
         . exact wN d2
       . rw [if_neg (fun z=>c ((Mk y.nk x.nk).mp z))]
         refine wL (i0 ?_); rw [if_neg (by simp)]; exact wN (c0 c)
     . obtain ⟨r1,r2⟩:=r
       obtain ⟨rfl,z⟩:=z; rcases z with ⟨rfl,z⟩ | ⟨i,rfl,z⟩
       . rcases z with ⟨rfl,z⟩ | ⟨i,rfl,z⟩
         . exact wN (q0 z)
         . exact wN (q1 i z)
       . exact wN (q1 i z)
 . by_cases hall:(es.all fun e=>isExactStrKey e.key)=true
   . dsimp only
     rw [if_pos hall]; have isk:∀ (i:Nat) e,es[i]? = some e->(e.key.isStr z=true↔ks[i]? = some (.str z)):=fun i e he=>by
       obtain ⟨k',e1,y,_⟩:=N.ent i e he; rw [e1]; rcases y.val with ⟨rfl,hv⟩ | ⟨z',t',rfl,hv⟩ | ⟨b,hv⟩
       . rw [hv]; exact ⟨fun h=>(by cases h),fun h=>absurd h (by simp)⟩
       . rw [hv]
         show (z'==z)=true↔_;rw [beq_iff_eq]; exact ⟨fun h=>(by rw [h]),fun h=>(by cases h; rfl)⟩
       . rw [hv]
         have:=Array.all_eq_true'.mp hall e (Array.mem_of_getElem? he); rw [hv] at this; cases this
     unfold foundByValue;cases hf:es.findIdx? (·.key.isStr z) with
     | none =>
       refine wN (q0 fun hm=>?_);obtain ⟨i,hi⟩:=CN.mp hm; have hlt:i < es.size:=by rw [N.len]; exact (xQ.mp hi).1
       have:=Array.findIdx?_eq_none_iff.mp hf es[i] (Array.getElem_mem hlt); rw [(isk i _ (zV hlt)).mpr hi] at this; cases this
     | some i =>
       obtain ⟨hlt,hp,_⟩:=Array.findIdx?_eq_some_iff_getElem.mp hf; have he:es[i]? = some es[i]:=zV hlt; have hi:=(isk i _ he).mp hp; obtain ⟨k',e1,y,_⟩:=N.ent i _ he; rw [hi] at e1; cases e1; dsimp only; rw [he]; dsimp only; refine wL (zO ho hd (wL (y.eq x hu (wL (zO ho hd ?_))))); rw [if_neg (by simp),if_pos ((Mk y.nk x.nk).mpr rfl)]; exact wL (i0 (wN (q1 i hi)))
   . dsimp only
     rw [if_neg hall];by_cases hc:(GA z t::places.filterMap fun i=>es[i]?.map (·.key)).all GM=true
     . rw [if_pos hc]; exact plain
     . rw [if_neg hc]
       refine fork _ ?_; rw [if_neg (by simp)]; refine wL (zU (hwalk _ fun i e k' r2 Q' he hh y c1 c0=>?_) (fun r s' z=>?_) fun _ _ z=>z)
       . dsimp only
         rw [he]; dsimp only; rw [if_pos hh]; refine wL (zO ho hd (wL (y.eq x hu (wL (zO ho hd ?_))))); rw [if_neg (by simp)];by_cases c:k'=.str z
         . obtain ⟨rfl,d1,d2⟩:=c1 c
           rw [if_pos ((Mk y.nk x.nk).mpr c),if_neg (by simp)]; refine wL (i0 ?_);split
           . exact wN d1
           . exact wN d2
         . rw [if_neg (fun z=>c ((Mk y.nk x.nk).mp z))]
           refine wL (i0 ?_); rw [if_neg (by simp)]; exact wN (c0 c)
       . obtain ⟨r1,r2⟩:=r
         obtain ⟨rfl,z⟩:=z; rcases z with ⟨rfl,z⟩ | ⟨i,rfl,z⟩
         . rcases z with ⟨rfl,z⟩ | ⟨i,rfl,z⟩
           . exact wN (q0 z)
           . exact wN (q1 i z)
         . exact wN (q1 i z)
 . dsimp only
   by_cases hc:(zA b::places.filterMap fun i=>es[i]?.map (·.key)).all GM=true
   . rw [if_pos hc]; exact plain
   . have hno : (es.any fun e => e.key == .ref b && e.hash != X4 w k) = false := by
       rw [Array.any_eq_false]; intro i hi; obtain ⟨k',e1,y,e3⟩:=N.ent i es[i] (zV hi);by_cases c:es[i].key=.ref b
       . have : k' = k := by
           rw [c] at y; obtain ⟨as,r1⟩:=x.rd; obtain ⟨bs,r2⟩:=y.rd; exact SeqAt.Reads.unique k' k _ _ _ y.lay r2 r1
         rw [e3,this]; simp
       . intro z
         rw [xX] at z; exact c (j4 z.1)
     rw [if_neg hc,if_neg (by rw [hno]; decide)];refine fork _ ?_; rw [if_neg (by simp)]; refine wL (zU (hwalk _ fun i e k' r2 Q' he hh y c1 c0=>?_) (fun r s' z=>?_) fun _ _ z=>z)
     . dsimp only
       rw [he]; dsimp only; rw [if_pos hh]; refine wL (zO ho hd (wL (y.eq x hu (wL (zO ho hd ?_))))); rw [if_neg (by simp)];by_cases c:k'=k
       . obtain ⟨rfl,d1,d2⟩:=c1 c
         rw [if_pos ((Mk y.nk x.nk).mpr c),if_neg (by simp)]; refine wL (i0 ?_);split
         . exact wN d1
         . exact wN d2
       . rw [if_neg (fun z=>c ((Mk y.nk x.nk).mp z))]
         refine wL (i0 ?_); rw [if_neg (by simp)]; exact wN (c0 c)
     . obtain ⟨r1,r2⟩:=r
       obtain ⟨rfl,z⟩:=z; rcases z with ⟨rfl,z⟩ | ⟨i,rfl,z⟩
       . rcases z with ⟨rfl,z⟩ | ⟨i,rfl,z⟩
         . exact wN (q0 z)
         . exact wN (q1 i z)
       . exact wN (q1 i z)
end
end Sm
end
noncomputable section
namespace Sm
open PySem PySem.Spec PyProof.Rows PySem.W L2
noncomputable section
variable {prog:xT} {w:yC} {A:yZ} {E:wM->wO->Prop} {s:wO}
theorem hu8 {A:yZ} (h:A.units+16 < i4):A.in1.units+8 < i4:=by simp only [Around.in1_units]; lia
theorem EsN.get {h:yW} {es:Array yU} {ks:List wK} (N:EsN w h es ks) {i:Nat} {k:wK} (hi:ks[i]? = some k):∃ e,es[i]? = some e:=by
 have hlt:i < es.size:=by rw [N.len]; exact (xQ.mp hi).1
 exact ⟨_,zV hlt⟩
theorem Ml {d:wX} {o:Obj} {es:Array yU} {ep:Nat} {ks:List wK} {key:wM} {k:wK} {Q:Option wM->wO->Prop} (hu:A.units+8 < i4) (ho:s.heap.get? d=some o) (hd:o.data=.dict es ep) (N:EsN w s.heap es ks) (x:NAt s.heap key k)
   (q1:∀ (i:Nat) (e:yU) tk,ks[i]? = some k->es[i]? = some e->Q (some e.val) { s with toks:=tk }) (q0:∀ tk,k∉ks->Q none { s with toks:=tk }):wpAny (xU prog w) A (dictGet d key) Q E s:=by
 unfold dictGet;try with_reducible refine c9 ?_
 refine wL (x.hash hu fun tk=>?_);refine wL (cZ (s:={ s with toks:=tk }) hu ho hd N x (fun i hi=>?_) fun hn=>wN (q0 tk hn));obtain ⟨e,he⟩:=N.get hi;refine wL (y3 (s:={ s with toks:=tk }) ho hd (wN ?_));rw [he];exact q1 i e tk hi he
theorem cV (d:wX) (key dflt:wM) (hd:(d==l5)=false):MeetsIn prog w (l0.«dict.get» ⟨[.ref d,key,dflt],[]⟩) (fun A R s=>∃ (o:Obj) (es:Array yU) (ep:Nat) (ks:List wK) (k:wK),A.units+16 < i4/\s.heap.get? d=some o/\o.data=.dict es ep/\EsN w s.heap es ks/\NAt s.heap key k /\
   (∀ (i:Nat) (e:yU) tk,ks[i]? = some k->es[i]? = some e->R (.ok (.ret e.val)) { s with toks:=tk })/\∀ tk,k∉ks->R (.ok (.ret dflt)) { s with toks:=tk }) :=
 .of_wp fun A R s hZ3=>by
   obtain ⟨o,es,ep,ks,k,hu,ho,hD,N,x,h1,h0⟩:=hZ3; show wpAny _ _ (dictGet d key>>=_) _ _ s;refine wL (Ml (hu8 hu) ho hD N x (fun i e tk hi he=>wN ⟨_,rfl,h1 i e tk hi he⟩) fun tk hn=>?_);show wpAny _ _ (Builtin.Dict.missed d key>>=_) _ _ _;exact wL (wpAny_missed_other hd (wN ⟨dflt,rfl,h0 tk hn⟩))
theorem hJ (d:wX) (key:wM) (hd:(d==l5)=false):MeetsIn prog w (l0.«dict.__contains__» ⟨[.ref d,key],[]⟩) (fun A R s=>∃ (o:Obj) (es:Array yU) (ep:Nat) (ks:List wK) (k:wK),A.units+16 < i4/\s.heap.get? d=some o/\o.data=.dict es ep/\EsN w s.heap es ks/\NAt s.heap key k /\
   (∀ tk,k∈ks->R (.ok (.ret (.bool true))) { s with toks:=tk })/\∀ tk,k∉ks->R (.ok (.ret (.bool false))) { s with toks:=tk }) :=
 .of_wp fun A R s hZ3=>by
   obtain ⟨o,es,ep,ks,k,hu,ho,hD,N,x,h1,h0⟩:=hZ3; show wpAny _ _ (dictGet d key>>=_) _ _ s;refine wL (Ml (hu8 hu) ho hD N x (fun i e tk hi he=>wN ⟨_,rfl,h1 tk (e8 hi)⟩) fun tk hn=>?_);show wpAny _ _ (Builtin.Dict.pendingKey? d key>>=_) _ _ _;exact wL (wpAny_pendingKey_other hd (wN ⟨_,rfl,h0 tk hn⟩))
theorem aI (d:wX) (key:wM):MeetsIn prog w (l0.«dict.__getitem__» ⟨[.ref d,key],[]⟩) (fun A R s=>∃ (o:Obj) (es:Array yU) (ep:Nat) (ks:List wK) (k:wK),A.units+16 < i4/\s.heap.get? d=some o/\o.data=.dict es ep/\EsN w s.heap es ks/\NAt s.heap key k/\k∈ks /\
   (∀ (i:Nat) (e:yU) tk,ks[i]? = some k->es[i]? = some e->R (.ok (.ret e.val)) { s with toks:=tk })) :=
 .of_wp fun A R s hZ3=>by
   obtain ⟨o,es,ep,ks,k,hu,ho,hD,N,x,hm,h1⟩:=hZ3; show wpAny _ _ (dictGet d key>>=_) _ _ s;exact wL (Ml (hu8 hu) ho hD N x (fun i e tk hi he=>wN ⟨_,rfl,h1 i e tk hi he⟩) fun tk hn=>absurd hm hn)
theorem Tx (d:wX) (key dflt:wM) (hd:(d==l5)=false):MeetsIn prog w (l0.«dict.setdefault» ⟨[.ref d,key,dflt],[]⟩) (fun A R s=>∃ (L:List yU) (ep:Nat) (ks:List wK) (k:wK),A.units+16 < i4/\s.heap.get? d=some { cls:=.type "dict",data:=.dict (List.toArray L) ep }/\L.length<=sizeLine/\EsN w s.heap L.toArray ks/\NAt s.heap key k /\
   (∀ (i:Nat) (e:yU) tk,ks[i]? = some k->L[i]? = some e->R (.ok (.ret e.val)) { s with toks:=tk }) /\
   ∀ (h':yW) (tk:Nat),k∉ks->(∀ b o,b≠d->s.heap.get? b=some o->h'.get? b=some o)->h'.get? d=some { cls:=.type "dict",data:=.dict (L++[DictEntry.mk (X4 w k) key dflt]).toArray (ep+1) }->R (.ok (.ret dflt)) { s with heap:=h',toks:=tk }) :=
 .of_wp fun A R s hZ3=>by
   obtain ⟨L,ep,ks,k,hu,ho,hz,N,x,h1,h0⟩:=hZ3; unfold l0.«dict.setdefault»;refine wL ?_; unfold Builtin.Dict.keyAndDefault; refine wL (BC ⟨_,ho,rfl⟩ ?_); show wpAny _ _ (pure (d,key,some dflt)) _ _ s;refine wN ?_; show wpAny _ _ (if (d==l5)=true then _ else (dictSetDefault d key dflt>>=_)) _ _ s;rw [if_neg (by rw [hd]; exact c8)];refine wL ?_; unfold dictSetDefault;try with_reducible refine c9 ?_
   refine wL (x.hash (hu8 hu) fun tk=>?_);refine wL (cZ (s:={ s with toks:=tk }) (hu8 hu) ho rfl N x (fun i hi=>?_) fun hn=>?_)
   . obtain ⟨e,he⟩:=N.get hi
     refine wL (y3 (s:={ s with toks:=tk }) ho rfl ?_); rw [he]; exact wL (i0 (wN (wN ⟨_,rfl,h1 i e tk hi (by simpa using he)⟩)))
   . refine wL (i0 (wL (wpAny_updateDictKeys (hz:=by simpa using hz) (s:={ s with toks:=tk }) ho rfl (wN (wN ⟨dflt,rfl,h0 _ tk hn (fun b o hb e=>?_) ?_⟩)))))
     . exact (DV _ _ _ _ hb).trans e
     . have:=m3 (CM fun x=>x.push ⟨X4 w k,key,dflt⟩) ho (DZ (Obj.data_mapDictKeys rfl _))
       rw [this]; simp [CM]
end
end Sm
end
noncomputable section
namespace Sm
open PySem PySem.Spec PyProof.Rows PySem.W L2
mutual
theorem aN {H:Hp}:∀ {d:wK} {v:V},KRep H d v->Rep H d v
 | .none,_,r=>r
 | .int _,_,r=>r
 | .str _,_,r=>r
 | .tuple _,_,r=>by obtain ⟨b,xs,e,q,l⟩:=r; exact ⟨b,xs,e,q,Vf l⟩
 | .bool _,_,r=>(show False from r).elim
 | .list _,_,r=>(show False from r).elim
 | .dict _,_,r=>(show False from r).elim
theorem Vf {H:Hp}:∀ {ds:List wK} {xs:List V},KRepL H ds xs->RepL H ds xs
 | [],_,r=>r
 | _::_,_,r=>by obtain ⟨x,t,e,q,l⟩:=r; exact ⟨x,t,e,aN q,Vf l⟩
end
mutual
theorem Zs {G H:Hp} (hG:Same G H):∀ {d:wK} {v:V},isK d=true->Rep G d v->KRep H d v
 | .int _,_,_,r=>r
 | .str _,_,_,r=>r
 | .tuple _,_,k,r=>by obtain ⟨b,xs,e,q,l⟩:=r; exact ⟨b,xs,e,hG _ _ q,Uu hG (by simpa [isK] using k) l⟩
 | .none,_,k,_=>by simp [isK] at k
 | .bool _,_,k,_=>by simp [isK] at k
 | .list _,_,k,_=>by simp [isK] at k
 | .dict _,_,k,_=>by simp [isK] at k
theorem Uu {G H:Hp} (hG:Same G H):∀ {ds:List wK} {xs:List V},Ig ds=true->RepL G ds xs->KRepL H ds xs
 | [],_,_,r=>r
 | _::_,_,k,r=>by
   simp only [Ig,xX] at k; obtain ⟨x,t,e,q,l⟩:=r; exact ⟨x,t,e,Zs hG k.1 q,Uu hG k.2 l⟩
end
theorem U6 {d:wK} (hn:nkD d=true):(d=.none\/(isK d=true/\((∃ xs,d=.tuple xs)\/∃ z,d=.str z)))/\d.depth<=8:=by
 unfold nkD at hn;split at hn
 . exact ⟨.inl rfl,by simp [yS]⟩
 . exact ⟨.inr ⟨by simp [isK],.inr ⟨_,rfl⟩⟩,by simp [yS]⟩
 . rw [xX] at hn
   exact ⟨.inr ⟨by simpa [isK] using hn.1,.inl ⟨_,rfl⟩⟩,of_decide_eq_true hn.2⟩
 . cases hn
theorem Hf {G H:Hp} (hG:Same G H) {d:wK} {v:V} (hn:nkD d=true) (r:Rep G d v):KRep H d v:=by
 rcases (U6 hn).1 with rfl | ⟨k,_⟩
 . exact r
 . exact Zs hG k r
noncomputable def P0 (kvs:List (wK×V)) (k:wK):Option V:=(kvs.find? fun p=>xA p.1 k).map (·.2)
noncomputable def G6 (kvs:List (wK×wK)) (k:wK):Option wK:=(kvs.find? fun p=>xA p.1 k).map (·.2)
theorem Hl {G:Hp} {k:wK}:∀ {kvs:List (wK×wK)} {kk:List (wK×V)},kvs.map (·.1)=kk.map (·.1)->RepL G (kvs.map (·.2)) (kk.map (·.2)) ->
   (G6 kvs k=none/\P0 kk k=none)\/∃ d v,G6 kvs k=some d/\P0 kk k=some v/\Rep G d v
 | [],[],_,_=>.inl ⟨rfl,rfl⟩
 | [],_::_,e,_=>by cases e
 | _::_,[],e,_=>by cases e
 | p::kvs,q::kk,e,r=>by
   simp only [wU,yP] at e; obtain ⟨x,t,ex,rx,l⟩:=r; simp only [wU,yP] at ex; unfold G6 P0; rw [xR,xR,e.1];cases hq:xA q.1 k with
   | true=>exact .inr ⟨p.2,q.2,rfl,rfl,by rw [ex.1]; exact rx⟩
   | false=>exact Hl (k:=k) e.2 (by rw [ex.2]; exact l)
theorem Hm {k:wK} (hk:nkD k=true):∀ {kk:List (wK×V)} {i:Nat} {v:V},(∀ p∈kk,nkD p.1=true)->(kk.map (·.1)).Nodup->kk[i]? = some (k,v)->P0 kk k=some v
 | [],_,_,_,_,h=>by simp at h
 | p::kk,i,v,hn,nd,h=>by
   unfold P0; rw [xR]; have hp:=Mk (U6 (hn p (.head _))).1 (U6 hk).1;cases i with
   | zero =>
     simp at h;subst h; rw [hp.mpr rfl]; rfl
   | succ i =>
     rw [wU,zG] at nd; have hm:(k,v)∈kk:=e8 (by simpa using h);cases hq:xA p.1 k with
     | true=>exact absurd (by rw [hp.mp hq]; exact xY hm) nd.1
     | false=>exact Hm hk (fun q hq=>hn q (.tail _ hq)) nd.2 (by simpa using h)
theorem La {k:wK} (hk:nkD k=true) {kk:List (wK×V)} (hn:∀ p∈kk,nkD p.1=true) (h:k∉kk.map (·.1)):P0 kk k=none:=by
 unfold P0;rw [List.find?_eq_none.mpr]; · rfl
 intro p hp z;exact h (by rw [<- (Mk (U6 (hn p hp)).1 (U6 hk).1).mp z]; exact xY hp)
theorem Paired.at' {α β:Type} {F:α->β->Prop}:∀ {l₁:List α} {l₂:List β} {i:Nat} {a:α},zJ F l₁ l₂->l₁[i]? = some a->∃ b,l₂[i]? = some b/\F a b
 | _,_,i,_,.nil,h=>by simp at h
 | _,_,0,_,.cons r _,h=>by simp at h; subst h; exact ⟨_,rfl,r⟩
 | _,_,i+1,_,.cons _ t,h=>Paired.at' (i:=i) t (by simpa using h)
noncomputable section
variable {X:Cx} {pins:List (wX×Obj)} {Z:St} {H:Hp} {s:wO} {a:wX} {A:yZ} {E:wM->wO->Prop}
theorem Mc (I:Inv X pins Z H s) {d:wK} {v:V} {u:wM} (r:KRep H d v) (hv:RelV v u) (hn:nkD d=true):NAt s.heap u d:=by
 have rr:=aN r;exact ⟨rr.reads I (Same.refl _) hv,(U6 hn).1,rr.lay,(U6 hn).2⟩
abbrev PrN (H:Hp):wK×V->wM×wM->Prop:=fun p q=>(∃ v,KRep H p.1 v/\RelV v q.1)/\RelV p.2 q.2
theorem Pd {w:yC} {kvs:List (wK×V)} {xs:List (wM×wM)} (r:zJ (PrN H) kvs xs) {i:Nat} {e:yU} (he:(U9 w kvs xs)[i]? = some e) :
   ∃ p q,kvs[i]? = some p/\xs[i]? = some q/\PrN H p q/\e=⟨X4 w p.1,q.1,q.2⟩:=by
 unfold U9 at he;rw [List.getElem?_zipWith] at he;cases hp:kvs[i]? with
 | none=>rw [hp] at he; simp at he
 | some p =>
   obtain ⟨q,hq,hF⟩:=Paired.at' r hp; rw [hp,hq] at he; simp at he;exact ⟨p,q,rfl,hq,hF,he.symm⟩
theorem Paired.len' {α β:Type} {F:α->β->Prop}:∀ {l₁:List α} {l₂:List β},zJ F l₁ l₂->l₁.length=l₂.length
 | _,_,.nil=>rfl
 | _,_,.cons _ t=>by simp [Paired.len' t]
theorem Rn (I:Inv X pins Z H s) {kvs:List (wK×V)} {xs:List (wM×wM)} (r:zJ (PrN H) kvs xs) (nk:∀ p∈kvs,nkD p.1=true) (nd:(kvs.map (·.1)).Nodup):EsN X.w s.heap (U9 X.w kvs xs).toArray (kvs.map (·.1)) where
 len:=by
   have:=Paired.len' r; simp [U9,this]
 ent:=fun i e he=>by
   obtain ⟨p,q,h1,h2,⟨⟨v,h3,h4⟩,h5⟩,rfl⟩:=Pd r (by simpa using he);exact ⟨p.1,by rw [xS,h1]; rfl,Mc I h3 h4 (nk p (e8 h1)),rfl⟩
 nd:=nd
theorem uW {kvs:List (wK×V)} {kd:wK} {y d:V} {u r:wM} {Q:wM->wO->Prop} (hu:A.units+16 < i4) (I:Inv X pins Z H s) (e:Rd H a (.dN kvs)) (rk:KRep H kd y) (hk:nkD kd=true) (ry:RelV y u) (rd:RelV d r)
   (h:∀ w' s',Inv X pins Z H s'->RelV ((P0 kvs kd).getD d) w'->Q w' s'):wpAny (xU X.prog X.w) A (call (.builtin "dict.get") [.ref a,u,r]) Q E s:=by
 obtain ⟨z,hd,nd,nk,xs,rel,ep,e1⟩:=e.ok I.hok;refine FK F.slot_dict_get ⟨_,e1,rfl⟩ F.entry_dict_get (F.args_dict_get_3 _ _ _) (cV a u r hd) ⟨_,_,ep,kvs.map (·.1),kd,hu,e1,rfl,Rn I rel nk nd,Mc I rk ry hk,fun i e tk hi he=>h _ _ (I.tok _) ?_,fun tk hn=>h _ _ (I.tok _) ?_⟩
 . obtain ⟨p,q,h1,h2,⟨_,h5⟩,rfl⟩:=Pd rel (by simpa using he)
   rw [xS,h1] at hi; have hp:p=(kd,p.2):=by
     have:p.1=kd:=by simpa using hi
     rw [<- this]
   rw [hp] at h1; rw [Hm hk nk nd h1]; exact h5
 . rw [La hk nk hn]
   exact rd
end
def sV (td ty tx:TE):TE:=fun Z H Q=>td Z H fun x H1=>∃ a kvs,x=.ref a/\Rd H1 a (.dN kvs)/\ty Z H1 fun y H2=>tx Z H2 fun z H3=>∃ kvs kd,Rd H3 a (.dN kvs)/\KRep H3 kd y/\nkD kd=true/\Q ((P0 kvs kd).getD z) H3
noncomputable section
variable {X:Cx} {o e f:Expr} {apos cpos:Pos} {td ty tx:TE}
theorem lF (hu:X.A.units+16 < i4) (ho:PE X o td) (he:PE X e ty) (hf:PE X f tx) (m:M2 X o "get" apos e f cpos):PE X (.Call (.Attribute o "get" apos) [e,f] [] cpos) (sV td ty tx):=by
 intro pins s Z H Q I h;refine wpAny_Call_method m.base m.few m.line FQ PySem.F.slot_dict_get PySem.F.type_dict_get (thn (ho pins s Z H _ I h) fun u s1 hZ2=>?_);obtain ⟨x,H1,I1,rx,a,kvs,ex,d,q1⟩:=hZ2;subst ex;obtain rfl:u=zA a:=rx;obtain ⟨_,_,_,_,_,_,ep,e1⟩:=d.ok I1.hok;refine ⟨⟨_,e1,rfl⟩,fun b q=>by cases q; exact ⟨_,e1,rfl⟩,?_⟩;rw [m.trees];refine AF rfl (DC (AB (thn (he pins s1 Z H1 _ I1 q1) fun iv s2 hY79=>?_)));obtain ⟨y,H2,I2,ry,q2⟩:=hY79;refine AB (thn (hf pins s2 Z H2 _ I2 q2) fun fv s3 hY80=>?_)
 obtain ⟨z,H3,I3,rz,kvs,kd,g,rk,hk,q3⟩:=hY80;refine EI ?_;exact uW hu I3 g rk hk ry rz fun w' s4 I4 rw'=>⟨_,H3,I4,rw',q3⟩
end
noncomputable def kvN (δ:Dn) (i:Nat):Option Kvs:=match δ[i]? with
 | some (.ow (.tuple [.dict kvs,.none]))=>some kvs
 | some (.fd ((.dict [],.none)::kvs))=>some kvs
 | _=>none
theorem SR.kvN {G H:Hp} {Z:St} {δ:Dn} {i:Nat} {kvs:Kvs} (S:SR G H Z δ) (h:kvN δ i=some kvs):∃ q,∃ kk:List (wK×V),Z[i]? = some (some (.ref q))/\Rd H q (.dN kk)/\kvs.map (·.1)=kk.map (·.1)/\RepL G (kvs.map (·.2)) (kk.map (·.2)):=by
 unfold Sm.kvN at h;split at h
 . rename_i kvs' hi
   cases h; obtain ⟨q,hσ,hq,ho⟩:=S.own hi; obtain ⟨kk,hx,hk,hv⟩:=(show OwnK G H q [.dict kvs,.none] from ho);exact ⟨q,kk,hσ,.inl hx,hk,hv⟩
 . rename_i kvs' hi
   cases h; obtain ⟨q,kk,hp,hx,hk,hv⟩:=(show FdOk G (Z[i]?.join) ((.dict [],.none)::kvs) from S.sl i _ hi);refine ⟨q,kk,?_,Rd.mono S.sub hx,hk,hv⟩;cases e:Z[i]? with
   | none=>rw [e] at hp; cases hp
   | some z =>
     rw [e] at hp;cases z with
     | none=>cases hp
     | some z=>cases hp; rfl
 . cases h
noncomputable def Pm (i:Nat) (f g:Dn->Res wK):Dn->Res wK:=fun δ=>match kvN δ i with
 | some kvs=>(f δ).bind fun kd=>(g δ).bind fun dd=>if nkD kd=true then .ok ((G6 kvs kd).getD dd) else .no
 | none=>.no
noncomputable section
variable {P:xT} {w:yC} {K:wQ} {mg:Str->Option wM} {base:yW} {X:Cx} {N:List Str} {sc:Scope} {k:Nat} {df:Bool} {E:EK} {p apos cpos:Pos} {a b:Expr} {f g:Dn->Res wK} {x:Str}
theorem nA (C:Cxt P w K mg base X N sc k df) (i:Nat) (h:okVar N sc i x=true) (hk:DE X E a f) (hg:DE X E b g) (m:M2 X (.Name x p) "get" apos a b cpos:=by exact ⟨rfl,rfl,rfl,rfl⟩):DE X E (.Call (.Attribute (.Name x p) "get" apos) [a,b] [] cpos) (Pm i f g):=by
 refine PE.imp (lF (by have:=C.hu; lia) (okVar.pe C h) hk hg m) fun Z H Q hY81=>?_;obtain ⟨G,δ,S,aft⟩:=hY81;unfold Pm at aft;split at aft
 . rename_i kvs hi
   obtain ⟨q,kk,hσ,hx,hkeys,hvals⟩:=S.kvN hi; refine ⟨.ref q,hσ,q,kk,rfl,hx,?_⟩; refine K2 S aft fun kd v G1 H1 g1 r1 S1 a1=>?_;refine K2 S1 a1 fun dd v2 G2 H2 g2 r2 S2 a2=>?_;split at a2
   . rename_i hn
     refine ⟨kk,kd,Rd.mono g2.h (Rd.mono g1.h hx),Hf S2.sub hn (r1.mono g2.g),hn,?_⟩; rcases Hl (k:=kd) hkeys hvals with ⟨n1,n2⟩ | ⟨d0,v0,n1,n2,rd⟩
     . rw [n1] at a2; rw [n2]
       exact a2 _ G2 H2 (Grow.refl S2.sub) r2
     . rw [n1] at a2; rw [n2]
       exact a2 _ G2 H2 (Grow.refl S2.sub) (rd.mono (g1.g.trans g2.g))
   . exact a2.elim
 . exact aft.elim
end
end Sm
end
noncomputable section
namespace Sm
open PySem PySem.Spec PyProof.Rows PySem.W L2
theorem aU {w:yC} {kvs:List (wK×V)} {xs:List (wM×wM)} {p:wK×V} {q:wM×wM} (h:kvs.length=xs.length):U9 w (kvs++[p]) (xs++[q])=U9 w kvs xs++[⟨X4 w p.1,q.1,q.2⟩]:=by
 unfold U9;rw [List.zipWith_append h]; rfl
theorem Paired.app' {α β:Type} {F:α->β->Prop} {a:α} {b:β} (h:F a b):∀ {l₁:List α} {l₂:List β},zJ F l₁ l₂->zJ F (l₁++[a]) (l₂++[b])
 | _,_,.nil=>.cons h .nil
 | _,_,.cons r t=>.cons r (Paired.app' h t)
noncomputable section
variable {X:Cx} {pins:List (wX×Obj)} {Z:St} {H:Hp} {s:wO} {a:wX} {A:yZ} {E:wM->wO->Prop}
theorem uU {kvs:List (wK×V)} {kd:wK} {y d:V} {u r:wM} {Q:wM->wO->Prop} (hu:A.units+16 < i4) (I:Inv X pins Z H s) (e:H a=some (.dN kvs)) (rk:KRep H kd y) (hk:nkD kd=true) (hz:kvs.length < sizeLine) (ry:RelV y u) (rd:RelV d r)
   (h1:∀ v w' s',P0 kvs kd=some v->Inv X pins Z H s'->RelV v w'->Q w' s') (h0:∀ s',P0 kvs kd=none->Inv X pins Z (upd H a (.dN (kvs++[(kd,d)]))) s'->Q r s'):wpAny (xU X.prog X.w) A (call (.builtin "dict.setdefault") [.ref a,u,r]) Q E s:=by
 obtain ⟨z,hd,nd,nk,xs,rel,ep,e1⟩:=I.hok a _ e;have hl:=Paired.len' rel;have hlen:(U9 X.w kvs xs).length<=sizeLine:=by
   unfold U9; rw [List.length_zipWith]; lia
 refine FK F.slot_dict_setdefault ⟨_,e1,rfl⟩ F.entry_dict_setdefault (F.args_dict_setdefault_3 _ _ _) (Tx a u r hd) ⟨_,ep,kvs.map (·.1),kd,hu,e1,hlen,Rn I rel nk nd,Mc I rk ry hk,fun i e tk hi he=>?_,fun h' tk hn hkeep hnew=>?_⟩
 . obtain ⟨p,q,g1,g2,⟨_,g5⟩,rfl⟩:=Pd rel he
   rw [xS,g1] at hi; have hp:p=(kd,p.2):=by
     have:p.1=kd:=by simpa using hi
     rw [<- this]
   rw [hp] at g1; exact h1 p.2 _ _ (Hm hk nk nd g1) (I.tok _) g5
 . refine h0 _ (La hk nk hn) ?_
   have ht:∀ b ys,H b=some (.tup ys)->(upd H a (.dN (kvs++[(kd,d)]))) b=some (.tup ys):=fun b ys z=>by
     rw [C8 (Rc z e (fun z=>by cases z))]; exact z
   refine I.write (x:=a) (e:=a) (t':=tk) (by rw [e]; exact trivial) (.inl rfl) (fun b o hb q=>hkeep b o hb q) ⟨_,hnew⟩ ⟨by rw [xO]; show _+1<=_; lia,hd,?_,?_,xs++[(u,r)],?_,ep+1,?_⟩
   . rw [yO,AH]
     refine ⟨nd,by simp,fun x hx y hy=>?_⟩;have:y=kd:=by simpa using hy
     subst this; exact fun z=>hn (z▸hx)
   . intro p hp
     rcases xC.mp hp with hp | hp
     . exact nk p hp
     . rw [wS.mp hp]; exact hk
   . exact Paired.app' ⟨⟨y,rk.mono ht,ry⟩,rd⟩ (Paired.mapP rel fun p q hZ2=>by obtain ⟨⟨v,z1,z2⟩,z3⟩:=hZ2; exact ⟨⟨v,z1.mono ht,z2⟩,z3⟩)
   . rw [aU hl]; exact hnew
end
def sU (td ty tx:TE):TE:=fun Z H Q=>td Z H fun x H1=>∃ a kvs,x=.ref a/\H1 a=some (.dN kvs)/\ty Z H1 fun y H2=>tx Z H2 fun z H3=>∃ kvs kd,H3 a=some (.dN kvs)/\KRep H3 kd y/\nkD kd=true/\kvs.length < sizeLine /\
 (∀ v,P0 kvs kd=some v->Q v H3)/\(P0 kvs kd=none->Q z (upd H3 a (.dN (kvs++[(kd,z)]))))
noncomputable section
variable {X:Cx} {o e f:Expr} {apos cpos:Pos} {td ty tx:TE}
theorem lE (hu:X.A.units+16 < i4) (ho:PE X o td) (he:PE X e ty) (hf:PE X f tx) (m:M2 X o "setdefault" apos e f cpos):PE X (.Call (.Attribute o "setdefault" apos) [e,f] [] cpos) (sU td ty tx):=by
 intro pins s Z H Q I h;refine wpAny_Call_method m.base m.few m.line FQ PySem.F.slot_dict_setdefault PySem.F.type_dict_setdefault (thn (ho pins s Z H _ I h) fun u s1 hZ2=>?_);obtain ⟨x,H1,I1,rx,a,kvs,ex,d,q1⟩:=hZ2;subst ex;obtain rfl:u=zA a:=rx;obtain ⟨_,_,_,_,_,_,ep,e1⟩:=I1.hok a _ d;refine ⟨⟨_,e1,rfl⟩,fun b q=>by cases q; exact ⟨_,e1,rfl⟩,?_⟩;rw [m.trees];refine AF rfl (DC (AB (thn (he pins s1 Z H1 _ I1 q1) fun iv s2 hY82=>?_)));obtain ⟨y,H2,I2,ry,q2⟩:=hY82;refine AB (thn (hf pins s2 Z H2 _ I2 q2) fun fv s3 hY83=>?_)
 obtain ⟨z,H3,I3,rz,kvs,kd,g,rk,hk,hz,q3,q4⟩:=hY83;refine EI ?_;exact uU hu I3 g rk hk hz ry rz (fun v w' s4 hv I4 rw'=>⟨v,H3,I4,rw',q3 v hv⟩) fun s4 hv I4=>⟨z,_,I4,rz,q4 hv⟩
end
noncomputable def Oq:List (wK×wK)->wK->wK->List (wK×wK)
 | [],k,v=>[(k,.list [v])]
 | p::r,k,v=>if xA p.1 k=true then (match p.2 with | .list ds=>(p.1,.list (ds++[v])) | d=>(p.1,d))::r else p::Oq r k v
end Sm
end
noncomputable section
namespace Sm
open PySem PySem.Spec PyProof.Rows PySem.W L2
noncomputable def NL (G H H1:Hp):List (wK×wK)->List (wK×wX×List V)->Prop
 | [],[]=>True
 | p::kvs,r::kk=>p.1=r.1/\(∃ ds,p.2=.list ds/\RepL G ds r.2.2)/\(H r.2.1=some (.lst r.2.2)/\G r.2.1=none/\H1 r.2.1=none)/\NL G H H1 kvs kk
 | _,_=>False
abbrev prs (kk:List (wK×wX×List V)):List (wK×V):=kk.map fun r=>(r.1,.ref r.2.1)
noncomputable section
variable {G G' H H' H1:Hp}
theorem NL.keep (g:Same G G'):∀ {kvs:List (wK×wK)} {kk:List (wK×wX×List V)},(∀ r∈kk,H r.2.1=some (.lst r.2.2)->G r.2.1=none->H1 r.2.1=none->H' r.2.1=some (.lst r.2.2)/\G' r.2.1=none)->NL G H H1 kvs kk->NL G' H' H1 kvs kk
 | [],[],_,h=>h
 | [],_::_,_,h=>h
 | _::_,[],_,h=>h
 | _::_,r::_,k,⟨h1,⟨ds,h2,h3⟩,⟨h4,h5,h6⟩,h7⟩=>⟨h1,⟨ds,h2,h3.mono g⟩,⟨(k r (.head _) h4 h5 h6).1,(k r (.head _) h4 h5 h6).2,h6⟩,NL.keep g (fun r hr=>k r (.tail _ hr)) h7⟩
theorem NL.grow (g:Grow G H G' H') {kvs:List (wK×wK)} {kk:List (wK×wX×List V)} (h:NL G H H1 kvs kk):NL G' H' H1 kvs kk:=by
 refine h.keep g.g fun r _ e n _=>⟨g.h _ _ e,?_⟩;cases q:G' r.2.1 with
 | none=>rfl
 | some u =>
   rcases g.fr _ u q with y | y | ⟨ys,rfl⟩
   . rw [n] at y; cases y
   . rw [e] at y; cases y
   . have:=g.gh _ _ q; rw [g.h _ _ e] at this; cases this
theorem NL.mem:∀ {kvs:List (wK×wK)} {kk:List (wK×wX×List V)},NL G H H1 kvs kk->∀ r∈kk,H r.2.1=some (.lst r.2.2)/\G r.2.1=none/\H1 r.2.1=none
 | [],[],_,_,m=>nomatch m
 | [],_::_,h,_,_=>h.elim
 | _::_,[],h,_,_=>h.elim
 | _::_,r::_,⟨_,_,h4,h7⟩,x,m=>by
   rcases wR.mp m with rfl | m
   . exact h4
   . exact NL.mem h7 x m
theorem NL.keys:∀ {kvs:List (wK×wK)} {kk:List (wK×wX×List V)},NL G H H1 kvs kk->kvs.map (·.1)=(prs kk).map (·.1)
 | [],[],_=>rfl
 | [],_::_,h=>h.elim
 | _::_,[],h=>h.elim
 | _::_,_::_,⟨h1,_,_,h7⟩=>by
   simp only [wU,h1]; rw [NL.keys h7]
theorem NL.new {p:wX} {y:V} {kd vd:wK} (rv:Rep G vd y) (hp:H p=some (.lst [y])/\G p=none/\H1 p=none):∀ {kvs:List (wK×wK)} {kk:List (wK×wX×List V)},NL G H H1 kvs kk->P0 (prs kk) kd=none->NL G H H1 (Oq kvs kd vd) (kk++[(kd,p,[y])])
 | [],[],_,_=>⟨rfl,⟨[vd],rfl,RepL.cons rv rfl⟩,hp,trivial⟩
 | [],_::_,h,_=>h.elim
 | _::_,[],h,_=>h.elim
 | q::kvs,r::kk,⟨h1,h2,h4,h7⟩,e=>by
   unfold P0 at e; rw [show prs (r::kk)=(r.1,.ref r.2.1)::prs kk from rfl,xR] at e;cases z:xA r.1 kd with
   | true=>rw [z] at e; cases e
   | false =>
     rw [z] at e; unfold Oq; rw [h1,z,if_neg (by decide)]; exact ⟨h1,h2,h4,NL.new rv hp h7 e⟩
theorem NL.put {kd:wK} {v:V}:∀ {kvs:List (wK×wK)} {kk:List (wK×wX×List V)},NL G H H1 kvs kk->(kk.map (·.2.1)).Nodup->P0 (prs kk) kd=some v ->
   ∃ l xs,v=.ref l/\(∃ r∈kk,r.2=(l,xs))/\∀ (y:V) (vd:wK),Rep G vd y->∃ kk',prs kk'=prs kk/\kk'.map (·.2.1)=kk.map (·.2.1)/\(∀ r∈kk',r.2.2.length<=xs.length+1\/r∈kk)/\NL G (upd H l (.lst (xs++[y]))) H1 (Oq kvs kd vd) kk'
 | [],[],_,_,e=>by cases e
 | [],_::_,h,_,_=>h.elim
 | _::_,[],h,_,_=>h.elim
 | q::kvs,r::kk,⟨h1,⟨ds,h2,h3⟩,⟨h4,h5,h6⟩,h7⟩,nd,e=>by
   rw [wU,zG] at nd; unfold P0 at e; rw [show prs (r::kk)=(r.1,.ref r.2.1)::prs kk from rfl,xR] at e;cases z:xA r.1 kd with
   | true =>
     rw [z] at e; cases e; refine ⟨r.2.1,r.2.2,rfl,⟨r,.head _,rfl⟩,fun y vd rv=>⟨(r.1,r.2.1,r.2.2++[y])::kk,rfl,rfl,fun x hx=>?_,?_⟩⟩
     . rcases wR.mp hx with rfl | hx
       . left; simp
       . exact .inr (.tail _ hx)
     . unfold Oq
       rw [h1,z,if_pos rfl,h2]; refine ⟨rfl,⟨ds++[vd],rfl,h3.append (RepL.cons rv rfl)⟩,⟨D3,h5,h6⟩,h7.keep (Same.refl _) fun x hx e n _=>⟨?_,n⟩⟩;rw [C8 (fun w=>nd.1 (by rw [<- w]; exact xY hx))]; exact e
   | false =>
     rw [z] at e; obtain ⟨l,xs,e1,⟨r0,m0,e0⟩,k⟩:=NL.put h7 nd.2 e; have hl:l∈kk.map (·.2.1):=xK.mpr ⟨r0,m0,by rw [e0]⟩;refine ⟨l,xs,e1,⟨r0,.tail _ m0,e0⟩,fun y vd rv=>?_⟩;obtain ⟨kk',k1,k2,k3,k4⟩:=k y vd rv; refine ⟨r::kk',congrArg (List.cons (r.1,V.ref r.2.1)) k1,congrArg (List.cons r.2.1) k2,fun x hx=>?_,?_⟩
     . rcases wR.mp hx with rfl | hx
       . exact .inr (.head _)
       . rcases k3 x hx with w | w
         . exact .inl w
         . exact .inr (.tail _ w)
     . unfold Oq
       rw [h1,z,if_neg (by decide)]; exact ⟨h1,⟨ds,h2,h3⟩,⟨by rw [C8 (fun w=>nd.1 (by rw [w]; exact hl))]; exact h4,h5,h6⟩,k4⟩
noncomputable def shG (as:List wX) (G H:Hp):Hp:=fun b=>open Classical in if b∈as then H b else G b
theorem kE {as:List wX} {b:wX} (h:b∈as):shG as G H b=H b:=by unfold shG; rw [if_pos h]
theorem Kc {as:List wX} {b:wX} (h:b∉as):shG as G H b=G b:=by unfold shG; rw [if_neg h]
theorem NL.same {kvs:List (wK×wK)} {kk:List (wK×wX×List V)} (h:NL G H H1 kvs kk):Same G (shG (kk.map (·.2.1)) G H):=fun b u e=>by
 by_cases m:b∈kk.map (·.2.1)
 . obtain ⟨r,hr,rfl⟩:=xK.mp m
   rw [(h.mem r hr).2.1] at e; cases e
 . rw [Kc m]; exact e
theorem NL.vals {as:List wX} (s:Same G (shG as G H)):∀ {kvs:List (wK×wK)} {kk:List (wK×wX×List V)},NL G H H1 kvs kk->(∀ r∈kk,r.2.1∈as)->RepL (shG as G H) (kvs.map (·.2)) ((prs kk).map (·.2))
 | [],[],_,_=>rfl
 | [],_::_,h,_=>h.elim
 | _::_,[],h,_=>h.elim
 | q::kvs,r::kk,⟨_,⟨ds,h2,h3⟩,⟨h4,_,_⟩,h7⟩,m=>by
   rw [wU,h2]; exact RepL.cons ⟨r.2.1,r.2.2,rfl,.inl (by rw [kE (m r (.head _))]; exact h4),h3.mono s⟩ (NL.vals s h7 fun x hx=>m x (.tail _ hx))
end
theorem SR.forget {G H:Hp} {Z:St} {δ:Dn} (S:SR G H Z δ) (i:Nat):SR G H Z (δ.set i .un):=by
 have key:∀ (j:Nat) (s:Sl),(δ.set i .un)[j]? = some s->s=.un\/δ[j]? = some s:=fun j s e=>by
   rw [J3] at e;split at e
   . cases e; exact .inl rfl
   . exact .inr e
 refine ⟨S.sub,by simp [S.len],fun j s e=>?_,fun j1 j2 a d1 d2 e1 e2 h1 h2=>?_⟩
 . rcases key j s e with rfl | e
   . trivial
   . exact S.sl j s e
 . rcases key j1 _ e1 with z | e1
   . cases z
   . rcases key j2 _ e2 with z | e2
     . cases z
     . exact S.ap j1 j2 a d1 d2 e1 e2 h1 h2
theorem SSt.forget {G0 H0 G H:Hp} {Z:St} {δ:Dn} (S:SSt G0 H0 G H Z δ) (i:Nat):SSt G0 H0 G H Z (δ.set i .un) :=
 ⟨S.gr,S.sr.forget i,fun j d a e h=>by
   rw [J3] at e;split at e
   . cases e
   . exact S.fr j d a e h⟩
theorem OwnOk.off {G H H':Hp} {a:wX} {d:wK} (e:H' a=H a) (h:OwnOk G H a d):OwnOk G H' a d:=by
 cases d with
 | list ds=>obtain ⟨xs,q,r⟩:=h; exact ⟨xs,e.trans q,r⟩
 | dict kvs=>obtain ⟨xs,q,r⟩:=h; exact ⟨xs,e.trans q,r⟩
 | tuple xs=>exact OwnK.keep (Same.refl _) (fun o q=>e.trans q) h
 | _=>exact (show False from h).elim
theorem SSt.off {G0 H0 G H H':Hp} {Z:St} {δ:Dn} (S:SSt G0 H0 G H Z δ) (h0:Same H0 H') (hg:Same G H') (k:∀ (j:Nat) (d:wK) (a:wX),δ[j]? = some (.ow d)->Z[j]?.join=some (.ref a)->H' a=H a):SSt G0 H0 G H' Z δ:=by
 refine ⟨⟨S.gr.g,h0,hg,S.gr.fr⟩,⟨hg,S.sr.len,fun j s e=>?_,S.sr.ap⟩,S.fr⟩;have hs:=S.sr.sl j s e;cases s with
 | un=>trivial
 | sh d=>exact hs
 | fd _=>exact hs
 | ow d =>
   obtain ⟨a,e1,n1,ok⟩:=hs; exact ⟨a,e1,n1,ok.off (k j d a e e1)⟩
end Sm
end
noncomputable section
namespace Sm
open PySem PySem.Spec PyProof.Rows PySem.W L2
noncomputable def Ty (δ:Dn) (t:Nat) (c:Dn->Res Bool) (fk fv:Dn->Res wK):List wK->List (wK×wK)->Res Kvs
 | [],kvs=>.ok kvs
 | d::ds,kvs=>match c (δ.set t (.sh d)) with
   | .ok true=>match fk (δ.set t (.sh d)) with
     | .ok kd=>match fv (δ.set t (.sh d)) with
       | .ok vd=>if nkD kd=true then Ty δ t c fk fv ds (Oq kvs kd vd) else .no
       | _=>.no
     | _=>.no
   | .ok false=>Ty δ t c fk fv ds kvs
   | _=>.no
noncomputable def oJ (i t:Nat) (src:Dn->Res (List wK)) (c:Dn->Res Bool) (fk fv:Dn->Res wK):Dn->Out:=fun δ=>match δ[i]? with
 | some (.ow (.tuple [.dict [],.none]))=>O7 (src (δ.set i .un)) fun ds=>if ds.length < 1000/\i≠t then (match Ty ((δ.set i .un).set t .un) t c fk fv ds [] with
   | .ok kvs=>.nx ((δ.set i (.ow (.tuple [.dict kvs,.none]))).set t .un)
   | _=>.no) else .no
 | _=>.no
structure GrpAt (G1 H0 H1:Hp) (i:Nat) (q:wX) (δv:Dn) (n:Nat) (τ:St) (Hc:Hp) (kvs:List (wK×wK)):Prop where
 ex:∃ Gc kk,SSt G1 H0 Gc Hc τ δv/\Gc q=none/\Hc q=some (.dN (prs kk))/\NL Gc Hc H1 kvs kk/\(kk.map (·.2.1)).Nodup/\kk.length<=n/\∀ r∈kk,r.2.2.length<=n
 hi:τ[i]? = some (some (.ref q))
 ap:∀ (j:Nat) (d:wK) (a:wX),δv[j]? = some (.ow d)->τ[j]?.join=some (.ref a)->a≠q/\∃ o,H1 a=some o
 kp:∀ b o,H1 b=some o->∃ o',Hc b=some o'
theorem Qh {H1 H:Hp} {p:wX} {o:HO} (h:∀ b o,H1 b=some o->∃ o',H b=some o'):∀ b u,H1 b=some u->∃ o',(upd H p o) b=some o':=fun b u e=>by
 by_cases z:b=p
 . subst z; exact ⟨_,D3⟩
 . rw [C8 z]; exact h b u e
theorem V6 {H1 H H':Hp} (s:Same H H') (h:∀ b o,H1 b=some o->∃ o',H b=some o'):∀ b u,H1 b=some u->∃ o',H' b=some o':=fun b u e=>by
 obtain ⟨o',z⟩:=h b u e;exact ⟨o',s _ _ z⟩
theorem Grow.stay {G H G' H':Hp} (g:Grow G H G' H') {q:wX} {o:HO} (n:G q=none) (e:H q=some o) (h:∀ ys,o≠.tup ys):G' q=none:=by
 cases z:G' q with
 | none=>rfl
 | some u =>
   rcases g.fr q u z with y | y | ⟨ys,rfl⟩
   . rw [n] at y; cases y
   . rw [e] at y; cases y
   . have:=g.gh _ _ z; rw [g.h _ _ e] at this; cases this; exact absurd rfl (h ys)
theorem Eo {H0 H:Hp} {p:wX} {o:HO} (s:Same H0 H) (h:H0 p=none):Same H0 (upd H p o):=fun b u e=>by
 rw [C8 (E6 e h)]; exact s _ _ e
theorem OwnOk.monoG {G G' H:Hp} {a:wX} {d:wK} (g:Same G G') (h:OwnOk G H a d):OwnOk G' H a d:=by
 cases d with
 | list ds=>obtain ⟨xs,q,r⟩:=h; exact ⟨xs,q,r.mono g⟩
 | dict kvs=>obtain ⟨xs,q,k,r⟩:=h; exact ⟨xs,q,k,r.mono g⟩
 | tuple xs=>exact OwnK.keep g (fun o q=>q) h
 | _=>exact (show False from h).elim
noncomputable section
variable {P:xT} {w:yC} {K:wQ} {mg:Str->Option wM} {base:yW} {X:Cx} {N:List Str} {sc:Scope} {k:Nat} {df:Bool} {E:EK} {p px pl ap1 cp1 ap2 cp2 ep ip pos:Pos} {ke ve ce iter:Expr} {fk fv:Dn->Res wK} {c:Dn->Res Bool} {src:Dn->Res (List wK)} {x y:Str}
theorem s_grp (C:Cxt P w K mg base X N sc k df) (i t:Nat) (ht:okSet N sc df t y=true) (h:okVar N sc i x=true) (hi:DI X E (.Name y px) iter src) (hc:DT X E ce c) (hk:DE X E ke fk) (hv:DE X E ve fv)
   (m2:M2 X (.Name x p) "setdefault" ap1 ke (.List [] pl) cp1) (hs:∀ x,zS iter X.env x=pure x)
   (hbase:m4 (.Call (.Attribute (.Name x p) "setdefault" ap1) [ke,.List [] pl] [] cp1) "append" X.env (eval (.Call (.Attribute (.Name x p) "setdefault" ap1) [ke,.List [] pl] [] cp1) X.env)=eval (.Call (.Attribute (.Name x p) "setdefault" ap1) [ke,.List [] pl] [] cp1) X.env)
   (hfew:((zP cp2 (wY [ve] X.env)).all (fun x => !x.1)&&(CW cp2 (AN [] X.env)).all (fun x=>x.1.isSome)&&decide ([ve].length+([]:List y9).length+(if ([]:List y9).isEmpty then 0 else 1) < 30))=true)
   (hline:(ap2.endLine==cp2.line)=true) (hst:wY [ve] X.env=(false,eval ve X.env)::wY [] X.env) (hplain:(zP cp2 (wY [] X.env)).any (·.1)=false)
   (hsw:j3 (.Call (.Attribute (.Call (.Attribute (.Name x p) "setdefault" ap1) [ke,.List [] pl] [] cp1) "append" ap2) [ve] [] cp2) none ep.line X.env=pure false) :
   DS X E (.For (.Name y px) iter [.If ce [.Expr (.Call (.Attribute (.Call (.Attribute (.Name x p) "setdefault" ap1) [ke,.List [] pl] [] cp1) "append" ap2) [ve] [] cp2) ep] [] ip] [] pos) (oJ i t src c fk fv):=fun G0 H0=>by
 obtain ⟨d1,d2,d3,d4⟩:=okSet.ok C ht;have app:=Oz (pos:=ep) (Zy z9 FO FN Mf (lE (by have:=C.hu; lia) (okVar.pe C h (p:=p)) hk (lG (pos:=pl) Z5) m2) (P7 hv Z5 hst) hbase hfew hline hst hplain) hsw;refine PS.imp (kY (pos:=pos) C.own C.calm hi (Dk d1 d2 d3 d4) (Kn (rW (pos:=ip) hc (Kn app) eN)) hs) fun D Z H hh=>?_;obtain ⟨G,δ,S,aft⟩:=hh;unfold oJ at aft;split at aft
 . rename_i hsl
   obtain ⟨q,hσ,hgq,ho⟩:=S.sr.own hsl; obtain ⟨kk0,hx,hkeys,_⟩:=(show OwnK G H q [.dict [],.none] from ho);have hk0:kk0=[]:=by
     cases kk0 with
     | nil=>rfl
     | cons _ _=>cases hkeys
   subst hk0; have hil:i < δ.length:=(xQ.mp hsl).1; have hq0:H0 q=none:=S.fr i _ q hsl (by rw [hσ]; rfl);refine nN (S.forget i) aft fun ds J G1 H1 gr W S1 a1=>?_;split at a1
   . rename_i hcond
     obtain ⟨hlen,hit⟩:=hcond; have g01:=S1.gr;cases eout:Ty ((δ.set i .un).set t .un) t c fk fv ds [] with
     | ok out =>
       rw [eout] at a1; have S2:=(S1.forget t).rebase g01 (Same.refl _);generalize hδv:(δ.set i .un).set t .un=δv at *;have apv:∀ (j:Nat) (d:wK) (a:wX),δv[j]? = some (.ow d)->δ[j]? = some (.ow d)/\j≠i:=fun j d a e=>by
         rw [<- hδv,J3] at e;split at e
         . cases e
         . rw [J3] at e
           split at e
           . cases e
           . rename_i hn
             exact ⟨e,fun z=>by subst z; exact hn ⟨rfl,hil⟩⟩
       have hG1q:G1 q=none:=by
         cases z:G1 q with
         | none=>rfl
         | some u =>
           rcases gr.fr q u z with y | y | ⟨ys,rfl⟩
           . rw [hgq] at y; cases y
           . rw [hx] at y; cases y
           . have:=gr.gh _ _ z; rw [gr.h _ _ hx] at this; cases this
       refine ⟨fun n m τ Hc=>m=ds.length - n/\n<=ds.length/\∃ kvs,GrpAt G1 H0 H1 i q δv n τ Hc kvs/\Ty δv t c fk fv (ds.drop n) kvs=.ok out,⟨_,rfl,l7 _,[],⟨⟨G1,[],S2,hG1q,gr.h _ _ hx,trivial,.nil,xH _,fun _ h=>nomatch h⟩,hσ,fun j d a e1 e2=>?_,fun b o e=>⟨o,e⟩⟩,by rw [BJ]; exact eout⟩,?_⟩
       . obtain ⟨e3,hne⟩:=apv j d a e1
         refine ⟨fun z=>hne (S.sr.ap j i q d _ e3 hsl (z▸e2) (by rw [hσ]; rfl)),?_⟩;obtain ⟨a',h1,_,h3⟩:=S.sr.sl j _ e3; rw [e2] at h1; cases h1; obtain ⟨o,z⟩:=h3.some; exact ⟨o,gr.h _ _ z⟩
       rintro n m τ Hc ⟨rfl,hn,kvs,⟨⟨Gc,kk,Sc,gq,dq,nl,nd,kl,rl⟩,hτ,ap,kp⟩,eg⟩;by_cases hlt:n < ds.length
       . have hd:ds[n]? = some ds[n]:=yJ hlt
         rw [i7 hlt] at eg; unfold Ty at eg; refine .inr ⟨W.go n Hc hlt (Sc.gr.g.trans Sc.sr.sub),fun τ2 H2=>∃ kvs,GrpAt G1 H0 H1 i q δv (n+1) τ2 H2 kvs/\Ty δv t c fk fv (ds.drop (n+1)) kvs=.ok out,fun τ2 H2 z=>⟨_,by lia,rfl,hlt,z⟩,fun v H'' hy=>?_⟩;obtain ⟨G3,g3,r3⟩:=W.yld n _ Gc Hc v H'' hd Sc.gr.g Sc.sr.sub hy; have S3:=(Sc.grow g3).set_sh (i:=t) r3; have nl3:=nl.grow g3; have dq3:=g3.h _ _ dq; have gq3:G3 q=none:=g3.stay gq dq fun ys z=>by cases z
         have h01:Same H0 H1:=S1.gr.h; have hback:((δv.set t (.sh ds[n])).set t .un)=δv:=by rw [<- hδv]; simp
         have hτ':(τ.set t (some v))[i]? = some (some (.ref q)):=by rw [AY (Ne.symm hit)]; exact hτ
         have htv:∀ (j:Nat) (d:wK),δv[j]? = some (.ow d)->j≠t:=fun j d e z=>by
           subst z; rw [<- hδv,J3] at e;split at e
           . cases e
           . rename_i hn
             have:=(xQ.mp e).1; rw [List.length_set] at this; exact hn ⟨rfl,by rw [List.length_set]; exact this⟩
         have ap':∀ (j:Nat) (d:wK) (a:wX),δv[j]? = some (.ow d)->(τ.set t (some v))[j]?.join=some (.ref a)->a≠q/\∃ o,H1 a=some o:=fun j d a e1 e2=>by
           rw [AY (Ne.symm (htv j d e1))] at e2; exact ap j d a e1 e2
         have apb:∀ (j:Nat) (d:wK) (a:wX),(δv.set t (.sh ds[n]))[j]? = some (.ow d)->(τ.set t (some v))[j]?.join=some (.ref a)->a≠q/\∃ o,H1 a=some o:=fun j d a e1 e2=>by
           rw [J3] at e1;split at e1
           . cases e1
           . exact ap' j d a e1 e2
         show tIfS _ _ _ _ (τ.set t (some v)) H'';generalize hδb:δv.set t (.sh ds[n])=δb at *;generalize τ.set t (some v)=τ' at *;have fin:∀ (Gz Hz:Hp) (kz:List (wK×wK)) (kkz:List (wK×wX×List V)),SSt G1 H0 Gz Hz τ' δb->Gz q=none->Hz q=some (.dN (prs kkz))->NL Gz Hz H1 kz kkz->(kkz.map (·.2.1)).Nodup->kkz.length<=n+1->(∀ r∈kkz,r.2.2.length<=n+1)->(∀ b o,H1 b=some o->∃ o',Hz b=some o')->GrpAt G1 H0 H1 i q δv (n+1) τ' Hz kz:=fun Gz Hz kz kkz s1 s2 s3 s4 s5 s6 s7 s8=>by
           have:=s1.forget t; rw [hback] at this; exact ⟨⟨Gz,kkz,this,s2,s3,s4,s5,s6,s7⟩,hτ',ap',s8⟩
         refine ⟨G3,δb,S3.sr,?_⟩;cases ec:c δb with
         | exc _=>rw [ec] at eg; cases eg
         | no=>rw [ec] at eg; cases eg
         | ok bb =>
           rw [ec] at eg; intro G4 H4 g4; have S4:=S3.grow g4; have nl4:=nl3.grow g4; have dq4:=g4.h _ _ dq3; have kp4:=V6 g4.h (V6 g3.h kp); have gq4:G4 q=none:=g4.stay gq3 dq3 fun ys z=>by cases z
           cases bb with
           | false =>
             rw [if_neg (by decide)]; exact ⟨kvs,fin G4 H4 kvs kk S4 gq4 dq4 nl4 nd (by lia) (fun r hr=>AL (rl r hr)) kp4,eg⟩
           | true =>
             rw [if_pos rfl]; dsimp only at eg;cases efk:fk δb with
             | exc _=>rw [efk] at eg; cases eg
             | no=>rw [efk] at eg; cases eg
             | ok kd =>
               rw [efk] at eg; dsimp only at eg;cases efv:fv δb with
               | exc _=>rw [efv] at eg; cases eg
               | no=>rw [efv] at eg; cases eg
               | ok vd =>
                 rw [efv] at eg; dsimp only at eg;split at eg
                 . rename_i hnk
                   refine ⟨.ref q,hτ',q,prs kk,rfl,dq4,G4,δb,S4.sr,?_⟩; rw [efk]; intro y5 G5 H5 g5 r5; have S5:=S4.grow g5; refine ⟨l7 _,fun p hp=>?_⟩;have g6:Grow G5 H5 G5 (upd H5 p (.lst [])):=Grow.own S5.sr.sub hp; have S6:=S5.grow g6; have nl6:=(nl4.grow g5).grow g6; have dq5:=g5.h _ _ dq4; have hpq:q≠p:=E6 dq5 hp; have dq6:(upd H5 p (.lst [])) q=some (.dN (prs kk)):=g6.h _ _ dq5; have gq5:G5 q=none:=g5.stay gq4 dq4 fun ys z=>by cases z
                   have hz:(prs kk).length < sizeLine:=by
                     have:(1000:Nat)<=sizeLine:=by decide
                     rw [wT]; lia
                   refine ⟨prs kk,kd,dq6,Hf S6.sr.sub hnk r5,hnk,hz,fun v0 hv0=>?_,fun hn0=>?_⟩
                   . obtain ⟨l,xs,e1,⟨r0,m0,e0⟩,_⟩:=NL.put nl6 nd hv0
                     subst e1; have hm6:=nl6.mem r0 m0; rw [e0] at hm6; refine ⟨.inl ⟨rfl,xs,.inl (.inl hm6.1)⟩,G5,δb,S6.sr,?_⟩; rw [efv]; intro y7 G7 H7 g7 r7; have S7:=S6.grow g7; have nl7:=nl6.grow g7; have dq7:=g7.h _ _ dq6; have gq7:G7 q=none:=g7.stay gq5 dq6 fun ys z=>by cases z
                     have hm7:=nl7.mem r0 m0; rw [e0] at hm7; have hxs:xs.length<=n:=by have:=rl r0 m0; rw [e0] at this; exact this
                     have hql:q≠l:=Rc dq7 hm7.1 fun z=>by cases z
                     obtain ⟨l',xs',e1',⟨r1,m1,e1r⟩,kp⟩:=NL.put nl7 nd hv0;cases e1'; have hm1:=nl7.mem r1 m1; rw [e1r] at hm1; have exs:xs'=xs:=by have:=hm1.1.symm.trans hm7.1; cases this; rfl
                     subst exs; obtain ⟨kk',k1,k2,k3,k4⟩:=kp y7 vd r7; refine ⟨l,xs',y7,rfl,rfl,hm7.1,BM hxs (xZ (show n < 1000 by lia) (by decide)),Oq kvs kd vd,fin G7 _ _ kk' (S7.off (Eo S7.gr.h (h01.free hm7.2.2)) (Eo S7.sr.sub hm7.2.1) fun j d a z1 z2=>?_) gq7 (by rw [C8 hql,k1]; exact dq7) k4 (by rw [k2]; exact nd) ?_ (fun r hr=>?_) (Qh (V6 g7.h (V6 g6.h (V6 g5.h kp4)))),eg⟩
                     . obtain ⟨_,o,ho⟩:=apb j d a z1 z2
                       rw [C8 (E6 ho hm7.2.2)]
                     . have:=congrArg AX k2
                       rw [wT,wT] at this;lia
                     . rcases k3 r hr with z | z
                       . lia
                       . exact AL (rl r z)
                   . have hH1p : H1 p = none := by
                       cases z:H1 p with
                       | none=>rfl
                       | some u =>
                         obtain ⟨o',w⟩:=V6 g5.h kp4 p u z; rw [hp] at w; cases w
                     have hG5p:G5 p=none:=S5.sr.sub.free hp; have hp6:(upd H5 p (.lst [])) p=some (.lst []):=D3; have S7:SSt G1 H0 G5 (upd (upd H5 p (.lst [])) q (.dN (prs kk++[(kd,.ref p)]))) τ' δb:=S6.off (Eo S6.gr.h hq0) (Eo S6.sr.sub gq5) fun j d a z1 z2=>by rw [C8 (apb j d a z1 z2).1]
                     have hp7:(upd (upd H5 p (.lst [])) q (.dN (prs kk++[(kd,.ref p)]))) p=some (.lst []):=by rw [C8 (Ne.symm hpq)]; exact hp6
                     refine ⟨.inl ⟨rfl,[],.inl (.inl hp7)⟩,G5,δb,S7.sr,?_⟩; rw [efv]; intro y8 G8 H8 g8 r8; have S8:=S7.grow g8; have hp8:=g8.h _ _ hp7; have gp8:G8 p=none:=g8.stay hG5p hp7 fun ys z=>by cases z
                     have dq7:(upd (upd H5 p (.lst [])) q (.dN (prs kk++[(kd,.ref p)]))) q=some (.dN (prs kk++[(kd,.ref p)])):=D3; have dq8:=g8.h _ _ dq7; have gq8:G8 q=none:=g8.stay gq5 dq7 fun ys z=>by cases z
                     have nl7:NL G5 (upd (upd H5 p (.lst [])) q (.dN (prs kk++[(kd,.ref p)]))) H1 kvs kk:=nl6.keep (Same.refl _) fun r _ e n _=>⟨by rw [C8 (Rc e dq6 fun z=>by cases z)]; exact e,n⟩;have hne:∀ r∈kk,r.2.1≠p:=fun r hr=>E6 ((nl4.grow g5).mem r hr).1 hp;have nl9:NL G8 (upd H8 p (.lst [y8])) H1 kvs kk:=(nl7.grow g8).keep (Same.refl _) fun r hr e n _=>⟨by rw [C8 (hne r hr)]; exact e,n⟩;refine ⟨p,[],y8,rfl,rfl,hp8,by show 0 < sizeLine; decide,Oq kvs kd vd,fin G8 _ _ (kk++[(kd,p,[y8])]) (S8.off (Eo S8.gr.h (h01.free hH1p)) (Eo S8.sr.sub gp8) fun j d a z1 z2=>?_) gq8 ?_ (NL.new r8 ⟨D3,gp8,hH1p⟩ nl9 hn0) ?_ (by rw [xO]; show _+1<=_; lia) (fun r hr=>?_) (Qh (V6 g8.h (Qh (V6 g6.h (V6 g5.h kp4))))),eg⟩
                     . obtain ⟨_,o,ho⟩:=apb j d a z1 z2
                       show (upd H8 p (.lst ([]++[y8]))) a=H8 a;rw [C8 (E6 ho hH1p)]
                     . show (upd H8 p (.lst ([]++[y8]))) q=_
                       rw [C8 hpq,dq8]; unfold prs; rw [yO]; rfl
                     . rw [yO,AH]
                       refine ⟨nd,by simp,fun a ha b hb=>?_⟩;obtain ⟨r,hr,rfl⟩:=xK.mp ha; have:b=p:=by simpa using hb
                       subst this; exact hne r hr
                     . rcases xC.mp hr with hr | hr
                       . exact AL (rl r hr)
                       . rw [wS.mp hr]; show 1<=n+1; lia
                 . cases eg
       . refine .inl ⟨W.stop n Hc (i8.mp hlt) (Sc.gr.g.trans Sc.sr.sub),?_⟩
         rw [AJ (i8.mp hlt)] at eg; cases eg; have hq':q∉kk.map (·.2.1):=fun z=>by
           obtain ⟨r,hr,e⟩:=xK.mp z; have:=(nl.mem r hr).1; rw [e,dq] at this; cases this
         have Su:=Sc.unbase g01; have sm:=nl.same; have gh:Same (shG (kk.map (·.2.1)) Gc Hc) Hc:=fun b u e=>by
           by_cases m:b∈kk.map (·.2.1)
           . rw [kE m] at e; exact e
           . rw [Kc m] at e; exact Sc.sr.sub _ _ e
         refine a1 τ (shG (kk.map (·.2.1)) Gc Hc) Hc ⟨⟨Su.gr.g.trans sm,Su.gr.h,gh,fun b o e=>?_⟩,⟨gh,?_,fun j s e=>?_,fun j1 j2 a e1' e2' z1 z2 h1 h2=>?_⟩,fun j d a e h=>?_⟩
         . by_cases m:b∈kk.map (·.2.1)
           . obtain ⟨r,hr,rfl⟩:=xK.mp m
             exact .inr (.inl (S1.gr.h.free (nl.mem r hr).2.2))
           . rw [Kc m] at e; exact Su.gr.fr b o e
         . have:=Sc.sr.len
           rw [<- hδv] at this;simpa using this
         . rw [J3] at e
           split at e
           . cases e; trivial
           . rename_i hjt
             rw [J3] at e;split at e
             . rename_i hji
               cases e; rw [<- hji.1,hτ]; exact ⟨q,rfl,by rw [Kc hq']; exact gq,prs kk,dq,nl.keys,nl.vals sm fun r hr=>xY hr⟩
             . rename_i hji
               have ev:δv[j]? = some s:=by
                 rw [<- hδv,J3,if_neg (by simpa using hjt),J3,if_neg hji]; exact e
               have hs:=Sc.sr.sl j s ev;cases s with
               | un=>trivial
               | sh d=>obtain ⟨v,e1,r1⟩:=hs; exact ⟨v,e1,r1.mono sm⟩
               | fd _=>exact FdOk.mono sm hs
               | ow d =>
                 obtain ⟨a,e1,n1,ok⟩:=hs; have hna:a∉kk.map (·.2.1):=fun z=>by
                   obtain ⟨r,hr,er⟩:=xK.mp z; obtain ⟨_,o,ho⟩:=ap j d a ev e1; have:=(nl.mem r hr).2.2; rw [er,ho] at this; cases this
                 exact ⟨a,e1,by rw [Kc hna]; exact n1,ok.monoG sm⟩
         . have key : ∀ (j : Nat) (d : wK), ((δ.set i (.ow (.tuple [.dict out, .none]))).set t .un)[j]? = some (.ow d) -> j = i \/ δv[j]? = some (.ow d) := fun j d e => by
             rw [J3] at e;split at e
             . cases e
             . rename_i hjt
               rw [J3] at e;split at e
               . rename_i hji; exact .inl hji.1.symm
               . rename_i hji
                 exact .inr (by rw [<- hδv,J3,if_neg (by simpa using hjt),J3,if_neg hji]; exact e)
           rcases key j1 _ z1 with rfl | y1
           . rcases key j2 _ z2 with rfl | y2
             . rfl
             . rw [hτ] at h1; cases h1
               exact absurd rfl (ap j2 _ _ y2 h2).1
           . rcases key j2 _ z2 with rfl | y2
             . rw [hτ] at h2; cases h2
               exact absurd rfl (ap j1 _ _ y1 h1).1
             . exact Sc.sr.ap j1 j2 a _ _ y1 y2 h1 h2
         . rw [J3] at e
           split at e
           . cases e
           . rename_i hjt
             rw [J3] at e;split at e
             . rename_i hji
               rw [<- hji.1,hτ] at h; cases h;exact hq0
             . rename_i hji
               exact Sc.fr j d a (by rw [<- hδv,J3,if_neg (by simpa using hjt),J3,if_neg hji]; exact e) h
     | exc _=>rw [eout] at a1; exact (show False from a1).elim
     | no=>rw [eout] at a1; exact (show False from a1).elim
   . exact (show False from a1).elim
 . exact (show False from aft).elim
end
end Sm
end
noncomputable section
namespace Sm
open PySem PySem.Spec PyProof.Rows PySem.W L2
theorem lJ {X:Cx} {pos:Pos}:PE X (.Dict [] [] pos) (fun Z H Q=>∀ q,H q=none->Q (.ref q) (upd H q (.dN []))):=by
 intro pins s Z H Q I h;refine zU (lI (X:=X) (pos:=pos) pins s Z H (fun v H1=>∃ q,v=.ref q/\H q=none/\H1=upd H q (.dT [])) I fun q hq=>⟨q,rfl,hq,rfl⟩) (fun v s1 hh=>?_) fun _ _ e=>e;obtain ⟨x,H1,I1,rx,q,rfl,hq,rfl⟩:=hh;have hx:(upd H q (.dT [])) q=some (.dT []):=D3;obtain ⟨z,hs,xs,rel,o,es,ep,e1,hex,hdat,hes,hnd⟩:=I1.hok q _ hx;have hxs:xs=[]:=by
   cases rel; rfl
 subst hxs;have hes':es = #[]:=by
   have:es.toList=[]:=hes; exact Array.toList_eq_nil_iff.mp this
 subst hes';obtain ⟨oc,od,odt,osl⟩:=o;obtain ⟨c1,c2,c3⟩:=hex;simp only at c1 c2 c3 hdat;subst c1 c2 c3 hdat;refine ⟨.ref q,upd H q (.dN []),?_,rx,h q hq⟩;have:=I1.write (x:=q) (e:=q) (o:=.dN []) (t':=s1.toks) (h':=s1.heap) (by rw [hx]; exact trivial) (.inl rfl) (fun b u _ w=>w) ⟨_,e1⟩ ⟨l7 _,hs,.nil,(fun _ h=>nomatch h),[],.nil,ep,e1⟩;rw [Wg] at this;exact this
noncomputable def Eh (i:Nat):Dn->Out:=fun δ=>.nx (δ.set i (.ow (.tuple [.dict [],.none])))
noncomputable section
variable {P:xT} {w:yC} {K:wQ} {mg:Str->Option wM} {base:yW} {X:Cx} {N:List Str} {sc:Scope} {k:Nat} {df:Bool} {E:EK} {pos p p2:Pos} {a:Expr} {x:Str}
theorem Kh (C:Cxt P w K mg base X N sc k df) (i:Nat) (ho:okSet N sc df i x=true) (hs:j3 (.Dict [] [] p2) (some (.Name x p)) pos.line X.env=pure false:=by rfl):DS X E (.Assign [.Name x p] (.Dict [] [] p2) pos) (Eh i):=fun G0 H0=>by
 obtain ⟨h1,h2,h3,h4⟩:=okSet.ok C ho;refine PS.imp (Ly h1 h2 h3 lJ hs h4) fun D Z H hh q hq=>?_;obtain ⟨G,δ,S,a⟩:=hh;have S1:=S.grow (Grow.own (o:=.dN []) S.sr.sub hq);exact a _ G _ (S1.set_ow (S.gr.h.free hq) (S.sr.sub.free hq) (show OwnK G _ q [.dict [],.none] from ⟨[],D3,rfl,rfl⟩) (Dd S hq))
end
def AftN (E:EK) (G H:Hp) (r:Res Kvs) (Q:VK):Prop:=match r with
 | .ok kvs=>∀ p G' H',Grow G H G' H'->H p=none->G' p=none->OwnOk G' H' p (.tuple [.dict kvs,.none])->Q (.ref p) H'
 | .exc c=>∀ G' H',Grow G H G' H'->E c H'
 | .no=>False
def tN (E:EK) (f:Dn->Res Kvs):TE:=fun Z H Q=>∃ G δ,SR G H Z δ/\AftN E G H (f δ) Q
abbrev DN (X:Cx) (E:EK) (e:Expr) (f:Dn->Res Kvs):Prop:=PE X e (tN E f)
def DSN (X:Cx) (E:EK) (sts:List n0) (g:Dn->Res Kvs):Prop:=∀ G0 H0,PSs X sts (fun D Z H=>∃ G δ,SSt G0 H0 G H Z δ/\AftN E G0 H0 (g δ) D.rt)
noncomputable def Xn (i:Nat):Dn->Res Kvs:=fun δ=>match δ[i]? with
 | some (.ow (.tuple [.dict kvs,.none]))=>.ok kvs
 | _=>.no
def spN (n:Nat) (m:List wK->Res Kvs):Sp:=fun vs H Q _=>∃ G ds kvs,Same G H/\RepL G ds vs/\ds.length=n/\m ds=.ok kvs/\∀ p G' H',Grow G H G' H'->H p=none->G' p=none->OwnOk G' H' p (.tuple [.dict kvs,.none])->Q (.ref p) H'
structure FnN (P:xT) (w:yC) (K:wQ) (mg:Str->Option wM) (base:yW) (x:Str) (k n:Nat) (m:List wK->Res Kvs):Prop where
 ex:∃ f fd ps,ps.length=n/\FnOk P w K mg base CX0 k f fd ps (spN n m)/\mg x=some (.ref f)/\zR K (.ref f)=true/\Binds K fd ps []
noncomputable def Y8 (i:Nat) (f:Dn->Res Kvs):Dn->Out:=fun δ=>O7 (f δ) fun kvs=>.nx (δ.set i (.ow (.tuple [.dict kvs,.none])))
noncomputable section
variable {P:xT} {w:yC} {K:wQ} {mg:Str->Option wM} {base:yW} {X:Cx} {N:List Str} {sc:Scope} {k:Nat} {df:Bool} {E:EK} {pos p:Pos} {e:Expr} {es:List Expr} {fs:Dn->Res (List wK)} {fx:Dn->Res Kvs} {x:Str} {st:n0} {sts:List n0} {g1:Dn->Out} {g2:Dn->Res Kvs}
theorem eZ (C:Cxt P w K mg base X N sc k df) (i:Nat) (h:okVar N sc i x=true):DSN X E [.Return (some (.Name x p)) pos] (Xn i):=fun G0 H0=>by
 refine PSs.imp (Kn (cP (okVar.pe C h))) fun D Z H hh=>?_;obtain ⟨G,δ,S,a⟩:=hh;unfold Xn at a;split at a
 . rename_i kvs hi
   obtain ⟨q,hσ,hg,ho⟩:=S.sr.own hi; exact ⟨.ref q,hσ,a q G H S.gr (S.fr i _ q hi (by rw [hσ]; rfl)) hg ho⟩
 . exact (show False from a).elim
theorem Ei (h1:DS X E st g1) (h2:DSN X E sts g2):DSN X E (st::sts) (Gn g1 g2):=fun G0 H0=>by
 refine PSs.imp (Zx (h1 G0 H0) (h2 G0 H0)) fun D Z H hh=>?_;obtain ⟨G,δ,S,a⟩:=hh;refine ⟨G,δ,S,?_⟩;unfold Gn at a;cases e:g1 δ with
 | nx δ'=>rw [e] at a; exact fun Z' G' H' S'=>⟨G',δ',S',a⟩
 | exc d=>rw [e] at a; exact a
 | rt d=>rw [e] at a; exact (show False from a).elim
 | bk d=>rw [e] at a; exact (show False from a).elim
 | ct d=>rw [e] at a; exact (show False from a).elim
 | no=>rw [e] at a; exact (show False from a).elim
theorem qL {x:Str} {st:n0} {ps:List Str} {n:Nat} {go:Dn->Res Kvs} {m:List wK->Res Kvs} (F:Def K mg x st ps) (S:FnScope N ps (A7 st)) (hn:ps.length=n)
   (body:∀ X,Cxt P w K mg base X N (A7 st) k true->DSN X E0k (B9 st) go) (hm:m=fnW N go):FnN P w K mg base x (k+1) n m:=by
 obtain ⟨f,fd,F,hmg,hb⟩:=F.ex;refine ⟨f,fd,ps,hn,?_,hmg,F.kp,hb⟩;subst hm;refine F.ok S (fun vs H Q E h=>?_) (fun cdv A outer s H vs Q E hr h=>?_)
 . obtain ⟨G,ds,d,_,r,hl,_⟩:=h
   rw [<- r.length,hl,hn]
 . obtain ⟨G,ds,kvs,hG,r,hl,em,q⟩:=h
   refine ⟨_,body _ ⟨rfl,rfl,rfl,rfl,rfl,rfl,rfl,rfl,hr,fun _ _=>rfl,AQ⟩ G H,G,_,Zf hG r N,?_⟩;unfold fnW at em; rw [em]; exact q
theorem Jk {x:Str} {j n:Nat} {m:List wK->Res Kvs} (C:Cxt P w K mg base X N sc k df) (F:FnN P w K mg base x j n m) (hj:j<=k) (h:okGl sc x=true) (ha:DA X E0k (e::es) n fs)
   (he:wY (e::es) X.env=(false,eval e X.env)::wY es X.env:=by rfl) (hpl:(zP pos (wY es X.env)).any (·.1)=false:=by rfl):DN X E0k (.Call (.Name x p) (e::es) [] pos) (Ch fs m):=by
 obtain ⟨f,fd,ps,hps,F,hm,hk,hb⟩:=F.ex;obtain ⟨h1,h2,h3⟩:=okGl.gl C h;have F':FnOk X.prog X.w X.K X.mg X.base CX0 j f fd ps (spN n m):=by rw [C.hP,C.hw,C.hK,C.hmg,C.hb]; exact F
 refine PE.imp (Pa F' (C.room.mono hj) h1 (by rw [C.hmg]; exact hm) (by rw [C.hK]; exact hk) (by rw [C.hK]; exact hb) .nil (eT (X:=X)) ha.pa h2 he hpl) fun Z H Q hh=>?_;obtain ⟨G,δ,S,aft⟩:=hh;have gw:∀ {G H G' H':Hp} {r:Res Kvs},Grow G H G' H'->AftN E0k G H r Q->AftN E0k G' H' r Q:=fun {G H G' H' r} g a=>by
   cases r with
   | ok kvs=>exact fun p G2 H2 g2 hp hp' ho=>a p G2 H2 (g.trans g2) (g.h.free hp) hp' ho
   | exc c=>exact fun G2 H2 g2=>a G2 H2 (g.trans g2)
   | no=>exact a
 refine Df (W:=fun G H r=>AftN E0k G H r Q) S aft (fun g a=>gw g a) (fun c a=>a) (fun a=>a) fun ds vs G1 H1 e g1 r1 S1 a1=>?_;rw [xV];cases q:m ds with
 | ok d=>rw [q] at a1; exact ⟨G1,ds,d,S1.sub,r1,ha.len δ ds e,q,a1⟩
 | exc c=>rw [q] at a1; exact (a1 G1 H1 (Grow.refl S1.sub)).elim
 | no=>rw [q] at a1; exact a1.elim
theorem Hd (C:Cxt P w K mg base X N sc k df) (i:Nat) (ho:okSet N sc df i x=true) (h:DN X E e fx) (hs:j3 e (some (.Name x p)) pos.line X.env=pure false:=by rfl):DS X E (.Assign [.Name x p] e pos) (Y8 i fx):=fun G0 H0=>by
 obtain ⟨h1,h2,h3,h4⟩:=okSet.ok C ho;refine PS.imp (Ly h1 h2 h3 h hs h4) fun D Z H hh=>?_;obtain ⟨G,δ,S,a⟩:=hh;refine ⟨G,δ,S.sr,?_⟩;unfold Y8 at a;cases q:fx δ with
 | ok kvs =>
   rw [q] at a; intro p G' H' g hp hp' ho; have S1:=S.grow g; exact a _ G' H' (S1.set_ow (S.gr.h.free hp) hp' ho (Dd S hp))
 | exc c=>rw [q] at a; exact fun G' H' g=>a G' H' (S.gr.trans g)
 | no=>rw [q] at a; exact a
end
end Sm
end
noncomputable section
namespace Sm
open PySem PySem.Spec PyProof.Rows PySem.W L2
noncomputable def He (c:Dn->Res Bool) (body:Dn->Out):Nat->Dn->Out
 | 0,_=>.no
 | n+1,δ=>O7 (c δ) fun b=>if b=true then (match body δ with
   | .nx δ'=>He c body n δ'
   | .ct δ'=>He c body n δ'
   | .bk δ'=>.nx δ'
   | o=>o) else .nx δ
noncomputable def kL (c:Dn->Res Bool) (body:Dn->Out):Dn->Out:=He c body 4096
noncomputable def bI (i:Nat):Dn->Res Bool:=fun δ=>match δ[i]? with
 | some (.ow (.list ds))=>.ok (!ds.isEmpty)
 | _=>.no
noncomputable def gO (i j:Nat):Dn->Out:=fun δ=>match δ[i]? with
 | some (.ow (.list ds))=>match ds[ds.length - 1]? with
   | some d=>if i≠j then .nx ((δ.set i (.ow (.list ds.dropLast))).set j (.sh d)) else .no
   | none=>.no
 | _=>.no
noncomputable def gP (i:Nat) (f:Dn->Res (List wK)):Dn->Out:=fun δ=>match δ[i]? with
 | some (.ow (.list xs))=>O7 (f δ) fun ds=>if xs.length+ds.length<=100000 then .nx (δ.set i (.ow (.list (xs++ds)))) else .no
 | _=>.no
noncomputable section
variable {P:xT} {w:yC} {K:wQ} {mg:Str->Option wM} {base:yW} {X:Cx} {N:List Str} {sc:Scope} {k:Nat} {df:Bool} {E:EK} {pos p py apos cpos:Pos} {ce a:Expr} {sts:List n0} {c:Dn->Res Bool} {g1:Dn->Out} {fs:Dn->Res (List wK)} {x y:Str}
theorem oH (C:Cxt P w K mg base X N sc k df) (hc:DT X E ce c) (hb:DSs X E sts g1):DS X E (.While ce sts [] pos) (kL c g1):=fun G0 H0=>by
 refine PS.imp (kX (pos:=pos) C.own hc (hb G0 H0)) fun D Z H hh=>?_;obtain ⟨G,δ,S,a⟩:=hh;refine ⟨fun m Z' H'=>∃ G' δ',SSt G0 H0 G' H' Z' δ'/\Na E G0 H0 (He c g1 m δ') D,⟨4096,G,δ,S,a⟩,fun m Z' H' hw=>?_⟩;obtain ⟨G',δ',S',a'⟩:=hw;cases m with
 | zero=>exact (show False from a').elim
 | succ m =>
   unfold He at a'; refine nM S' a' fun b G1 H1 gr S1 a1=>?_;cases b with
   | false =>
     rw [if_neg (by decide)] at a1 ⊢;exact a1 Z' G1 H1 S1
   | true =>
     rw [if_pos rfl] at a1 ⊢;refine ⟨fun Z2 H2=>∃ G' δ',SSt G0 H0 G' H2 Z2 δ'/\Na E G0 H0 (He c g1 m δ') D,fun Z2 H2 z=>⟨m,FC m,z⟩,G1,δ',S1,?_⟩;cases eo:g1 δ' with
     | nx δ2=>rw [eo] at a1; exact fun Z3 G4 H4 S5=>⟨G4,δ2,S5,a1⟩
     | ct δ2=>rw [eo] at a1; exact fun Z3 G4 H4 S5=>⟨G4,δ2,S5,a1⟩
     | bk δ2=>rw [eo] at a1; exact fun Z3 G4 H4 S5=>a1 Z3 G4 H4 S5
     | rt d=>rw [eo] at a1; exact a1
     | exc d=>rw [eo] at a1; exact a1
     | no=>rw [eo] at a1; exact a1
theorem t_own (C:Cxt P w K mg base X N sc k df) (i:Nat) (h:okVar N sc i x=true) (he:∀ whole,isTrue (.Name x p) X.env whole=(do let v <- whole; standAt (Expr.Name x p).pos; holding [v] (truthy v)):=by intro _; rfl):DT X E (.Name x p) (bI i):=by
 refine PT.imp (Zw (okVar.pe C h) he) fun Z H Q hh=>?_;obtain ⟨G,δ,S,a⟩:=hh;unfold bI at a;split at a
 . rename_i ds hi
   obtain ⟨q,hσ,hg,xs,hx,rl⟩:=S.own hi; have he:ds.isEmpty=xs.isEmpty:=by
     have:=rl.length;cases ds <;> cases xs <;> simp at this ⊢
   refine ⟨.ref q,hσ,!xs.isEmpty,.inl ⟨xs,.inl (.inl hx),rfl⟩,?_⟩; rw [<- he]; exact a G H (Grow.refl S.sub)
 . exact (show False from a).elim
theorem s_pop (C:Cxt P w K mg base X N sc k df) (i j:Nat) (h:okVar N sc i x=true) (ho:okSet N sc df j y=true)
   (hbase:m4 (.Name x p) "pop" X.env (eval (.Name x p) X.env)=eval (.Name x p) X.env:=by rfl) (hline:(apos.endLine==cpos.line)=true:=by rfl)
   (hs:j3 (.Call (.Attribute (.Name x p) "pop" apos) [] [] cpos) (some (.Name y py)) pos.line X.env=pure false:=by rfl) :
   DS X E (.Assign [.Name y py] (.Call (.Attribute (.Name x p) "pop" apos) [] [] cpos) pos) (gO i j):=fun G0 H0=>by
 obtain ⟨h1,h2,h3,h4⟩:=okSet.ok C ho;refine PS.imp (Ly h1 h2 h3 (uE z9 PySem.F.slot_list_pop PySem.F.type_list_pop uY (okVar.pe C h) hbase hline) hs h4) fun D Z H hh=>?_;obtain ⟨G,δ,S,a⟩:=hh;unfold gO at a;split at a
 . rename_i ds hi
   split at a
   . rename_i d hd
     split at a
     . rename_i hij
       obtain ⟨q,hσ,hg,xs,hx,rl⟩:=S.sr.own hi; obtain ⟨v,hv,rv⟩:=rl.get hd; rw [rl.length] at hv; refine ⟨.ref q,hσ,.inl ⟨rfl,xs,.inl (.inl hx)⟩,q,xs,v,rfl,rfl,hx,hv,?_⟩; have S1:=S.write (o:=.lst xs.dropLast) (d':=.list ds.dropLast) hi (by rw [hσ]; rfl) hg ⟨_,D3,rl.dropLast⟩;exact a _ G _ (S1.set_sh rv)
     . exact (show False from a).elim
   . exact (show False from a).elim
 . exact (show False from a).elim
theorem s_ext (C:Cxt P w K mg base X N sc k df) (i:Nat) (h:okVar N sc i x=true) (ha:DF X E a fs)
   (hbase:m4 (.Name x p) "extend" X.env (eval (.Name x p) X.env)=eval (.Name x p) X.env:=by rfl)
   (hfew:((zP cpos (wY [a] X.env)).all (fun x => !x.1)&&(CW cpos (AN [] X.env)).all (fun x=>x.1.isSome)
     && decide ([a].length+([]:List y9).length+(if ([]:List y9).isEmpty then 0 else 1) < 30))=true:=by rfl)
   (hline:(apos.endLine==cpos.line)=true:=by rfl) (hs:wY [a] X.env=(false,eval a X.env)::wY [] X.env:=by rfl) (hplain:(zP cpos (wY [] X.env)).any (·.1)=false:=by rfl)
   (hsw:j3 (.Call (.Attribute (.Name x p) "extend" apos) [a] [] cpos) none pos.line X.env=pure false:=by rfl) :
   DS X E (.Expr (.Call (.Attribute (.Name x p) "extend" apos) [a] [] cpos) pos) (gP i fs):=fun G0 H0=>by
 refine PS.imp (Oz (Zy z9 PySem.F.slot_list_extend PySem.F.type_list_extend hE (okVar.pe C h) (P7 ha Z5 hs) hbase hfew hline hs hplain) hsw) fun D Z H hh=>?_;obtain ⟨G,δ,S,aft⟩:=hh;unfold gP at aft;split at aft
 . rename_i ds hi
   obtain ⟨q,hσ,hg,xs,hx,rl⟩:=S.sr.own hi; refine ⟨.ref q,hσ,.inl ⟨rfl,xs,.inl (.inl hx)⟩,?_⟩; refine dY S aft fun es b zs G1 H1 g1 q1 q2 q3 q4 S1 a1=>?_;split at a1
   . rename_i hlen
     have hx1:=g1.h _ _ hx; have hqb:q≠b:=E6 hx q1; have hg1:G1 q=none:=g1.stay hg hx fun ys z=>by cases z
     have l1:=rl.length; have l2:=q4.length; refine ⟨q,b,xs,zs,rfl,rfl,hx1,q3,xD (by lia) (show 100000<=sizeLine by decide),?_⟩;exact a1 Z G1 _ (S1.write (o:=.lst (xs++zs)) (d':=.list (ds++es)) hi (by rw [hσ]; rfl) hg1 ⟨_,D3,(rl.mono g1.g).append q4⟩)
   . exact (show False from a1).elim
 . exact (show False from aft).elim
end
end Sm
end
noncomputable section
namespace Sm
open PySem PySem.Spec PyProof.Rows PySem.W L2
noncomputable section
variable {X:Cx} {pins:List (wX×Obj)} {Z:St} {H:Hp} {s:wO} {a:wX} {A:yZ} {E:wM->wO->Prop}
theorem n_at {kvs:List (wK×V)} {xs:List (wM×wM)} {kd:wK} {w:yC} {i:Nat} {e:yU} (rel:zJ (PrN H) kvs xs) (hk:nkD kd=true) (nk:∀ p∈kvs,nkD p.1=true) (nd:(kvs.map (·.1)).Nodup) (hi:(kvs.map (·.1))[i]? = some kd) (he:(U9 w kvs xs)[i]? = some e) :
   ∃ v,kvs[i]? = some (kd,v)/\P0 kvs kd=some v/\RelV v e.val:=by
 obtain ⟨p,q,h1,h2,⟨_,h5⟩,rfl⟩:=Pd rel he;rw [xS,h1] at hi;have hp:p=(kd,p.2):=by
   have:p.1=kd:=by simpa using hi
   rw [<- this]
 rw [hp] at h1;exact ⟨p.2,h1,Hm hk nk nd h1,h5⟩
theorem uV {kvs:List (wK×V)} {kd:wK} {y v:V} {u:wM} {Q:wM->wO->Prop} (hu:A.units+16 < i4) (I:Inv X pins Z H s) (e:Rd H a (.dN kvs)) (rk:KRep H kd y) (hk:nkD kd=true) (ry:RelV y u) (hv:P0 kvs kd=some v)
   (h:∀ w' s',Inv X pins Z H s'->RelV v w'->Q w' s'):wpAny (xU X.prog X.w) A (BO (.ref a) u) Q E s:=by
 obtain ⟨z,hd,nd,nk,xs,rel,ep,e1⟩:=e.ok I.hok;have hT:s.TypeIs (.ref a) "dict" := ⟨_,e1,rfl⟩;have hm:kd∈kvs.map (·.1):=u8 fun z=>by rw [La hk nk z] at hv; cases hv
 unfold BO;try with_reducible refine c9 ?_
 refine wL (CB hT (by decide) ?_);refine wL (zT (name:=p4 "__getitem__") hT F.slot_dict_getitem ?_);refine FK F.slot_dict_getitem hT F.entry_dict_getitem (F.args_dict_getitem_2 _ _) (aI a u) ⟨_,_,ep,kvs.map (·.1),kd,hu,e1,rfl,Rn I rel nk nd,Mc I rk ry hk,hm,fun i e tk hi he=>?_⟩;obtain ⟨v',_,h2,h3⟩:=n_at rel hk nk nd hi (by simpa using he);rw [hv] at h2; cases h2;exact wN (h _ _ (I.tok _) h3)
theorem n_has {kvs:List (wK×V)} {kd:wK} (hk:nkD kd=true) (nk:∀ p∈kvs,nkD p.1=true) (nd:(kvs.map (·.1)).Nodup) (hm:kd∈kvs.map (·.1)):(P0 kvs kd).isSome=true:=by
 obtain ⟨⟨k',v⟩,hp,rfl⟩:=xK.mp hm;obtain ⟨i,hi⟩:=CN.mp hp;rw [Hm hk nk nd hi]; rfl
theorem Re {kvs:List (wK×V)} {kd:wK} {y:V} {u:wM} {Q:Bool->wO->Prop} (hu:A.units+16 < i4) (I:Inv X pins Z H s) (e:Rd H a (.dN kvs)) (rk:KRep H kd y) (hk:nkD kd=true) (ry:RelV y u)
   (h:∀ s',Inv X pins Z H s'->Q (P0 kvs kd).isSome s'):wpAny (xU X.prog X.w) A (contains (.ref a) u) Q E s:=by
 obtain ⟨z,hd,nd,nk,xs,rel,ep,e1⟩:=e.ok I.hok;have hT:s.TypeIs (.ref a) "dict" := ⟨_,e1,rfl⟩;unfold contains;try with_reducible refine c9 ?_
 refine wL (n5 hT F.slot_dict_contains.lookup ?_);show wpAny _ _ (if (some (Value.builtin "dict.__contains__")==some j8)=true then _ else _) _ _ s;rw [if_neg (by rw [FU]; exact c8)];refine wL (wpAny_callSpecialUnlessNone?_slot (name:=p4 "__contains__") hT F.slot_dict_contains ?_);refine FK F.slot_dict_contains hT F.entry_dict_contains (F.args_dict_contains_2 _ _) (hJ a u hd) ⟨_,_,ep,kvs.map (·.1),kd,hu,e1,rfl,Rn I rel nk nd,Mc I rk ry hk,fun tk hm=>?_,fun tk hn=>?_⟩
 . have:=h _ (I.tok tk)
   rw [n_has hk nk nd hm] at this; exact zB this
 . have:=h _ (I.tok tk)
   rw [La hk nk hn] at this; exact zB this
end
def tNIx (td ty:TE):TE:=fun Z H Q=>td Z H fun x H1=>ty Z H1 fun y H2=>∃ a kvs kd v,x=.ref a/\Rd H2 a (.dN kvs)/\KRep H2 kd y/\nkD kd=true/\P0 kvs kd=some v/\Q v H2
def oB (b:Bool) (ty td:TE):TE:=fun Z H Q=>ty Z H fun y H1=>td Z H1 fun x H2=>∃ a kvs kd,x=.ref a/\Rd H2 a (.dN kvs)/\KRep H2 kd y/\nkD kd=true/\Q (.bl ((P0 kvs kd).isSome != b)) H2
noncomputable section
variable {X:Cx} {o i:Expr} {pos:Pos} {td ty:TE}
theorem uC (hu:X.A.units+16 < i4) (ho:PE X o td) (hi:PE X i ty) (hs:wJ i):PE X (.Subscript o i pos) (tNIx td ty):=by
 intro pins s Z H Q I h;refine oC PySem.F.slot_dict_getitem.lookup hs (thn (ho pins s Z H _ I h) fun u s1 hY84=>?_);obtain ⟨x,H1,I1,rx,q1⟩:=hY84;refine thn (hi pins s1 Z H1 _ I1 q1) fun iv s2 hZ2=>?_;obtain ⟨y,H2,I2,ry,a,kvs,kd,v,ex,g,rk,hk,hv,q2⟩:=hZ2;subst ex;obtain rfl:u=zA a:=rx;obtain ⟨_,_,_,_,_,_,ep,e1⟩:=g.ok I2.hok;exact ⟨⟨_,e1,rfl⟩,uV hu I2 g rk hk ry hv fun w' s3 I3 rw'=>⟨v,H2,I3,rw',q2⟩⟩
theorem uG (hu:X.A.units+16 < i4) (hi:PE X i ty) (ho:PE X o td):PC X .In i o (oB false ty td):=by
 intro pins s Z H Q I h;refine thn (hi pins s Z H _ I h) fun iv s1 hY85=>?_;obtain ⟨y,H1,I1,ry,q1⟩:=hY85;refine thn (ho pins s1 Z H1 _ I1 q1) fun u s2 hZ2=>?_;obtain ⟨x,H2,I2,rx,a,kvs,kd,ex,g,rk,hk,q2⟩:=hZ2;subst ex;obtain rfl:u=zA a:=rx;show wpAny _ _ (do return AO (<- contains (zA a) iv)) _ _ s2;rw [Bool.bne_false] at q2;exact wL (Re hu I2 g rk hk ry fun s3 I3=>wN ⟨.bl (P0 kvs kd).isSome,H2,I3,rfl,q2⟩)
theorem Lz (hu:X.A.units+16 < i4) (hi:PE X i ty) (ho:PE X o td):PC X .NotIn i o (oB true ty td):=by
 intro pins s Z H Q I h;refine thn (hi pins s Z H _ I h) fun iv s1 hY86=>?_;obtain ⟨y,H1,I1,ry,q1⟩:=hY86;refine thn (ho pins s1 Z H1 _ I1 q1) fun u s2 hZ2=>?_;obtain ⟨x,H2,I2,rx,a,kvs,kd,ex,g,rk,hk,q2⟩:=hZ2;subst ex;obtain rfl:u=zA a:=rx;show wpAny _ _ (do return AO (!(<- contains (zA a) iv))) _ _ s2;rw [Bool.bne_true] at q2;exact wL (Re hu I2 g rk hk ry fun s3 I3=>wN ⟨.bl (!(P0 kvs kd).isSome),H2,I3,rfl,q2⟩)
end
noncomputable def Ib (i:Nat) (f:Dn->Res wK):Dn->Res wK:=fun δ=>match kvN δ i with
 | some kvs=>(f δ).bind fun kd=>if nkD kd=true then ofO (G6 kvs kd) else .no
 | none=>.no
noncomputable def T8 (b:Bool) (i:Nat) (f:Dn->Res wK):Dn->Res wK:=fun δ=>(f δ).bind fun kd=>match kvN δ i with
 | some kvs=>if nkD kd=true then .ok (.bool ((G6 kvs kd).isSome != b)) else .no
 | none=>.no
noncomputable section
variable {P:xT} {w:yC} {K:wQ} {mg:Str->Option wM} {base:yW} {X:Cx} {N:List Str} {sc:Scope} {k:Nat} {df:Bool} {E:EK} {p pos:Pos} {a b:Expr} {f g:Dn->Res wK} {x:Str}
theorem fK (C:Cxt P w K mg base X N sc k df) (i:Nat) (h:okVar N sc i x=true) (hk:DE X E a f) (hs:wJ a:=by exact fun _ _=>rfl):DE X E (.Subscript (.Name x p) a pos) (Ib i f):=by
 refine PE.imp (uC (by have:=C.hu; lia) (okVar.pe C h) hk hs) fun Z H Q hY87=>?_;obtain ⟨G,δ,S,aft⟩:=hY87;unfold Ib at aft;split at aft
 . rename_i kvs hi
   obtain ⟨q,kk,hσ,hx,hkeys,hvals⟩:=S.kvN hi; refine ⟨.ref q,hσ,?_⟩; refine K2 S aft fun kd v G1 H1 g1 r1 S1 a1=>?_;split at a1
   . rename_i hn
     rcases Hl (k:=kd) hkeys hvals with ⟨n1,n2⟩ | ⟨d0,v0,n1,n2,rd⟩
     . rw [n1] at a1; exact a1.elim
     . rw [n1] at a1
       exact ⟨q,kk,kd,v0,rfl,Rd.mono g1.h hx,Hf S1.sub hn r1,hn,n2,a1 _ G1 H1 (Grow.refl S1.sub) (rd.mono g1.g)⟩
   . exact a1.elim
 . exact aft.elim
theorem Xu {t:Bool} {i:Nat} {Z:St} {H:Hp} {Q:VK} (h:tD E (T8 t i f) Z H Q):oB t (tD E f) (nZ i) Z H Q:=by
 obtain ⟨G,δ,S,aft⟩:=h;refine K2 S aft fun kd v G1 H1 g1 r1 S1 a1=>?_;split at a1
 . rename_i kvs hi
   split at a1
   . rename_i hn
     obtain ⟨q,kk,hσ,hx,hkeys,hvals⟩:=S1.kvN hi; refine ⟨.ref q,hσ,q,kk,kd,rfl,hx,Hf S1.sub hn r1,hn,?_⟩; have:(P0 kk kd).isSome=(G6 kvs kd).isSome:=by
       rcases Hl (k:=kd) hkeys hvals with ⟨n1,n2⟩ | ⟨d0,v0,n1,n2,_⟩ <;> rw [n1,n2] <;> rfl
     rw [this]; exact a1 _ G1 H1 (Grow.refl S1.sub) rfl
   . exact a1.elim
 . exact a1.elim
theorem mN {t:Bool} {i:Nat} {δ:Dn} {d:wK} (e:T8 t i f δ=.ok d):∃ b,d=.bool b:=by
 unfold T8 Res.bind at e;split at e
 . split at e
   . dsimp only at e
     split at e
     . cases e; exact ⟨_,rfl⟩
     . cases e
   . cases e
 . cases e
 . cases e
theorem nG {t:Bool} {i:Nat} {G H:Hp} {δ:Dn} {Q:Bool->Hp->Prop} (aft:AftT E G H (C4 (T8 t i f) δ) Q):Aft E G H (T8 t i f δ) (fun v H'=>∃ b,v=.bl b/\Q b H'):=by
 unfold C4 at aft;cases e:T8 t i f δ with
 | ok d =>
   obtain ⟨b,rfl⟩:=mN e; rw [e] at aft; intro v G' H' g r; exact ⟨b,r,aft G' H' g⟩
 | exc c=>rw [e] at aft; exact aft
 | no=>rw [e] at aft; exact aft
theorem sJ (C:Cxt P w K mg base X N sc k df) (i:Nat) (h:okVar N sc i x=true) (hk:DE X E a f) (hm:behindInMarks .In (.Name x p)=false:=by with_unfolding_all rfl):DE X E (.Compare a [.In] [.Name x p] pos) (T8 false i f) :=
 PE.imp (Xg (uG (by have:=C.hu; lia) hk (okVar.pe C h)) hm) fun _ _ _ h=>Xu h
theorem Rs (C:Cxt P w K mg base X N sc k df) (i:Nat) (h:okVar N sc i x=true) (hk:DE X E a f) (hm:behindInMarks .NotIn (.Name x p)=false:=by with_unfolding_all rfl):DE X E (.Compare a [.NotIn] [.Name x p] pos) (T8 true i f) :=
 PE.imp (Xg (Lz (by have:=C.hu; lia) hk (okVar.pe C h)) hm) fun _ _ _ h=>Xu h
theorem Jy (C:Cxt P w K mg base X N sc k df) (i:Nat) (h:okVar N sc i x=true) (hk:DE X E a f) (hm:behindInMarks .NotIn (.Name x p)=false:=by with_unfolding_all rfl):DT X E (.Compare a [.NotIn] [.Name x p] pos) (C4 (T8 true i f)):=by
 refine PT.imp (kU (Lz (by have:=C.hu; lia) hk (okVar.pe C h)) hm) fun Z H Q hY89=>?_;obtain ⟨G,δ,S,aft⟩:=hY89;refine Xu ⟨G,δ,S,?_⟩;exact nG aft
end
end Sm
end
noncomputable section
namespace Sm
open PySem PySem.Spec PyProof.Rows PySem.W L2
noncomputable def N7 {α:Type}:List (wK×α)->wK->α->List (wK×α)
 | [],k,v=>[(k,v)]
 | p::r,k,v=>if xA p.1 k=true then (p.1,v)::r else p::N7 r k v
theorem Dc {α:Type} {k:wK} {v:α}:∀ (l:List (wK×α)),(N7 l k v).length<=l.length+1:=by
 intro iN; induction iN with
 | nil=>skip; exact xH _
 | cons p r ih =>
   skip
   unfold N7;split
   . simp
   . simp only [xB]; exact Nat.succ_le_succ (ih)
theorem oY {k:wK} {v:V} (hk:nkD k=true):∀ {kk:List (wK×V)} {i:Nat} {v0:V},(∀ p∈kk,nkD p.1=true)->(kk.map (·.1)).Nodup->kk[i]? = some (k,v0)->N7 kk k v=kk.modify i fun p=>(p.1,v):=by
 intro iN; induction iN with
 | nil=>intro _ _ _ _ h; simp at h
 | cons p kk ih =>
   intro i v0 hn nd h; unfold N7; have hp:=Mk (U6 (hn p (.head _))).1 (U6 hk).1;cases i with
   | zero =>
     simp at h;subst h; rw [if_pos (hp.mpr rfl)]; rfl
   | succ i =>
     rw [wU,zG] at nd; have hm:(k,v0)∈kk:=e8 (by simpa using h);rw [if_neg (fun z=>nd.1 (by rw [hp.mp z]; exact xY hm)),ih (fun q hq=>hn q (.tail _ hq)) nd.2 (by simpa using h)];rfl
theorem oX {k:wK} {v:V} (hk:nkD k=true):∀ {kk:List (wK×V)},(∀ p∈kk,nkD p.1=true)->k∉kk.map (·.1)->N7 kk k v=kk++[(k,v)]:=by
 intro iN; induction iN with
 | nil=>intro _ _; exact rfl
 | cons p kk ih =>
   intro hn h; unfold N7; rw [wU,wR,not_or] at h; rw [if_neg (fun z=>h.1 ((Mk (U6 (hn p (.head _))).1 (U6 hk).1).mp z).symm),ih (fun q hq=>hn q (.tail _ hq)) h.2];rfl
theorem Qt {G:Hp} {k d:wK} {v:V} (r:Rep G d v):∀ {kvs:Kvs} {kk:List (wK×V)},kvs.map (·.1)=kk.map (·.1)->RepL G (kvs.map (·.2)) (kk.map (·.2))->(N7 kvs k d).map (·.1)=(N7 kk k v).map (·.1)/\RepL G ((N7 kvs k d).map (·.2)) ((N7 kk k v).map (·.2))
 | [],[],_,_=>⟨rfl,RepL.cons r rfl⟩
 | [],_::_,e,_=>by cases e
 | _::_,[],e,_=>by cases e
 | p::kvs,q::kk,e,l=>by
   simp only [wU,yP] at e; obtain ⟨x,t,ex,rx,l⟩:=l; simp only [wU,yP] at ex; unfold N7; rw [e.1];split
   . exact ⟨by simp only [wU]; rw [e.2],RepL.cons r (by rw [ex.2]; exact l)⟩
   . obtain ⟨h1,h2⟩:=Qt (k:=k) r e.2 (by rw [ex.2]; exact l)
     exact ⟨by simp only [wU]; rw [e.1,h1],RepL.cons (show Rep G p.2 q.2 by rw [ex.1]; exact rx) h2⟩
theorem aT {w:yC} {v:V} {r:wM}:∀ (kk:List (wK×V)) (xs:List (wM×wM)) (i:Nat),(U9 w kk xs).modify i (fun e=>{ e with val:=r })=U9 w (kk.modify i fun p=>(p.1,v)) (xs.modify i fun q=>(q.1,r))
 | [],xs,i=>by cases i <;> simp [U9]
 | _::_,[],i=>by cases i <;> simp [U9]
 | p::kk,q::xs,0=>rfl
 | p::kk,q::xs,i+1=>by
   have:=aT (w:=w) (v:=v) (r:=r) kk xs i; simp only [U9,List.zipWith_cons_cons,List.modify_succ_cons] at this ⊢;rw [this]
theorem Qx {α β:Type} {F:α->β->Prop} {f:α->α} {g:β->β} (h:∀ a b,F a b->F (f a) (g b)):∀ {l₁:List α} {l₂:List β} (i:Nat),zJ F l₁ l₂->zJ F (l₁.modify i f) (l₂.modify i g)
 | _,_,i,.nil=>by cases i <;> exact .nil
 | _,_,0,.cons r t=>.cons (h _ _ r) t
 | _,_,i+1,.cons r t=>.cons r (Qx h i t)
noncomputable section
variable {prog:xT} {w:yC} {A:yZ} {E:wM->wO->Prop} {s:wO}
theorem iS {d:wX} {key v:wM} {L:List yU} {ep:Nat} {ks:List wK} {k:wK} {Q:Unit->wO->Prop} (hu:A.units+8 < i4) (ho:s.heap.get? d=some { cls:=.type "dict",data:=.dict (List.toArray L) ep }) (hz:L.length<=sizeLine) (N:EsN w s.heap L.toArray ks) (x:NAt s.heap key k)
   (h1:∀ (i:Nat) (h':yW) (tk:Nat),ks[i]? = some k->(∀ b o,b≠d->s.heap.get? b=some o->h'.get? b=some o)->h'.get? d=some { cls:=.type "dict",data:=.dict (L.modify i fun e=>{ e with val:=v }).toArray ep }->Q () { s with heap:=h',toks:=tk })
   (h0:∀ (h':yW) (tk:Nat),k∉ks->(∀ b o,b≠d->s.heap.get? b=some o->h'.get? b=some o)->h'.get? d=some { cls:=.type "dict",data:=.dict (L++[DictEntry.mk (X4 w k) key v]).toArray (ep+1) }->Q () { s with heap:=h',toks:=tk }) :
   wpAny (xU prog w) A (dictSet d key v) Q E s:=by
 unfold dictSet;try with_reducible refine c9 ?_
 refine wL (x.hash hu fun tk=>?_);unfold dictSetHashed;try with_reducible refine c9 ?_
 refine wL (cZ (s:={ s with toks:=tk }) hu ho rfl N x (fun i hi=>?_) fun hn=>?_)
 . refine wL (i0 (wL (wpAny_updateDict (s:={ s with toks:=tk }) ho rfl (wpAny_point (h1 i _ tk hi (fun b o hb e=>?_) ?_)))))
   . exact (DV _ _ _ _ hb).trans e
   . have:=m3 (Obj.mapDict fun x=>x.modify i fun e=>{ e with val:=v }) ho (DZ (Obj.data_mapDict rfl _))
     rw [this]; simp [Obj.mapDict]
 . refine wL (i0 (wpAny_updateDictKeys (hz:=by simpa using hz) (s:={ s with toks:=tk }) ho rfl (h0 _ tk hn (fun b o hb e=>?_) ?_)))
   . exact (DV _ _ _ _ hb).trans e
   . have:=m3 (CM fun x=>x.push ⟨X4 w k,key,v⟩) ho (DZ (Obj.data_mapDictKeys rfl _))
     rw [this]; simp [CM]
end
noncomputable section
variable {X:Cx} {pins:List (wX×Obj)} {Z:St} {H:Hp} {s:wO} {a:wX} {A:yZ} {E:wM->wO->Prop}
theorem Me {kvs:List (wK×V)} {kd:wK} {y d:V} {u r:wM} {Q:Unit->wO->Prop} (hu:A.units+8 < i4) (I:Inv X pins Z H s) (e:H a=some (.dN kvs)) (rk:KRep H kd y) (hk:nkD kd=true) (hz:kvs.length < sizeLine) (ry:RelV y u) (rd:RelV d r)
   (h:∀ s',Inv X pins Z (upd H a (.dN (N7 kvs kd d))) s'->(∀ b o,b≠a->s.heap.get? b=some o->s'.heap.get? b=some o)->Q () s'):wpAny (xU X.prog X.w) A (dictSet a u r) Q E s:=by
 obtain ⟨z,hd,nd,nk,xs,rel,ep,e1⟩:=I.hok a _ e;have hl:=Paired.len' rel;have hlen:(U9 X.w kvs xs).length<=sizeLine:=by
   unfold U9; rw [List.length_zipWith]; lia
 have ht:∀ b ys,H b=some (.tup ys)->(upd H a (.dN (N7 kvs kd d))) b=some (.tup ys):=fun b ys z=>by
   rw [C8 (Rc z e (fun z=>by cases z))]; exact z
 refine iS (ep:=ep) (ks:=kvs.map (·.1)) (k:=kd) hu e1 hlen (Rn I rel nk nd) (Mc I rk ry hk) (fun i h' tk hi hkeep hnew=>?_) (fun h' tk hn hkeep hnew=>?_)
 . refine h _ ?_ hkeep
   have hlt:i < kvs.length:=by have:=(xQ.mp hi).1; simpa using this
   have hp:kvs[i]? = some (kd,kvs[i].2):=by
     rw [yJ hlt]; have h2:=hi; rw [xS,yJ hlt] at h2; have:kvs[i].1=kd:=by simpa using h2
     rw [<- this]
   have ep':=oY (v:=d) hk nk nd hp; refine I.write (x:=a) (e:=a) (t':=tk) (by rw [e]; exact trivial) (.inl rfl) (fun b o hb q=>hkeep b o hb q) ⟨_,hnew⟩ ?_;have hkeys:(N7 kvs kd d).map (·.1)=kvs.map (·.1):=by
     rw [ep']; apply BQ;intro j; rw [xS,xS,List.getElem?_modify];by_cases c:i=j
     . simp only [c,if_pos]; cases kvs[j]? <;> rfl
     . simp only [c,if_neg,if_false]; cases kvs[j]? <;> rfl
   refine ⟨xD (Dc kvs) hz,hd,by rw [hkeys]; exact nd,fun p hp=>?_,xs.modify i (fun q=>(q.1,r)),?_,ep,?_⟩
   . have:p.1∈kvs.map (·.1):=by rw [<- hkeys]; exact xY hp
     obtain ⟨p',m,em⟩:=xK.mp this; rw [<- em]; exact nk p' m
   . rw [ep']
     exact Paired.mapP (Qx (fun p q hZ2=>by obtain ⟨⟨v,z1,z2⟩,_⟩:=hZ2; exact ⟨⟨v,z1,z2⟩,rd⟩) i rel) fun p q hZ2=>by obtain ⟨⟨v,z1,z2⟩,z3⟩:=hZ2; exact ⟨⟨v,z1.mono (ep'▸ht),z2⟩,z3⟩
   . rw [ep',<- aT]; exact hnew
 . refine h _ ?_ hkeep
   have ep':=oX (v:=d) hk nk hn; refine I.write (x:=a) (e:=a) (t':=tk) (by rw [e]; exact trivial) (.inl rfl) (fun b o hb q=>hkeep b o hb q) ⟨_,hnew⟩ ⟨xD (Dc kvs) hz,hd,?_,?_,xs++[(u,r)],?_,ep+1,?_⟩
   . rw [ep',yO,AH]
     refine ⟨nd,by simp,fun x hx y hy=>?_⟩;have:y=kd:=by simpa using hy
     subst this; exact fun z=>hn (z▸hx)
   . rw [ep']
     intro p hp; rcases xC.mp hp with hp | hp
     . exact nk p hp
     . rw [wS.mp hp]; exact hk
   . have:=Paired.app' (F:=PrN (upd H a (.dN (N7 kvs kd d)))) (a:=(kd,d)) (b:=(u,r)) ⟨⟨y,rk.mono ht,ry⟩,rd⟩ (Paired.mapP rel fun p q hZ2=>by obtain ⟨⟨v,z1,z2⟩,z3⟩:=hZ2; exact ⟨⟨v,z1.mono ht,z2⟩,z3⟩)
     rw [<- ep'] at this; exact this
   . rw [ep',aU hl]; exact hnew
theorem n_put {kvs:List (wK×V)} {kd:wK} {y d:V} {u r:wM} {Q:Unit->wO->Prop} (hu:A.units+16 < i4) (I:Inv X pins Z H s) (e:H a=some (.dN kvs)) (rk:KRep H kd y) (hk:nkD kd=true) (hz:kvs.length < sizeLine) (ry:RelV y u) (rd:RelV d r)
   (h:∀ s',Inv X pins Z (upd H a (.dN (N7 kvs kd d))) s'->Q () s'):wpAny (xU X.prog X.w) A (setItem (.ref a) u r) Q E s:=by
 obtain ⟨z,hd,nd,nk,xs,rel,ep,e1⟩:=I.hok a _ e;have hT:s.TypeIs (.ref a) "dict" := ⟨_,e1,rfl⟩;unfold setItem;try with_reducible refine c9 ?_
 refine wL (CB hT (by decide) ?_);refine wL (zT (name:=p4 "__setitem__") hT F.slot_dict_setitem ?_);refine zZ F.slot_dict_setitem hT F.entry_dict_setitem ?_ (F.args_dict_setitem_3 _ _ _);show wpAny _ _ (Builtin.Dict.notOrdered "__setitem__" ⟨[.ref a,u,r],[]⟩>>=_) _ _ s;refine wL (BC hT ?_);show wpAny _ _ (dictSet a u r>>=_) _ _ s;exact wL (Me (hu8 hu) I e rk hk hz ry rd fun s' I' _=>wN ⟨.none,rfl,wN (h s' I')⟩)
end
def sNPut (td ty tv:TE):TS:=fun D Z H=>tv Z H fun v H1=>td Z H1 fun x H2=>ty Z H2 fun y H3=>∃ a kvs kd,x=.ref a/\H3 a=some (.dN kvs)/\KRep H3 kd y/\nkD kd=true/\kvs.length < sizeLine/\D.nx Z (upd H3 a (.dN (N7 kvs kd v)))
theorem pC {X:Cx} {o i value:Expr} {pos pos':Pos} {td ty tv:TE} (hu:X.A.units+16 < i4) (ho:PE X o td) (hi:PE X i ty) (hv:PE X value tv) (hs:j3 value (some (.Subscript o i pos')) pos.line X.env=pure false) :
   PS X (.Assign [.Subscript o i pos'] value pos) (sNPut td ty tv):=by
 intro pins s Z H D I h;refine wpAny_Assign_Subscript (thn (hv pins s Z H _ I h) fun r s1 hY90=>?_) hs;obtain ⟨v,H1,I1,rv,q1⟩:=hY90;refine thn (ho pins s1 Z H1 _ I1 q1) fun u s2 hY91=>?_;obtain ⟨x,H2,I2,rx,q2⟩:=hY91;refine thn (hi pins s2 Z H2 _ I2 q2) fun iv s3 hY92=>?_;obtain ⟨y,H3,I3,ry,a,kvs,kd,ex,g,rk,hk,hz,q3⟩:=hY92;subst ex;obtain rfl:u=zA a:=rx;exact n_put hu I3 g rk hk hz ry rv fun s4 I4=>⟨Z,_,I4,q3⟩
noncomputable def Y3 (i:Nat) (fk fv:Dn->Res wK):Dn->Out:=fun δ=>match δ[i]? with
 | some (.ow (.tuple [.dict kvs,.none]))=>O7 (fv δ) fun v=>O7 (fk δ) fun kd=>if nkD kd=true/\kvs.length < 100000 then .nx (δ.set i (.ow (.tuple [.dict (N7 kvs kd v),.none]))) else .no
 | _=>.no
noncomputable section
variable {P:xT} {w:yC} {K:wQ} {mg:Str->Option wM} {base:yW} {X:Cx} {N:List Str} {sc:Scope} {k:Nat} {df:Bool} {E:EK} {p p2 pos:Pos} {a b:Expr} {f g:Dn->Res wK} {x:Str}
theorem Lu (C:Cxt P w K mg base X N sc k df) (i:Nat) (h:okVar N sc i x=true) (hk:DE X E a f) (hv:DE X E b g) (hs:j3 b (some (.Subscript (.Name x p) a p2)) pos.line X.env=pure false:=by rfl):DS X E (.Assign [.Subscript (.Name x p) a p2] b pos) (Y3 i f g):=fun G0 H0=>by
 refine PS.imp (pC (by have:=C.hu; lia) (okVar.pe C h) hk hv hs) fun D Z H hY93=>?_;obtain ⟨G,δ,S,aft⟩:=hY93;unfold Y3 at aft;split at aft
 . rename_i kvs hi
   refine Ht S aft fun v x1 G1 H1 g1 r1 S1 a1=>?_;obtain ⟨q,hσ,hg,ho⟩:=S1.sr.own hi; refine ⟨.ref q,hσ,?_⟩; refine Ht S1 a1 fun kd x2 G2 H2 g2 r2 S2 a2=>?_;obtain ⟨q',hσ',hg',ho'⟩:=S2.sr.own hi; rw [hσ] at hσ'; cases hσ'; obtain ⟨kk,hx,hkeys,hvals⟩:=(show OwnK G2 H2 q [.dict kvs,.none] from ho');split at a2
   . rename_i hc
     have hl:kk.length=kvs.length:=by
       have:=congrArg AX hkeys;simpa using this.symm
     have hlen:kk.length < sizeLine:=by
       rw [hl]; exact xZ hc.2 (by decide)
     refine ⟨q,kk,kd,rfl,hx,Hf S2.sr.sub hc.1 r2,hc.1,hlen,?_⟩; obtain ⟨p1,p2⟩:=Qt (k:=kd) (r1.mono g2.g) hkeys hvals; exact a2 Z G2 _ (S2.write hi (by rw [hσ]; rfl) hg' (show OwnK G2 _ q [.dict _,.none] from ⟨_,D3,p1,p2⟩))
   . exact (show False from a2).elim
 . exact (show False from aft).elim
end
noncomputable def fzN (i:Nat) (δ:Dn):Dn:=match δ[i]? with
 | some (.ow (.tuple [.dict kvs,.none]))=>δ.set i (.fd ((.dict [],.none)::kvs))
 | _=>δ
theorem SSt.fzN {G0 H0 G H:Hp} {Z:St} {δ:Dn} (S:SSt G0 H0 G H Z δ) (i:Nat):∃ G',SSt G0 H0 G' H Z (fzN i δ):=by
 unfold Sm.fzN;split
 . rename_i kvs hi
   obtain ⟨p,hp,hg,ho⟩:=S.sr.sl i _ hi; obtain ⟨kk,hx,hk,r⟩:=(show OwnK G H p [.dict kvs,.none] from ho);have h0:=S.fr i _ p hi hp; have sm:Same G (upd G p (.dN kk)):=Same.upd hg; have gh:Same (upd G p (.dN kk)) H:=fun b u e=>by
     by_cases hb:b=p
     . subst hb; rw [D3] at e; cases e; exact hx
     . rw [C8 hb] at e; exact S.sr.sub _ _ e
   have gr:Grow G0 H0 (upd G p (.dN kk)) H:=⟨S.gr.g.trans sm,S.gr.h,gh,fun b u e=>by
     by_cases hb:b=p
     . subst hb; exact .inr (.inl h0)
     . rw [C8 hb] at e; exact S.gr.fr b u e⟩
   have hil:i < δ.length:=(xQ.mp hi).1; have key:∀ (j:Nat) (d':wK),(δ.set i (.fd ((.dict [],.none)::kvs)))[j]? = some (.ow d')->δ[j]? = some (.ow d')/\j≠i:=fun j d' e=>by
     rw [J3] at e;split at e
     . cases e
     . rename_i hn
       exact ⟨e,fun z=>by subst z; exact hn ⟨rfl,hil⟩⟩
   refine ⟨_,gr,⟨gh,by simp [S.sr.len],fun j s e=>?_,fun j1 j2 a d1 d2 e1 e2 h1 h2=>S.sr.ap j1 j2 a d1 d2 (key j1 d1 e1).1 (key j2 d2 e2).1 h1 h2⟩,fun j d' a e h=>S.fr j d' a (key j d' e).1 h⟩;by_cases hj:i=j/\i < δ.length
   . rw [J3,if_pos hj] at e
     cases e; rw [<- hj.1]; exact ⟨p,kk,hp,.inl D3,hk,r.mono sm⟩
   . have e2:=e
     rw [J3,if_neg hj] at e2; have hs:=S.sr.sl j s e2;cases s with
     | un=>trivial
     | sh d=>obtain ⟨v,e1,r1⟩:=hs; exact ⟨v,e1,r1.mono sm⟩
     | fd _=>exact FdOk.mono sm hs
     | ow d2 =>
       obtain ⟨a,e1,n1,ok⟩:=hs; have hne:a≠p:=by
         rintro rfl;exact (key j d2 e).2 (S.sr.ap j i a d2 _ e2 hi e1 hp)
       exact ⟨a,e1,by rw [C8 hne]; exact n1,ok.monoG sm⟩
 . exact ⟨G,S⟩
noncomputable def cN (i:Nat) (g:Dn->Out):Dn->Out:=fun δ=>g (fzN i δ)
theorem eG {X:Cx} {E:EK} {st:n0} {g1:Dn->Out} (i:Nat) (h:DS X E st g1):DS X E st (cN i g1):=fun G0 H0=>PS.imp (h G0 H0) fun D Z H hZ3=>by
 obtain ⟨G,δ,S,a⟩:=hZ3;obtain ⟨G',S'⟩:=S.fzN i;exact ⟨G',_,S',a⟩
end Sm
end
noncomputable section
namespace Sm
open PySem PySem.Spec PyProof.Rows PySem.W L2
def SlV (G:Hp) (v:V):Sl->Prop
 | .sh d=>Rep G d v
 | .fd kvs=>FdOk G (some v) kvs
 | _=>False
noncomputable def SlL (G:Hp):List Sl->List V->Prop
 | [],vs=>vs=[]
 | s::ss,vs=>∃ v r,vs=v::r/\SlV G v s/\SlL G ss r
theorem SlL.length {G:Hp}:∀ {ss:List Sl} {vs:List V},SlL G ss vs->ss.length=vs.length:=by
 intro iN; induction iN with
 | nil=>intro vs h; rw [show vs=[] from h]; rfl
 | cons _ _ ih=>intro _ h; obtain ⟨v,r,rfl,_,l⟩:=h; simp [ih l]
theorem SlL.get {G:Hp}:∀ {ss:List Sl} {vs:List V} {i:Nat} {s:Sl},SlL G ss vs->ss[i]? = some s->∃ v,vs[i]? = some v/\SlV G v s
 | [],_,i,_,_,e=>by simp at e
 | _::_,_,0,_,h,e=>by obtain ⟨v,r,rfl,q,_⟩:=h; simp at e; subst e; exact ⟨v,rfl,q⟩
 | _::_,_,i+1,_,h,e=>by obtain ⟨v,r,rfl,_,l⟩:=h; exact SlL.get (i:=i) l (by simpa using e)
noncomputable def Fj (N:List Str) (ss:List Sl):Dn:=ss++xF (N.length - ss.length) .un
theorem Ze {G H:Hp} (hG:Same G H) {ss:List Sl} {vs:List V} (r:SlL G ss vs) (N:List Str):SSt G H G H (Dh N vs) (Fj N ss):=by
 have hl:=r.length;have noow:∀ (i:Nat) (d:wK),(Fj N ss)[i]? ≠ some (.ow d):=fun i d e=>by
   unfold Fj at e;by_cases hi:i < ss.length
   . rw [yG hi] at e
     obtain ⟨_,_,z⟩:=r.get e; exact z
   . rw [yL (i8.mp hi),j9] at e
     split at e <;> cases e
 refine ⟨Grow.refl hG,⟨hG,by unfold L2.Dh Fj; simp [hl],fun i s e=>?_,fun i j a d d' e _ _ _=>absurd e (noow i d)⟩,fun i d a e _=>absurd e (noow i d)⟩;unfold Fj at e;by_cases hi:i < ss.length
 . rw [yG hi] at e
   obtain ⟨v,e1,rv⟩:=r.get e; unfold L2.Dh; rw [yG (by rw [wT,<- hl]; exact hi),xS,e1];cases s with
   | sh d=>exact ⟨v,rfl,rv⟩
   | fd kvs=>exact rv
   | un=>exact rv.elim
   | ow d=>exact rv.elim
 . rw [yL (i8.mp hi),j9] at e
   split at e <;> cases e
   trivial
def spS (n:Nat) (m:List Sl->Res wK):Sp:=fun vs H Q _=>∃ G ss d,Same G H/\SlL G ss vs/\ss.length=n/\m ss=.ok d/\∀ v G' H',Grow G H G' H'->Rep G' d v->Q v H'
structure FnS (P:xT) (w:yC) (K:wQ) (mg:Str->Option wM) (base:yW) (x:Str) (k n:Nat) (m:List Sl->Res wK):Prop where
 ex:∃ f fd ps,ps.length=n/\FnOk P w K mg base CX0 k f fd ps (spS n m)/\mg x=some (.ref f)/\zR K (.ref f)=true/\Binds K fd ps []
noncomputable def fnS (N:List Str) (g:Dn->Out):List Sl->Res wK:=fun ss=>match g (Fj N ss) with
 | .rt d=>.ok d
 | .nx _=>.ok .none
 | .exc c=>.exc c
 | _=>.no
def spSN (n:Nat) (m:List Sl->Res Kvs):Sp:=fun vs H Q _=>∃ G ss kvs,Same G H/\SlL G ss vs/\ss.length=n/\m ss=.ok kvs/\∀ p G' H',Grow G H G' H'->H p=none->G' p=none->OwnOk G' H' p (.tuple [.dict kvs,.none])->Q (.ref p) H'
structure FnSN (P:xT) (w:yC) (K:wQ) (mg:Str->Option wM) (base:yW) (x:Str) (k n:Nat) (m:List Sl->Res Kvs):Prop where
 ex:∃ f fd ps,ps.length=n/\FnOk P w K mg base CX0 k f fd ps (spSN n m)/\mg x=some (.ref f)/\zR K (.ref f)=true/\Binds K fd ps []
noncomputable def qM (N:List Str) (g:Dn->Res Kvs):List Sl->Res Kvs:=fun ss=>g (Fj N ss)
noncomputable def Os (f:Dn->Res wK) (i:Nat) (m:List Sl->Res Kvs):Dn->Res Kvs:=fun δ=>(f δ).bind fun d=>match δ[i]? with
 | some (.fd kvs)=>m [.sh d,.fd kvs]
 | _=>.no
noncomputable def Y0 (i:Nat) (f:Dn->Res wK) (m:List Sl->Res wK):Dn->Res wK:=fun δ=>match δ[i]? with
 | some (.fd kvs)=>(f δ).bind fun d=>m [.fd kvs,.sh d]
 | _=>.no
noncomputable def jJ (b:Bool) (f:Dn->Res wK) (fx:Dn->Res Kvs):Dn->Res wK:=fun δ=>(f δ).bind fun kd=>(fx δ).bind fun kvs=>if nkD kd=true then .ok (.bool ((G6 kvs kd).isSome != b)) else .no
theorem FdOk.is {G:Hp} {o:Option V} {kvs:Kvs} (h:FdOk G o kvs):∃ a,o=some (.ref a):=by
 unfold FdOk at h;split at h
 . obtain ⟨a,kk,h1,_⟩:=h; exact ⟨a,h1⟩
 . obtain ⟨a,ob,kk,h1,_⟩:=h; exact ⟨a,h1⟩
theorem SR.fdV {G H:Hp} {Z:St} {δ:Dn} {i:Nat} {kvs:Kvs} (S:SR G H Z δ) (hi:δ[i]? = some (.fd kvs)):∃ v,Z[i]? = some (some v)/\FdOk G (some v) kvs:=by
 have h:FdOk G (Z[i]?.join) kvs:=S.sl i _ hi;obtain ⟨a,e⟩:=h.is;rw [e] at h;refine ⟨.ref a,?_,h⟩;cases z:Z[i]? with
 | none=>rw [z] at e; cases e
 | some z' =>
   rw [z] at e;cases z' with
   | none=>cases e
   | some z''=>cases e; rfl
noncomputable section
variable {P:xT} {w:yC} {K:wQ} {mg:Str->Option wM} {base:yW} {X:Cx} {N:List Str} {sc:Scope} {k:Nat} {df:Bool} {E:EK} {pos p p1:Pos} {a e:Expr} {f:Dn->Res wK} {fx:Dn->Res Kvs} {x y:Str}
theorem fn_S {x:Str} {st:n0} {ps:List Str} {n:Nat} {go:Dn->Out} {m:List Sl->Res wK} (F:Def K mg x st ps) (S:FnScope N ps (A7 st)) (hn:ps.length=n)
   (body:∀ X,Cxt P w K mg base X N (A7 st) k true->DSs X E0k (B9 st) go) (hm:m=fnS N go):FnS P w K mg base x (k+1) n m:=by
 obtain ⟨f,fd,F,hmg,hb⟩:=F.ex;refine ⟨f,fd,ps,hn,?_,hmg,F.kp,hb⟩;subst hm;refine F.ok S (fun vs H Q E h=>?_) (fun cdv A outer s H vs Q E hr h=>?_)
 . obtain ⟨G,ss,d,_,r,hl,_⟩:=h
   rw [<- r.length,hl,hn]
 . obtain ⟨G,ss,d,hG,r,hl,em,q⟩:=h
   refine ⟨_,body _ ⟨rfl,rfl,rfl,rfl,rfl,rfl,rfl,rfl,hr,fun _ _=>rfl,AQ⟩ G H,G,_,Ze hG r N,?_⟩;unfold fnS at em;cases eg:go (Fj N ss) with
   | rt d'=>rw [eg] at em; cases em; exact fun v G' H' g r'=>q v G' H' g r'
   | nx δ=>rw [eg] at em; cases em; exact fun Z G' H' S'=>q _ G' H' S'.gr rfl
   | bk _=>rw [eg] at em; cases em
   | ct _=>rw [eg] at em; cases em
   | exc _=>rw [eg] at em; cases em
   | no=>rw [eg] at em; cases em
theorem fn_SN {x:Str} {st:n0} {ps:List Str} {n:Nat} {go:Dn->Res Kvs} {m:List Sl->Res Kvs} (F:Def K mg x st ps) (S:FnScope N ps (A7 st)) (hn:ps.length=n)
   (body:∀ X,Cxt P w K mg base X N (A7 st) k true->DSN X E0k (B9 st) go) (hm:m=qM N go):FnSN P w K mg base x (k+1) n m:=by
 obtain ⟨f,fd,F,hmg,hb⟩:=F.ex;refine ⟨f,fd,ps,hn,?_,hmg,F.kp,hb⟩;subst hm;refine F.ok S (fun vs H Q E h=>?_) (fun cdv A outer s H vs Q E hr h=>?_)
 . obtain ⟨G,ss,d,_,r,hl,_⟩:=h
   rw [<- r.length,hl,hn]
 . obtain ⟨G,ss,kvs,hG,r,hl,em,q⟩:=h
   refine ⟨_,body _ ⟨rfl,rfl,rfl,rfl,rfl,rfl,rfl,rfl,hr,fun _ _=>rfl,AQ⟩ G H,G,_,Ze hG r N,?_⟩;unfold qM at em; rw [em]; exact q
theorem AftN.grow {G H G' H':Hp} {r:Res Kvs} {Q:VK} (g:Grow G H G' H') (a:AftN E G H r Q):AftN E G' H' r Q:=by
 cases r with
 | ok kvs=>exact fun p G2 H2 g2 hp hp' ho=>a p G2 H2 (g.trans g2) (g.h.free hp) hp' ho
 | exc c=>exact fun G2 H2 g2=>a G2 H2 (g.trans g2)
 | no=>exact a
theorem nO {G H:Hp} {Z:St} {δ:Dn} {k:wK->Res Kvs} {Q R:VK} (S:SR G H Z δ) (a:AftN E G H ((f δ).bind k) Q)
   (h:∀ d v G1 H1,Grow G H G1 H1->Rep G1 d v->SR G1 H1 Z δ->AftN E G1 H1 (k d) Q->R v H1):tD E f Z H R:=by
 refine ⟨G,δ,S,?_⟩;cases e:f δ with
 | ok d=>rw [e] at a; exact fun v G' H' g r=>h d v G' H' g r (S.grow g) (a.grow g)
 | exc c=>rw [e] at a; exact a
 | no=>rw [e] at a; exact a
theorem aft_N {G H:Hp} {Z:St} {δ:Dn} {kk:Kvs->Res wK} {Q R:VK} (S:SR G H Z δ) (a:Aft E G H ((fx δ).bind kk) Q)
   (h:∀ kvs p G1 H1,Grow G H G1 H1->OwnOk G1 H1 p (.tuple [.dict kvs,.none])->SR G1 H1 Z δ->Aft E G1 H1 (kk kvs) Q->R (.ref p) H1):tN E fx Z H R:=by
 refine ⟨G,δ,S,?_⟩;cases q:fx δ with
 | ok kvs=>rw [q] at a; exact fun p G' H' g _ _ ho=>h kvs p G' H' g ho (S.grow g) (Aft.grow g a)
 | exc c=>rw [q] at a; exact a
 | no=>rw [q] at a; exact a
theorem aG {j:Nat} {m:List Sl->Res Kvs} (C:Cxt P w K mg base X N sc k df) (F:FnSN P w K mg base y j 2 m) (hj:j<=k) (h:okGl sc y=true) (ha:DE X E0k e f) (i:Nat) (hv:okVar N sc i x=true)
   (he:wY [e,.Name x p1] X.env=(false,eval e X.env)::wY [.Name x p1] X.env:=by rfl) (he2:wY [.Name x p1] X.env=(false,eval (.Name x p1) X.env)::wY [] X.env:=by rfl) (hpl:(zP pos (wY [.Name x p1] X.env)).any (·.1)=false:=by rfl) :
   DN X E0k (.Call (.Name y p) [e,.Name x p1] [] pos) (Os f i m):=by
 obtain ⟨fa,fd,ps,hps,F,hm,hk,hb⟩:=F.ex;obtain ⟨h1,h2,h3⟩:=okGl.gl C h;have F':FnOk X.prog X.w X.K X.mg X.base CX0 j fa fd ps (spSN 2 m):=by rw [C.hP,C.hw,C.hK,C.hmg,C.hb]; exact F
 refine PE.imp (Pa F' (C.room.mono hj) h1 (by rw [C.hmg]; exact hm) (by rw [C.hK]; exact hk) (by rw [C.hK]; exact hb) .nil (eT (X:=X)) (P7 ha (P7 (okVar.pe C hv) Z5 he2) he) h2 he hpl) fun Z H Q hh=>?_;obtain ⟨G,δ,S,aft⟩:=hh;refine nO S aft fun d v G1 H1 g1 r1 S1 a1=>?_;split at a1
 . rename_i kvs hi
   obtain ⟨u,hσ,fo⟩:=S1.fdV hi; refine ⟨u,hσ,?_⟩;cases em:m [.sh d,.fd kvs] with
   | ok r=>rw [em] at a1; exact ⟨G1,[.sh d,.fd kvs],r,S1.sub,⟨v,_,rfl,r1,u,_,rfl,fo,rfl⟩,rfl,em,a1⟩
   | exc c=>rw [em] at a1; exact (a1 G1 H1 (Grow.refl S1.sub)).elim
   | no=>rw [em] at a1; exact a1.elim
 . exact (show False from a1).elim
theorem Ru {j:Nat} {m:List Sl->Res wK} (C:Cxt P w K mg base X N sc k df) (F:FnS P w K mg base y j 2 m) (hj:j<=k) (h:okGl sc y=true) (i:Nat) (hv:okVar N sc i x=true) (ha:DE X E0k e f)
   (he:wY [.Name x p1,e] X.env=(false,eval (.Name x p1) X.env)::wY [e] X.env:=by rfl) (he2:wY [e] X.env=(false,eval e X.env)::wY [] X.env:=by rfl) (hpl:(zP pos (wY [e] X.env)).any (·.1)=false:=by rfl) :
   DE X E0k (.Call (.Name y p) [.Name x p1,e] [] pos) (Y0 i f m):=by
 obtain ⟨fa,fd,ps,hps,F,hm,hk,hb⟩:=F.ex;obtain ⟨h1,h2,h3⟩:=okGl.gl C h;have F':FnOk X.prog X.w X.K X.mg X.base CX0 j fa fd ps (spS 2 m):=by rw [C.hP,C.hw,C.hK,C.hmg,C.hb]; exact F
 refine PE.imp (Pa F' (C.room.mono hj) h1 (by rw [C.hmg]; exact hm) (by rw [C.hK]; exact hk) (by rw [C.hK]; exact hb) .nil (eT (X:=X)) (P7 (okVar.pe C hv) (P7 ha Z5 he2) he) h2 he hpl) fun Z H Q hh=>?_;obtain ⟨G,δ,S,aft⟩:=hh;unfold Y0 at aft;split at aft
 . rename_i kvs hi
   obtain ⟨u,hσ,_⟩:=S.fdV hi; refine ⟨u,hσ,?_⟩; refine K2 S aft fun d v G1 H1 g1 r1 S1 a1=>?_;obtain ⟨u',hσ',fo⟩:=S1.fdV hi; rw [hσ] at hσ'; cases hσ';cases em:m [.fd kvs,.sh d] with
   | ok r=>rw [em] at a1; exact ⟨G1,[.fd kvs,.sh d],r,S1.sub,⟨u,_,rfl,fo,v,_,rfl,r1,rfl⟩,rfl,em,a1⟩
   | exc c=>rw [em] at a1; exact (a1 G1 H1 (Grow.refl S1.sub)).elim
   | no=>rw [em] at a1; exact a1.elim
 . exact (show False from aft).elim
theorem qH {t:Bool} {Z:St} {H:Hp} {Q:VK} (h:tD E (jJ t f fx) Z H Q):oB t (tD E f) (tN E fx) Z H Q:=by
 obtain ⟨G,δ,S,aft⟩:=h;refine K2 S aft fun kd v G1 H1 g1 r1 S1 a1=>?_;refine aft_N S1 a1 fun kvs q G2 H2 g2 ho S2 a2=>?_;split at a2
 . rename_i hn
   obtain ⟨kk,hx,hkeys,hvals⟩:=(show OwnK G2 H2 q [.dict kvs,.none] from ho);refine ⟨q,kk,kd,rfl,.inl hx,Hf S2.sub hn (r1.mono g2.g),hn,?_⟩; have:(P0 kk kd).isSome=(G6 kvs kd).isSome:=by
     rcases Hl (k:=kd) hkeys hvals with ⟨n1,n2⟩ | ⟨d0,v0,n1,n2,_⟩ <;> rw [n1,n2] <;> rfl
   rw [this]; exact a2 _ G2 H2 (Grow.refl S2.sub) rfl
 . exact (show False from a2).elim
theorem aW (C:Cxt P w K mg base X N sc k df) (hk:DE X E a f) (he:DN X E e fx) (hm:behindInMarks .NotIn e=false:=by with_unfolding_all rfl):DE X E (.Compare a [.NotIn] [e] pos) (jJ true f fx) :=
 PE.imp (Xg (Lz (by have:=C.hu; lia) hk he) hm) fun _ _ _ h=>qH h
end
end Sm
end
noncomputable section
namespace Sm
open PySem PySem.Spec PyProof.Rows PySem.W L2
end Sm
end
noncomputable section
namespace Sm
open PySem PySem.Spec PyProof.Rows PySem.W L2
noncomputable def Rh {α:Type} (acc prs:List (wK×α)):List (wK×α):=prs.foldl (fun acc kv=>N7 acc kv.1 kv.2) acc
def PairN (H:Hp) (y:V) (kv:wK×V):Prop:=∃ t k,y=.ref t/\H t=some (.tup [k,kv.2])/\KRep H kv.1 k/\nkD kv.1=true
theorem PairN.mono {H H':Hp} {y:V} {kv:wK×V} (h:PairN H y kv) (k:∀ b xs,H b=some (.tup xs)->H' b=some (.tup xs)):PairN H' y kv:=by
 obtain ⟨t,b,e,h1,h2,h3⟩:=h;exact ⟨t,b,e,k _ _ h1,h2.mono k,h3⟩
theorem mX {P:xT} {w:yC} {H:Hp} (h:yW) (hb:l5 < h.objs.size):ObjOk P w H (h.push { cls:=.type "dict",data:=.dict #[] }) h.objs.size (.dN []) :=
 ⟨l7 _,beq_eq_false_iff_ne.mpr (Ne.symm (yE hb)),.nil,(fun _ h=>nomatch h),[],.nil,0,xN _ rfl⟩
noncomputable section
variable {X:Cx} {pins:List (wX×Obj)} {Z:St}
theorem dD {A:yZ} {a d it:wX} (hh:A.handled=none) (hu:A.units+16 < i4) {ys:List V} {R:Result->wO->Prop}:∀ (n i:Nat) (s:wO) (H:Hp) (acc:List (wK×V)) (prs:List (wK×V)),n=prs.length ->
   Inv X pins Z H s->H d=some (.dN acc)->Rd H a (.lst ys)->s.heap.IsListIter it a i->So X pins H it->zJ (PairN H) (ys.drop i) prs->i+prs.length=ys.length->acc.length+prs.length < 10000->ys.length < 10000 ->
   (∀ s',Inv X pins Z (upd H d (.dN (Rh acc prs))) s'->R (.ok (.ret .none)) s') ->
   DH (xU X.prog X.w) A (.builtin "dict.update.loop" ⟨[.ref d,.ref it,t9 i,.none],[]⟩) R s:=by
 intro n;induction n with
 | zero =>
   intro i s H acc prs hn I hd hl st fp hp hlen hacc hys hR; have:prs=[]:=zI.mp hn.symm; subst this; refine BK Gk ?_; rw [v9 Gi _]; obtain ⟨its,rv,p,hz⟩:=I.list (.inl hl); have hl':=rv.length; simp only [yD,Nat.add_zero] at hlen; show wpAny _ A.in1 (BV (.ref it)>>=_) _ _ s;obtain ⟨f0,f1,f2,f3,f4,f5⟩:=fp; refine wL (wpAny_pyNext_list_end hh st p.isList (by simp; lia) fun h' eb=>?_);have I1:Inv X pins Z H { s with heap:=h' }:=I.turned (t':=s.toks) (fun b o hb e=>eb b o hb e) f0 f1 f3 f4 f5;have hsame:upd H d (.dN (Rh acc []))=H:=by
     funext b
     unfold upd;split
     . rename_i e; rw [e,hd]; rfl
     . rfl
   rw [hsame] at hR; show wpAny _ A.in1 (Builtin.Dict.addKeywords d []>>=_) _ _ _;exact wL (wN (wN (hR _ I1)))
 | succ n ih =>
   intro i s H acc prs hn I hd hl st fp hp hlen hacc hys hR;cases prs with
   | nil=>simp at hn
   | cons kv prs =>
     simp only [xB] at hn hlen hacc; have hi:i < ys.length:=by lia
     have hdrop:ys.drop i=ys[i]::ys.drop (i+1):=i7 hi; rw [hdrop] at hp;cases hp with
     | cons h0 hp =>
       obtain ⟨t,kk,ey,ht,hb,hnk⟩:=h0; refine BK Gk ?_; rw [v9 Gi _]; obtain ⟨its,rv,p,hz⟩:=I.list (.inl hl); obtain ⟨u,hu',ru⟩:=rv.get (yJ hi); rw [ey] at ru;cases (show u=zA t from ru);obtain ⟨f0,f1,f2,f3,f4,f5⟩:=fp; show wpAny _ A.in1 (BV (.ref it)>>=_) _ _ s;refine wL (wpAny_pyNext_list_item st p.isList (x:=.ref t) (by simpa using hu') fun h' st' sb=>?_);have I1:Inv X pins Z H { s with heap:=h' }:=I.turned (t':=s.toks) (fun b o hb e=>(sb.2 b hb).trans e) f0 f1 f3 f4 f5;obtain ⟨its2,rv2,p2,_⟩:=I1.tuple (.inl (.inl ht));cases rv2 with
       | @cons _ u1 _ _ r1 rr =>
         cases rr with
         | @cons _ u2 _ _ r2 rr2 =>
           cases rr2; obtain ⟨ot,hot,hotc,nt,hotd⟩:=p2; obtain ⟨c0,d0,da0,sl0⟩:=ot; simp only at hotc hotd; subst hotc hotd; refine wL (c9 (wL (wpAny_tryCatch ?_))); unfold Builtin.Dict.pairItems; have hT:({ s with heap:=h' }:wO).TypeIs (.ref t) "tuple" := ⟨_,hot,rfl⟩;generalize hDS:dictSet=DS
           repeat (any_goals (first | assumption | wp_step))
           subst hDS; refine Me (A:=A.in1) (by show A.units+1+8 < i4; lia) I1 hd hb hnk (xZ (show acc.length < 10000 by lia) (by decide)) r1 r2 fun s3 I3 sb3=>?_;have hne:it≠d:=fun z=>by rw [z,hd] at f0; cases f0
           have hne2:∀ c xs,H c=some (.tup xs)->upd H d (.dN (N7 acc kv.1 kv.2)) c=some (.tup xs):=fun c xs e=>by rw [C8 (Rc e hd (fun z=>nomatch z))]; exact e
           refine wN ⟨Code.quiet_builtin _ (by decide +kernel),?_⟩;refine ih (i+1) s3 _ (N7 acc kv.1 kv.2) prs (by lia) I3 D3 ?_ (st'.at fun o e=>sb3 it o hne e) ⟨by rw [C8 hne]; exact f0,f1,f2,f3,f4,f5⟩ (Paired.mapP hp fun _ _ z=>z.mono hne2) (by lia) (by have:=Dc (k:=kv.1) (v:=kv.2) acc; lia) hys fun s' J=>?_
           . rcases hl with z | ⟨o,z⟩
             . exact .inl (by rw [C8 (Rc z hd (fun z=>nomatch z))]; exact z)
             . exact .inr ⟨o,by rw [C8 (Rc z hd (fun z=>nomatch z))]; exact z⟩
           . rw [Wg] at J
             exact hR s' J
theorem dP (hh:X.A.handled=none) (hu:X.A.units+64 < i4):Y7 X (.type "dict") (fun vs H Q=>∃ a ys prs,vs=[.ref a]/\Rd H a (.lst ys)/\zJ (PairN H) ys prs/\ys.length < 1000/\∀ p,H p=none->Q (.ref p) (upd H p (.dN (Rh [] prs)))):=by
 rintro pins s Z H xs us Q I r ⟨a,ys,prs,e0,hl,hp,hn,q⟩;subst e0;cases r with
 | cons r0 rr =>
   cases rr; obtain ⟨rfl⟩:=(show _=zA a from r0);refine callType_codes (Q₁:=fun obj s₁=>obj=.ref s.heap.objs.size/\s₁={ s with heap:=s.heap.push { cls:=.type "dict",data:=.dict #[] } }) F.kt_called_dict (F.kt_typeCall_dict_1 _) F.entry_dict_init (kt_code_dict_new _ ⟨rfl,rfl⟩) ?_;rintro obj s₁ ⟨rfl,rfl⟩;have hfr:=I.hok.fresh (xH s.heap.objs.size); have I1:=I.laid (a:=s.heap.objs.size) (o:=.dN []) (h':=s.heap.push { cls:=.type "dict",data:=.dict #[] }) (t':=s.toks) (fun _ _ q=>xG _ q) (xH _) (mX s.heap I.big);have hTd:({ s with heap:=s.heap.push { cls:=.type "dict",data:=.dict #[] } }:wO).TypeIs (.ref s.heap.objs.size) "dict" := ⟨_,xN _ rfl,rfl⟩; refine ⟨hTd,F.args_dict_init_2 _ _,?_⟩; have hl1:Rd (upd H s.heap.objs.size (.dN [])) a (.lst ys):=by
     rcases hl with z | ⟨o,z⟩
     . exact .inl (by rw [C8 (E6 z hfr)]; exact z)
     . exact .inr ⟨o,by rw [C8 (E6 z hfr)]; exact z⟩
   obtain ⟨_,its,nn,rv,hobj⟩:=(show ObjOk X.prog X.w _ _ a (.lst ys) from hl1.ok I1.hok);unfold l0.«dict.__init__»;refine wL ?_; unfold Builtin.Dict.selfAndRest; refine wL (BC hTd ?_); show wpAny _ _ (pure (s.heap.objs.size,[zA a])) _ _ _;refine wN ?_; show wpAny _ _ (ER "dict.__init__" s.heap.objs.size (.ref a) [] .none) _ _ _;unfold ER; refine wL (FG (T := "list") ⟨_,hobj,rfl⟩ ?_); rw [if_pos (by decide)]; refine wL (iF hh hobj fun h1 tk1 kp=>?_);rw [if_pos (by rfl)]; have I2:Inv X pins Z (upd H s.heap.objs.size (.dN [])) { s with heap:=h1,toks:=tk1 }:=I1.kept (t':=tk1) kp; refine wL (i0 ?_); obtain ⟨its2,rv2,p2,_⟩:=I2.list (.inl hl1); refine wL (CC p2.isList ?_); have I3:Inv X pins Z (upd H s.heap.objs.size (.dN [])) { s with heap:=h1.push { cls:=.type "list_iterator",data:=.fields #[.ref a,.int 0 0] },toks:=tk1 }:=I2.kept (t':=tk1) fun b o e=>xG _ e
   have hpz:zJ (PairN (upd H s.heap.objs.size (.dN []))) ys prs:=Paired.mapP hp fun _ _ z=>z.mono fun b xs e=>by rw [C8 (E6 e hfr)]; exact e
   have hle:prs.length=ys.length:=(Paired.len' hp).symm; refine wN ⟨Code.quiet_builtin _ (by decide +kernel),?_⟩;refine dD (A:=X.A.in1) hh (by show X.A.units+1+16 < i4; lia) (ys:=ys) prs.length 0 _ _ [] prs rfl I3 D3 hl1 ⟨_,xN _ rfl,rfl,rfl⟩ (I2.fpOk (xH _) (I2.hok.fresh (xH _))) hpz (by lia) (by simp; lia) (by lia) fun s' J=>?_;rw [Wg] at J; exact ⟨rfl,.ref s.heap.objs.size,_,J,rfl,q _ hfr⟩
end
noncomputable def Jh:List wK->Kvs->Option Kvs
 | [],kvs=>some kvs
 | .tuple [kd,v]::ds,kvs=>if nkD kd=true then Jh ds (N7 kvs kd v) else none
 | _::_,_=>none
theorem cS {G:Hp}:∀ (ds:List wK) (ys:List V) (kvs kvs':Kvs) (kv:List (wK×V)),RepL G ds ys->Jh ds kvs=some kvs'->kvs.map (·.1)=kv.map (·.1)->RepL G (kvs.map (·.2)) (kv.map (·.2)) ->
   ∃ prs,zJ (PairN G) ys prs/\kvs'.map (·.1)=(Rh kv prs).map (·.1)/\RepL G (kvs'.map (·.2)) ((Rh kv prs).map (·.2)):=by
 intro iN; induction iN with
 | nil =>
   intro ys kvs kvs' kv r e h1 h2;cases (show _=_ from r);cases e; exact ⟨[],.nil,h1,h2⟩
 | cons d ds ih =>
   intro ys kvs kvs' kv r e h1 h2; obtain ⟨y,t,rfl,rd,rl⟩:=r; unfold Jh at e;split at e
   . rename_i heq
     cases heq
   . rename_i kd v ds' heq
     cases heq;split at e
     . rename_i ek
       obtain ⟨p,xs,rfl,hp,lp⟩:=rd; obtain ⟨v1,v2,rfl,r1,r2⟩:=tM lp; obtain ⟨p1,p2⟩:=Qt (k:=kd) r2 h1 h2; obtain ⟨prs,q1,q2,q3⟩:=ih t _ kvs' _ rl e p1 p2; exact ⟨(kd,v2)::prs,.cons ⟨p,v1,rfl,hp,Hf (Same.refl G) ek r1,ek⟩ q1,q2,q3⟩
     . cases e
   . cases e
noncomputable def Rg (f:Dn->Res wK):Dn->Res Kvs:=fun δ=>(f δ).bind fun d=>match d with
 | .list ds=>if ds.length < 1000 then ofO (Jh ds []) else .no
 | _=>.no
noncomputable section
variable {P:xT} {w:yC} {K:wQ} {mg:Str->Option wM} {base:yW} {X:Cx} {N:List Str} {sc:Scope} {k:Nat} {df:Bool} {E:EK} {p2 cp:Pos} {e:Expr} {f:Dn->Res wK}
theorem fA (C:Cxt P w K mg base X N sc k df) (hd:okGl sc "dict" = true) (hm:mg "dict" = none) (hf:DE X E e f) (hst:Xm e=true:=by rfl)
   (he:wY [e] X.env=(false,eval e X.env)::wY [] X.env:=by rfl) (hpl:(zP cp (wY [] X.env)).any (·.1)=false:=by rfl) :
   DN X E (.Call (.Name "dict" p2) [e] [] cp) (Rg f):=by
 obtain ⟨k1,k2,k3⟩:=okGl.gl C hd;refine PE.imp (Uz (dP C.room.hd C.hu) k1 (by rw [C.hmg]; exact hm) (by decide +kernel) (P7 hf Z5 he) k3 k2 he hpl) fun Z H Q hh=>?_;obtain ⟨G,δ,S,aft⟩:=hh;refine nO S aft fun d v G1 H1 g1 r1 S1 a1=>?_;split at a1
 . rename_i ds
   split at a1
   . rename_i hlen
     cases ek:Jh ds [] with
     | none=>rw [ek] at a1; exact (show False from a1).elim
     | some kvs =>
       rw [ek] at a1; obtain ⟨a,ys,rfl,ha,la⟩:=r1; obtain ⟨prs,q1,q2,q3⟩:=cS ds ys [] kvs [] la ek rfl rfl; refine ⟨a,ys,prs,rfl,Rd.mono S1.sub ha,Paired.mapP q1 fun _ _ z=>z.mono fun b xs e=>S1.sub _ _ e,by rw [<- la.length]; exact hlen,fun q hq=>?_⟩;exact a1 q G1 _ (Grow.own S1.sub hq) hq (S1.sub.free hq) (show OwnK G1 _ q [.dict kvs,.none] from ⟨_,D3,q2,q3⟩)
   . exact (show False from a1).elim
 . exact (show False from a1).elim
end
end Sm
end
noncomputable section
namespace Sm
open PySem PySem.Spec PySem.W PyProof.Rows L2
end Sm
end
noncomputable section
namespace Sm
open PySem PySem.Spec PySem.W PyProof.Rows L2
end Sm
end
noncomputable section
namespace Sm
open PySem PySem.Spec PyProof.Rows PySem.W L2
noncomputable section
variable {prog:xT} {w:yC} {A:yZ} {E:wM->wO->Prop} {s:wO}
theorem bT (hh:A.handled=none) (I d:wX) (hne:d≠I) (od:Obj) (es:Array yU) (ep:Nat) (hdd:od.data=.dict es ep) :
   Walks prog w A I [I,d] [I] es.size (fun i v=>∃ e,es[i]? = some e/\v=e.key) (fun i h=>h.IsKeyIter I d i es.size ep/\h.get? d=some od) where
 sub:=fun b hb=>by simp at hb; simp [hb]
 frame:=fun _ _ _ st hk=>⟨st.1.at fun o e=>hk I (by simp) o e,hk d (by simp) _ st.2⟩
 item:=fun i s Q E hi st hQ=>by
   refine lW st.1 st.2 hdd hi fun h' n hs=>?_;exact hQ _ h' s.toks ⟨es[i],by simp [hi],rfl⟩ ⟨n,hs.extBut d _ hne st.2⟩ fun b o hb e=>hs.extBut b o (fun z=>hb (by simp [z])) e
 done:=fun s Q E st hQ=>qR hh (xH _) st.1 st.2 hdd fun h' he=>hQ h' s.toks fun b o hb e=>he b o (fun z=>hb (by simp [z])) e
 self:=fun _ _ _ _ st hQ=>wpAny_pyIter_keyiter st.1 hQ
theorem gL {d:wX} {od:Obj} {es:Array yU} {ep:Nat} (lo:(d==l5)=false) (hcl:od.cls=.type "dict") (hdd:od.data=.dict es ep) :
   KdlSrc prog w "dict" d d es.size (fun i v=>∃ e,es[i]? = some e/\v=e.key) (fun h=>h.get? d=some od) where
 type:=fun _ hm=>⟨od,hm,hcl⟩
 there:=fun _ hm=>⟨xL hm,xL hm⟩
 keep:=fun _ _ hm hk=>hk d (.inr rfl) _ hm
 notList:=by decide
 notTuple:=by decide
 hint:=fun _ _ _ _ hm hq=>kdl_hint_dict ⟨od,hm,hcl⟩ hq
 iter:=fun _ _ hh hm=>⟨_,_,(fun _ _ hq=>mL lo ⟨od,hm,hcl⟩ hm hdd hq),bT hh _ d (yE (xL hm)) od es ep hdd,⟨⟨_,xN _ rfl,rfl,rfl⟩,xG _ hm⟩⟩
theorem kB {d:wX} {od:Obj} {es:Array yU} {ep:Nat} {ss:List Str} {Q:wM->wO->Prop} (lo:(d==l5)=false) (hcl:od.cls=.type "dict") (hdd:od.data=.dict es ep) (hh:A.handled=none) (hd:s.heap.get? d=some od)
   (hS:GH (es.toList.map (·.key)) ss) (h64:es.size < 64)
   (h:∀ (h1:yW) tk (out:Array wM) (ss':List Str),(∀ b o,s.heap.get? b=some o->h1.get? b=some o)->GH out.toList ss'->ss'.Perm ss->sortedS ss'=true ->
     Q (.ref h1.objs.size) { s with heap:=sortedHeap (h1.push (seqObj "list" (es.toList.map (·.key)).toArray 0)) h1.objs.size (es.toList.map (·.key)) out,toks:=tk }) :
   wpAny (xU prog w) A (call (.builtin "sorted") [.ref d]) Q E s:=by
 refine Calls.call_function_entry kind_sorted plain_sorted entry_sorted (args_sorted1 _) (wL (m:=checkCount "sorted" 1 1 _) (wN (wL (Yf (gL lo hcl hdd) hh hd (by rw [CD]; lia) fun h1 tk acc hk hacc=>?_))));have hacc2:acc.toList=es.toList.map (·.key):=by
   apply BQ;intro j;by_cases hj:j < es.size
   . have hja:j < acc.size:=by rw [hacc.1]; exact hj
     obtain ⟨e,e1,e2⟩:=hacc.2 j acc[j] (by simp [hja]);rw [xS,p7,p7,e1,zV hja,e2]; rfl
   . rw [s0 (by simpa [hacc.1] using i8.mp hj),s0 (by simpa using i8.mp hj)]
 rw [hacc2];generalize hvs:es.toList.map (·.key)=vs at *;have hvl:vs.length=es.size:=by rw [<- hvs]; simp
 refine wL (wpAny_newList ?_ (by rw [CD]; lia));have hoL:(h1.push (seqObj "list" vs.toArray 0)).get? h1.objs.size=some (seqObj "list" vs.toArray 0):=xN _ rfl;show wpAny _ _ _ _ _ { s with heap:=h1.push (seqObj "list" vs.toArray 0),toks:=tk };refine wL (c9 (zZ slot_list_sort ⟨_,hoL,rfl⟩ entry_list_sort (list_sort_treeK strKind_oneLt hoL hS.keysOf (fun v₁ v₂ L8 e=>keyKind_strs (by rw [<- e]; exact hS)) (by lia) fun st' hp hs=>⟨_,rfl,?_⟩) (args_list_sort _)));obtain ⟨ss',k1,k2,k3⟩:=sorted_out_str hS hp hs;exact wN ⟨_,rfl,h h1 tk _ ss' hk k1 k2 k3⟩
end
noncomputable def ltS (a b:Str):Bool:=ltCps a.cps.toList b.cps.toList
noncomputable def iL (p:Str):List Str->List Str
 | []=>[p]
 | q::r=>if ltS q p=true then q::iL p r else p::q::r
noncomputable def Bs:List Str->List Str
 | []=>[]
 | p::r=>iL p (Bs r)
noncomputable def Ak:List wK->Option (List Str)
 | []=>some []
 | .str x::r=>(Ak r).map (x::·)
 | _::_=>none
def leX (a b:Str):Prop:=¬ b.cps.toList < a.cps.toList
theorem rZ {a b:Str}:ltS b a=false↔leX a b:=by unfold ltS leX; rw [ltCps_eq]; simp
theorem leX.trans {a b c:Str} (h1:leX a b) (h2:leX b c):leX a c:=List.le_trans (l₁:=a.cps.toList) (l₂:=b.cps.toList) (l₃:=c.cps.toList) h1 h2
theorem leX.anti {a b:Str} (h1:leX a b) (h2:leX b a):a=b:=by
 have:=List.le_antisymm (as:=a.cps.toList) (bs:=b.cps.toList) h1 h2;obtain ⟨⟨x⟩⟩:=a;obtain ⟨⟨y⟩⟩:=b;simp at this;rw [this]
theorem Us:∀ (p:Str) (l:List Str),risingS p l=true->(p::l).Pairwise leX
 | p,[],_=>o6 _ _
 | p,x::r,h=>by
   have h':(!ltCps x.cps.toList p.cps.toList&&risingS x r)=true:=h; rw [xX] at h'; have ih:=Us x r h'.2; have hx:leX p x:=rZ.mp (by have:=h'.1; unfold ltS; simpa using this);refine yK.mpr ⟨fun y hy=>?_,ih⟩;rcases wR.mp hy with rfl | hy
   . exact hx
   . exact hx.trans ((yK.mp ih).1 y hy)
theorem cA:∀ {l:List Str},sortedS l=true->l.Pairwise leX:=by
 intro iN; induction iN with
 | nil=>intro _; exact .nil
 | cons x r ih=>intro h; exact Us x r h
theorem Zu:∀ {l m:List Str},l.Perm m->l.Pairwise leX->m.Pairwise leX->l=m
 | [],m,h,_,_=>(List.Perm.nil_eq h)
 | a::l,[],h,_,_=>absurd h.length_eq (by simp)
 | a::l,b::m,h,h1,h2=>by
   rw [yK] at h1 h2; have e:a=b:=by
     rcases wR.mp (h.mem_iff.mp (c7 (a:=a) (l:=l))) with e | e
     . exact e
     . rcases wR.mp (h.mem_iff.mpr (c7 (a:=b) (l:=m))) with e' | e'
       . exact e'.symm
       . exact (h1.1 b e').anti (h2.1 a e)
   subst e; rw [Zu (List.Perm.cons_inv h) h1.2 h2.2]
theorem Vh (p:Str):∀ l,(iL p l).Perm (p::l):=by
 intro iN; induction iN with
 | nil=>skip; exact BB _
 | cons q r ih =>
   skip
   unfold iL;split
   . exact ((ih).cons q).trans (List.Perm.swap p q r)
   . exact BB _
theorem W9:∀ l,(Bs l).Perm l:=by
 intro iN; induction iN with
 | nil=>skip; exact BB _
 | cons p r ih=>skip; exact (Vh p (Bs r)).trans ((ih).cons p)
theorem qG (p:Str):∀ l,l.Pairwise leX->(iL p l).Pairwise leX:=by
 intro iN; induction iN with
 | nil=>intro _; exact o6 _ _
 | cons q r ih =>
   intro h; rw [yK] at h; unfold iL;split
   . rename_i c
     refine yK.mpr ⟨fun x hx=>?_,ih h.2⟩;rcases wR.mp ((Vh p r).mem_iff.mp hx) with rfl | hx
     . unfold ltS at c; rw [ltCps_eq] at c; exact List.lt_asymm (of_decide_eq_true c)
     . exact h.1 x hx
   . rename_i c
     have hq:leX p q:=rZ.mp (by simpa using c);refine yK.mpr ⟨fun x hx=>?_,yK.mpr h⟩;rcases wR.mp hx with rfl | hx
     . exact hq
     . exact hq.trans (h.1 x hx)
theorem Zg:∀ l,(Bs l).Pairwise leX:=by
 intro iN; induction iN with
 | nil=>skip; exact .nil
 | cons p r ih=>skip; exact qG p _ (ih)
theorem Ja:∀ {ds:List wK} {ss:List Str},Ak ds=some ss->ds=ss.map .str:=by
 intro iN; induction iN with
 | nil=>intro ss e; cases e; rfl
 | cons d ds ih =>
   intro ss e;cases d with
   | str x =>
     obtain ⟨r,e1,e2⟩:=yN.mp (show (Ak ds).map (x::·)=some ss from e);rw [<- e2,ih e1]; rfl
   | _=>cases e
noncomputable section
variable {X:Cx}
def tR (xs:List V) (H:Hp) (Q:VK):Prop:=∃ d,∃ kk:List (wK×V),∃ ss:List Str,xs=[.ref d]/\Rd H d (.dN kk)/\kk.map (·.1)=ss.map .str/\ss.length < 64 /\
 ∀ l,H l=none->Q (.ref l) (upd H l (.lst ((Bs ss).map .str)))
theorem Rq {w:yC} {H:Hp}:∀ {kk:List (wK×V)} {xs:List (wM×wM)} {ss:List Str},zJ (fun (p:wK×V) (q:wM×wM)=>(∃ v,KRep H p.1 v/\RelV v q.1)/\RelV p.2 q.2) kk xs->kk.map (·.1)=ss.map c6->GH ((U9 w kk xs).map (·.key)) ss
 | _,_,[],r,e=>by
   cases r with
   | nil=>exact .nil
   | cons _ _=>cases e
 | _,_,x::ss,r,e=>by
   cases r with
   | nil=>cases e
   | @cons p q kk xs h r =>
     injection e with e1 e2
     obtain ⟨⟨v,h1,h2⟩,_⟩:=h; rw [show p.1=c6 x from e1] at h1; obtain ⟨rfl,_⟩:=h1; obtain ⟨t,ht⟩:=h2; show GH (q.1::(U9 w kk xs).map (·.key)) (x::ss);rw [ht]; exact .cons x t (Rq r e2)
theorem Pk:∀ {vs:List wM} {ss:List Str},GH vs ss->Vals (ss.map V.str) vs
 | _,_,.nil=>.nil
 | _,_,.cons x t h=>.cons ⟨t,rfl⟩ (Pk h)
theorem dJ (hh:X.A.handled=none):Y7 X (.builtin "sorted") tR:=by
 rintro pins s Z H xs us Q I r ⟨d,kk,ss,hx,hd,hkk,h64,q⟩;subst hx;obtain ⟨u,rfl,ru⟩:=Vals.one r;cases (show u=zA d from ru);obtain ⟨z,lo,nd,nk,ys,rel,ep,ho⟩:=hd.ok I.hok;have hS:=Rq (w:=X.w) rel hkk;have hlen:(U9 X.w kk ys).length=ss.length:=by
   have:=hS.strs; rw [<- this]; simp
 refine kB (ss:=ss) lo rfl rfl hh ho hS (by rw [xE]; exact BM (Nat.le_of_eq hlen) h64) fun h1 tk out ss' hk k1 k2 k3=>?_;have hsrt:ss'=Bs ss:=Zu (k2.trans (W9 ss).symm) (cA k3) (Zg ss);subst hsrt;have I1:Inv X pins Z H { s with heap:=h1,toks:=tk }:=I.kept (t':=tk) hk;have ho1:(h1.push (seqObj "list" ((U9 X.w kk ys).toArray.toList.map (·.key)).toArray 0)).get? h1.objs.size=some (seqObj "list" ((U9 X.w kk ys).toArray.toList.map (·.key)).toArray 0):=xN _ rfl;obtain ⟨ee,hat⟩:=sortedHeap_at (out:=out) ho1;have hfr:H h1.objs.size=none:=I1.hok.fresh (xH _)
 refine ⟨.ref h1.objs.size,_,I1.laid (o:=.lst ((Bs ss).map .str)) (t':=tk) (fun b o e=>?_) (xH _) ⟨?_,out.toList,ee,Pk k1,hat⟩,rfl,q _ hfr⟩
 . have hlt:b < h1.objs.size:=xL e
   rw [sortedHeap_old (yE hlt) (by rw [size_push']; exact Nat.lt_succ_of_lt hlt)];exact xG _ e
 . rw [wT,(W9 ss).length_eq,CD]; lia
end
noncomputable def Pl (i:Nat):Dn->Res wK:=fun δ=>match kvN δ i with
 | some kvs=>match Ak (kvs.map (·.1)) with
   | some ss=>if ss.length < 64/\(ss.all fun x=>yB x&&decide (x.length<=1000))=true then .ok (.list ((Bs ss).map .str)) else .no
   | none=>.no
 | none=>.no
noncomputable section
variable {P:xT} {w:yC} {K:wQ} {mg:Str->Option wM} {base:yW} {X:Cx} {N:List Str} {sc:Scope} {k:Nat} {df:Bool} {E:EK} {pos p p1:Pos} {x:Str}
theorem cO {G:Hp}:∀ (ss:List Str),(∀ x∈ss,yB x=true/\x.length<=sizeLine)->RepL G (ss.map .str) (ss.map .str):=by
 intro iN; induction iN with
 | nil=>intro _; exact rfl
 | cons x ss ih=>intro h; exact RepL.cons ⟨rfl,h x (.head _)⟩ (ih fun y hy=>h y (.tail _ hy))
theorem qZ (C:Cxt P w K mg base X N sc k df) (h:okGl sc "sorted" = true) (hm:mg "sorted" = none) (i:Nat) (hv:okVar N sc i x=true)
   (he:wY [.Name x p1] X.env=(false,eval (.Name x p1) X.env)::wY [] X.env:=by rfl) (hpl:(zP pos (wY [] X.env)).any (·.1)=false:=by rfl) :
   DE X E (.Call (.Name "sorted" p) [.Name x p1] [] pos) (Pl i):=by
 obtain ⟨h1,h2,h3⟩:=okGl.gl C h;intro pins s Z H Q I q;refine (PE.imp (Qw (dJ (I.ok.hd C.calm)) h1 (by rw [C.hmg]; exact hm) (by decide +kernel) (P7 (okVar.pe C hv (p:=p1)) Z5 he) h3 h2 he hpl) fun Z H Q hY94=>?_) pins s Z H Q I q;obtain ⟨G,δ,S,aft⟩:=hY94;unfold Pl at aft;split at aft
 . rename_i kvs hi
   split at aft
   . rename_i ss eps
     split at aft
     . rename_i hc
       obtain ⟨d,kk,hσ,hx,hkeys,hvals⟩:=S.kvN hi; refine ⟨.ref d,hσ,d,kk,ss,rfl,hx,by rw [<- hkeys]; exact Ja eps,hc.1,fun l hl=>?_⟩;have hG:G l=none:=S.sub.free hl; refine aft _ (upd G l (.lst ((Bs ss).map .str))) _ (Grow.new S.sub hl) ⟨l,_,rfl,.inl D3,?_⟩; refine cO _ fun y hy=>?_;have:=f9.mp hc.2 y ((W9 ss).mem_iff.mp hy); rw [xX] at this; exact ⟨this.1,xD (of_decide_eq_true this.2) (by decide)⟩
     . exact aft.elim
   . exact aft.elim
 . exact aft.elim
end
end Sm
end
noncomputable section
namespace Sm
open PySem PySem.Spec PyProof.Rows L2
end Sm
end
noncomputable section
namespace Sm
open PySem PySem.Spec PyProof.Rows L2
end Sm
end
noncomputable section
namespace Sm
open PySem PySem.Spec PyProof.Rows L2
end Sm
end
noncomputable section
namespace Sm
open PySem PySem.Spec PyProof.Rows L2
end Sm
end
noncomputable section
namespace Sm
open PySem PySem.Spec PyProof.Rows L2
end Sm
end
noncomputable section
namespace Sm
open PySem PySem.Spec PyProof.Rows L2
end Sm
namespace Sm
open PySem PySem.Spec PyProof.Rows L2
end Sm
end
noncomputable section
namespace Sm
open PySem PySem.Spec PyProof.Rows L2
end Sm
end
noncomputable section
namespace Sm
open PySem PySem.Spec PyProof.Rows L2
noncomputable section
variable {a b c d:Expr}
noncomputable def st3 (i j l:Nat):wK->Dn->Option Dn:=fun d δ=>match d with
 | .tuple [a,b,c]=>some (((δ.set i (.sh a)).set j (.sh b)).set l (.sh c))
 | _=>none
end
end Sm
end
noncomputable section
namespace Sm
open PySem PySem.Spec PyProof.Rows L2
end Sm
end
noncomputable section
namespace Sm
open PySem PySem.Spec PyProof.Rows PySem.W L2
end Sm
end
noncomputable section
namespace Sm
open PySem PySem.Spec PyProof.Rows PySem.W L2
end Sm
end
noncomputable section
namespace Sm
open PySem PySem.Spec PyProof.Rows PySem.W L2
end Sm
end
noncomputable section
namespace Sm
open PySem PySem.Spec PyProof.Rows PySem.W L2
end Sm
end
noncomputable section
namespace Sm
open PySem PySem.Spec PyProof.Rows PySem.W L2
end Sm
end
noncomputable section
namespace Sm
open PySem PySem.Spec PyProof.Rows L2
end Sm
end
noncomputable section
namespace Sm
open PySem PySem.Spec PyProof.Rows L2
end Sm
end
noncomputable section
namespace Sm
open PySem PySem.Spec PyProof.Rows L2
end Sm
end
noncomputable section
namespace Sm
open PySem PySem.Spec PyProof.Rows L2
end Sm
end
noncomputable section
namespace Sm
open PySem PySem.Spec PyProof.Rows L2
end Sm
end
noncomputable section
namespace Sm
open PySem PySem.Spec PyProof.Rows L2
end Sm
end
noncomputable section
namespace Sm
open PySem PySem.Spec PyProof.Rows L2
end Sm
end
noncomputable section
namespace Sm
open PySem PySem.Spec PyProof.Rows L2
end Sm
end
noncomputable section
namespace Sm
open PySem PySem.W PyProof.Rows
end Sm
end
noncomputable section
namespace Sm
open PySem PySem.W PyProof.Rows
end Sm
end
noncomputable section
namespace Sm
open PySem PySem.W PyProof.Rows
end Sm
end
noncomputable section
namespace Sm
open PySem PySem.W PyProof.Rows
end Sm
end
noncomputable section
namespace Sm
open PySem PySem.W PyProof.Rows
end Sm
end
noncomputable section
namespace Sm
open PySem PySem.W PyProof.Rows
end Sm
end
noncomputable section
namespace Sm
open PySem PySem.Spec PyProof.Rows PySem.W L2
end Sm
end
noncomputable section
namespace Sm
open PySem PySem.Spec PyProof.Rows PySem.W L2
end Sm
end
noncomputable section
namespace Sm
open PySem PySem.Spec PyProof.Rows PySem.W L2
end Sm
end
noncomputable section
namespace Sm
open PySem PySem.Spec PyProof.Rows L2
end Sm
end
noncomputable section
namespace Sm
open PySem PySem.Spec PyProof.Rows PySem.W L2
end Sm
end
noncomputable section
namespace Sm
open PySem PySem.Spec PyProof.Rows PySem.W L2
end Sm
end
noncomputable section
namespace Sm
end Sm
end
noncomputable section
namespace Sm
open PySem PySem.W PyProof.Rows
end Sm
end
noncomputable section
namespace Sm
open PySem PySem.W PyProof.Rows
end Sm
end
noncomputable section
namespace Sm
open PySem PySem.W PyProof.Rows
end Sm
end
noncomputable section
namespace Sm
open PySem PySem.Spec PyProof.Rows PySem.W L2
end Sm
end
noncomputable section
namespace Sm
open PySem PySem.Spec PyProof.Rows PySem.W L2
noncomputable section
variable {X:Cx} {E:EK} {p pos:Pos} {a e:Expr} {fx:Dn->Res Kvs}
theorem uX (h:DN X E e fx):DSN X E [.Return (some e) pos] fx:=fun G0 H0=>by
 refine PSs.imp (Kn (cP h)) fun D Z H hY73=>?_;obtain ⟨G,δ,S,a⟩:=hY73;refine ⟨G,δ,S.sr,?_⟩;cases q:fx δ with
 | ok kvs=>rw [q] at a; exact fun p G' H' g hp hp' ho=>a p G' H' (S.gr.trans g) (S.gr.h.free hp) hp' ho
 | exc c=>rw [q] at a; exact fun G' H' g=>a G' H' (S.gr.trans g)
 | no=>rw [q] at a; exact a
end
end Sm
end
noncomputable section
namespace Sm
open PySem PySem.Spec PyProof.Rows PySem.W L2
noncomputable section
variable {X:Cx} {a b:Expr} {pos:Pos}
def sW (tk tv:TE):TE:=fun Z H Q=>∀ p,H p=none->tk Z (upd H p (.dN [])) fun y H1=>tv Z H1 fun v H2=>∃ kd,H2 p=some (.dN [])/\KRep H2 kd y/\nkD kd=true/\Q (.ref p) (upd H2 p (.dN [(kd,v)]))
theorem lK {tk tv:TE} (hu:X.A.units+8 < i4) (hk:PE X a tk) (hv:PE X b tv):PE X (.Dict [some a] [b] pos) (sW tk tv):=by
 intro pins s Z H Q I q;have hn:=I.hok.fresh (xH s.heap.objs.size);have I1:=I.laid (a:=s.heap.objs.size) (o:=.dN []) (h':=s.heap.push { cls:=.type "dict",data:=.dict #[] }) (t':=s.toks) (fun _ _ q=>xG _ q) (xH _) ⟨l7 _,beq_eq_false_iff_ne.mpr (Ne.symm (yE I.big)),.nil,(fun _ h=>nomatch h),[],.nil,0,xN _ rfl⟩;have hp:PPs X pos [some a] [b] [(tk,tv)]:=kZ hk hv pD;refine wpAny_Dict_any rfl rfl (by simp) (by simp) (thn (hp pins _ Z _ (fun ps H2=>match ps with
   | [(y,v)]=>∃ kd,H2 s.heap.objs.size=some (.dN [])/\KRep H2 kd y/\nkD kd=true/\Q (.ref s.heap.objs.size) (upd H2 s.heap.objs.size (.dN [(kd,v)]))
   | _=>False) I1 (q _ hn)) fun ws s2 hZ=>?_)
 obtain ⟨ps,H2,I2,rel,hq⟩:=hZ;split at hq
 . rename_i y v
   obtain ⟨kd,e1,e2,e3,q2⟩:=hq;cases rel with
   | @cons p0 q0 _ _ h t =>
     cases t; obtain ⟨u1,u2⟩:=q0; obtain ⟨r1,r2⟩:=h; show wpAny _ _ (storeAll s.heap.objs.size [(u1,u2)]) _ _ _;unfold storeAll; simp only [CJ,List.forIn_nil]; refine wL (wL (Me hu I2 e1 e2 e3 (by decide) r1 r2 fun s3 I3 _=>wN ?_));exact wN ⟨.ref s.heap.objs.size,_,I3,rfl,q2⟩
 . exact hq.elim
end
noncomputable def Oy (i:Nat) (fk fv:Dn->Res wK):Dn->Out:=fun δ=>O7 (fk δ) fun kd=>O7 (fv δ) fun v=>if nkD kd=true then .nx (δ.set i (.ow (.tuple [.dict [(kd,v)],.none]))) else .no
noncomputable section
variable {P:xT} {w:yC} {K:wQ} {mg:Str->Option wM} {base:yW} {X:Cx} {N:List Str} {sc:Scope} {k:Nat} {df:Bool} {E:EK} {p p2 pos:Pos} {a b:Expr} {f g:Dn->Res wK} {x:Str}
theorem kK (C:Cxt P w K mg base X N sc k df) (i:Nat) (ho:okSet N sc df i x=true) (hk:DE X E a f) (hv:DE X E b g) (hs:j3 (.Dict [some a] [b] p2) (some (.Name x p)) pos.line X.env=pure false:=by rfl) :
   DS X E (.Assign [.Name x p] (.Dict [some a] [b] p2) pos) (Oy i f g):=fun G0 H0=>by
 obtain ⟨h1,h2,h3,h4⟩:=okSet.ok C ho;refine PS.imp (Ly h1 h2 h3 (lK (by have:=C.hu; lia) hk hv) hs h4) fun D Z H hY66 q hq=>?_;obtain ⟨G,δ,S,aft⟩:=hY66;have S1:=S.grow (Grow.own (o:=.dN []) S.sr.sub hq);unfold Oy at aft;refine Ht S1 aft fun kd y G1 H1 g1 r1 S2 a1=>?_;refine Ht S2 a1 fun vd v G2 H2 g2 r2 S3 a2=>?_;split at a2
 . rename_i hc
   have hq2:H2 q=some (.dN []):=g2.h _ _ (g1.h _ _ D3); have gq2:G2 q=none:=by
     cases z:G2 q with
     | none=>rfl
     | some u =>
       rcases g2.fr q u z with z1 | z1 | ⟨ys,rfl⟩
       . rcases g1.fr q u z1 with z2 | z2 | ⟨ys,rfl⟩
         . rw [S.sr.sub.free hq] at z2; cases z2
         . rw [D3] at z2; cases z2
         . have:=g1.gh _ _ z1; rw [g1.h _ _ D3] at this; cases this
       . rw [g1.h _ _ D3] at z1; cases z1
       . have:=g2.gh _ _ z; rw [hq2] at this; cases this
   refine ⟨kd,hq2,Hf S3.sr.sub hc (r1.mono g2.g),hc,?_⟩; have h0:H0 q=none:=S.gr.h.free hq; have hsub:Same G2 (upd H2 q (.dN [(kd,v)])):=fun b u e=>by rw [C8 (E6 e gq2)]; exact S3.sr.sub _ _ e
   have S4:SSt G0 H0 G2 (upd H2 q (.dN [(kd,v)])) Z δ:=by
     refine ⟨⟨S3.gr.g,fun b u e=>by rw [C8 (E6 e h0)]; exact S3.gr.h _ _ e,hsub,S3.gr.fr⟩,⟨hsub,S3.sr.len,fun j s e=>?_,S3.sr.ap⟩,S3.fr⟩;have hs:=S3.sr.sl j s e;cases s with
     | un=>trivial
     | sh d=>exact hs
     | fd _=>exact hs
     | ow d2 =>
       obtain ⟨a,e1,n1,ok⟩:=hs; have hne:a≠q:=fun z=>Dd S hq j d2 e (z▸e1);refine ⟨a,e1,n1,?_⟩;cases d2 with
       | list ds=>obtain ⟨xs,q,r⟩:=ok; exact ⟨xs,by rw [C8 hne]; exact q,r⟩
       | dict kvs=>obtain ⟨xs,q,r⟩:=ok; exact ⟨xs,by rw [C8 hne]; exact q,r⟩
       | tuple xs=>exact OwnK.keep (Same.refl _) (fun o q=>by rw [C8 hne]; exact q) ok
       | _=>exact (show False from ok).elim
   exact a2 _ G2 _ (S4.set_ow h0 gq2 (show OwnK G2 _ q [.dict [(kd,vd)],.none] from ⟨[(kd,v)],D3,rfl,RepL.cons r2 rfl⟩) (Dd S hq))
 . exact (show False from a2).elim
end
end Sm
end
noncomputable section
namespace Sm
open PySem PySem.Spec PyProof.Rows L2
def stm (i j:Nat):n0:=(B9 (top i)).getD j (.Pass ⟨0,0,0,0⟩)
structure Txt (mg:Str->Option wM):Prop where
 b_all:mg "all" = none
 b_any:mg "any" = none
 b_bool:mg "bool" = none
 b_dict:mg "dict" = none
 b_enumerate:mg "enumerate" = none
 b_int:mg "int" = none
 b_isinstance:mg "isinstance" = none
 b_len:mg "len" = none
 b_list:mg "list" = none
 b_max:mg "max" = none
 b_range:mg "range" = none
 b_reversed:mg "reversed" = none
 b_sorted:mg "sorted" = none
 b_str:mg "str" = none
 b_tuple:mg "tuple" = none
 c_HANDS:∃ t,mg "HANDS" = some (.str "abcdefgh" t)
 c_LONGEST_NAME:∃ t,mg "LONGEST_NAME" = some (.int 6 t)
 c_MOST_ADDED:∃ t,mg "MOST_ADDED" = some (.int 20 t)
 c_MOST_DROPPED:∃ t,mg "MOST_DROPPED" = some (.int 400 t)
 c_SIDES:∃ t,mg "SIDES" = some (.str "lr" t)
noncomputable def Jv:List Str:=["thing", "least"]
noncomputable def Ke:Dn->Out:=(E9 (W6 (b1 (A5 0) fun d=>some (.bool (Kx "int" d))) (W6 (b1 (b1 (A5 0) fun d=>some (.bool (Kx "bool" d))) dNot) (b2 (A5 0) (A5 1) (Gm .GtE)))))
noncomputable def Aa:List wK->Res wK:=fnD Jv Ke
noncomputable def Hv:List Str:=["thing", "letters"]
noncomputable def Ip:Dn->Out:=(E9 (W6 (b1 (A5 0) fun d=>some (.bool (Kx "str" d))) (W6 (b2 (vFn (A4 (A5 0) B2) U1) (vC (.int 1)) dEq) (b2 (A5 0) (A5 1) (dIn false)))))
noncomputable def U8:List wK->Res wK:=fnD Hv Ip
noncomputable def Ey:List Str:=["thing", "most", "first", "last"]
noncomputable def Gx:Dn->Out:=(D1 (sIf (cOr (X8 (C4 (b1 (A5 0) fun d=>some (.bool (Kx "str" d))))) (X8 (C4 (W8 (vC (.int 1)) (vFn (A4 (A5 0) B2) U1) (A5 1) (I0 .LtE) (I0 .LtE))))) (E9 (vC (.bool false))) E4) (E9 (vFn (A4 (I8 (F5 (fun δ=>((A5 0) δ).bind E5) D9 [2,3] K5 (W8 (A5 1) (A5 0) (A5 2) (I0 .LtE) (I0 .LtE)))) B2) Gr)))
noncomputable def Ce:List wK->Res wK:=fnD Ey Gx
noncomputable def My:List Str:=["thing"]
noncomputable def Nf:Dn->Out:=(E9 (B6 (A4 (A5 0) (A4 (vC (.int 6)) (A4 (vC (.str "a")) (A4 (vC (.str "z")) B2)))) Ce))
noncomputable def Ab:List wK->Res wK:=fnD My Nf
noncomputable def Bp:List Str:=["thing"]
noncomputable def Dj:Dn->Out:=(E9 (B6 (A4 (A5 0) (A4 (vC (.int 20)) (A4 (vC (.str " ")) (A4 (vC (.str "~")) B2)))) Ce))
noncomputable def Q7:List wK->Res wK:=fnD Bp Dj
noncomputable def Mx:List Str:=["thing"]
noncomputable def Nd:Dn->Out:=(E9 (W6 (b1 (A5 0) fun d=>some (.bool (Kx "tuple" d))) (b2 (vFn (A4 (A5 0) B2) U1) (vC (.int 2)) dEq)))
noncomputable def X2:List wK->Res wK:=fnD Mx Nd
noncomputable def Fz:List Str:=["thing"]
noncomputable def Ha:Dn->Out:=(E9 (W6 (B6 (A4 (A5 0) B2) X2) (W6 (B6 (A4 (b2 (A5 0) (vC (.int 0)) dIx) (A4 (vC (.int 1)) B2)) Aa) (B6 (A4 (b2 (A5 0) (vC (.int 1)) dIx) (A4 (vC (.str "abcdefgh")) B2)) U8))))
noncomputable def K8:List wK->Res wK:=fnD Fz Ha
noncomputable def Fy:List Str:=["thing"]
noncomputable def Gy:Dn->Out:=(E9 (W6 (B6 (A4 (A5 0) B2) X2) (W6 (B6 (A4 (b2 (A5 0) (vC (.int 0)) dIx) B2) K8) (B6 (A4 (b2 (A5 0) (vC (.int 1)) dIx) (A4 (vC (.int 0)) B2)) Aa))))
noncomputable def O0:List wK->Res wK:=fnD Fy Gy
noncomputable def M7:List Str:=["thing"]
noncomputable def Y2:Dn->Out:=(E9 (vOr (b1 (A5 0) fun d=>some (.bool (Af d))) (B6 (A4 (A5 0) B2) O0)))
noncomputable def G9:List wK->Res wK:=fnD M7 Y2
noncomputable def Hw:List Str:=["thing"]
noncomputable def Iq:Dn->Out:=(E9 (W6 (B6 (A4 (A5 0) B2) X2) (W6 (B6 (A4 (b2 (A5 0) (vC (.int 0)) dIx) B2) G9) (B6 (A4 (b2 (A5 0) (vC (.int 1)) dIx) (A4 (vC (.str "lr")) B2)) U8))))
noncomputable def X3:List wK->Res wK:=fnD Hw Iq
noncomputable def Hu:List Str:=["values"]
noncomputable def Io:Dn->Out:=(E9 (vFn (A4 (I8 (F5 (fun δ=>((A4 (b2 (vFn (A4 (A5 0) B2) U1) (vC (.int 1)) nB) B2) δ).bind Jg) D9 [0] K5 (b2 (b2 (A5 1) (A5 0) dIx) (b2 (A5 1) (b2 (A5 0) (vC (.int 1)) E2) dIx) (I0 .Lt)))) B2) Gr))
noncomputable def P2:List wK->Res wK:=fnD Hu Io
noncomputable def Q1:List Str:=["thing"]
noncomputable def Bg:Dn->Out:=(sIf (cOr (X8 (C4 (b1 (A5 0) fun d=>some (.bool (Kx "tuple" d))))) (X8 (C4 (W8 (vC (.int 1)) (vFn (A4 (A5 0) B2) U1) (vC (.int 400)) (I0 .LtE) (I0 .LtE))))) (E9 (vC (.bool false))) E4)
noncomputable def Bf:Dn->Out:=(E9 (W6 (vFn (A4 (I8 (F5 (fun δ=>((A5 0) δ).bind E5) D9 [] K5 (B6 (A4 (A5 0) B2) O0))) B2) Gr) (B6 (A4 (A5 0) B2) P2)))
noncomputable def Cv:Dn->Out:=(D1 Bg Bf)
noncomputable def Y5:List wK->Res wK:=fnD Q1 Cv
noncomputable def Q2:List Str:=["word", "parts"]
noncomputable def T3:Dn->Out:=(sIf (C4 (b2 (A5 0) (vC (.str "add")) dEq)) (E9 (W6 (b2 (vFn (A4 (A5 1) B2) U1) (vC (.int 2)) dEq) (W6 (B6 (A4 (b2 (A5 1) (vC (.int 0)) dIx) B2) G9) (B6 (A4 (b2 (A5 1) (vC (.int 1)) dIx) B2) Q7)))) E4)
noncomputable def T2:Dn->Out:=(sIf (C4 (b2 (A5 0) (vC (.str "drop")) dEq)) (E9 (W6 (b2 (vFn (A4 (A5 1) B2) U1) (vC (.int 1)) dEq) (B6 (A4 (b2 (A5 1) (vC (.int 0)) dIx) B2) Y5))) E4)
noncomputable def T1:Dn->Out:=(sIf (C4 (b2 (A5 0) (vC (.str "mark")) dEq)) (E9 (W6 (b2 (vFn (A4 (A5 1) B2) U1) (vC (.int 3)) dEq) (W6 (B6 (A4 (b2 (A5 1) (vC (.int 0)) dIx) B2) Ab) (W6 (B6 (A4 (b2 (A5 1) (vC (.int 1)) dIx) B2) X3) (B6 (A4 (b2 (A5 1) (vC (.int 2)) dIx) B2) X3))))) E4)
noncomputable def T0:Dn->Out:=(sIf (C4 (b2 (A5 0) (vC (.str "unmark")) dEq)) (E9 (W6 (b2 (vFn (A4 (A5 1) B2) U1) (vC (.int 1)) dEq) (B6 (A4 (b2 (A5 1) (vC (.int 0)) dIx) B2) Ab))) E4)
noncomputable def S9:Dn->Out:=(sIf (C4 (b2 (A5 0) (vC (.str "undo")) dEq)) (E9 (W6 (b2 (vFn (A4 (A5 1) B2) U1) (vC (.int 1)) dEq) (B6 (A4 (b2 (A5 1) (vC (.int 0)) dIx) B2) K8))) E4)
noncomputable def R0:Dn->Out:=(E9 (vC (.bool false)))
noncomputable def V7:Dn->Out:=(D1 T3 (D1 T2 (D1 T1 (D1 T0 (D1 S9 R0)))))
noncomputable def Ae:List wK->Res wK:=fnD Q2 V7
noncomputable def M5:List Str:=["deed", "named"]
noncomputable def V4:Dn->Out:=(I9 1 (I8 B2))
noncomputable def D5:Dn->Out:=(sIf (C4 (b2 (b2 (A5 0) (vC (.int 0)) dIx) (vC (.str "add")) dEq)) (I9 1 (I8 (A4 (b2 (A5 0) (vC (.int 2)) dIx) B2))) (sIf (C4 (b2 (b2 (A5 0) (vC (.int 0)) dIx) (vC (.str "drop")) dEq)) (I9 1 (vFn (A4 (b2 (A5 0) (vC (.int 2)) dIx) B2) Mn)) (sIf (C4 (b2 (b2 (A5 0) (vC (.int 0)) dIx) (vC (.str "mark")) dEq)) (I9 1 (I8 (A4 (b2 (b2 (A5 0) (vC (.int 3)) dIx) (vC (.int 0)) dIx) (A4 (b2 (b2 (A5 0) (vC (.int 4)) dIx) (vC (.int 0)) dIx) B2)))) E4)))
noncomputable def O8:Dn->Out:=(E9 (I8 (F5 (fun δ=>((A5 1) δ).bind E5) D9 [] (fun δ=>((A5 0) δ).bind fun d=>.ok (!Af d)) (A5 0))))
noncomputable def Q4:Dn->Out:=(D1 V4 (D1 D5 O8))
noncomputable def F1:List wK->Res wK:=fnD M5 Q4
noncomputable def O6:List Str:=["deed"]
noncomputable def N8:Dn->Out:=(D1 (sIf (C4 (b2 (b2 (A5 0) (vC (.int 0)) dIx) (vC (.str "undo")) dEq)) (E9 (I8 (A4 (b2 (A5 0) (vC (.int 2)) dIx) B2))) E4) (E9 (I8 (F5 (fun δ=>((B6 (A4 (A5 0) B2) F1) δ).bind E5) D9 [] K5 (b2 (A5 0) (vC (.int 0)) dIx)))))
noncomputable def C6:List wK->Res wK:=fnD O6 N8
noncomputable def T7:List Str:=["thing"]
noncomputable def Ff:Dn->Out:=(sIf (cOr (X8 (C4 (b1 (A5 0) fun d=>some (.bool (Kx "tuple" d))))) (cOr (C4 (b2 (vFn (A4 (A5 0) B2) U1) (vC (.int 2)) (I0 .Lt))) (X8 (C4 (B6 (A4 (b2 (A5 0) (vC (.int 1)) dIx) B2) K8))))) (E9 (vC (.bool false))) E4)
noncomputable def Fe:Dn->Out:=(sIf (X8 (C4 (B6 (A4 (b2 (A5 0) (vC (.int 0)) dIx) (A4 (vSl (A5 0) (Ks (vC (.int 2))) Kt) B2)) Ae))) (E9 (vC (.bool false))) E4)
noncomputable def Fd:Dn->Out:=(E9 (vFn (A4 (I8 (F5 (fun δ=>((B6 (A4 (A5 0) B2) C6) δ).bind E5) D9 [0] K5 (b2 (b2 (A5 0) (vC (.int 0)) dIx) (b2 (b2 (A5 1) (vC (.int 1)) dIx) (vC (.int 0)) dIx) (I0 .Lt)))) B2) Gr))
noncomputable def Hb:Dn->Out:=(D1 Ff (D1 Fe Fd))
noncomputable def Ac:List wK->Res wK:=fnD T7 Hb
noncomputable def T6:List Str:=["deed"]
noncomputable def Q5:Dn->Out:=(E9 (vIf (C4 (b2 (b2 (A5 0) (vC (.int 0)) dIx) (vC (.str "add")) dEq)) (vFn (A4 (b2 (A5 0) (vC (.int 3)) dIx) B2) U1) (vC (.int 0))))
noncomputable def D2:List wK->Res wK:=fnD T6 Q5
noncomputable def Lg:List Str:=["deeds"]
noncomputable def Jf:Dn->Res Kvs:=(Rg (I8 (F5 (fun δ=>((A5 0) δ).bind E5) D9 [] K5 (E8 (A4 (b2 (A5 0) (vC (.int 1)) dIx) (A4 (A5 0) B2))))))
noncomputable def Es:List wK->Res Kvs:=fnW Lg Jf
noncomputable def Q9:List Str:=["known", "deed"]
noncomputable def U2:Dn->Out:=(D1 (sIf (X8 (C4 (vFn (A4 (I8 (F5 (fun δ=>((B6 (A4 (A5 1) B2) C6) δ).bind E5) D9 [0] K5 (T8 false 1 (A5 0)))) B2) Gr))) (E9 (vC (.bool false))) E4) (E9 (vFn (A4 (I8 (F5 (fun δ=>((B6 (A4 (A5 1) B2) F1) δ).bind E5) D9 [0] K5 (b2 (b2 (A5 0) (vC (.int 1)) dIx) (B6 (A4 (Ib 1 (b2 (A5 0) (vC (.int 0)) dIx)) B2) D2) (I0 .Lt)))) B2) Gr)))
noncomputable def N9:List Sl->Res wK:=fnS Q9 U2
noncomputable def Cg:List Str:=["thing", "known"]
noncomputable def Kb:Dn->Out:=(sIf (cOr (X8 (C4 (b1 (A5 0) fun d=>some (.bool (Kx "tuple" d))))) (X8 (C4 (vFn (A4 (I8 (F5 (fun δ=>((A5 0) δ).bind E5) D9 [] K5 (B6 (A4 (A5 0) B2) Ac))) B2) Gr)))) (E9 (vC (.bool false))) E4)
noncomputable def Fg:Dn->Out:=(Y8 1 (Ch (A4 (A5 0) B2) Es))
noncomputable def Ka:Dn->Out:=(cN 1 (E9 (W6 (B6 (A4 (I8 (F5 (fun δ=>((A5 0) δ).bind E5) D9 [] K5 (b2 (A5 0) (vC (.int 1)) dIx))) B2) P2) (vFn (A4 (I8 (F5 (fun δ=>((A5 0) δ).bind E5) D9 [1] K5 (Y0 1 (A5 0) N9))) B2) Gr))))
noncomputable def Ng:Dn->Out:=(D1 Kb (D1 Fg Ka))
noncomputable def Cf:List wK->Res wK:=fnD Cg Ng
noncomputable def Ap:List Str:=["book", "behind", "deed"]
noncomputable def Bm:Dn->Res Kvs:=(Gn (Eh 1) (Gn (oJ 1 2 (fun δ=>((A5 0) δ).bind E5) (C4 (b2 (B6 (A4 (A5 2) B2) D2) (vC (.int 0)) (Gm .Gt))) (b2 (A5 2) (vC (.int 2)) dIx) (A5 2)) (Xn 1)))
noncomputable def T5:List wK->Res Kvs:=fnW Ap Bm
noncomputable def P9:List Str:=["book", "behind", "waiting", "told", "step", "deed", "number", "sign"]
noncomputable def Dz:Dn->Out:=(Y8 1 (Ch (A4 (A5 0) B2) T5))
noncomputable def Dy:Dn->Out:=(Oc 2 (F5 (fun δ=>((Pm 1 (vC .none) (I8 B2)) δ).bind E5) D9 [] K5 (E8 (A4 (A5 0) (A4 (vC (.int 0)) B2)))))
noncomputable def Ij:Dn->Out:=(Oc 3 B2)
noncomputable def Dx:Dn->Out:=(kL (bI 2) (D1 (gO 2 4) (D1 (I9 5 (b2 (A5 4) (vC (.int 0)) dIx)) (D1 (I9 6 (b2 (A5 4) (vC (.int 1)) dIx)) (D1 (I9 7 (E8 (A4 (b2 (A5 5) (vC (.int 1)) dIx) (A4 (A5 6) B2)))) (D1 (Gq 3 (E8 (A4 (A5 7) (A4 (b2 (b2 (A5 5) (vC (.int 3)) dIx) (A5 6) dIx) B2)))) (D1 (sIf (C4 (b2 (b2 (A5 6) (vC (.int 1)) E2) (vFn (A4 (b2 (A5 5) (vC (.int 3)) dIx) B2) U1) (I0 .Lt))) (Gq 2 (E8 (A4 (A5 5) (A4 (b2 (A5 6) (vC (.int 1)) E2) B2)))) E4) (gP 2 (F5 (fun δ=>((Pm 1 (A5 7) (I8 B2)) δ).bind E5) D9 [] K5 (E8 (A4 (A5 0) (A4 (vC (.int 0)) B2))))))))))))
noncomputable def Ii:Dn->Out:=(sFz 3 (E9 (A5 3)))
noncomputable def Fk:Dn->Out:=(D1 Dz (D1 Dy (D1 Ij (D1 Dx Ii))))
noncomputable def K6:List wK->Res wK:=fnD P9 Fk
noncomputable def Ds:List Str:=["book", "undone", "deed"]
noncomputable def Ec:Dn->Res Kvs:=(Gn (Eh 1) (Gn (U5 (fun δ=>((A5 0) δ).bind Zr) (st1 2) (sIf (W5 (C4 (b2 (b2 (A5 2) (vC (.int 0)) dIx) (vC (.str "undo")) dEq)) (C4 (T8 true 1 (b2 (A5 2) (vC (.int 1)) dIx)))) (Y3 1 (b2 (A5 2) (vC (.int 2)) dIx) (vC (.bool true))) E4)) (Xn 1)))
noncomputable def K0:List wK->Res Kvs:=fnW Ds Ec
noncomputable def V2:List Str:=["book", "which"]
noncomputable def Y1:Dn->Out:=(sIf (C4 (b2 (A5 1) (I8 (F5 (fun δ=>((A5 0) δ).bind E5) D9 [] K5 (b2 (A5 0) (vC (.int 1)) dIx))) (dIn true))) sNo E4)
noncomputable def F3:List wK->Res wK:=fnD V2 Y1
noncomputable def Du:List Str:=["book", "which"]
noncomputable def Ir:Dn->Out:=(D1 (kN (B6 (A4 (A5 0) (A4 (A5 1) B2)) F3)) (E9 (jJ true (A5 1) (Ch (A4 (A5 0) B2) K0))))
noncomputable def L5:List wK->Res wK:=fnD Du Ir
noncomputable def Bz:List Str:=["book", "undone", "dropped", "deed", "sign"]
noncomputable def Cw:Dn->Res Kvs:=(Gn (Eh 2) (Gn (U5 (fun δ=>((A5 0) δ).bind E5) (st1 3) (sIf (W5 (C4 (b2 (b2 (A5 3) (vC (.int 0)) dIx) (vC (.str "drop")) dEq)) (C4 (T8 true 1 (b2 (A5 3) (vC (.int 1)) dIx)))) (U5 (fun δ=>((b2 (A5 3) (vC (.int 2)) dIx) δ).bind E5) (st1 4) (Y3 2 (A5 4) (vC (.bool true)))) E4)) (Xn 2)))
noncomputable def M4:List Sl->Res Kvs:=qM Bz Cw
noncomputable def M6:List Str:=["book", "undone", "dropped", "told", "pair"]
noncomputable def Z0:Dn->Out:=(Y8 1 (Ch (A4 (A5 0) B2) K0))
noncomputable def Y9:Dn->Out:=(cN 1 (Y8 2 (Os (A5 0) 1 M4)))
noncomputable def En:Dn->Out:=(Oc 3 B2)
noncomputable def V5:Dn->Out:=(U5 (fun δ=>((B6 (A4 (A5 0) B2) K6) δ).bind E5) (st1 4) (Gq 3 (E8 (A4 (A5 4) (A4 (W6 (T8 true 1 (b2 (b2 (A5 4) (vC (.int 0)) dIx) (vC (.int 0)) dIx)) (T8 true 2 (b2 (A5 4) (vC (.int 0)) dIx))) B2)))))
noncomputable def Em:Dn->Out:=(sFz 3 (E9 (A5 3)))
noncomputable def Bl:Dn->Out:=(D1 Z0 (D1 Y9 (D1 En (D1 V5 Em))))
noncomputable def N2:List wK->Res wK:=fnD M6 Bl
noncomputable def Fw:List Str:=["book"]
noncomputable def Fl:Dn->Out:=(E9 (I8 (F5 (fun δ=>((B6 (A4 (A5 0) B2) N2) δ).bind E5) D9 [] (C4 (b2 (A5 0) (vC (.int 1)) dIx)) (b2 (A5 0) (vC (.int 0)) dIx))))
noncomputable def Z9:List wK->Res wK:=fnD Fw Fl
noncomputable def Ia:List Str:=["book"]
noncomputable def Gv:Dn->Out:=(E9 (Uk "" (I8 (F5 (fun δ=>((B6 (A4 (A5 0) B2) Z9) δ).bind E5) D9 [] K5 (b2 (A5 0) (vC (.int 1)) dIx)))))
noncomputable def D7:List wK->Res wK:=fnD Ia Gv
noncomputable def Ga:List Str:=["book", "sign", "deed"]
noncomputable def Kg:Dn->Out:=(D1 (U5 (fun δ=>((A5 0) δ).bind E5) (st1 2) (sIf (C4 (b2 (b2 (A5 2) (vC (.int 1)) dIx) (b2 (A5 1) (vC (.int 0)) dIx) dEq)) (E9 (W8 (vC (.int 0)) (b2 (A5 1) (vC (.int 1)) dIx) (B6 (A4 (A5 2) B2) D2) (I0 .LtE) (I0 .Lt))) E4)) (E9 (vC (.bool false))))
noncomputable def Fs:List wK->Res wK:=fnD Ga Kg
noncomputable def Jw:List Str:=["book", "sign", "undone"]
noncomputable def Kf:Dn->Out:=(D1 (sIf (X8 (C4 (B6 (A4 (A5 0) (A4 (A5 1) B2)) Fs))) sNo E4) (D1 (Y8 2 (Ch (A4 (A5 0) B2) K0)) (cN 2 (E9 (W6 (T8 true 2 (b2 (A5 1) (vC (.int 0)) dIx)) (jJ true (A5 1) (Os (A5 0) 2 M4)))))))
noncomputable def U7:List wK->Res wK:=fnD Jw Kf
noncomputable def Q0:List Str:=["book", "which", "leaning", "told", "deed"]
noncomputable def Be:Dn->Out:=(Oy 2 (A5 1) (vC (.bool true)))
noncomputable def Gg:Dn->Out:=(Oc 3 B2)
noncomputable def Bd:Dn->Out:=(U5 (fun δ=>((A5 0) δ).bind E5) (st1 4) (sIf (C4 (vFn (A4 (I8 (F5 (fun δ=>((B6 (A4 (A5 4) B2) C6) δ).bind E5) D9 [2] K5 (T8 false 1 (A5 0)))) B2) iW)) (D1 (Y3 2 (b2 (A5 4) (vC (.int 1)) dIx) (vC (.bool true))) (Gq 3 (b2 (A5 4) (vC (.int 1)) dIx))) E4))
noncomputable def Gf:Dn->Out:=(sFz 3 (E9 (A5 3)))
noncomputable def Gw:Dn->Out:=(D1 Be (D1 Gg (D1 Bd Gf)))
noncomputable def K7:List wK->Res wK:=fnD Q0 Gw
noncomputable def Dt:List Str:=["book", "places", "behind", "step", "ahead"]
noncomputable def Ed:Dn->Res Kvs:=(Gn (Eh 1) (Gn (I9 2 (vC (.int 0))) (Gn (U5 (fun δ=>((B6 (A4 (A5 0) B2) N2) δ).bind E5) (st1 3) (D1 (I9 4 (A5 2)) (D1 (sIf (C4 (b2 (A5 3) (vC (.int 1)) dIx)) (I9 2 (b2 (A5 4) (vC (.int 1)) E2)) E4) (Y3 1 (b2 (b2 (A5 3) (vC (.int 0)) dIx) (vC (.int 0)) dIx) (E8 (A4 (A5 2) (A4 (A5 4) B2))))))) (Gn (Y3 1 (vC .none) (E8 (A4 (vC (.int 0)) (A4 (A5 2) B2)))) (Xn 1)))))
noncomputable def X1:List wK->Res Kvs:=fnW Dt Ed
noncomputable def Gd:List Str:=["places", "anchor"]
noncomputable def Fo:Dn->Out:=(E9 (b2 (Ib 0 (b2 (A5 1) (vC (.int 0)) dIx)) (Ou (vC (.str "lr")) (b2 (A5 1) (vC (.int 1)) dIx)) dIx))
noncomputable def J2:List Sl->Res wK:=fnS Gd Fo
noncomputable def O3:List Str:=["book", "undone", "last", "deed"]
noncomputable def Bc:Dn->Out:=(Y8 1 (Ch (A4 (A5 0) B2) K0))
noncomputable def Ge:Dn->Out:=(Eh 2)
noncomputable def Bb:Dn->Out:=(U5 (fun δ=>((A5 0) δ).bind E5) (st1 3) (sIf (W5 (C4 (b2 (b2 (A5 3) (vC (.int 0)) dIx) (E8 (A4 (vC (.str "mark")) (A4 (vC (.str "unmark")) B2))) (dIn false))) (C4 (T8 true 1 (b2 (A5 3) (vC (.int 1)) dIx)))) (Y3 2 (b2 (A5 3) (vC (.int 2)) dIx) (A5 3)) E4))
noncomputable def Ba:Dn->Out:=(E9 (I8 (F5 (fun δ=>((Pl 2) δ).bind E5) D9 [2] (C4 (b2 (b2 (Ib 1 (A5 0)) (vC (.int 0)) dIx) (vC (.str "mark")) dEq)) (Ib 1 (A5 0)))))
noncomputable def Cu:Dn->Out:=(D1 Bc (D1 Ge (D1 Bb Ba)))
noncomputable def P8:List wK->Res wK:=fnD O3 Cu
noncomputable def V3:List Str:=["book", "places", "told", "deed", "begin"]
noncomputable def Eb:Dn->Out:=(Y8 1 (Ch (A4 (A5 0) B2) X1))
noncomputable def Il:Dn->Out:=(Oc 2 B2)
noncomputable def Ea:Dn->Out:=(cN 1 (U5 (fun δ=>((B6 (A4 (A5 0) B2) P8) δ).bind E5) (st1 3) (D1 (I9 4 (Y0 1 (b2 (A5 3) (vC (.int 3)) dIx) J2)) (Gq 2 (E8 (A4 (b2 (A5 3) (vC (.int 2)) dIx) (A4 (A5 4) (A4 (vFn (A4 (A5 4) (A4 (Y0 1 (b2 (A5 3) (vC (.int 4)) dIx) J2) B2)) iU) B2))))))))
noncomputable def Ik:Dn->Out:=(sFz 2 (E9 (A5 2)))
noncomputable def Fm:Dn->Out:=(D1 Eb (D1 Il (D1 Ea Ik)))
noncomputable def C9:List wK->Res wK:=fnD V3 Fm
noncomputable def Aj:List Str:=["book", "which", "gone"]
noncomputable def Fc:Dn->Out:=(kN (B6 (A4 (A5 0) (A4 (A5 1) B2)) F3))
noncomputable def Fb:Dn->Out:=(Y8 2 (Rg (I8 (F5 (fun δ=>((B6 (A4 (A5 0) (A4 (A5 1) B2)) K7) δ).bind E5) D9 [] K5 (E8 (A4 (A5 0) (A4 (vC (.bool true)) B2)))))))
noncomputable def Jz:Dn->Out:=(E9 (vFn (A4 (I8 (F5 (fun δ=>((A5 0) δ).bind E5) D9 [1,2] (W5 (C4 (b2 (b2 (A5 0) (vC (.int 1)) dIx) (A5 1) dNe)) (C4 (T8 true 2 (b2 (A5 0) (vC (.int 1)) dIx)))) (A5 0))) B2) Ho))
noncomputable def Nc:Dn->Out:=(D1 Fc (D1 Fb Jz))
noncomputable def Cd:List wK->Res wK:=fnD Aj Nc
noncomputable def Dv:List Str:=["_law_script", "_law_k"]
noncomputable def Ef:Dn->Out:=(D1 (sIf (C4 (b2 (A5 0) (I8 B2) dEq)) (E9 (b2 (vC (.int 7)) (A5 1) V1)) E4) (E9 (b2 (b2 (A5 0) (b2 (A5 1) (vFn (A4 (A5 0) B2) U1) Ua) dIx) (b2 (vC (.int 6553)) (b2 (A5 1) (vFn (A4 (A5 0) B2) U1) Nk) V1) E2)))
noncomputable def Ar:List wK->Res wK:=fnD Dv Ef
noncomputable def Cc:List Str:=["_law_script", "_law_k", "_law_many", "_law_cell_here"]
noncomputable def Db:Dn->Out:=(D1 (I9 3 (b2 (b2 (b2 (b2 (B6 (A4 (A5 0) (A4 (A5 1) B2)) Ar) (vC (.int 2147483563)) Ua) (vC (.int 69069)) V1) (b2 (vC (.int 104723)) (b2 (A5 1) (vC (.int 1)) E2) V1) E2) (vC (.int 2147483563)) Ua)) (D1 (I9 3 (b2 (b2 (b2 (A5 3) (A5 3) V1) (b2 (A5 3) (vC (.int 3)) Nk) E2) (vC (.int 2147483399)) Ua)) (E9 (b2 (b2 (b2 (b2 (b2 (A5 3) (A5 3) V1) (b2 (A5 3) (vC (.int 7)) Nk) E2) (vC (.int 2147483647)) Ua) (vC (.int 11)) Nk) (A5 2) Ua))))
noncomputable def B8:List wK->Res wK:=fnD Cc Db
noncomputable def Q3:List Str:=["_law_script", "_law_at", "_law_found", "_law_k", "_law_word"]
noncomputable def Bj:Dn->Out:=(Oc 2 B2)
noncomputable def Bi:Dn->Out:=(U5 (fun δ=>((A4 (vC (.int 3)) B2) δ).bind Jg) (st1 3) (D1 (I9 4 (b2 (b2 (vC (.str "abcdefghijklmnopqrstuvwxyz")) (B6 (A4 (A5 0) (A4 (b2 (A5 1) (b2 (vC (.int 2)) (A5 3) V1) E2) (A4 (vC (.int 26)) B2))) B8) dIx) (B6 (A4 (A5 0) (A4 (b2 (b2 (A5 1) (b2 (vC (.int 2)) (A5 3) V1) E2) (vC (.int 1)) E2) (A4 (vC (.int 2)) B2))) B8) V1)) (Gq 2 (b2 (I8 (A4 (b2 (A5 4) (b2 (vC (.str "xyz")) (A5 3) dIx) E2) (A4 (b2 (b2 (vC (.str "xyz")) (A5 3) dIx) (A5 4) E2) B2))) (B6 (A4 (A5 0) (A4 (b2 (A5 1) (vC (.int 6)) E2) (A4 (vC (.int 2)) B2))) B8) dIx))))
noncomputable def Bh:Dn->Out:=(sFz 2 (E9 (A5 2)))
noncomputable def Da:Dn->Out:=(D1 Bj (D1 Bi Bh))
noncomputable def W4:List wK->Res wK:=fnD Q3 Da
noncomputable def Ca:List Str:=["_law_script", "_law_at"]
noncomputable def Cy:Dn->Out:=(E9 (Uk "" (I8 (F5 (fun δ=>((A4 (b2 (vC (.int 1)) (B6 (A4 (A5 0) (A4 (b2 (A5 1) (vC (.int 4)) E2) (A4 (vC (.int 4)) B2))) B8) E2) B2) δ).bind Jg) D9 [0,1] K5 (b2 (vC (.str "ab cd~ <")) (B6 (A4 (A5 1) (A4 (b2 (A5 2) (A5 0) E2) (A4 (vC (.int 8)) B2))) B8) dIx)))))
noncomputable def V8:List wK->Res wK:=fnD Ca Cy
noncomputable def Cb:List Str:=["_law_book_here", "_law_found", "_law_deed_here"]
noncomputable def Cz:Dn->Out:=(D1 (I9 1 (I8 B2)) (D1 (U5 (fun δ=>((A5 0) δ).bind E5) (st1 2) (sIf (C4 (b2 (b2 (A5 2) (vC (.int 0)) dIx) (vC (.str "add")) dEq)) (I9 1 (b2 (A5 1) (I8 (F5 (fun δ=>((A4 (vFn (A4 (b2 (A5 2) (vC (.int 3)) dIx) B2) U1) B2) δ).bind Jg) D9 [2] K5 (E8 (A4 (b2 (A5 1) (vC (.int 1)) dIx) (A4 (A5 0) B2))))) E2)) E4)) (E9 (A5 1))))
noncomputable def V9:List wK->Res wK:=fnD Cb Cz
noncomputable def Aq:List Str:=["_law_script", "_law_at", "_law_signs_here", "_law_sign"]
noncomputable def Bn:Dn->Out:=(D1 (I9 3 (b2 (b2 (I8 (A4 (vC .none) B2)) (A5 2) E2) (B6 (A4 (A5 0) (A4 (A5 1) (A4 (b2 (vFn (A4 (A5 2) B2) U1) (vC (.int 1)) E2) B2))) B8) dIx)) (E9 (E8 (A4 (A5 3) (A4 (b2 (vC (.str "lr")) (B6 (A4 (A5 0) (A4 (b2 (A5 1) (vC (.int 1)) E2) (A4 (vC (.int 2)) B2))) B8) dIx) B2)))))
noncomputable def O5:List wK->Res wK:=fnD Aq Bn
noncomputable def L7:List Str:=["_law_script", "_law_at", "_law_one", "_law_known", "_law_names_here", "_law_signs_here", "_law_way", "_law_behind", "_law_some", "_law_ends"]
noncomputable def Cp:Dn->Out:=(I9 5 (B6 (A4 (A5 3) B2) V9))
noncomputable def Co:Dn->Out:=(I9 6 (B6 (A4 (A5 0) (A4 (A5 1) (A4 (vC (.int 12)) B2))) B8))
noncomputable def Cn:Dn->Out:=(sIf (W5 (C4 (b2 (A5 6) (vC (.int 2)) (I0 .Lt))) (C4 (b2 (A5 5) (I8 B2) dNe))) (D1 (kM 8 (F5 (fun δ=>((A4 (A5 5) B2) δ).bind Rp) De [0,1] (C4 (b2 (B6 (A4 (A5 2) (A4 (b2 (b2 (A5 3) (vC (.int 20)) E2) (A5 0) E2) (A4 (vC (.int 4)) B2))) B8) (vC (.int 0)) dEq)) (A5 1))) (E9 (E8 (A4 (vC (.str "drop")) (A4 (A5 2) (A4 (vFn (A4 (b2 (A5 8) (b2 (vSl (A5 5) Kt (Ks (vC (.int 1)))) (vFn (A4 (b2 (A5 8) (I8 B2) dEq) B2) Vr) V1) E2) B2) Ho) B2)))))) E4)
noncomputable def Cm:Dn->Out:=(sIf (C4 (b2 (A5 6) (vC (.int 5)) (I0 .Lt))) (D1 (I9 9 (E8 (A4 (B6 (A4 (A5 0) (A4 (b2 (A5 1) (vC (.int 1)) E2) (A4 (A5 5) B2))) O5) (A4 (B6 (A4 (A5 0) (A4 (b2 (A5 1) (vC (.int 3)) E2) (A4 (A5 5) B2))) O5) B2)))) (E9 (b2 (E8 (A4 (vC (.str "mark")) (A4 (A5 2) (A4 (b2 (A5 4) (B6 (A4 (A5 0) (A4 (b2 (A5 1) (vC (.int 5)) E2) (A4 (vC (.int 3)) B2))) B8) dIx) B2)))) (A5 9) E2))) E4)
noncomputable def Cl:Dn->Out:=(sIf (C4 (b2 (A5 6) (vC (.int 5)) dEq)) (E9 (E8 (A4 (vC (.str "unmark")) (A4 (A5 2) (A4 (b2 (A5 4) (B6 (A4 (A5 0) (A4 (b2 (A5 1) (vC (.int 5)) E2) (A4 (vC (.int 3)) B2))) B8) dIx) B2))))) E4)
noncomputable def Ck:Dn->Out:=(sIf (W5 (C4 (b2 (A5 6) (vC (.int 8)) (I0 .Lt))) (C4 (b2 (A5 3) (E8 B2) dNe))) (E9 (E8 (A4 (vC (.str "undo")) (A4 (A5 2) (A4 (b2 (b2 (A5 3) (B6 (A4 (A5 0) (A4 (b2 (A5 1) (vC (.int 6)) E2) (A4 (vFn (A4 (A5 3) B2) U1) B2))) B8) dIx) (vC (.int 1)) dIx) B2))))) E4)
noncomputable def Cj:Dn->Out:=(I9 7 (b2 (b2 (b2 (I8 (A4 (vC .none) B2)) (A5 5) E2) (vSl (A5 5) (Ks (b1 (vC (.int 3)) nC)) Kt) E2) (B6 (A4 (A5 0) (A4 (b2 (A5 1) (vC (.int 7)) E2) (A4 (b2 (b2 (vFn (A4 (A5 5) B2) U1) (vC (.int 1)) E2) (vFn (A4 (vSl (A5 5) (Ks (b1 (vC (.int 3)) nC)) Kt) B2) U1) E2) B2))) B8) dIx))
noncomputable def Ci:Dn->Out:=(E9 (E8 (A4 (vC (.str "add")) (A4 (A5 2) (A4 (A5 7) (A4 (B6 (A4 (A5 0) (A4 (b2 (A5 1) (vC (.int 8)) E2) B2)) V8) B2))))))
noncomputable def Ee:Dn->Out:=(D1 Cp (D1 Co (D1 Cn (D1 Cm (D1 Cl (D1 Ck (D1 Cj Ci)))))))
noncomputable def P3:List wK->Res wK:=fnD L7 Ee
noncomputable def P4:List Str:=["_law_script", "_law_at", "_law_most", "_law_names_here", "_law_found", "_law_one", "_law_k", "_law_time", "_law_hand", "_law_known"]
noncomputable def Ct:Dn->Out:=(I9 4 (E8 B2))
noncomputable def Cs:Dn->Out:=(I9 5 (E8 (A4 (vC (.int 1)) (A4 (vC (.str "a")) B2))))
noncomputable def Cr:Dn->Out:=(U5 (fun δ=>((A4 (B6 (A4 (A5 0) (A4 (A5 1) (A4 (b2 (A5 2) (vC (.int 1)) E2) B2))) B8) B2) δ).bind Jg) (st1 6) (D1 (I9 7 (b2 (b2 (A5 5) (vC (.int 0)) dIx) (B6 (A4 (A5 0) (A4 (b2 (b2 (A5 1) (vC (.int 1)) E2) (b2 (vC (.int 60)) (A5 6) V1) E2) (A4 (vC (.int 2)) B2))) B8) E2)) (D1 (I9 8 (b2 (vC (.str "abc")) (B6 (A4 (A5 0) (A4 (b2 (b2 (A5 1) (vC (.int 2)) E2) (b2 (vC (.int 60)) (A5 6) V1) E2) (A4 (vC (.int 3)) B2))) B8) dIx)) (D1 (sIf (W5 (C4 (b2 (A5 4) (E8 B2) dNe)) (C4 (b2 (E8 (A4 (A5 7) (A4 (A5 8) B2))) (A5 5) (I0 .LtE)))) (I9 7 (b2 (b2 (A5 5) (vC (.int 0)) dIx) (vC (.int 1)) E2)) E4) (D1 (I9 5 (E8 (A4 (A5 7) (A4 (A5 8) B2)))) (D1 (I9 9 (vFn (A4 (I8 (F5 (fun δ=>((A5 4) δ).bind E5) D9 [7] (C4 (b2 (b2 (b2 (A5 0) (vC (.int 1)) dIx) (vC (.int 0)) dIx) (A5 1) (I0 .Lt))) (A5 0))) B2) Ho)) (I9 4 (b2 (A5 4) (E8 (A4 (B6 (A4 (A5 0) (A4 (b2 (b2 (A5 1) (vC (.int 3)) E2) (b2 (vC (.int 60)) (A5 6) V1) E2) (A4 (A5 5) (A4 (A5 9) (A4 (A5 3) B2))))) P3) B2)) E2))))))))
noncomputable def Cq:Dn->Out:=(E9 (A5 4))
noncomputable def Eg:Dn->Out:=(D1 Ct (D1 Cs (D1 Cr Cq)))
noncomputable def Au:List wK->Res wK:=fnD P4 Eg
noncomputable def Nm:List Str:=["_law_script", "_law_book_here", "_law_text", "_law_marks", "_law_deed_here", "_law_less", "_law_again", "_law_both", "_law_bare_book"]
noncomputable def Yz:Dn->Out:=(I9 1 (B6 (A4 (A5 0) (A4 (vC (.int 10)) (A4 (vC (.int 8)) (A4 (B6 (A4 (A5 0) (A4 (vC (.int 0)) B2)) W4) B2)))) Au))
noncomputable def Yy:Dn->Out:=(I9 2 (B6 (A4 (A5 1) B2) D7))
noncomputable def Yx:Dn->Out:=(I9 3 (B6 (A4 (A5 1) B2) C9))
noncomputable def Po:Dn->Out:=(U5 (fun δ=>((A5 1) δ).bind E5) (st1 4) (D1 (I9 5 (b2 (A5 1) (E8 (A4 (E8 (A4 (vC (.str "undo")) (A4 (E8 (A4 (vC (.int 50)) (A4 (vC (.str "b")) B2))) (A4 (b2 (A5 4) (vC (.int 1)) dIx) B2)))) B2)) E2)) (D1 (I9 6 (b2 (A5 5) (E8 (A4 (E8 (A4 (vC (.str "undo")) (A4 (E8 (A4 (vC (.int 51)) (A4 (vC (.str "a")) B2))) (A4 (E8 (A4 (vC (.int 50)) (A4 (vC (.str "b")) B2))) B2)))) B2)) E2)) (D1 (sIf (cOr (X8 (C4 (B6 (A4 (A5 6) B2) Cf))) (cOr (C4 (B6 (A4 (A5 5) (A4 (b2 (A5 4) (vC (.int 1)) dIx) B2)) L5)) (C4 (b2 (B6 (A4 (A5 5) B2) K6) (B6 (A4 (A5 1) B2) K6) dNe)))) (E9 (vC (.bool false))) E4) (D1 (sIf (cOr (C4 (b2 (B6 (A4 (A5 6) B2) D7) (A5 2) dNe)) (cOr (C4 (b2 (B6 (A4 (A5 6) B2) C9) (A5 3) dNe)) (C4 (b2 (B6 (A4 (A5 6) (A4 (b2 (A5 4) (vC (.int 1)) dIx) B2)) L5) (B6 (A4 (A5 1) (A4 (b2 (A5 4) (vC (.int 1)) dIx) B2)) L5) dNe)))) (E9 (vC (.bool false))) E4) (D1 (sIf (C4 (b2 (I8 (F5 (fun δ=>((B6 (A4 (A5 1) B2) K6) δ).bind E5) De [4,5] (W5 (C4 (b2 (b2 (A5 0) (vC (.int 0)) dIx) (b2 (A5 2) (vC (.int 1)) dIx) dEq)) (C4 (B6 (A4 (A5 3) (A4 (A5 0) B2)) U7))) (A5 0))) (I8 B2) dNe)) (E9 (vC (.bool false))) E4) (D1 (sIf (W5 (X8 (C4 (B6 (A4 (A5 1) (A4 (b2 (A5 4) (vC (.int 1)) dIx) B2)) L5))) (C4 (b2 (E8 (A4 (B6 (A4 (A5 5) B2) D7) (A4 (B6 (A4 (A5 5) B2) C9) B2))) (E8 (A4 (A5 2) (A4 (A5 3) B2))) dNe))) (E9 (vC (.bool false))) E4) (D1 (sIf (C4 (b2 (B6 (A4 (A5 1) (A4 (b2 (A5 4) (vC (.int 1)) dIx) B2)) K7) (I8 B2) dEq)) (D1 (I9 8 (B6 (A4 (A5 1) (A4 (b2 (A5 4) (vC (.int 1)) dIx) B2)) Cd)) (sIf (cOr (C4 (b2 (B6 (A4 (A5 8) B2) D7) (B6 (A4 (A5 5) B2) D7) dNe)) (C4 (b2 (B6 (A4 (A5 8) B2) C9) (B6 (A4 (A5 5) B2) C9) dNe))) (E9 (vC (.bool false))) E4)) E4) (D1 (I9 7 (b2 (A5 5) (E8 (A4 (E8 (A4 (vC (.str "undo")) (A4 (E8 (A4 (vC (.int 51)) (A4 (vC (.str "c")) B2))) (A4 (b2 (A5 4) (vC (.int 1)) dIx) B2)))) B2)) E2)) (sIf (C4 (b2 (E8 (A4 (B6 (A4 (A5 7) B2) D7) (A4 (B6 (A4 (A5 7) B2) C9) B2))) (E8 (A4 (B6 (A4 (A5 5) B2) D7) (A4 (B6 (A4 (A5 5) B2) C9) B2))) dNe)) (E9 (vC (.bool false))) E4))))))))))
noncomputable def Yw:Dn->Out:=(E9 (vC (.bool true)))
noncomputable def Ox:Dn->Out:=(D1 Yz (D1 Yy (D1 Yx (D1 Po Yw))))
noncomputable def fB:List wK->Res wK:=fnD Nm Ox
end Sm
end
noncomputable section
namespace Sm
open PySem PySem.Spec PyProof.Rows L2
variable {P:xT} {w:yC} {K:wQ} {mg:Str->Option wM} {base:yW} {X:Cx}
theorem Zl:FnScope Jv ["thing", "least"] (A7 (top 6)):=⟨rfl,rfl,rfl,by decide +kernel,rfl,by decide +kernel,by decide +kernel⟩
theorem Ue  (T:Txt mg) (C:Cxt P w K mg base X Jv (A7 (top 6)) 0 true):DSs X E0k (B9 (top 6)) Ke :=
 (C1 (E3 (V0 (Ax C ⋯ T.b_isinstance ⋯ T.b_int (by decide +kernel) ⋯ (A8 C 0 ⋯)) (V0 (d_not (Ax C ⋯ T.b_isinstance ⋯ T.b_bool (by decide +kernel) ⋯ (A8 C 0 ⋯))) (Bt (d_ge C (A8 C 0 ⋯) (A8 C 1 ⋯)))))))
theorem Wy:FnScope Hv ["thing", "letters"] (A7 (top 7)):=⟨rfl,rfl,rfl,by decide +kernel,rfl,by decide +kernel,by decide +kernel⟩
theorem Sf  (T:Txt mg) (C:Cxt P w K mg base X Hv (A7 (top 7)) 0 true):DSs X E0k (B9 (top 7)) Ip :=
 (C1 (E3 (V0 (Ax C ⋯ T.b_isinstance ⋯ T.b_str (by decide +kernel) ⋯ (A8 C 0 ⋯)) (V0 (aX C (X6 C ⋯ T.b_len (A6 (A8 C 0 ⋯) B3)) B4) (Bt (d_in C (A8 C 0 ⋯) (A8 C 1 ⋯)))))))
theorem cG:FnScope Ey ["thing", "most", "first", "last"] (A7 (top 8)):=⟨rfl,rfl,rfl,by decide +kernel,rfl,by decide +kernel,by decide +kernel⟩
theorem Yk  (T:Txt mg) (C:Cxt P w K mg base X Ey (A7 (top 8)) 0 true):DSs X E0k (B9 (top 8)) Gx :=
 (B7 (Q6 (w_t (Sq (Ek (Bq (Ax C ⋯ T.b_isinstance ⋯ T.b_str (by decide +kernel) ⋯ (A8 C 0 ⋯)))) (Pj (Ek (Um C B4 (X6 C ⋯ T.b_len (A6 (A8 C 0 ⋯) B3)) (A8 C 1 ⋯)))))) (C1 (E3 P1)) F9) (C1 (E3 (Nj C ⋯ T.b_all (A6 (L6 (L3 C [2,3] ["first", "last"] ⋯ (M9 (A8 C 0 ⋯)) (fun X' C'=>P6) (fun X' C'=>(iT C' (A8 C' 1 ⋯) (A8 C' 0 ⋯) (A8 C' 2 ⋯))))) B3)))))
theorem cI:FnScope My ["thing"] (A7 (top 9)):=⟨rfl,rfl,rfl,by decide +kernel,rfl,by decide +kernel,by decide +kernel⟩
theorem Ym  (T:Txt mg) (F_is_text:Fn P w K mg base "is_text" 1 4 Ce) (C:Cxt P w K mg base X My (A7 (top 9)) 1 true):DSs X E0k (B9 (top 9)) Nf :=
 (C1 (E3 (C2 C F_is_text (by decide) ⋯ (A6 (A8 C 0 ⋯) (A6 (Yb C ⋯ T.c_LONGEST_NAME) (A6 L4 (A6 L4 B3)))))))
theorem Lr:FnScope Bp ["thing"] (A7 (top 10)):=⟨rfl,rfl,rfl,by decide +kernel,rfl,by decide +kernel,by decide +kernel⟩
theorem Jr  (T:Txt mg) (F_is_text:Fn P w K mg base "is_text" 1 4 Ce) (C:Cxt P w K mg base X Bp (A7 (top 10)) 1 true):DSs X E0k (B9 (top 10)) Dj :=
 (C1 (E3 (C2 C F_is_text (by decide) ⋯ (A6 (A8 C 0 ⋯) (A6 (Yb C ⋯ T.c_MOST_ADDED) (A6 L4 (A6 L4 B3)))))))
theorem cH:FnScope Mx ["thing"] (A7 (top 11)):=⟨rfl,rfl,rfl,by decide +kernel,rfl,by decide +kernel,by decide +kernel⟩
theorem Yl  (T:Txt mg) (C:Cxt P w K mg base X Mx (A7 (top 11)) 0 true):DSs X E0k (B9 (top 11)) Nd :=
 (C1 (E3 (V0 (Ax C ⋯ T.b_isinstance ⋯ T.b_tuple (by decide +kernel) ⋯ (A8 C 0 ⋯)) (Bt (aX C (X6 C ⋯ T.b_len (A6 (A8 C 0 ⋯) B3)) B4)))))
theorem Tq:FnScope Fz ["thing"] (A7 (top 12)):=⟨rfl,rfl,rfl,by decide +kernel,rfl,by decide +kernel,by decide +kernel⟩
theorem Oj  (T:Txt mg) (F_is_one_of:Fn P w K mg base "is_one_of" 1 2 U8) (F_is_pair:Fn P w K mg base "is_pair" 1 1 X2) (F_is_whole:Fn P w K mg base "is_whole" 1 2 Aa) (C:Cxt P w K mg base X Fz (A7 (top 12)) 1 true):DSs X E0k (B9 (top 12)) Ha :=
 (C1 (E3 (V0 (C2 C F_is_pair (by decide) ⋯ (A6 (A8 C 0 ⋯) B3)) (V0 (C2 C F_is_whole (by decide) ⋯ (A6 (D8 (A8 C 0 ⋯) B4) (A6 B4 B3))) (Bt (C2 C F_is_one_of (by decide) ⋯ (A6 (D8 (A8 C 0 ⋯) B4) (A6 (Ya (z := "abcdefgh") C ⋯ T.c_HANDS) B3))))))))
theorem Tm:FnScope Fy ["thing"] (A7 (top 13)):=⟨rfl,rfl,rfl,by decide +kernel,rfl,by decide +kernel,by decide +kernel⟩
theorem Oh  (T:Txt mg) (F_is_deed_id:Fn P w K mg base "is_deed_id" 2 1 K8) (F_is_pair:Fn P w K mg base "is_pair" 1 1 X2) (F_is_whole:Fn P w K mg base "is_whole" 1 2 Aa) (C:Cxt P w K mg base X Fy (A7 (top 13)) 2 true):DSs X E0k (B9 (top 13)) Gy :=
 (C1 (E3 (V0 (C2 C F_is_pair (by decide) ⋯ (A6 (A8 C 0 ⋯) B3)) (V0 (C2 C F_is_deed_id (by decide) ⋯ (A6 (D8 (A8 C 0 ⋯) B4) B3)) (Bt (C2 C F_is_whole (by decide) ⋯ (A6 (D8 (A8 C 0 ⋯) B4) (A6 B4 B3))))))))
theorem Gp:FnScope M7 ["thing"] (A7 (top 14)):=⟨rfl,rfl,rfl,by decide +kernel,rfl,by decide +kernel,by decide +kernel⟩
theorem Ex  (T:Txt mg) (F_is_sign_id:Fn P w K mg base "is_sign_id" 3 1 O0) (C:Cxt P w K mg base X M7 (A7 (top 14)) 3 true):DSs X E0k (B9 (top 14)) Y2 :=
 (C1 (E3 (d_or (d_isN (A8 C 0 ⋯)) (Bt (C2 C F_is_sign_id (by decide) ⋯ (A6 (A8 C 0 ⋯) B3))))))
theorem Wz:FnScope Hw ["thing"] (A7 (top 15)):=⟨rfl,rfl,rfl,by decide +kernel,rfl,by decide +kernel,by decide +kernel⟩
theorem Sg  (T:Txt mg) (F_is_one_of:Fn P w K mg base "is_one_of" 1 2 U8) (F_is_pair:Fn P w K mg base "is_pair" 1 1 X2) (F_is_sign_id_or_none:Fn P w K mg base "is_sign_id_or_none" 4 1 G9) (C:Cxt P w K mg base X Hw (A7 (top 15)) 4 true):DSs X E0k (B9 (top 15)) Iq :=
 (C1 (E3 (V0 (C2 C F_is_pair (by decide) ⋯ (A6 (A8 C 0 ⋯) B3)) (V0 (C2 C F_is_sign_id_or_none (by decide) ⋯ (A6 (D8 (A8 C 0 ⋯) B4) B3)) (Bt (C2 C F_is_one_of (by decide) ⋯ (A6 (D8 (A8 C 0 ⋯) B4) (A6 (Ya (z := "lr") C ⋯ T.c_SIDES) B3))))))))
theorem Wx:FnScope Hu ["values"] (A7 (top 16)):=⟨rfl,rfl,rfl,by decide +kernel,rfl,by decide +kernel,by decide +kernel⟩
theorem Se  (T:Txt mg) (C:Cxt P w K mg base X Hu (A7 (top 16)) 0 true):DSs X E0k (B9 (top 16)) Io :=
 (C1 (E3 (Nj C ⋯ T.b_all (A6 (L6 (L3 C [0] ["values"] ⋯ (Hk C ⋯ T.b_range (A6 (d_sub (X6 C ⋯ T.b_len (A6 (A8 C 0 ⋯) B3)) B4) B3)) (fun X' C'=>P6) (fun X' C'=>(vW C' (D8 (A8 C' 1 ⋯) (A8 C' 0 ⋯)) (D8 (A8 C' 1 ⋯) (F8 (A8 C' 0 ⋯) B4)))))) B3))))
theorem Tp:FnScope Q1 ["thing"] (A7 (top 17)):=⟨rfl,rfl,rfl,by decide +kernel,rfl,by decide +kernel,by decide +kernel⟩
theorem Ny  (T:Txt mg) (C:Cxt P w K mg base X Q1 (A7 (top 17)) 3 true):DS X E0k (stm 17 0) Bg :=
 (Q6 (w_t (Sq (Ek (Bq (Ax C ⋯ T.b_isinstance ⋯ T.b_tuple (by decide +kernel) ⋯ (A8 C 0 ⋯)))) (Pj (Ek (Um C B4 (X6 C ⋯ T.b_len (A6 (A8 C 0 ⋯) B3)) (Yb C ⋯ T.c_MOST_DROPPED)))))) (C1 (E3 P1)) F9)
theorem Nx  (T:Txt mg) (F_is_rising:Fn P w K mg base "is_rising" 1 1 P2) (F_is_sign_id:Fn P w K mg base "is_sign_id" 3 1 O0) (C:Cxt P w K mg base X Q1 (A7 (top 17)) 3 true):DS X E0k (stm 17 1) Bf :=
 (E3 (V0 (Nj C ⋯ T.b_all (A6 (L6 (L3 C [] [] ⋯ (M9 (A8 C 0 ⋯)) (fun X' C'=>P6) (fun X' C'=>(C2 C' F_is_sign_id (by decide) ⋯ (A6 (A8 C' 0 ⋯) B3))))) B3)) (Bt (C2 C F_is_rising (by decide) ⋯ (A6 (A8 C 0 ⋯) B3)))))
theorem Oi  (T:Txt mg) (F_is_rising:Fn P w K mg base "is_rising" 1 1 P2) (F_is_sign_id:Fn P w K mg base "is_sign_id" 3 1 O0) (C:Cxt P w K mg base X Q1 (A7 (top 17)) 3 true):DSs X E0k (B9 (top 17)) Cv:=by
 have h:B9 (top 17)=[stm 17 0,stm 17 1]:=by kernel_rfl
 rw [h];exact (B7 (Ny T C) (C1 (Nx T F_is_rising F_is_sign_id C)))
theorem Zo:FnScope Q2 ["word", "parts"] (A7 (top 18)):=⟨rfl,rfl,rfl,by decide +kernel,rfl,by decide +kernel,by decide +kernel⟩
theorem Tj  (T:Txt mg) (F_is_added_text:Fn P w K mg base "is_added_text" 2 1 Q7) (F_is_sign_id_or_none:Fn P w K mg base "is_sign_id_or_none" 4 1 G9) (C:Cxt P w K mg base X Q2 (A7 (top 18)) 5 true):DS X E0k (stm 18 0) T3 :=
 (Q6 (El C (A8 C 0 ⋯) L4) (C1 (E3 (V0 (aX C (X6 C ⋯ T.b_len (A6 (A8 C 1 ⋯) B3)) B4) (V0 (C2 C F_is_sign_id_or_none (by decide) ⋯ (A6 (D8 (A8 C 1 ⋯) B4) B3)) (Bt (C2 C F_is_added_text (by decide) ⋯ (A6 (D8 (A8 C 1 ⋯) B4) B3))))))) F9)
theorem Ti  (T:Txt mg) (F_is_dropped:Fn P w K mg base "is_dropped" 4 1 Y5) (C:Cxt P w K mg base X Q2 (A7 (top 18)) 5 true):DS X E0k (stm 18 1) T2 :=
 (Q6 (El C (A8 C 0 ⋯) L4) (C1 (E3 (V0 (aX C (X6 C ⋯ T.b_len (A6 (A8 C 1 ⋯) B3)) B4) (Bt (C2 C F_is_dropped (by decide) ⋯ (A6 (D8 (A8 C 1 ⋯) B4) B3)))))) F9)
theorem Th  (T:Txt mg) (F_is_anchor:Fn P w K mg base "is_anchor" 5 1 X3) (F_is_name:Fn P w K mg base "is_name" 2 1 Ab) (C:Cxt P w K mg base X Q2 (A7 (top 18)) 5 true):DS X E0k (stm 18 2) T1 :=
 (Q6 (El C (A8 C 0 ⋯) L4) (C1 (E3 (V0 (aX C (X6 C ⋯ T.b_len (A6 (A8 C 1 ⋯) B3)) B4) (V0 (C2 C F_is_name (by decide) ⋯ (A6 (D8 (A8 C 1 ⋯) B4) B3)) (V0 (C2 C F_is_anchor (by decide) ⋯ (A6 (D8 (A8 C 1 ⋯) B4) B3)) (Bt (C2 C F_is_anchor (by decide) ⋯ (A6 (D8 (A8 C 1 ⋯) B4) B3)))))))) F9)
theorem Tg  (T:Txt mg) (F_is_name:Fn P w K mg base "is_name" 2 1 Ab) (C:Cxt P w K mg base X Q2 (A7 (top 18)) 5 true):DS X E0k (stm 18 3) T0 :=
 (Q6 (El C (A8 C 0 ⋯) L4) (C1 (E3 (V0 (aX C (X6 C ⋯ T.b_len (A6 (A8 C 1 ⋯) B3)) B4) (Bt (C2 C F_is_name (by decide) ⋯ (A6 (D8 (A8 C 1 ⋯) B4) B3)))))) F9)
theorem Tf  (T:Txt mg) (F_is_deed_id:Fn P w K mg base "is_deed_id" 2 1 K8) (C:Cxt P w K mg base X Q2 (A7 (top 18)) 5 true):DS X E0k (stm 18 4) S9 :=
 (Q6 (El C (A8 C 0 ⋯) L4) (C1 (E3 (V0 (aX C (X6 C ⋯ T.b_len (A6 (A8 C 1 ⋯) B3)) B4) (Bt (C2 C F_is_deed_id (by decide) ⋯ (A6 (D8 (A8 C 1 ⋯) B4) B3)))))) F9)
theorem Te  (T:Txt mg) (C:Cxt P w K mg base X Q2 (A7 (top 18)) 5 true):DS X E0k (stm 18 5) R0 :=
 (E3 P1)
theorem Uh  (T:Txt mg) (F_is_added_text:Fn P w K mg base "is_added_text" 2 1 Q7) (F_is_anchor:Fn P w K mg base "is_anchor" 5 1 X3) (F_is_deed_id:Fn P w K mg base "is_deed_id" 2 1 K8) (F_is_dropped:Fn P w K mg base "is_dropped" 4 1 Y5) (F_is_name:Fn P w K mg base "is_name" 2 1 Ab) (F_is_sign_id_or_none:Fn P w K mg base "is_sign_id_or_none" 4 1 G9) (C:Cxt P w K mg base X Q2 (A7 (top 18)) 5 true):DSs X E0k (B9 (top 18)) V7:=by
 have h:B9 (top 18)=[stm 18 0,stm 18 1,stm 18 2,stm 18 3,stm 18 4,stm 18 5]:=by kernel_rfl
 rw [h];exact (B7 (Tj T F_is_added_text F_is_sign_id_or_none C) (B7 (Ti T F_is_dropped C) (B7 (Th T F_is_anchor F_is_name C) (B7 (Tg T F_is_name C) (B7 (Tf T F_is_deed_id C) (C1 (Te T C)))))))
theorem Ql:FnScope M5 ["deed"] (A7 (top 19)):=⟨rfl,rfl,rfl,by decide +kernel,rfl,by decide +kernel,by decide +kernel⟩
theorem Ll  (T:Txt mg) (C:Cxt P w K mg base X M5 (A7 (top 19)) 0 true):DS X E0k (stm 19 0) V4 :=
 (L9 C 1 ⋯ (L6 (X5 B3)))
theorem Lk  (T:Txt mg) (C:Cxt P w K mg base X M5 (A7 (top 19)) 0 true):DS X E0k (stm 19 1) D5 :=
 (Q6 (El C (D8 (A8 C 0 ⋯) B4) L4) (C1 (L9 C 1 ⋯ (L6 (X5 (A6 (D8 (A8 C 0 ⋯) B4) B3))))) (C1 (Q6 (El C (D8 (A8 C 0 ⋯) B4) L4) (C1 (L9 C 1 ⋯ (rA C ⋯ T.b_list (A6 (D8 (A8 C 0 ⋯) B4) B3)))) (C1 (Q6 (El C (D8 (A8 C 0 ⋯) B4) L4) (C1 (L9 C 1 ⋯ (L6 (X5 (A6 (D8 (D8 (A8 C 0 ⋯) B4) B4) (A6 (D8 (D8 (A8 C 0 ⋯) B4) B4) B3)))))) F9)))))
theorem Lj  (T:Txt mg) (C:Cxt P w K mg base X M5 (A7 (top 19)) 0 true):DS X E0k (stm 19 2) O8 :=
 (E3 (L6 (L3 C [] [] ⋯ (M9 (A8 C 1 ⋯)) (fun X' C'=>(Iz (sS (A8 C' 0 ⋯)))) (fun X' C'=>(A8 C' 0 ⋯)))))
theorem Mq  (T:Txt mg) (C:Cxt P w K mg base X M5 (A7 (top 19)) 0 true):DSs X E0k (B9 (top 19)) Q4:=by
 have h:B9 (top 19)=[stm 19 0,stm 19 1,stm 19 2]:=by kernel_rfl
 rw [h];exact (B7 (Ll T C) (B7 (Lk T C) (C1 (Lj T C))))
theorem Qo:FnScope O6 ["deed"] (A7 (top 20)):=⟨rfl,rfl,rfl,by decide +kernel,rfl,by decide +kernel,by decide +kernel⟩
theorem Mt  (T:Txt mg) (F_signs_named:Fn P w K mg base "signs_named" 1 1 F1) (C:Cxt P w K mg base X O6 (A7 (top 20)) 1 true):DSs X E0k (B9 (top 20)) N8 :=
 (B7 (Q6 (El C (D8 (A8 C 0 ⋯) B4) L4) (C1 (E3 (L6 (X5 (A6 (D8 (A8 C 0 ⋯) B4) B3))))) F9) (C1 (E3 (L6 (L3 C [] [] ⋯ (M9 (C2 C F_signs_named (by decide) ⋯ (A6 (A8 C 0 ⋯) B3))) (fun X' C'=>P6) (fun X' C'=>(D8 (A8 C' 0 ⋯) B4)))))))
theorem cJ:FnScope T7 ["thing"] (A7 (top 21)):=⟨rfl,rfl,rfl,by decide +kernel,rfl,by decide +kernel,by decide +kernel⟩
theorem Wp  (T:Txt mg) (F_is_deed_id:Fn P w K mg base "is_deed_id" 2 1 K8) (C:Cxt P w K mg base X T7 (A7 (top 21)) 6 true):DS X E0k (stm 21 0) Ff :=
 (Q6 (w_t (Sq (Ek (Bq (Ax C ⋯ T.b_isinstance ⋯ T.b_tuple (by decide +kernel) ⋯ (A8 C 0 ⋯)))) (Sq (gI C (X6 C ⋯ T.b_len (A6 (A8 C 0 ⋯) B3)) B4) (Pj (Ek (Bq (C2 C F_is_deed_id (by decide) ⋯ (A6 (D8 (A8 C 0 ⋯) B4) B3)))))))) (C1 (E3 P1)) F9)
theorem Wo  (T:Txt mg) (F_has_form:Fn P w K mg base "has_form" 6 2 Ae) (C:Cxt P w K mg base X T7 (A7 (top 21)) 6 true):DS X E0k (stm 21 1) Fe :=
 (Q6 (Ek (Bq (C2 C F_has_form (by decide) ⋯ (A6 (D8 (A8 C 0 ⋯) B4) (A6 (Pe (A8 C 0 ⋯) (Xk B4) Xl) B3))))) (C1 (E3 P1)) F9)
theorem Wn  (T:Txt mg) (F_deeds_named:Fn P w K mg base "deeds_named" 2 1 C6) (C:Cxt P w K mg base X T7 (A7 (top 21)) 6 true):DS X E0k (stm 21 2) Fd :=
 (E3 (Nj C ⋯ T.b_all (A6 (L6 (L3 C [0] ["thing"] ⋯ (M9 (C2 C F_deeds_named (by decide) ⋯ (A6 (A8 C 0 ⋯) B3))) (fun X' C'=>P6) (fun X' C'=>(vW C' (D8 (A8 C' 0 ⋯) B4) (D8 (D8 (A8 C' 1 ⋯) B4) B4))))) B3)))
theorem Yn  (T:Txt mg) (F_deeds_named:Fn P w K mg base "deeds_named" 2 1 C6) (F_has_form:Fn P w K mg base "has_form" 6 2 Ae) (F_is_deed_id:Fn P w K mg base "is_deed_id" 2 1 K8) (C:Cxt P w K mg base X T7 (A7 (top 21)) 6 true):DSs X E0k (B9 (top 21)) Hb:=by
 have h:B9 (top 21)=[stm 21 0,stm 21 1,stm 21 2]:=by kernel_rfl
 rw [h];exact (B7 (Wp T F_is_deed_id C) (B7 (Wo T F_has_form C) (C1 (Wn T F_deeds_named C))))
theorem Qm:FnScope T6 ["deed"] (A7 (top 22)):=⟨rfl,rfl,rfl,by decide +kernel,rfl,by decide +kernel,by decide +kernel⟩
theorem Mr  (T:Txt mg) (C:Cxt P w K mg base X T6 (A7 (top 22)) 0 true):DSs X E0k (B9 (top 22)) Q5 :=
 (C1 (E3 (rB (El C (D8 (A8 C 0 ⋯) B4) L4) (X6 C ⋯ T.b_len (A6 (D8 (A8 C 0 ⋯) B4) B3)) B4)))
theorem gN:FnScope Lg ["deeds"] (A7 (top 23)):=⟨rfl,rfl,rfl,by decide +kernel,rfl,by decide +kernel,by decide +kernel⟩
theorem bJ  (T:Txt mg) (C:Cxt P w K mg base X Lg (A7 (top 23)) 0 true):DSN X E0k (B9 (top 23)) Jf :=
 (uX (fA C ⋯ T.b_dict (L6 (L3 C [] [] ⋯ (M9 (A8 C 0 ⋯)) (fun X' C'=>P6) (fun X' C'=>(K4 (A6 (D8 (A8 C' 0 ⋯) B4) (A6 (A8 C' 0 ⋯) B3))))))))
theorem Ls:FnScope Q9 ["known", "deed"] (A7 (top 24)):=⟨rfl,rfl,rfl,by decide +kernel,rfl,by decide +kernel,by decide +kernel⟩
theorem Jd  (T:Txt mg) (F_deeds_named:Fn P w K mg base "deeds_named" 2 1 C6) (C:Cxt P w K mg base X Q9 (A7 (top 24)) 2 true):DS X E0k (stm 24 0) (sIf (X8 (C4 (vFn (A4 (I8 (F5 (fun δ=>((B6 (A4 (A5 1) B2) C6) δ).bind E5) D9 [0] K5 (T8 false 1 (A5 0)))) B2) Gr))) (E9 (vC (.bool false))) E4) :=
 (Q6 (Ek (Bq (Nj C ⋯ T.b_all (A6 (L6 (L3 C [0] ["known"] ⋯ (M9 (C2 C F_deeds_named (by decide) ⋯ (A6 (A8 C 1 ⋯) B3))) (fun X' C'=>P6) (fun X' C'=>(sJ C' 1 ⋯ (A8 C' 0 ⋯))))) B3)))) (C1 (E3 P1)) F9)
theorem Jc  (T:Txt mg) (F_signs_added:Fn P w K mg base "signs_added" 1 1 D2) (F_signs_named:Fn P w K mg base "signs_named" 1 1 F1) (C:Cxt P w K mg base X Q9 (A7 (top 24)) 2 true):DS X E0k (stm 24 1) (E9 (vFn (A4 (I8 (F5 (fun δ=>((B6 (A4 (A5 1) B2) F1) δ).bind E5) D9 [0] K5 (b2 (b2 (A5 0) (vC (.int 1)) dIx) (B6 (A4 (Ib 1 (b2 (A5 0) (vC (.int 0)) dIx)) B2) D2) (I0 .Lt)))) B2) Gr)) :=
 (E3 (Nj C ⋯ T.b_all (A6 (L6 (L3 C [0] ["known"] ⋯ (M9 (C2 C F_signs_named (by decide) ⋯ (A6 (A8 C 1 ⋯) B3))) (fun X' C'=>P6) (fun X' C'=>(vW C' (D8 (A8 C' 0 ⋯) B4) (C2 C' F_signs_added (by decide) ⋯ (A6 (fK C' 1 ⋯ (D8 (A8 C' 0 ⋯) B4)) B3)))))) B3)))
theorem Js  (T:Txt mg) (F_deeds_named:Fn P w K mg base "deeds_named" 2 1 C6) (F_signs_added:Fn P w K mg base "signs_added" 1 1 D2) (F_signs_named:Fn P w K mg base "signs_named" 1 1 F1) (C:Cxt P w K mg base X Q9 (A7 (top 24)) 2 true):DSs X E0k (B9 (top 24)) U2:=by
 have h:B9 (top 24)=[stm 24 0,stm 24 1]:=by kernel_rfl
 rw [h];exact (B7 (Jd T F_deeds_named C) (C1 (Jc T F_signs_added F_signs_named C)))
theorem cK:FnScope Cg ["thing"] (A7 (top 25)):=⟨rfl,rfl,rfl,by decide +kernel,rfl,by decide +kernel,by decide +kernel⟩
theorem Ws  (T:Txt mg) (F_is_deed:Fn P w K mg base "is_deed" 7 1 Ac) (C:Cxt P w K mg base X Cg (A7 (top 25)) 7 true):DS X E0k (stm 25 0) Kb :=
 (Q6 (w_t (Sq (Ek (Bq (Ax C ⋯ T.b_isinstance ⋯ T.b_tuple (by decide +kernel) ⋯ (A8 C 0 ⋯)))) (Pj (Ek (Bq (Nj C ⋯ T.b_all (A6 (L6 (L3 C [] [] ⋯ (M9 (A8 C 0 ⋯)) (fun X' C'=>P6) (fun X' C'=>(C2 C' F_is_deed (by decide) ⋯ (A6 (A8 C' 0 ⋯) B3))))) B3))))))) (C1 (E3 P1)) F9)
theorem Wr  (T:Txt mg) (F_by_ids:FnN P w K mg base "by_ids" 1 1 Es) (C:Cxt P w K mg base X Cg (A7 (top 25)) 7 true):DS X E0k (stm 25 1) Fg :=
 (Hd C 1 ⋯ (Jk C F_by_ids (by decide) ⋯ (A6 (A8 C 0 ⋯) B3)))
theorem Wq  (T:Txt mg) (F_has_all_named:FnS P w K mg base "has_all_named" 3 2 N9) (F_is_rising:Fn P w K mg base "is_rising" 1 1 P2) (C:Cxt P w K mg base X Cg (A7 (top 25)) 7 true):DS X E0k (stm 25 2) Ka :=
 (eG 1 (E3 (V0 (C2 C F_is_rising (by decide) ⋯ (A6 (L6 (L3 C [] [] ⋯ (M9 (A8 C 0 ⋯)) (fun X' C'=>P6) (fun X' C'=>(D8 (A8 C' 0 ⋯) B4)))) B3)) (Bt (Nj C ⋯ T.b_all (A6 (L6 (L3 C [1] ["known"] ⋯ (M9 (A8 C 0 ⋯)) (fun X' C'=>P6) (fun X' C'=>(Ru C' F_has_all_named (by decide) ⋯ 1 ⋯ (A8 C' 0 ⋯))))) B3))))))
theorem Yo  (T:Txt mg) (F_by_ids:FnN P w K mg base "by_ids" 1 1 Es) (F_has_all_named:FnS P w K mg base "has_all_named" 3 2 N9) (F_is_deed:Fn P w K mg base "is_deed" 7 1 Ac) (F_is_rising:Fn P w K mg base "is_rising" 1 1 P2) (C:Cxt P w K mg base X Cg (A7 (top 25)) 7 true):DSs X E0k (B9 (top 25)) Ng:=by
 have h:B9 (top 25)=[stm 25 0,stm 25 1,stm 25 2]:=by kernel_rfl
 rw [h];exact (B7 (Ws T F_is_deed C) (B7 (Wr T F_by_ids C) (C1 (Wq T F_has_all_named F_is_rising C))))
theorem Qp:FnScope Ap ["book"] (A7 (top 31)):=⟨rfl,rfl,rfl,by decide +kernel,rfl,by decide +kernel,by decide +kernel⟩
theorem Mu  (T:Txt mg) (F_signs_added:Fn P w K mg base "signs_added" 1 1 D2) (C:Cxt P w K mg base X Ap (A7 (top 31)) 1 true):DSN X E0k (B9 (top 31)) Bm :=
 (Ei (Kh C 1 ⋯) (Ei (s_grp C 1 2 ⋯ ⋯ (M9 (A8 C 0 ⋯)) (t_gt C (C2 C F_signs_added (by decide) ⋯ (A6 (A8 C 2 ⋯) B3)) B4) (D8 (A8 C 2 ⋯) B4) (A8 C 2 ⋯) ⟨rfl,rfl,rfl,rfl⟩ (fun _=>rfl) rfl rfl rfl rfl rfl rfl) (eZ C 1 ⋯)))
theorem Zi:FnScope P9 ["book"] (A7 (top 32)):=⟨rfl,rfl,rfl,by decide +kernel,rfl,by decide +kernel,by decide +kernel⟩
theorem Sz  (T:Txt mg) (F_adds_behind:FnN P w K mg base "adds_behind" 2 1 T5) (C:Cxt P w K mg base X P9 (A7 (top 32)) 2 true):DS X E0k (stm 32 0) Dz :=
 (Hd C 1 ⋯ (Jk C F_adds_behind (by decide) ⋯ (A6 (A8 C 0 ⋯) B3)))
theorem Sy  (T:Txt mg) (C:Cxt P w K mg base X P9 (A7 (top 32)) 2 true):DS X E0k (stm 32 1) Dy :=
 (cL C 2 ⋯ ⋯ [] [] ⋯ (M9 (nA C 1 ⋯ Xz (L6 (X5 B3)))) (fun X' C'=>P6) (fun X' C'=>(K4 (A6 (A8 C' 0 ⋯) (A6 B4 B3)))))
theorem Sx  (T:Txt mg) (C:Cxt P w K mg base X P9 (A7 (top 32)) 2 true):DS X E0k (stm 32 2) Ij :=
 (Zq C 3 ⋯ (X5 B3))
theorem Sw  (T:Txt mg) (C:Cxt P w K mg base X P9 (A7 (top 32)) 2 true):DS X E0k (stm 32 3) Dx :=
 (oH C (t_own C 2 ⋯) (B7 (s_pop C 2 4 ⋯ ⋯) (B7 (L9 C 5 ⋯ (D8 (A8 C 4 ⋯) B4)) (B7 (L9 C 6 ⋯ (D8 (A8 C 4 ⋯) B4)) (B7 (L9 C 7 ⋯ (K4 (A6 (D8 (A8 C 5 ⋯) B4) (A6 (A8 C 6 ⋯) B3)))) (B7 (Ur C 3 ⋯ (K4 (A6 (A8 C 7 ⋯) (A6 (D8 (D8 (A8 C 5 ⋯) B4) (A8 C 6 ⋯)) B3)))) (B7 (Q6 (gI C (F8 (A8 C 6 ⋯) B4) (X6 C ⋯ T.b_len (A6 (D8 (A8 C 5 ⋯) B4) B3))) (C1 (Ur C 2 ⋯ (K4 (A6 (A8 C 5 ⋯) (A6 (F8 (A8 C 6 ⋯) B4) B3))))) F9) (C1 (s_ext C 2 ⋯ (L3 C [] [] ⋯ (M9 (nA C 1 ⋯ (A8 C 7 ⋯) (L6 (X5 B3)))) (fun X' C'=>P6) (fun X' C'=>(K4 (A6 (A8 C' 0 ⋯) (A6 B4 B3))))))))))))))
theorem Sv  (T:Txt mg) (C:Cxt P w K mg base X P9 (A7 (top 32)) 2 true):DS X E0k (stm 32 4) Ii :=
 (kI 3 (E3 (A8 C 3 ⋯)))
theorem Ub  (T:Txt mg) (F_adds_behind:FnN P w K mg base "adds_behind" 2 1 T5) (C:Cxt P w K mg base X P9 (A7 (top 32)) 2 true):DSs X E0k (B9 (top 32)) Fk:=by
 have h:B9 (top 32)=[stm 32 0,stm 32 1,stm 32 2,stm 32 3,stm 32 4]:=by kernel_rfl
 rw [h];exact (B7 (Sz T F_adds_behind C) (B7 (Sy T C) (B7 (Sx T C) (B7 (Sw T C) (C1 (Sv T C))))))
theorem Wv:FnScope Ds ["book"] (A7 (top 33)):=⟨rfl,rfl,rfl,by decide +kernel,rfl,by decide +kernel,by decide +kernel⟩
theorem Rz  (T:Txt mg) (C:Cxt P w K mg base X Ds (A7 (top 33)) 0 true):DSN X E0k (B9 (top 33)) Ec :=
 (Ei (Kh C 1 ⋯) (Ei (Z4 C 2 ⋯ (i_rev C ⋯ T.b_reversed (A8 C 0 ⋯)) (C1 (Q6 (w_t (Jx (El C (D8 (A8 C 2 ⋯) B4) L4) (Ez (Jy C 1 ⋯ (D8 (A8 C 2 ⋯) B4))))) (C1 (Lu C 1 ⋯ (D8 (A8 C 2 ⋯) B4) P1)) F9))) (eZ C 1 ⋯)))
theorem Go:FnScope V2 ["book", "which"] (A7 (top 34)):=⟨rfl,rfl,rfl,by decide +kernel,rfl,by decide +kernel,by decide +kernel⟩
theorem Ew  (T:Txt mg) (C:Cxt P w K mg base X V2 (A7 (top 34)) 0 true):DSs X E0k (B9 (top 34)) Y1 :=
 (C1 (Q6 (nY C (A8 C 1 ⋯) (L6 (L3 C [] [] ⋯ (M9 (A8 C 0 ⋯)) (fun X' C'=>P6) (fun X' C'=>(D8 (A8 C' 0 ⋯) B4))))) (C1 s_no) F9))
theorem Xa:FnScope Du ["book", "which"] (A7 (top 35)):=⟨rfl,rfl,rfl,by decide +kernel,rfl,by decide +kernel,by decide +kernel⟩
theorem Sh  (T:Txt mg) (F_refuse_unless_deed:Fn P w K mg base "refuse_unless_deed" 1 2 F3) (F_undone_in:FnN P w K mg base "undone_in" 1 1 K0) (C:Cxt P w K mg base X Du (A7 (top 35)) 1 true):DSs X E0k (B9 (top 35)) Ir :=
 (B7 (kJ (C2 C F_refuse_unless_deed (by decide) ⋯ (A6 (A8 C 0 ⋯) (A6 (A8 C 1 ⋯) B3)))) (C1 (E3 (aW C (A8 C 1 ⋯) (Jk C F_undone_in (by decide) ⋯ (A6 (A8 C 0 ⋯) B3))))))
theorem Tr:FnScope Bz ["book", "undone"] (A7 (top 36)):=⟨rfl,rfl,rfl,by decide +kernel,rfl,by decide +kernel,by decide +kernel⟩
theorem Ol  (T:Txt mg) (C:Cxt P w K mg base X Bz (A7 (top 36)) 0 true):DSN X E0k (B9 (top 36)) Cw :=
 (Ei (Kh C 2 ⋯) (Ei (Z4 C 3 ⋯ (M9 (A8 C 0 ⋯)) (C1 (Q6 (w_t (Jx (El C (D8 (A8 C 3 ⋯) B4) L4) (Ez (Jy C 1 ⋯ (D8 (A8 C 3 ⋯) B4))))) (C1 (Z4 C 4 ⋯ (M9 (D8 (A8 C 3 ⋯) B4)) (C1 (Lu C 2 ⋯ (A8 C 4 ⋯) P1)))) F9))) (eZ C 2 ⋯)))
theorem Qn:FnScope M6 ["book"] (A7 (top 37)):=⟨rfl,rfl,rfl,by decide +kernel,rfl,by decide +kernel,by decide +kernel⟩
theorem Lq  (T:Txt mg) (F_undone_in:FnN P w K mg base "undone_in" 1 1 K0) (C:Cxt P w K mg base X M6 (A7 (top 37)) 3 true):DS X E0k (stm 37 0) Z0 :=
 (Hd C 1 ⋯ (Jk C F_undone_in (by decide) ⋯ (A6 (A8 C 0 ⋯) B3)))
theorem Lp  (T:Txt mg) (F_dropped_in:FnSN P w K mg base "dropped_in" 1 2 M4) (C:Cxt P w K mg base X M6 (A7 (top 37)) 3 true):DS X E0k (stm 37 1) Y9 :=
 (eG 1 (Hd C 2 ⋯ (aG C F_dropped_in (by decide) ⋯ (A8 C 0 ⋯) 1 ⋯)))
theorem Lo  (T:Txt mg) (C:Cxt P w K mg base X M6 (A7 (top 37)) 3 true):DS X E0k (stm 37 2) En :=
 (Zq C 3 ⋯ (X5 B3))
theorem Ln  (T:Txt mg) (F_signs_of:Fn P w K mg base "signs_of" 3 1 K6) (C:Cxt P w K mg base X M6 (A7 (top 37)) 3 true):DS X E0k (stm 37 3) V5 :=
 (Z4 C 4 ⋯ (M9 (C2 C F_signs_of (by decide) ⋯ (A6 (A8 C 0 ⋯) B3))) (C1 (Ur C 3 ⋯ (K4 (A6 (A8 C 4 ⋯) (A6 (V0 (Rs C 1 ⋯ (D8 (D8 (A8 C 4 ⋯) B4) B4)) (Bt (Rs C 2 ⋯ (D8 (A8 C 4 ⋯) B4)))) B3))))))
theorem Lm  (T:Txt mg) (C:Cxt P w K mg base X M6 (A7 (top 37)) 3 true):DS X E0k (stm 37 4) Em :=
 (kI 3 (E3 (A8 C 3 ⋯)))
theorem Ms  (T:Txt mg) (F_dropped_in:FnSN P w K mg base "dropped_in" 1 2 M4) (F_signs_of:Fn P w K mg base "signs_of" 3 1 K6) (F_undone_in:FnN P w K mg base "undone_in" 1 1 K0) (C:Cxt P w K mg base X M6 (A7 (top 37)) 3 true):DSs X E0k (B9 (top 37)) Bl:=by
 have h:B9 (top 37)=[stm 37 0,stm 37 1,stm 37 2,stm 37 3,stm 37 4]:=by kernel_rfl
 rw [h];exact (B7 (Lq T F_undone_in C) (B7 (Lp T F_dropped_in C) (B7 (Lo T C) (B7 (Ln T F_signs_of C) (C1 (Lm T C))))))
theorem Zj:FnScope Fw ["book"] (A7 (top 38)):=⟨rfl,rfl,rfl,by decide +kernel,rfl,by decide +kernel,by decide +kernel⟩
theorem Uc  (T:Txt mg) (F_presence_in:Fn P w K mg base "presence_in" 4 1 N2) (C:Cxt P w K mg base X Fw (A7 (top 38)) 4 true):DSs X E0k (B9 (top 38)) Fl :=
 (C1 (E3 (L6 (L3 C [] [] ⋯ (M9 (C2 C F_presence_in (by decide) ⋯ (A6 (A8 C 0 ⋯) B3))) (fun X' C'=>(Iz (Bq (D8 (A8 C' 0 ⋯) B4)))) (fun X' C'=>(D8 (A8 C' 0 ⋯) B4))))))
theorem cF:FnScope Ia ["book"] (A7 (top 39)):=⟨rfl,rfl,rfl,by decide +kernel,rfl,by decide +kernel,by decide +kernel⟩
theorem Yj  (T:Txt mg) (F_shown_in:Fn P w K mg base "shown_in" 5 1 Z9) (C:Cxt P w K mg base X Ia (A7 (top 39)) 5 true):DSs X E0k (B9 (top 39)) Gv :=
 (C1 (E3 (mY (L6 (L3 C [] [] ⋯ (M9 (C2 C F_shown_in (by decide) ⋯ (A6 (A8 C 0 ⋯) B3))) (fun X' C'=>P6) (fun X' C'=>(D8 (A8 C' 0 ⋯) B4)))))))
theorem Zn:FnScope Ga ["book", "sign"] (A7 (top 40)):=⟨rfl,rfl,rfl,by decide +kernel,rfl,by decide +kernel,by decide +kernel⟩
theorem Ug  (T:Txt mg) (F_signs_added:Fn P w K mg base "signs_added" 1 1 D2) (C:Cxt P w K mg base X Ga (A7 (top 40)) 1 true):DSs X E0k (B9 (top 40)) Kg :=
 (B7 (Z4 C 2 ⋯ (M9 (A8 C 0 ⋯)) (C1 (Q6 (El C (D8 (A8 C 2 ⋯) B4) (D8 (A8 C 1 ⋯) B4)) (C1 (E3 (aY C B4 (D8 (A8 C 1 ⋯) B4) (C2 C F_signs_added (by decide) ⋯ (A6 (A8 C 2 ⋯) B3))))) F9))) (C1 (E3 P1)))
theorem Zm:FnScope Jw ["book", "sign"] (A7 (top 41)):=⟨rfl,rfl,rfl,by decide +kernel,rfl,by decide +kernel,by decide +kernel⟩
theorem Uf  (T:Txt mg) (F_dropped_in:FnSN P w K mg base "dropped_in" 1 2 M4) (F_has_sign:Fn P w K mg base "has_sign" 2 2 Fs) (F_undone_in:FnN P w K mg base "undone_in" 1 1 K0) (C:Cxt P w K mg base X Jw (A7 (top 41)) 2 true):DSs X E0k (B9 (top 41)) Kf :=
 (B7 (Q6 (Ek (Bq (C2 C F_has_sign (by decide) ⋯ (A6 (A8 C 0 ⋯) (A6 (A8 C 1 ⋯) B3))))) (C1 s_no) F9) (B7 (Hd C 2 ⋯ (Jk C F_undone_in (by decide) ⋯ (A6 (A8 C 0 ⋯) B3))) (C1 (eG 2 (E3 (V0 (Rs C 2 ⋯ (D8 (A8 C 1 ⋯) B4)) (Bt (aW C (A8 C 1 ⋯) (aG C F_dropped_in (by decide) ⋯ (A8 C 0 ⋯) 2 ⋯)))))))))
theorem Tl:FnScope Q0 ["book", "which"] (A7 (top 42)):=⟨rfl,rfl,rfl,by decide +kernel,rfl,by decide +kernel,by decide +kernel⟩
theorem Nw  (T:Txt mg) (C:Cxt P w K mg base X Q0 (A7 (top 42)) 2 true):DS X E0k (stm 42 0) Be :=
 (kK C 2 ⋯ (A8 C 1 ⋯) P1)
theorem Nv  (T:Txt mg) (C:Cxt P w K mg base X Q0 (A7 (top 42)) 2 true):DS X E0k (stm 42 1) Gg :=
 (Zq C 3 ⋯ (X5 B3))
theorem Nu  (T:Txt mg) (F_deeds_named:Fn P w K mg base "deeds_named" 2 1 C6) (C:Cxt P w K mg base X Q0 (A7 (top 42)) 2 true):DS X E0k (stm 42 2) Bd :=
 (Z4 C 4 ⋯ (M9 (A8 C 0 ⋯)) (C1 (Q6 (Bq (d_any C ⋯ T.b_any (A6 (L6 (L3 C [2] ["leaning"] ⋯ (M9 (C2 C F_deeds_named (by decide) ⋯ (A6 (A8 C 4 ⋯) B3))) (fun X' C'=>P6) (fun X' C'=>(sJ C' 1 ⋯ (A8 C' 0 ⋯))))) B3))) (B7 (Lu C 2 ⋯ (D8 (A8 C 4 ⋯) B4) P1) (C1 (Ur C 3 ⋯ (D8 (A8 C 4 ⋯) B4)))) F9)))
theorem Nt  (T:Txt mg) (C:Cxt P w K mg base X Q0 (A7 (top 42)) 2 true):DS X E0k (stm 42 3) Gf :=
 (kI 3 (E3 (A8 C 3 ⋯)))
theorem Og  (T:Txt mg) (F_deeds_named:Fn P w K mg base "deeds_named" 2 1 C6) (C:Cxt P w K mg base X Q0 (A7 (top 42)) 2 true):DSs X E0k (B9 (top 42)) Gw:=by
 have h:B9 (top 42)=[stm 42 0,stm 42 1,stm 42 2,stm 42 3]:=by kernel_rfl
 rw [h];exact (B7 (Nw T C) (B7 (Nv T C) (B7 (Nu T F_deeds_named C) (C1 (Nt T C)))))
theorem Ww:FnScope Dt ["book"] (A7 (top 44)):=⟨rfl,rfl,rfl,by decide +kernel,rfl,by decide +kernel,by decide +kernel⟩
theorem Sd  (T:Txt mg) (F_presence_in:Fn P w K mg base "presence_in" 4 1 N2) (C:Cxt P w K mg base X Dt (A7 (top 44)) 4 true):DSN X E0k (B9 (top 44)) Ed :=
 (Ei (Kh C 1 ⋯) (Ei (L9 C 2 ⋯ B4) (Ei (Z4 C 3 ⋯ (M9 (C2 C F_presence_in (by decide) ⋯ (A6 (A8 C 0 ⋯) B3))) (B7 (L9 C 4 ⋯ (A8 C 2 ⋯)) (B7 (Q6 (Bq (D8 (A8 C 3 ⋯) B4)) (C1 (L9 C 2 ⋯ (F8 (A8 C 4 ⋯) B4))) F9) (C1 (Lu C 1 ⋯ (D8 (D8 (A8 C 3 ⋯) B4) B4) (K4 (A6 (A8 C 2 ⋯) (A6 (A8 C 4 ⋯) B3)))))))) (Ei (Lu C 1 ⋯ Xz (K4 (A6 B4 (A6 (A8 C 2 ⋯) B3)))) (eZ C 1 ⋯)))))
theorem Zp:FnScope Gd ["places", "anchor"] (A7 (top 45)):=⟨rfl,rfl,rfl,by decide +kernel,rfl,by decide +kernel,by decide +kernel⟩
theorem Ui  (T:Txt mg) (C:Cxt P w K mg base X Gd (A7 (top 45)) 0 true):DSs X E0k (B9 (top 45)) Fo :=
 (C1 (E3 (D8 (fK C 0 ⋯ (D8 (A8 C 1 ⋯) B4)) (mZ (Ya (z := "lr") C ⋯ T.c_SIDES) (D8 (A8 C 1 ⋯) B4)))))
theorem Tk:FnScope O3 ["book"] (A7 (top 46)):=⟨rfl,rfl,rfl,by decide +kernel,rfl,by decide +kernel,by decide +kernel⟩
theorem Nr  (T:Txt mg) (F_undone_in:FnN P w K mg base "undone_in" 1 1 K0) (C:Cxt P w K mg base X O3 (A7 (top 46)) 1 true):DS X E0k (stm 46 0) Bc :=
 (Hd C 1 ⋯ (Jk C F_undone_in (by decide) ⋯ (A6 (A8 C 0 ⋯) B3)))
theorem Nq  (T:Txt mg) (C:Cxt P w K mg base X O3 (A7 (top 46)) 1 true):DS X E0k (stm 46 1) Ge :=
 (Kh C 2 ⋯)
theorem Np  (T:Txt mg) (C:Cxt P w K mg base X O3 (A7 (top 46)) 1 true):DS X E0k (stm 46 2) Bb :=
 (Z4 C 3 ⋯ (M9 (A8 C 0 ⋯)) (C1 (Q6 (w_t (Jx (t_in C (D8 (A8 C 3 ⋯) B4) (K4 (A6 L4 (A6 L4 B3)))) (Ez (Jy C 1 ⋯ (D8 (A8 C 3 ⋯) B4))))) (C1 (Lu C 2 ⋯ (D8 (A8 C 3 ⋯) B4) (A8 C 3 ⋯))) F9)))
theorem Nn  (T:Txt mg) (C:Cxt P w K mg base X O3 (A7 (top 46)) 1 true):DS X E0k (stm 46 3) Ba :=
 (E3 (L6 (L3 C [2] ["last"] ⋯ (M9 (qZ C ⋯ T.b_sorted 2 ⋯)) (fun X' C'=>(Iz (El C' (D8 (fK C' 1 ⋯ (A8 C' 0 ⋯)) B4) L4))) (fun X' C'=>(fK C' 1 ⋯ (A8 C' 0 ⋯))))))
theorem Oe  (T:Txt mg) (F_undone_in:FnN P w K mg base "undone_in" 1 1 K0) (C:Cxt P w K mg base X O3 (A7 (top 46)) 1 true):DSs X E0k (B9 (top 46)) Cu:=by
 have h:B9 (top 46)=[stm 46 0,stm 46 1,stm 46 2,stm 46 3]:=by kernel_rfl
 rw [h];exact (B7 (Nr T F_undone_in C) (B7 (Nq T C) (B7 (Np T C) (C1 (Nn T C)))))
theorem Zk:FnScope V3 ["book"] (A7 (top 47)):=⟨rfl,rfl,rfl,by decide +kernel,rfl,by decide +kernel,by decide +kernel⟩
theorem Td  (T:Txt mg) (F_places_in:FnN P w K mg base "places_in" 5 1 X1) (C:Cxt P w K mg base X V3 (A7 (top 47)) 5 true):DS X E0k (stm 47 0) Eb :=
 (Hd C 1 ⋯ (Jk C F_places_in (by decide) ⋯ (A6 (A8 C 0 ⋯) B3)))
theorem Tc  (T:Txt mg) (C:Cxt P w K mg base X V3 (A7 (top 47)) 5 true):DS X E0k (stm 47 1) Il :=
 (Zq C 2 ⋯ (X5 B3))
theorem Tb  (T:Txt mg) (F_anchored:FnS P w K mg base "anchored" 1 2 J2) (F_mark_deeds:Fn P w K mg base "mark_deeds" 2 1 P8) (C:Cxt P w K mg base X V3 (A7 (top 47)) 5 true):DS X E0k (stm 47 2) Ea :=
 (eG 1 (Z4 C 3 ⋯ (M9 (C2 C F_mark_deeds (by decide) ⋯ (A6 (A8 C 0 ⋯) B3))) (B7 (L9 C 4 ⋯ (Ru C F_anchored (by decide) ⋯ 1 ⋯ (D8 (A8 C 3 ⋯) B4))) (C1 (Ur C 2 ⋯ (K4 (A6 (D8 (A8 C 3 ⋯) B4) (A6 (A8 C 4 ⋯) (A6 (d_max C ⋯ T.b_max (A6 (A8 C 4 ⋯) (A6 (Ru C F_anchored (by decide) ⋯ 1 ⋯ (D8 (A8 C 3 ⋯) B4)) B3))) B3)))))))))
theorem Ta  (T:Txt mg) (C:Cxt P w K mg base X V3 (A7 (top 47)) 5 true):DS X E0k (stm 47 3) Ik :=
 (kI 2 (E3 (A8 C 2 ⋯)))
theorem Ud  (T:Txt mg) (F_anchored:FnS P w K mg base "anchored" 1 2 J2) (F_mark_deeds:Fn P w K mg base "mark_deeds" 2 1 P8) (F_places_in:FnN P w K mg base "places_in" 5 1 X1) (C:Cxt P w K mg base X V3 (A7 (top 47)) 5 true):DSs X E0k (B9 (top 47)) Fm:=by
 have h:B9 (top 47)=[stm 47 0,stm 47 1,stm 47 2,stm 47 3]:=by kernel_rfl
 rw [h];exact (B7 (Td T F_places_in C) (B7 (Tc T C) (B7 (Tb T F_anchored F_mark_deeds C) (C1 (Ta T C)))))
theorem cE:FnScope Aj ["book", "which"] (A7 (top 49)):=⟨rfl,rfl,rfl,by decide +kernel,rfl,by decide +kernel,by decide +kernel⟩
theorem Wm  (T:Txt mg) (F_refuse_unless_deed:Fn P w K mg base "refuse_unless_deed" 1 2 F3) (C:Cxt P w K mg base X Aj (A7 (top 49)) 3 true):DS X E0k (stm 49 0) Fc :=
 (kJ (C2 C F_refuse_unless_deed (by decide) ⋯ (A6 (A8 C 0 ⋯) (A6 (A8 C 1 ⋯) B3))))
theorem Wl  (T:Txt mg) (F_leaning_on:Fn P w K mg base "leaning_on" 3 2 K7) (C:Cxt P w K mg base X Aj (A7 (top 49)) 3 true):DS X E0k (stm 49 1) Fb :=
 (Hd C 2 ⋯ (fA C ⋯ T.b_dict (L6 (L3 C [] [] ⋯ (M9 (C2 C F_leaning_on (by decide) ⋯ (A6 (A8 C 0 ⋯) (A6 (A8 C 1 ⋯) B3)))) (fun X' C'=>P6) (fun X' C'=>(K4 (A6 (A8 C' 0 ⋯) (A6 P1 B3))))))))
theorem Wj  (T:Txt mg) (C:Cxt P w K mg base X Aj (A7 (top 49)) 3 true):DS X E0k (stm 49 2) Jz :=
 (E3 (dG C ⋯ T.b_tuple (A6 (L6 (L3 C [1,2] ["which", "gone"] ⋯ (M9 (A8 C 0 ⋯)) (fun X' C'=>(Iz (w_t (Jx (Li C' (D8 (A8 C' 0 ⋯) B4) (A8 C' 1 ⋯)) (Ez (Jy C' 2 ⋯ (D8 (A8 C' 0 ⋯) B4))))))) (fun X' C'=>(A8 C' 0 ⋯)))) B3)))
theorem Yi  (T:Txt mg) (F_leaning_on:Fn P w K mg base "leaning_on" 3 2 K7) (F_refuse_unless_deed:Fn P w K mg base "refuse_unless_deed" 1 2 F3) (C:Cxt P w K mg base X Aj (A7 (top 49)) 3 true):DSs X E0k (B9 (top 49)) Nc:=by
 have h:B9 (top 49)=[stm 49 0,stm 49 1,stm 49 2]:=by kernel_rfl
 rw [h];exact (B7 (Wm T F_refuse_unless_deed C) (B7 (Wl T F_leaning_on C) (C1 (Wj T C))))
theorem Xc:FnScope Dv ["_law_script", "_law_k"] (A7 (top 51)):=⟨rfl,rfl,rfl,by decide +kernel,rfl,by decide +kernel,by decide +kernel⟩
theorem Sj  (T:Txt mg) (C:Cxt P w K mg base X Dv (A7 (top 51)) 0 true):DSs X E0k (B9 (top 51)) Ef :=
 (B7 (Q6 (El C (A8 C 0 ⋯) (L6 (X5 B3))) (C1 (E3 (Et B4 (A8 C 1 ⋯)))) F9) (C1 (E3 (F8 (D8 (A8 C 0 ⋯) (Vp (A8 C 1 ⋯) (X6 C ⋯ T.b_len (A6 (A8 C 0 ⋯) B3)))) (Et B4 (Yc (A8 C 1 ⋯) (X6 C ⋯ T.b_len (A6 (A8 C 0 ⋯) B3))))))))
theorem Tv:FnScope Cc ["_law_script", "_law_k", "_law_many"] (A7 (top 52)):=⟨rfl,rfl,rfl,by decide +kernel,rfl,by decide +kernel,by decide +kernel⟩
theorem Op  (T:Txt mg) (F__law_cell:Fn P w K mg base "_law_cell" 1 2 Ar) (C:Cxt P w K mg base X Cc (A7 (top 52)) 1 true):DSs X E0k (B9 (top 52)) Db :=
 (B7 (L9 C 3 ⋯ (Vp (F8 (Et (Vp (C2 C F__law_cell (by decide) ⋯ (A6 (A8 C 0 ⋯) (A6 (A8 C 1 ⋯) B3))) B4) B4) (Et B4 (F8 (A8 C 1 ⋯) B4))) B4)) (B7 (L9 C 3 ⋯ (Vp (F8 (Et (A8 C 3 ⋯) (A8 C 3 ⋯)) (Yc (A8 C 3 ⋯) B4)) B4)) (C1 (E3 (Vp (Yc (Vp (F8 (Et (A8 C 3 ⋯) (A8 C 3 ⋯)) (Yc (A8 C 3 ⋯) B4)) B4) B4) (A8 C 2 ⋯))))))
theorem Tu:FnScope Q3 ["_law_script", "_law_at"] (A7 (top 53)):=⟨rfl,rfl,rfl,by decide +kernel,rfl,by decide +kernel,by decide +kernel⟩
theorem Ob  (T:Txt mg) (C:Cxt P w K mg base X Q3 (A7 (top 53)) 2 true):DS X E0k (stm 53 0) Bj :=
 (Zq C 2 ⋯ (X5 B3))
theorem Oa  (T:Txt mg) (F__law_drawn:Fn P w K mg base "_law_drawn" 2 3 B8) (C:Cxt P w K mg base X Q3 (A7 (top 53)) 2 true):DS X E0k (stm 53 1) Bi :=
 (Z4 C 3 ⋯ (Hk C ⋯ T.b_range (A6 B4 B3)) (B7 (L9 C 4 ⋯ (Et (D8 L4 (C2 C F__law_drawn (by decide) ⋯ (A6 (A8 C 0 ⋯) (A6 (F8 (A8 C 1 ⋯) (Et B4 (A8 C 3 ⋯))) (A6 B4 B3))))) (C2 C F__law_drawn (by decide) ⋯ (A6 (A8 C 0 ⋯) (A6 (F8 (F8 (A8 C 1 ⋯) (Et B4 (A8 C 3 ⋯))) B4) (A6 B4 B3)))))) (C1 (Ur C 2 ⋯ (D8 (L6 (X5 (A6 (F8 (A8 C 4 ⋯) (D8 L4 (A8 C 3 ⋯))) (A6 (F8 (D8 L4 (A8 C 3 ⋯)) (A8 C 4 ⋯)) B3)))) (C2 C F__law_drawn (by decide) ⋯ (A6 (A8 C 0 ⋯) (A6 (F8 (A8 C 1 ⋯) B4) (A6 B4 B3)))))))))
theorem Nz  (T:Txt mg) (C:Cxt P w K mg base X Q3 (A7 (top 53)) 2 true):DS X E0k (stm 53 2) Bh :=
 (kI 2 (E3 (A8 C 2 ⋯)))
theorem Oo  (T:Txt mg) (F__law_drawn:Fn P w K mg base "_law_drawn" 2 3 B8) (C:Cxt P w K mg base X Q3 (A7 (top 53)) 2 true):DSs X E0k (B9 (top 53)) Da:=by
 have h:B9 (top 53)=[stm 53 0,stm 53 1,stm 53 2]:=by kernel_rfl
 rw [h];exact (B7 (Ob T C) (B7 (Oa T F__law_drawn C) (C1 (Nz T C))))
theorem Ts:FnScope Ca ["_law_script", "_law_at"] (A7 (top 54)):=⟨rfl,rfl,rfl,by decide +kernel,rfl,by decide +kernel,by decide +kernel⟩
theorem Om  (T:Txt mg) (F__law_drawn:Fn P w K mg base "_law_drawn" 2 3 B8) (C:Cxt P w K mg base X Ca (A7 (top 54)) 2 true):DSs X E0k (B9 (top 54)) Cy :=
 (C1 (E3 (mY (L6 (L3 C [0,1] ["_law_script", "_law_at"] ⋯ (Hk C ⋯ T.b_range (A6 (F8 B4 (C2 C F__law_drawn (by decide) ⋯ (A6 (A8 C 0 ⋯) (A6 (F8 (A8 C 1 ⋯) B4) (A6 B4 B3))))) B3)) (fun X' C'=>P6) (fun X' C'=>(D8 L4 (C2 C' F__law_drawn (by decide) ⋯ (A6 (A8 C' 1 ⋯) (A6 (F8 (A8 C' 2 ⋯) (A8 C' 0 ⋯)) (A6 B4 B3)))))))))))
theorem Tt:FnScope Cb ["_law_book_here"] (A7 (top 55)):=⟨rfl,rfl,rfl,by decide +kernel,rfl,by decide +kernel,by decide +kernel⟩
theorem On  (T:Txt mg) (C:Cxt P w K mg base X Cb (A7 (top 55)) 0 true):DSs X E0k (B9 (top 55)) Cz :=
 (B7 (L9 C 1 ⋯ (L6 (X5 B3))) (B7 (Z4 C 2 ⋯ (M9 (A8 C 0 ⋯)) (C1 (Q6 (El C (D8 (A8 C 2 ⋯) B4) L4) (C1 (L9 C 1 ⋯ (F8 (A8 C 1 ⋯) (L6 (L3 C [2] ["_law_deed_here"] ⋯ (Hk C ⋯ T.b_range (A6 (X6 C ⋯ T.b_len (A6 (D8 (A8 C 2 ⋯) B4) B3)) B3)) (fun X' C'=>P6) (fun X' C'=>(K4 (A6 (D8 (A8 C' 1 ⋯) B4) (A6 (A8 C' 0 ⋯) B3))))))))) F9))) (C1 (E3 (A8 C 1 ⋯)))))
theorem Qq:FnScope Aq ["_law_script", "_law_at", "_law_signs_here"] (A7 (top 56)):=⟨rfl,rfl,rfl,by decide +kernel,rfl,by decide +kernel,by decide +kernel⟩
theorem Mv  (T:Txt mg) (F__law_drawn:Fn P w K mg base "_law_drawn" 2 3 B8) (C:Cxt P w K mg base X Aq (A7 (top 56)) 2 true):DSs X E0k (B9 (top 56)) Bn :=
 (B7 (L9 C 3 ⋯ (D8 (F8 (L6 (X5 (A6 Xz B3))) (A8 C 2 ⋯)) (C2 C F__law_drawn (by decide) ⋯ (A6 (A8 C 0 ⋯) (A6 (A8 C 1 ⋯) (A6 (F8 (X6 C ⋯ T.b_len (A6 (A8 C 2 ⋯) B3)) B4) B3)))))) (C1 (E3 (K4 (A6 (A8 C 3 ⋯) (A6 (D8 L4 (C2 C F__law_drawn (by decide) ⋯ (A6 (A8 C 0 ⋯) (A6 (F8 (A8 C 1 ⋯) B4) (A6 B4 B3))))) B3))))))
theorem Xb:FnScope L7 ["_law_script", "_law_at", "_law_one", "_law_known", "_law_names_here"] (A7 (top 57)):=⟨rfl,rfl,rfl,by decide +kernel,rfl,by decide +kernel,by decide +kernel⟩
theorem Qc  (T:Txt mg) (F__law_signs:Fn P w K mg base "_law_signs" 1 1 V9) (C:Cxt P w K mg base X L7 (A7 (top 57)) 3 true):DS X E0k (stm 57 0) Cp :=
 (L9 C 5 ⋯ (C2 C F__law_signs (by decide) ⋯ (A6 (A8 C 3 ⋯) B3)))
theorem Qb  (T:Txt mg) (F__law_drawn:Fn P w K mg base "_law_drawn" 2 3 B8) (C:Cxt P w K mg base X L7 (A7 (top 57)) 3 true):DS X E0k (stm 57 1) Co :=
 (L9 C 6 ⋯ (C2 C F__law_drawn (by decide) ⋯ (A6 (A8 C 0 ⋯) (A6 (A8 C 1 ⋯) (A6 B4 B3)))))
theorem Qa  (T:Txt mg) (F__law_drawn:Fn P w K mg base "_law_drawn" 2 3 B8) (C:Cxt P w K mg base X L7 (A7 (top 57)) 3 true):DS X E0k (stm 57 2) Cn :=
 (Q6 (w_t (Jx (gI C (A8 C 6 ⋯) B4) (Ez (Li C (A8 C 5 ⋯) (L6 (X5 B3)))))) (B7 (cM C 8 ⋯ ⋯ [0,1] ["_law_script", "_law_at"] ⋯ (vQ C ⋯ T.b_enumerate (A6 (A8 C 5 ⋯) B3)) (fun X' C'=>(Iz (El C' (C2 C' F__law_drawn (by decide) ⋯ (A6 (A8 C' 2 ⋯) (A6 (F8 (F8 (A8 C' 3 ⋯) B4) (A8 C' 0 ⋯)) (A6 B4 B3)))) B4))) (fun X' C'=>(A8 C' 1 ⋯))) (C1 (E3 (K4 (A6 L4 (A6 (A8 C 2 ⋯) (A6 (dG C ⋯ T.b_tuple (A6 (F8 (A8 C 8 ⋯) (Et (Pe (A8 C 5 ⋯) Xl (Xk B4)) (vX C ⋯ T.b_int (A6 (aX C (A8 C 8 ⋯) (L6 (X5 B3))) B3)))) B3)) B3))))))) F9)
theorem Pz  (T:Txt mg) (F__law_anchor:Fn P w K mg base "_law_anchor" 3 3 O5) (F__law_drawn:Fn P w K mg base "_law_drawn" 2 3 B8) (C:Cxt P w K mg base X L7 (A7 (top 57)) 3 true):DS X E0k (stm 57 3) Cm :=
 (Q6 (gI C (A8 C 6 ⋯) B4) (B7 (L9 C 9 ⋯ (K4 (A6 (C2 C F__law_anchor (by decide) ⋯ (A6 (A8 C 0 ⋯) (A6 (F8 (A8 C 1 ⋯) B4) (A6 (A8 C 5 ⋯) B3)))) (A6 (C2 C F__law_anchor (by decide) ⋯ (A6 (A8 C 0 ⋯) (A6 (F8 (A8 C 1 ⋯) B4) (A6 (A8 C 5 ⋯) B3)))) B3)))) (C1 (E3 (F8 (K4 (A6 L4 (A6 (A8 C 2 ⋯) (A6 (D8 (A8 C 4 ⋯) (C2 C F__law_drawn (by decide) ⋯ (A6 (A8 C 0 ⋯) (A6 (F8 (A8 C 1 ⋯) B4) (A6 B4 B3))))) B3)))) (A8 C 9 ⋯))))) F9)
theorem Py  (T:Txt mg) (F__law_drawn:Fn P w K mg base "_law_drawn" 2 3 B8) (C:Cxt P w K mg base X L7 (A7 (top 57)) 3 true):DS X E0k (stm 57 4) Cl :=
 (Q6 (El C (A8 C 6 ⋯) B4) (C1 (E3 (K4 (A6 L4 (A6 (A8 C 2 ⋯) (A6 (D8 (A8 C 4 ⋯) (C2 C F__law_drawn (by decide) ⋯ (A6 (A8 C 0 ⋯) (A6 (F8 (A8 C 1 ⋯) B4) (A6 B4 B3))))) B3)))))) F9)
theorem Px  (T:Txt mg) (F__law_drawn:Fn P w K mg base "_law_drawn" 2 3 B8) (C:Cxt P w K mg base X L7 (A7 (top 57)) 3 true):DS X E0k (stm 57 5) Ck :=
 (Q6 (w_t (Jx (gI C (A8 C 6 ⋯) B4) (Ez (Li C (A8 C 3 ⋯) (K4 B3))))) (C1 (E3 (K4 (A6 L4 (A6 (A8 C 2 ⋯) (A6 (D8 (D8 (A8 C 3 ⋯) (C2 C F__law_drawn (by decide) ⋯ (A6 (A8 C 0 ⋯) (A6 (F8 (A8 C 1 ⋯) B4) (A6 (X6 C ⋯ T.b_len (A6 (A8 C 3 ⋯) B3)) B3))))) B4) B3)))))) F9)
theorem Pw  (T:Txt mg) (F__law_drawn:Fn P w K mg base "_law_drawn" 2 3 B8) (C:Cxt P w K mg base X L7 (A7 (top 57)) 3 true):DS X E0k (stm 57 6) Cj :=
 (L9 C 7 ⋯ (D8 (F8 (F8 (L6 (X5 (A6 Xz B3))) (A8 C 5 ⋯)) (Pe (A8 C 5 ⋯) (Xk (sI B4)) Xl)) (C2 C F__law_drawn (by decide) ⋯ (A6 (A8 C 0 ⋯) (A6 (F8 (A8 C 1 ⋯) B4) (A6 (F8 (F8 (X6 C ⋯ T.b_len (A6 (A8 C 5 ⋯) B3)) B4) (X6 C ⋯ T.b_len (A6 (Pe (A8 C 5 ⋯) (Xk (sI B4)) Xl) B3))) B3))))))
theorem Pv  (T:Txt mg) (F__law_words:Fn P w K mg base "_law_words" 3 2 V8) (C:Cxt P w K mg base X L7 (A7 (top 57)) 3 true):DS X E0k (stm 57 7) Ci :=
 (E3 (K4 (A6 L4 (A6 (A8 C 2 ⋯) (A6 (A8 C 7 ⋯) (A6 (C2 C F__law_words (by decide) ⋯ (A6 (A8 C 0 ⋯) (A6 (F8 (A8 C 1 ⋯) B4) B3))) B3))))))
theorem Si  (T:Txt mg) (F__law_anchor:Fn P w K mg base "_law_anchor" 3 3 O5) (F__law_drawn:Fn P w K mg base "_law_drawn" 2 3 B8) (F__law_signs:Fn P w K mg base "_law_signs" 1 1 V9) (F__law_words:Fn P w K mg base "_law_words" 3 2 V8) (C:Cxt P w K mg base X L7 (A7 (top 57)) 3 true):DSs X E0k (B9 (top 57)) Ee:=by
 have h:B9 (top 57)=[stm 57 0,stm 57 1,stm 57 2,stm 57 3,stm 57 4,stm 57 5,stm 57 6,stm 57 7]:=by kernel_rfl
 rw [h];exact (B7 (Qc T F__law_signs C) (B7 (Qb T F__law_drawn C) (B7 (Qa T F__law_drawn C) (B7 (Pz T F__law_anchor F__law_drawn C) (B7 (Py T F__law_drawn C) (B7 (Px T F__law_drawn C) (B7 (Pw T F__law_drawn C) (C1 (Pv T F__law_words C)))))))))
theorem Xd:FnScope P4 ["_law_script", "_law_at", "_law_most", "_law_names_here"] (A7 (top 58)):=⟨rfl,rfl,rfl,by decide +kernel,rfl,by decide +kernel,by decide +kernel⟩
theorem Qg  (T:Txt mg) (C:Cxt P w K mg base X P4 (A7 (top 58)) 4 true):DS X E0k (stm 58 0) Ct :=
 (L9 C 4 ⋯ (K4 B3))
theorem Qf  (T:Txt mg) (C:Cxt P w K mg base X P4 (A7 (top 58)) 4 true):DS X E0k (stm 58 1) Cs :=
 (L9 C 5 ⋯ (K4 (A6 B4 (A6 L4 B3))))
theorem Qe  (T:Txt mg) (F__law_deed:Fn P w K mg base "_law_deed" 4 5 P3) (F__law_drawn:Fn P w K mg base "_law_drawn" 2 3 B8) (C:Cxt P w K mg base X P4 (A7 (top 58)) 4 true):DS X E0k (stm 58 2) Cr :=
 (Z4 C 6 ⋯ (Hk C ⋯ T.b_range (A6 (C2 C F__law_drawn (by decide) ⋯ (A6 (A8 C 0 ⋯) (A6 (A8 C 1 ⋯) (A6 (F8 (A8 C 2 ⋯) B4) B3)))) B3)) (B7 (L9 C 7 ⋯ (F8 (D8 (A8 C 5 ⋯) B4) (C2 C F__law_drawn (by decide) ⋯ (A6 (A8 C 0 ⋯) (A6 (F8 (F8 (A8 C 1 ⋯) B4) (Et B4 (A8 C 6 ⋯))) (A6 B4 B3)))))) (B7 (L9 C 8 ⋯ (D8 L4 (C2 C F__law_drawn (by decide) ⋯ (A6 (A8 C 0 ⋯) (A6 (F8 (F8 (A8 C 1 ⋯) B4) (Et B4 (A8 C 6 ⋯))) (A6 B4 B3)))))) (B7 (Q6 (w_t (Jx (Li C (A8 C 4 ⋯) (K4 B3)) (Ez (t_le C (K4 (A6 (A8 C 7 ⋯) (A6 (A8 C 8 ⋯) B3))) (A8 C 5 ⋯))))) (C1 (L9 C 7 ⋯ (F8 (D8 (A8 C 5 ⋯) B4) B4))) F9) (B7 (L9 C 5 ⋯ (K4 (A6 (A8 C 7 ⋯) (A6 (A8 C 8 ⋯) B3)))) (B7 (L9 C 9 ⋯ (dG C ⋯ T.b_tuple (A6 (L6 (L3 C [7] ["_law_time"] ⋯ (M9 (A8 C 4 ⋯)) (fun X' C'=>(Iz (gI C' (D8 (D8 (A8 C' 0 ⋯) B4) B4) (A8 C' 1 ⋯)))) (fun X' C'=>(A8 C' 0 ⋯)))) B3))) (C1 (L9 C 4 ⋯ (F8 (A8 C 4 ⋯) (K4 (A6 (C2 C F__law_deed (by decide) ⋯ (A6 (A8 C 0 ⋯) (A6 (F8 (F8 (A8 C 1 ⋯) B4) (Et B4 (A8 C 6 ⋯))) (A6 (A8 C 5 ⋯) (A6 (A8 C 9 ⋯) (A6 (A8 C 3 ⋯) B3)))))) B3)))))))))))
theorem Qd  (T:Txt mg) (C:Cxt P w K mg base X P4 (A7 (top 58)) 4 true):DS X E0k (stm 58 3) Cq :=
 (E3 (A8 C 4 ⋯))
theorem Sk  (T:Txt mg) (F__law_deed:Fn P w K mg base "_law_deed" 4 5 P3) (F__law_drawn:Fn P w K mg base "_law_drawn" 2 3 B8) (C:Cxt P w K mg base X P4 (A7 (top 58)) 4 true):DSs X E0k (B9 (top 58)) Eg:=by
 have h:B9 (top 58)=[stm 58 0,stm 58 1,stm 58 2,stm 58 3]:=by kernel_rfl
 rw [h];exact (B7 (Qg T C) (B7 (Qf T C) (B7 (Qe T F__law_deed F__law_drawn C) (C1 (Qd T C)))))
theorem tE:FnScope Nm ["_law_script"] (A7 (top 59)):=⟨rfl,rfl,rfl,by decide +kernel,rfl,by decide +kernel,by decide +kernel⟩
theorem kA  (T:Txt mg) (F__law_book:Fn P w K mg base "_law_book" 5 4 Au) (F__law_names:Fn P w K mg base "_law_names" 3 2 W4) (C:Cxt P w K mg base X Nm (A7 (top 59)) 8 true):DS X E0k (stm 59 0) Yz :=
 (L9 C 1 ⋯ (C2 C F__law_book (by decide) ⋯ (A6 (A8 C 0 ⋯) (A6 B4 (A6 B4 (A6 (C2 C F__law_names (by decide) ⋯ (A6 (A8 C 0 ⋯) (A6 B4 B3))) B3))))))
theorem jZ  (T:Txt mg) (F_text_of:Fn P w K mg base "text_of" 6 1 D7) (C:Cxt P w K mg base X Nm (A7 (top 59)) 8 true):DS X E0k (stm 59 1) Yy :=
 (L9 C 2 ⋯ (C2 C F_text_of (by decide) ⋯ (A6 (A8 C 1 ⋯) B3)))
theorem jY  (T:Txt mg) (F_marks_of:Fn P w K mg base "marks_of" 6 1 C9) (C:Cxt P w K mg base X Nm (A7 (top 59)) 8 true):DS X E0k (stm 59 2) Yx :=
 (L9 C 3 ⋯ (C2 C F_marks_of (by decide) ⋯ (A6 (A8 C 1 ⋯) B3)))
theorem jX  (T:Txt mg) (F_in_effect:Fn P w K mg base "in_effect" 2 2 L5) (F_is_book:Fn P w K mg base "is_book" 8 1 Cf) (F_is_there:Fn P w K mg base "is_there" 3 2 U7) (F_leaning_on:Fn P w K mg base "leaning_on" 3 2 K7) (F_marks_of:Fn P w K mg base "marks_of" 6 1 C9) (F_signs_of:Fn P w K mg base "signs_of" 3 1 K6) (F_text_of:Fn P w K mg base "text_of" 6 1 D7) (F_without:Fn P w K mg base "without" 4 2 Cd) (C:Cxt P w K mg base X Nm (A7 (top 59)) 8 true):DS X E0k (stm 59 3) Po :=
 (Z4 C 4 ⋯ (M9 (A8 C 1 ⋯)) (B7 (L9 C 5 ⋯ (F8 (A8 C 1 ⋯) (K4 (A6 (K4 (A6 L4 (A6 (K4 (A6 B4 (A6 L4 B3))) (A6 (D8 (A8 C 4 ⋯) B4) B3)))) B3)))) (B7 (L9 C 6 ⋯ (F8 (A8 C 5 ⋯) (K4 (A6 (K4 (A6 L4 (A6 (K4 (A6 B4 (A6 L4 B3))) (A6 (K4 (A6 B4 (A6 L4 B3))) B3)))) B3)))) (B7 (Q6 (w_t (Sq (Ek (Bq (C2 C F_is_book (by decide) ⋯ (A6 (A8 C 6 ⋯) B3)))) (Sq (Bq (C2 C F_in_effect (by decide) ⋯ (A6 (A8 C 5 ⋯) (A6 (D8 (A8 C 4 ⋯) B4) B3)))) (Pj (Li C (C2 C F_signs_of (by decide) ⋯ (A6 (A8 C 5 ⋯) B3)) (C2 C F_signs_of (by decide) ⋯ (A6 (A8 C 1 ⋯) B3))))))) (C1 (E3 P1)) F9) (B7 (Q6 (w_t (Sq (Li C (C2 C F_text_of (by decide) ⋯ (A6 (A8 C 6 ⋯) B3)) (A8 C 2 ⋯)) (Sq (Li C (C2 C F_marks_of (by decide) ⋯ (A6 (A8 C 6 ⋯) B3)) (A8 C 3 ⋯)) (Pj (Li C (C2 C F_in_effect (by decide) ⋯ (A6 (A8 C 6 ⋯) (A6 (D8 (A8 C 4 ⋯) B4) B3))) (C2 C F_in_effect (by decide) ⋯ (A6 (A8 C 1 ⋯) (A6 (D8 (A8 C 4 ⋯) B4) B3)))))))) (C1 (E3 P1)) F9) (B7 (Q6 (Li C (L6 (qO C [4,5] ["_law_deed_here", "_law_less"] ⋯ (M9 (C2 C F_signs_of (by decide) ⋯ (A6 (A8 C 1 ⋯) B3))) (fun X' C'=>(Iz (w_t (Jx (El C' (D8 (A8 C' 0 ⋯) B4) (D8 (A8 C' 2 ⋯) B4)) (Ez (Bq (C2 C' F_is_there (by decide) ⋯ (A6 (A8 C' 3 ⋯) (A6 (A8 C' 0 ⋯) B3))))))))) (fun X' C'=>(A8 C' 0 ⋯)))) (L6 (X5 B3))) (C1 (E3 P1)) F9) (B7 (Q6 (w_t (Jx (Ek (Bq (C2 C F_in_effect (by decide) ⋯ (A6 (A8 C 1 ⋯) (A6 (D8 (A8 C 4 ⋯) B4) B3))))) (Ez (Li C (K4 (A6 (C2 C F_text_of (by decide) ⋯ (A6 (A8 C 5 ⋯) B3)) (A6 (C2 C F_marks_of (by decide) ⋯ (A6 (A8 C 5 ⋯) B3)) B3))) (K4 (A6 (A8 C 2 ⋯) (A6 (A8 C 3 ⋯) B3))))))) (C1 (E3 P1)) F9) (B7 (Q6 (El C (C2 C F_leaning_on (by decide) ⋯ (A6 (A8 C 1 ⋯) (A6 (D8 (A8 C 4 ⋯) B4) B3))) (L6 (X5 B3))) (B7 (L9 C 8 ⋯ (C2 C F_without (by decide) ⋯ (A6 (A8 C 1 ⋯) (A6 (D8 (A8 C 4 ⋯) B4) B3)))) (C1 (Q6 (w_t (Sq (Li C (C2 C F_text_of (by decide) ⋯ (A6 (A8 C 8 ⋯) B3)) (C2 C F_text_of (by decide) ⋯ (A6 (A8 C 5 ⋯) B3))) (Pj (Li C (C2 C F_marks_of (by decide) ⋯ (A6 (A8 C 8 ⋯) B3)) (C2 C F_marks_of (by decide) ⋯ (A6 (A8 C 5 ⋯) B3)))))) (C1 (E3 P1)) F9))) F9) (B7 (L9 C 7 ⋯ (F8 (A8 C 5 ⋯) (K4 (A6 (K4 (A6 L4 (A6 (K4 (A6 B4 (A6 L4 B3))) (A6 (D8 (A8 C 4 ⋯) B4) B3)))) B3)))) (C1 (Q6 (Li C (K4 (A6 (C2 C F_text_of (by decide) ⋯ (A6 (A8 C 7 ⋯) B3)) (A6 (C2 C F_marks_of (by decide) ⋯ (A6 (A8 C 7 ⋯) B3)) B3))) (K4 (A6 (C2 C F_text_of (by decide) ⋯ (A6 (A8 C 5 ⋯) B3)) (A6 (C2 C F_marks_of (by decide) ⋯ (A6 (A8 C 5 ⋯) B3)) B3)))) (C1 (E3 P1)) F9)))))))))))
theorem jW  (T:Txt mg) (C:Cxt P w K mg base X Nm (A7 (top 59)) 8 true):DS X E0k (stm 59 4) Yw :=
 (E3 P1)
theorem nI  (T:Txt mg) (F__law_book:Fn P w K mg base "_law_book" 5 4 Au) (F__law_names:Fn P w K mg base "_law_names" 3 2 W4) (F_in_effect:Fn P w K mg base "in_effect" 2 2 L5) (F_is_book:Fn P w K mg base "is_book" 8 1 Cf) (F_is_there:Fn P w K mg base "is_there" 3 2 U7) (F_leaning_on:Fn P w K mg base "leaning_on" 3 2 K7) (F_marks_of:Fn P w K mg base "marks_of" 6 1 C9) (F_signs_of:Fn P w K mg base "signs_of" 3 1 K6) (F_text_of:Fn P w K mg base "text_of" 6 1 D7) (F_without:Fn P w K mg base "without" 4 2 Cd) (C:Cxt P w K mg base X Nm (A7 (top 59)) 8 true):DSs X E0k (B9 (top 59)) Ox:=by
 have h:B9 (top 59)=[stm 59 0,stm 59 1,stm 59 2,stm 59 3,stm 59 4]:=by kernel_rfl
 rw [h];exact (B7 (kA T F__law_book F__law_names C) (B7 (jZ T F_text_of C) (B7 (jY T F_marks_of C) (B7 (jX T F_in_effect F_is_book F_is_there F_leaning_on F_marks_of F_signs_of F_text_of F_without C) (C1 (jW T C))))))
end Sm
end
noncomputable section
namespace Sm
open PySem PySem.Spec PyProof.Rows L2
theorem Rr {K:wQ} {mg:Str->Option wM} {h:yW} {x:Str} {st:n0} {ps:List Str} {f:wX} {oc:wM} {od an:Option wX} {osl:Array (Option wM)} {kV doc pm cdv ct:wM} (X:K.In h) (G:h.Ns zK mg) (a:AZ K zK x=some (some (.ref f)))
   (l:K.lookup f=some ⟨oc,od,.func (yY x x (O2 st) (B9 st) (A7 st) .none kV doc pm an cdv ct),osl⟩) (c:l6 K cdv x=true) (k:zR K (.ref f)=true)
   (hb:∀ (kV doc pm:wM) (an:Option wX) (cdv ct:wM) (us:List wM),us.length=ps.length->CT (yY x x (O2 st) (B9 st) (A7 st) .none kV doc pm an cdv ct) ⟨us,[]⟩=pure (ps.zip us)):Def K mg x st ps :=
 ⟨f,_,mQ l c k,PySem.W.mg_of X G a,(mQ l c k).binds hb⟩
theorem aJ:∀ {l:List (wX×Obj)} {a:wX} {o:Obj},l.lookup a=some o->(a,o)∈l
 | [],_,_,h=>nomatch h
 | (b,q)::r,a,o,h=>by
   rw [List.lookup_cons] at h;cases e:a==b with
   | true=>rw [e] at h; cases h; rw [j4 e]; exact .head _
   | false=>rw [e] at h; exact .tail _ (aJ h)
noncomputable def noList (K:wQ):Bool:=K.all fun p => !(match p.2.cls with | .type n=>n == "list" | _=>false)
theorem noList.out {K:wQ} (h:noList K=true) {a:wX} {o:Obj} (e:K.lookup a=some o):o.cls≠.type "list" := fun z=>by
 have hm:(a,o)∈K:=aJ e;unfold noList at h;have:=f9.mp h _ hm;rw [z] at this;simp at this
theorem P5 {us:List wM} {n:Nat} (h:us.length=n+1):∃ a t,us=a::t/\t.length=n:=by cases us with | nil=>cases h | cons a t=>exact ⟨a,t,rfl,Nat.succ.inj h⟩
theorem qX {K:wQ} {mg:Str->Option wM} {h:yW} {x:Str} {st:n0} {ps:List Str} {f:wX} {oc:wM} {od an:Option wX} {osl:Array (Option wM)} {kV doc pm cdv ct:wM} (X:K.In h) (G:h.Ns zK mg) (a:AZ K zK x=some (some (.ref f)))
   (l:K.lookup f=some ⟨oc,od,.func (yY x x (O2 st) (B9 st) (A7 st) .none kV doc pm an cdv ct),osl⟩) (c:l6 K cdv x=true) (k:zR K (.ref f)=true)
   (hb:∀ (kV doc pm:wM) (an:Option wX) (cdv ct:wM) (u0:wM),CT (yY x x (O2 st) (B9 st) (A7 st) .none kV doc pm an cdv ct) ⟨[u0],[]⟩=pure (ps.zip [u0])) (hp:ps.length=1):Def K mg x st ps :=
 Rr X G a l c k fun kV doc pm an cdv ct us hl=>by
   have h0:=hl.trans hp; obtain ⟨u0,t0,rfl,h1⟩:=P5 h0;cases zI.mp h1;exact hb kV doc pm an cdv ct u0
theorem qW {K:wQ} {mg:Str->Option wM} {h:yW} {x:Str} {st:n0} {ps:List Str} {f:wX} {oc:wM} {od an:Option wX} {osl:Array (Option wM)} {kV doc pm cdv ct:wM} (X:K.In h) (G:h.Ns zK mg) (a:AZ K zK x=some (some (.ref f)))
   (l:K.lookup f=some ⟨oc,od,.func (yY x x (O2 st) (B9 st) (A7 st) .none kV doc pm an cdv ct),osl⟩) (c:l6 K cdv x=true) (k:zR K (.ref f)=true)
   (hb:∀ (kV doc pm:wM) (an:Option wX) (cdv ct:wM) (u0 u1:wM),CT (yY x x (O2 st) (B9 st) (A7 st) .none kV doc pm an cdv ct) ⟨[u0,u1],[]⟩=pure (ps.zip [u0,u1])) (hp:ps.length=2):Def K mg x st ps :=
 Rr X G a l c k fun kV doc pm an cdv ct us hl=>by
   have h0:=hl.trans hp; obtain ⟨u0,t0,rfl,h1⟩:=P5 h0; obtain ⟨u1,t1,rfl,h2⟩:=P5 h1;cases zI.mp h2;exact hb kV doc pm an cdv ct u0 u1
theorem qV {K:wQ} {mg:Str->Option wM} {h:yW} {x:Str} {st:n0} {ps:List Str} {f:wX} {oc:wM} {od an:Option wX} {osl:Array (Option wM)} {kV doc pm cdv ct:wM} (X:K.In h) (G:h.Ns zK mg) (a:AZ K zK x=some (some (.ref f)))
   (l:K.lookup f=some ⟨oc,od,.func (yY x x (O2 st) (B9 st) (A7 st) .none kV doc pm an cdv ct),osl⟩) (c:l6 K cdv x=true) (k:zR K (.ref f)=true)
   (hb:∀ (kV doc pm:wM) (an:Option wX) (cdv ct:wM) (u0 u1 u2:wM),CT (yY x x (O2 st) (B9 st) (A7 st) .none kV doc pm an cdv ct) ⟨[u0,u1,u2],[]⟩=pure (ps.zip [u0,u1,u2])) (hp:ps.length=3):Def K mg x st ps :=
 Rr X G a l c k fun kV doc pm an cdv ct us hl=>by
   have h0:=hl.trans hp; obtain ⟨u0,t0,rfl,h1⟩:=P5 h0; obtain ⟨u1,t1,rfl,h2⟩:=P5 h1; obtain ⟨u2,t2,rfl,h3⟩:=P5 h2;cases zI.mp h3;exact hb kV doc pm an cdv ct u0 u1 u2
theorem qU {K:wQ} {mg:Str->Option wM} {h:yW} {x:Str} {st:n0} {ps:List Str} {f:wX} {oc:wM} {od an:Option wX} {osl:Array (Option wM)} {kV doc pm cdv ct:wM} (X:K.In h) (G:h.Ns zK mg) (a:AZ K zK x=some (some (.ref f)))
   (l:K.lookup f=some ⟨oc,od,.func (yY x x (O2 st) (B9 st) (A7 st) .none kV doc pm an cdv ct),osl⟩) (c:l6 K cdv x=true) (k:zR K (.ref f)=true)
   (hb:∀ (kV doc pm:wM) (an:Option wX) (cdv ct:wM) (u0 u1 u2 u3:wM),CT (yY x x (O2 st) (B9 st) (A7 st) .none kV doc pm an cdv ct) ⟨[u0,u1,u2,u3],[]⟩=pure (ps.zip [u0,u1,u2,u3])) (hp:ps.length=4):Def K mg x st ps :=
 Rr X G a l c k fun kV doc pm an cdv ct us hl=>by
   have h0:=hl.trans hp; obtain ⟨u0,t0,rfl,h1⟩:=P5 h0; obtain ⟨u1,t1,rfl,h2⟩:=P5 h1; obtain ⟨u2,t2,rfl,h3⟩:=P5 h2; obtain ⟨u3,t3,rfl,h4⟩:=P5 h3;cases zI.mp h4;exact hb kV doc pm an cdv ct u0 u1 u2 u3
theorem qT {K:wQ} {mg:Str->Option wM} {h:yW} {x:Str} {st:n0} {ps:List Str} {f:wX} {oc:wM} {od an:Option wX} {osl:Array (Option wM)} {kV doc pm cdv ct:wM} (X:K.In h) (G:h.Ns zK mg) (a:AZ K zK x=some (some (.ref f)))
   (l:K.lookup f=some ⟨oc,od,.func (yY x x (O2 st) (B9 st) (A7 st) .none kV doc pm an cdv ct),osl⟩) (c:l6 K cdv x=true) (k:zR K (.ref f)=true)
   (hb:∀ (kV doc pm:wM) (an:Option wX) (cdv ct:wM) (u0 u1 u2 u3 u4:wM),CT (yY x x (O2 st) (B9 st) (A7 st) .none kV doc pm an cdv ct) ⟨[u0,u1,u2,u3,u4],[]⟩=pure (ps.zip [u0,u1,u2,u3,u4])) (hp:ps.length=5):Def K mg x st ps :=
 Rr X G a l c k fun kV doc pm an cdv ct us hl=>by
   have h0:=hl.trans hp; obtain ⟨u0,t0,rfl,h1⟩:=P5 h0; obtain ⟨u1,t1,rfl,h2⟩:=P5 h1; obtain ⟨u2,t2,rfl,h3⟩:=P5 h2; obtain ⟨u3,t3,rfl,h4⟩:=P5 h3; obtain ⟨u4,t4,rfl,h5⟩:=P5 h4;cases zI.mp h5;exact hb kV doc pm an cdv ct u0 u1 u2 u3 u4
def Defs (K:wQ) (mg:Str->Option wM):Prop :=
 Def K mg "law" (top 59) ["_law_script"] /\
 Def K mg "is_whole" (top 6) ["thing", "least"] /\
 Def K mg "is_one_of" (top 7) ["thing", "letters"] /\
 Def K mg "is_text" (top 8) ["thing", "most", "first", "last"] /\
 Def K mg "is_name" (top 9) ["thing"] /\
 Def K mg "is_added_text" (top 10) ["thing"] /\
 Def K mg "is_pair" (top 11) ["thing"] /\
 Def K mg "is_deed_id" (top 12) ["thing"] /\
 Def K mg "is_sign_id" (top 13) ["thing"] /\
 Def K mg "is_sign_id_or_none" (top 14) ["thing"] /\
 Def K mg "is_anchor" (top 15) ["thing"] /\
 Def K mg "is_rising" (top 16) ["values"] /\
 Def K mg "is_dropped" (top 17) ["thing"] /\
 Def K mg "has_form" (top 18) ["word", "parts"] /\
 Def K mg "signs_named" (top 19) ["deed"] /\
 Def K mg "deeds_named" (top 20) ["deed"] /\
 Def K mg "is_deed" (top 21) ["thing"] /\
 Def K mg "signs_added" (top 22) ["deed"] /\
 Def K mg "by_ids" (top 23) ["deeds"] /\
 Def K mg "has_all_named" (top 24) ["known", "deed"] /\
 Def K mg "is_book" (top 25) ["thing"] /\
 Def K mg "adds_behind" (top 31) ["book"] /\
 Def K mg "signs_of" (top 32) ["book"] /\
 Def K mg "undone_in" (top 33) ["book"] /\
 Def K mg "refuse_unless_deed" (top 34) ["book", "which"] /\
 Def K mg "in_effect" (top 35) ["book", "which"] /\
 Def K mg "dropped_in" (top 36) ["book", "undone"] /\
 Def K mg "presence_in" (top 37) ["book"] /\
 Def K mg "shown_in" (top 38) ["book"] /\
 Def K mg "text_of" (top 39) ["book"] /\
 Def K mg "has_sign" (top 40) ["book", "sign"] /\
 Def K mg "is_there" (top 41) ["book", "sign"] /\
 Def K mg "leaning_on" (top 42) ["book", "which"] /\
 Def K mg "places_in" (top 44) ["book"] /\
 Def K mg "anchored" (top 45) ["places", "anchor"] /\
 Def K mg "mark_deeds" (top 46) ["book"] /\
 Def K mg "marks_of" (top 47) ["book"] /\
 Def K mg "without" (top 49) ["book", "which"] /\
 Def K mg "_law_cell" (top 51) ["_law_script", "_law_k"] /\
 Def K mg "_law_drawn" (top 52) ["_law_script", "_law_k", "_law_many"] /\
 Def K mg "_law_names" (top 53) ["_law_script", "_law_at"] /\
 Def K mg "_law_words" (top 54) ["_law_script", "_law_at"] /\
 Def K mg "_law_signs" (top 55) ["_law_book_here"] /\
 Def K mg "_law_anchor" (top 56) ["_law_script", "_law_at", "_law_signs_here"] /\
 Def K mg "_law_deed" (top 57) ["_law_script", "_law_at", "_law_one", "_law_known", "_law_names_here"] /\
 Def K mg "_law_book" (top 58) ["_law_script", "_law_at", "_law_most", "_law_names_here"]
noncomputable section
variable {P:xT} {w:yC} {K:wQ} {mg:Str->Option wM} {base:yW}
theorem vE {f:wX} {fd:AU} (F:L2.Fun K "law" "law" (top 59) f fd) (T:Txt mg) (D:Defs K mg):FnOk P w K mg base CX0 9 f fd ["_law_script"] (spD 1 fB):=by
 have D_law:=D.1;have R1:=D.2;have D_is_whole:=R1.1;have R2:=R1.2;have D_is_one_of:=R2.1;have R3:=R2.2;have D_is_text:=R3.1;have R4:=R3.2;have D_is_name:=R4.1;have R5:=R4.2;have D_is_added_text:=R5.1;have R6:=R5.2;have D_is_pair:=R6.1;have R7:=R6.2;have D_is_deed_id:=R7.1;have R8:=R7.2;have D_is_sign_id:=R8.1;have R9:=R8.2;have D_is_sign_id_or_none:=R9.1;have R10:=R9.2;have D_is_anchor:=R10.1;have R11:=R10.2;have D_is_rising:=R11.1;have R12:=R11.2;have D_is_dropped:=R12.1;have R13:=R12.2;have D_has_form:=R13.1;have R14:=R13.2;have D_signs_named:=R14.1;have R15:=R14.2;have D_deeds_named:=R15.1;have R16:=R15.2
 have D_is_deed:=R16.1;have R17:=R16.2;have D_signs_added:=R17.1;have R18:=R17.2;have D_by_ids:=R18.1;have R19:=R18.2;have D_has_all_named:=R19.1;have R20:=R19.2;have D_is_book:=R20.1;have R21:=R20.2;have D_adds_behind:=R21.1;have R22:=R21.2;have D_signs_of:=R22.1;have R23:=R22.2;have D_undone_in:=R23.1;have R24:=R23.2;have D_refuse_unless_deed:=R24.1;have R25:=R24.2;have D_in_effect:=R25.1;have R26:=R25.2;have D_dropped_in:=R26.1;have R27:=R26.2;have D_presence_in:=R27.1;have R28:=R27.2;have D_shown_in:=R28.1;have R29:=R28.2;have D_text_of:=R29.1;have R30:=R29.2;have D_has_sign:=R30.1;have R31:=R30.2
 have D_is_there:=R31.1;have R32:=R31.2;have D_leaning_on:=R32.1;have R33:=R32.2;have D_places_in:=R33.1;have R34:=R33.2;have D_anchored:=R34.1;have R35:=R34.2;have D_mark_deeds:=R35.1;have R36:=R35.2;have D_marks_of:=R36.1;have R37:=R36.2;have D_without:=R37.1;have R38:=R37.2;have D__law_cell:=R38.1;have R39:=R38.2;have D__law_drawn:=R39.1;have R40:=R39.2;have D__law_names:=R40.1;have R41:=R40.2;have D__law_words:=R41.1;have R42:=R41.2;have D__law_signs:=R42.1;have R43:=R42.2;have D__law_anchor:=R43.1;have R44:=R43.2;have D__law_deed:=R44.1;have R45:=R44.2;have D__law_book:=R45;have F_is_whole:Fn P w K mg base "is_whole" 1 2 Aa:=Q8 (k:=0) D_is_whole Zl rfl (fun X C=>Ue T  C) rfl
 have F_is_one_of:Fn P w K mg base "is_one_of" 1 2 U8:=Q8 (k:=0) D_is_one_of Wy rfl (fun X C=>Sf T  C) rfl;have F_is_text:Fn P w K mg base "is_text" 1 4 Ce:=Q8 (k:=0) D_is_text cG rfl (fun X C=>Yk T  C) rfl;have F_is_name:Fn P w K mg base "is_name" 2 1 Ab:=Q8 (k:=1) D_is_name cI rfl (fun X C=>Ym T F_is_text C) rfl;have F_is_added_text:Fn P w K mg base "is_added_text" 2 1 Q7:=Q8 (k:=1) D_is_added_text Lr rfl (fun X C=>Jr T F_is_text C) rfl;have F_is_pair:Fn P w K mg base "is_pair" 1 1 X2:=Q8 (k:=0) D_is_pair cH rfl (fun X C=>Yl T  C) rfl;have F_is_deed_id:Fn P w K mg base "is_deed_id" 2 1 K8:=Q8 (k:=1) D_is_deed_id Tq rfl (fun X C=>Oj T F_is_one_of F_is_pair F_is_whole C) rfl
 have F_is_sign_id:Fn P w K mg base "is_sign_id" 3 1 O0:=Q8 (k:=2) D_is_sign_id Tm rfl (fun X C=>Oh T F_is_deed_id F_is_pair F_is_whole C) rfl;have F_is_sign_id_or_none:Fn P w K mg base "is_sign_id_or_none" 4 1 G9:=Q8 (k:=3) D_is_sign_id_or_none Gp rfl (fun X C=>Ex T F_is_sign_id C) rfl;have F_is_anchor:Fn P w K mg base "is_anchor" 5 1 X3:=Q8 (k:=4) D_is_anchor Wz rfl (fun X C=>Sg T F_is_one_of F_is_pair F_is_sign_id_or_none C) rfl;have F_is_rising:Fn P w K mg base "is_rising" 1 1 P2:=Q8 (k:=0) D_is_rising Wx rfl (fun X C=>Se T  C) rfl;have F_is_dropped:Fn P w K mg base "is_dropped" 4 1 Y5:=Q8 (k:=3) D_is_dropped Tp rfl (fun X C=>Oi T F_is_rising F_is_sign_id C) rfl
 have F_has_form:Fn P w K mg base "has_form" 6 2 Ae:=Q8 (k:=5) D_has_form Zo rfl (fun X C=>Uh T F_is_added_text F_is_anchor F_is_deed_id F_is_dropped F_is_name F_is_sign_id_or_none C) rfl;have F_signs_named:Fn P w K mg base "signs_named" 1 1 F1:=Q8 (k:=0) D_signs_named Ql rfl (fun X C=>Mq T  C) rfl;have F_deeds_named:Fn P w K mg base "deeds_named" 2 1 C6:=Q8 (k:=1) D_deeds_named Qo rfl (fun X C=>Mt T F_signs_named C) rfl;have F_is_deed:Fn P w K mg base "is_deed" 7 1 Ac:=Q8 (k:=6) D_is_deed cJ rfl (fun X C=>Yn T F_deeds_named F_has_form F_is_deed_id C) rfl;have F_signs_added:Fn P w K mg base "signs_added" 1 1 D2:=Q8 (k:=0) D_signs_added Qm rfl (fun X C=>Mr T  C) rfl
 have F_by_ids:FnN P w K mg base "by_ids" 1 1 Es:=qL (k:=0) D_by_ids gN rfl (fun X C=>bJ T  C) rfl;have F_has_all_named:FnS P w K mg base "has_all_named" 3 2 N9:=fn_S (k:=2) D_has_all_named Ls rfl (fun X C=>Js T F_deeds_named F_signs_added F_signs_named C) rfl;have F_is_book:Fn P w K mg base "is_book" 8 1 Cf:=Q8 (k:=7) D_is_book cK rfl (fun X C=>Yo T F_by_ids F_has_all_named F_is_deed F_is_rising C) rfl;have F_adds_behind:FnN P w K mg base "adds_behind" 2 1 T5:=qL (k:=1) D_adds_behind Qp rfl (fun X C=>Mu T F_signs_added C) rfl;have F_signs_of:Fn P w K mg base "signs_of" 3 1 K6:=Q8 (k:=2) D_signs_of Zi rfl (fun X C=>Ub T F_adds_behind C) rfl
 have F_undone_in:FnN P w K mg base "undone_in" 1 1 K0:=qL (k:=0) D_undone_in Wv rfl (fun X C=>Rz T  C) rfl;have F_refuse_unless_deed:Fn P w K mg base "refuse_unless_deed" 1 2 F3:=Q8 (k:=0) D_refuse_unless_deed Go rfl (fun X C=>Ew T  C) rfl;have F_in_effect:Fn P w K mg base "in_effect" 2 2 L5:=Q8 (k:=1) D_in_effect Xa rfl (fun X C=>Sh T F_refuse_unless_deed F_undone_in C) rfl;have F_dropped_in:FnSN P w K mg base "dropped_in" 1 2 M4:=fn_SN (k:=0) D_dropped_in Tr rfl (fun X C=>Ol T  C) rfl;have F_presence_in:Fn P w K mg base "presence_in" 4 1 N2:=Q8 (k:=3) D_presence_in Qn rfl (fun X C=>Ms T F_dropped_in F_signs_of F_undone_in C) rfl
 have F_shown_in:Fn P w K mg base "shown_in" 5 1 Z9:=Q8 (k:=4) D_shown_in Zj rfl (fun X C=>Uc T F_presence_in C) rfl;have F_text_of:Fn P w K mg base "text_of" 6 1 D7:=Q8 (k:=5) D_text_of cF rfl (fun X C=>Yj T F_shown_in C) rfl;have F_has_sign:Fn P w K mg base "has_sign" 2 2 Fs:=Q8 (k:=1) D_has_sign Zn rfl (fun X C=>Ug T F_signs_added C) rfl;have F_is_there:Fn P w K mg base "is_there" 3 2 U7:=Q8 (k:=2) D_is_there Zm rfl (fun X C=>Uf T F_dropped_in F_has_sign F_undone_in C) rfl;have F_leaning_on:Fn P w K mg base "leaning_on" 3 2 K7:=Q8 (k:=2) D_leaning_on Tl rfl (fun X C=>Og T F_deeds_named C) rfl
 have F_places_in:FnN P w K mg base "places_in" 5 1 X1:=qL (k:=4) D_places_in Ww rfl (fun X C=>Sd T F_presence_in C) rfl;have F_anchored:FnS P w K mg base "anchored" 1 2 J2:=fn_S (k:=0) D_anchored Zp rfl (fun X C=>Ui T  C) rfl;have F_mark_deeds:Fn P w K mg base "mark_deeds" 2 1 P8:=Q8 (k:=1) D_mark_deeds Tk rfl (fun X C=>Oe T F_undone_in C) rfl;have F_marks_of:Fn P w K mg base "marks_of" 6 1 C9:=Q8 (k:=5) D_marks_of Zk rfl (fun X C=>Ud T F_anchored F_mark_deeds F_places_in C) rfl;have F_without:Fn P w K mg base "without" 4 2 Cd:=Q8 (k:=3) D_without cE rfl (fun X C=>Yi T F_leaning_on F_refuse_unless_deed C) rfl
 have F__law_cell:Fn P w K mg base "_law_cell" 1 2 Ar:=Q8 (k:=0) D__law_cell Xc rfl (fun X C=>Sj T  C) rfl;have F__law_drawn:Fn P w K mg base "_law_drawn" 2 3 B8:=Q8 (k:=1) D__law_drawn Tv rfl (fun X C=>Op T F__law_cell C) rfl;have F__law_names:Fn P w K mg base "_law_names" 3 2 W4:=Q8 (k:=2) D__law_names Tu rfl (fun X C=>Oo T F__law_drawn C) rfl;have F__law_words:Fn P w K mg base "_law_words" 3 2 V8:=Q8 (k:=2) D__law_words Ts rfl (fun X C=>Om T F__law_drawn C) rfl;have F__law_signs:Fn P w K mg base "_law_signs" 1 1 V9:=Q8 (k:=0) D__law_signs Tt rfl (fun X C=>On T  C) rfl;have F__law_anchor:Fn P w K mg base "_law_anchor" 3 3 O5:=Q8 (k:=2) D__law_anchor Qq rfl (fun X C=>Mv T F__law_drawn C) rfl
 have F__law_deed:Fn P w K mg base "_law_deed" 4 5 P3:=Q8 (k:=3) D__law_deed Xb rfl (fun X C=>Si T F__law_anchor F__law_drawn F__law_signs F__law_words C) rfl;have F__law_book:Fn P w K mg base "_law_book" 5 4 Au:=Q8 (k:=4) D__law_book Xd rfl (fun X C=>Sk T F__law_deed F__law_drawn C) rfl;exact mR (k:=8) F tE rfl (fun X C=>nI T F__law_book F__law_names F_in_effect F_is_book F_is_there F_leaning_on F_marks_of F_signs_of F_text_of F_without C) rfl
end
end Sm
open PySem PySem.W PyProof.Rows
theorem Sm.walkD {l:PySem.W.OpenLaw} {q:xT} {loose:List Str} {XP:(Str->Option wM)->yW->Prop} {YP:yC->yW->Prop} {d:DefRec} {K:CI->wQ} (hn:l.most=some 63) (hdf:d.params.defaults=[]) (hnm:d.name = "law")
   (hY:∀ (w:yC) (h:yW),YP w h->(K w.params).In h) (hK:∀ w:yC,Sm.noList (K w.params)=true)
   (F:∀ (w:yC) (mg:Str->Option wM) (h:yW),(K w.params).In h->h.Ns zK mg->Sm.Txt mg/\Sm.Defs (K w.params) mg)
   (pure:∀ ns:List Int,ns.length<=63->Sm.fB [.list (ns.map j6)]=.ok (.bool true)) :
   PySem.W.WalkO q loose XP YP l.row.toRowW d [] (fun f vs=>PySem.call f vs):=by
 refine L2.nU (n:=63) (k:=9) (x := "_law_script") (CX:=fun _=>L2.CX0) (sp:=fun _=>Sm.spD 1 Sm.fB) hn (by decide) hdf ⟨rfl,by decide,by decide,rfl⟩ hY (fun w mg fa h KX G hmg=>?_) (fun w H a ns hl hO hS=>?_) fun _ _ _ _ _ z=>z
 . obtain ⟨T,D⟩:=F w mg h KX G
   obtain ⟨f0,fd0,F0,hm0,hb0⟩:=D.1.ex; rw [hnm,hm0] at hmg; cases hmg; refine ⟨fd0,fun s u=>?_,fun base kb nb=>?_⟩
   . obtain ⟨oc,od,kV,doc,pm,an,cdv,ct,osl,rfl,lk,hcd⟩:=F0.ex
     exact .of_eq rfl
   . exact Sm.vE F0 T D
 . rcases hS with hS | ⟨o,its,nn,hk,hc,_⟩
   . refine ⟨H,[.list (ns.map j6)],.bool true,L2.Same.refl _,Sm.RepL.cons ⟨a,_,rfl,hS,Sm.RepL.ints ns⟩ rfl,rfl,pure ns hl,fun v G' H' g r=>r⟩
   . exact absurd hc (Sm.noList.out (hK w) hk)
end
noncomputable section
open PySem
namespace Sm
open L2
noncomputable def Out.seq (o:Out) (g:Dn->Out):Out:=match o with
 | .nx δ=>g δ
 | o=>o
noncomputable def Out.fin (o:Out):Res wK:=match o with
 | .rt d=>.ok d
 | .nx _=>.ok .none
 | .exc c=>.exc c
 | _=>.no
noncomputable def rS (s:Option Sl):Res wK:=match s with
 | some (.sh d)=>.ok d
 | _=>.no
theorem C7 {α β:Type} (a:α) (k:α->Res β):(Res.ok a).bind k=k a:=rfl
theorem Rb {α:Type} (a:α):ofO (some a)=.ok a:=rfl
theorem E7 {α:Type} (a:α) (k:α->Out):O7 (.ok a) k=k a:=rfl
theorem Ki (g1 g2:Dn->Out) (δ:Dn):D1 g1 g2 δ=(g1 δ).seq g2:=by unfold D1 Out.seq; cases g1 δ <;> rfl
theorem cD (δ:Dn) (g:Dn->Out):(Out.nx δ).seq g=g δ:=rfl
theorem sZ (d:wK) (g:Dn->Out):(Out.rt d).seq g=.rt d:=rfl
theorem Mj (N:List Str) (g:Dn->Out) (ds:List wK):fnD N g ds=(g (F2 N ds)).fin:=by unfold fnD Out.fin; cases g (F2 N ds) <;> rfl
theorem vT (d:wK):(Out.rt d).fin=.ok d:=rfl
theorem X9 (i:Nat) (δ:Dn):A5 i δ=rS δ[i]? := rfl
theorem U4 (d:wK):rS (some (.sh d))=.ok d:=rfl
theorem tJ (c:Dn->Res Bool) (g1 g2:Dn->Out) (δ:Dn):sIf c g1 g2 δ=O7 (c δ) fun b=>if b=true then g1 δ else g2 δ:=rfl
theorem sN (f g:Dn->Res wK) (δ:Dn) (h:f δ=.ok (.bool true)):W6 f g δ=g δ:=by unfold W6; rw [h]; rfl
theorem sO (f g:Dn->Res wK) (δ:Dn) (h:f δ=.ok (.bool false)):W6 f g δ=.ok (.bool false):=by unfold W6; rw [h]; rfl
theorem gG (b:Bool):Yt (.bool b)=some b:=rfl
local macro_rules
 | `(tactic| simp_arith) => `(tactic| simp_arith [C7])
 | `(tactic| simp_arith [$ls,*]) => `(tactic| simp only [$ls,*, Mj, F2, Ki, cD, sZ, vT, tJ, C4, b2, b1, X9, U4, I8, E8, B2, A4, vC, C7, Rb, E7, E9, I9, E4, vFn, B6, W5, Ks, Kt, vSl, Uk, K5, gG,
 wU,zF,xB,yD,xF,yM,xP,xV,yQ,GD,xI,xJ,zN,zM,l9,reduceIte])
theorem K1 {src:Dn->Res (List wK)} {bnd:wK->Res (List Sl)} {cap:List Nat} {tt:Dn->Res Bool} {el:Dn->Res wK} {δ δc:Dn} {ds ys:List wK} (h:src δ=.ok ds) (hl:ds.length<=1000) (hc:Ej δ cap=δc) (e:D4 bnd δc tt el ds=.ok ys):F5 src bnd cap tt el δ=.ok ys:=by
 unfold F5;rw [h,C7,if_pos (xD hl (by decide)),hc,e]
theorem C0 {f g:Dn->Res wK} {op:wK->wK->Option wK} {δ:Dn} {x y d:wK} (h1:f δ=.ok x) (h2:g δ=.ok y) (h3:op x y=some d):b2 f g op δ=.ok d:=by
 unfold b2;rw [h1,C7,h2,C7,h3]; rfl
theorem M3 {f:Dn->Res (List wK)} {δ:Dn} {ds:List wK} (h:f δ=.ok ds):I8 f δ=.ok (.list ds):=by unfold I8; rw [h]; rfl
theorem F6 {i:Nat} {f:Dn->Res wK} {δ:Dn} {d:wK} (h:f δ=.ok d):I9 i f δ=.nx (δ.set i (.sh d)):=by unfold I9; rw [h]; rfl
theorem O9 {c:Dn->Res Bool} {g1 g2:Dn->Out} {δ:Dn} (h:c δ=.ok true):sIf c g1 g2 δ=g1 δ:=by unfold sIf; rw [h]; rfl
theorem N3 {c:Dn->Res Bool} {g1 g2:Dn->Out} {δ:Dn} (h:c δ=.ok false):sIf c g1 g2 δ=g2 δ:=by unfold sIf; rw [h]; rfl
theorem C5 {g1 g2:Dn->Out} {δ δ':Dn} (h:g1 δ=.nx δ'):D1 g1 g2 δ=g2 δ':=by unfold D1; rw [h]
theorem W7 {g1 g2:Dn->Out} {δ:Dn} {d:wK} (h:g1 δ=.rt d):D1 g1 g2 δ=.rt d:=by unfold D1; rw [h]
theorem E1 {f:Dn->Res wK} {δ:Dn} {d:wK} (h:f δ=.ok d):E9 f δ=.rt d:=by unfold E9; rw [h]; rfl
theorem K9 {N:List Str} {g:Dn->Out} {ds:List wK} {d:wK} (h:g (F2 N ds)=.rt d):fnD N g ds=.ok d:=by rw [Mj,h]; rfl
theorem A9 {f:Dn->Res wK} {fs:Dn->Res (List wK)} {δ:Dn} {d:wK} {ds:List wK} (h:f δ=.ok d) (h2:fs δ=.ok ds):A4 f fs δ=.ok (d::ds):=by unfold A4; rw [h,C7,h2]; rfl
theorem B5 {fs:Dn->Res (List wK)} {m:List wK->Res wK} {δ:Dn} {ds:List wK} {r:Res wK} (h:fs δ=.ok ds) (h2:m ds=r):B6 fs m δ=r:=by unfold B6; rw [h,C7,h2]
theorem N0 {f:Dn->Res (List wK)} {δ:Dn} {ds:List wK} (h:f δ=.ok ds):E8 f δ=.ok (.tuple ds):=by unfold E8; rw [h]; rfl
theorem Fa {f:Dn->Res (List wK)} {op:List wK->Option wK} {δ:Dn} {ds:List wK} {d:wK} (h:f δ=.ok ds) (h2:op ds=some d):vFn f op δ=.ok d:=by unfold vFn; rw [h,C7,h2]; rfl
theorem C3 {f:Dn->Res wK} {δ:Dn} {b:Bool} (h:f δ=.ok (.bool b)):C4 f δ=.ok b:=by unfold C4; rw [h]; rfl
abbrev scr (ns:List Int):wK:=.list (ns.map .int)
theorem qE {n j:Nat} (h:j < n):ixN n (j:Int)=some j:=by
 unfold ixN;rw [if_pos (by omega)];simp [h]
theorem M8 {α:Type} {xs:List α} {j:Nat} (h:j < xs.length):atI xs (j:Int)=some xs[j]:=by
 unfold atI;rw [qE h];simp
theorem Pg {α:Type} {xs:List α} {i:Int} (h0:0<=i) (h:i < xs.length):∃ x∈xs,atI xs i=some x:=by
 obtain ⟨j,rfl⟩:=Int.eq_ofNat_of_zero_le h0;have hj:j < xs.length:=by omega
 exact ⟨xs[j],BZ _,M8 hj⟩
theorem qP (ns:List Int):xA (scr ns) (.list [])=ns.isEmpty:=by
 cases ns with
 | nil=>rfl
 | cons n ns=>rfl
theorem fO (ns:List Int):dEq (scr ns) (.list [])=some (.bool ns.isEmpty):=by
 unfold dEq;rw [if_pos (xD (i9 _ _) (by decide)),qP]
theorem aH {a b:Int} (h:(-(2 ^ 64) < a/\a < 2 ^ 64)\/(-(2 ^ 64) < b/\b < 2 ^ 64)):V1 (.int a) (.int b)=some (.int (a*b)):=by
 show (if _ then _ else _)=_;rw [if_pos h]
theorem mul7 {b:Int}:V1 (.int 7) (.int b)=some (.int (7*b)):=aH (.inl ⟨by decide,by decide⟩)
theorem pV {b:Int}:V1 (.int 6553) (.int b)=some (.int (6553*b)):=aH (.inl ⟨by decide,by decide⟩)
theorem hC {b:Int}:V1 (.int 104723) (.int b)=some (.int (104723*b)):=aH (.inl ⟨by decide,by decide⟩)
theorem lZ {b:Int}:V1 (.int b) (.int 69069)=some (.int (b*69069)):=aH (.inr ⟨by decide,by decide⟩)
theorem mul2 {b:Int}:V1 (.int 2) (.int b)=some (.int (2*b)):=aH (.inl ⟨by decide,by decide⟩)
theorem mB {b:Int}:V1 (.int 60) (.int b)=some (.int (60*b)):=aH (.inl ⟨by decide,by decide⟩)
theorem mD {a b:Int} (h:0 < b):Ua (.int a) (.int b)=some (.int (a % b)):=by
 show (if _ then _ else _)=_;rw [if_pos h]
theorem qS {a b:Int} (h:0 < b) (h2:b < 1073741824):Nk (.int a) (.int b)=some (.int (a / b)):=by
 show (if _ then _ else _)=_;rw [if_pos ⟨h,h2⟩]
theorem Ai {a b:Int}:E2 (.int a) (.int b)=some (.int (a+b)):=rfl
theorem rG (ns:List Int) (hns:ns.length<=63) (k:Int):∃ c,Ar [scr ns,.int k]=.ok (.int c):=by
 unfold Ar Ef Dv;cases hn:ns with
 | nil =>
   refine ⟨7*k,?_⟩;simp_arith [fO,List.isEmpty_nil,mul7]
 | cons n r =>
   have e1:=fO (n::r); have hl:(0:Int) < ((n::r).length:Int):=by simp
   have hl2:((n::r).length:Int)<=63:=by rw [<- hn]; omega
   obtain ⟨x,hx,e2⟩:=Pg (xs:=(n::r).map j6) (i:=k % ((n::r).length:Int)) (CP _ (by omega)) (by rw [wT]; exact BN _ hl);obtain ⟨c,_,rfl⟩:=xK.mp hx; refine ⟨c+6553*(k / ((n::r).length:Int)),?_⟩; have e3:U1 [scr (n::r)]=some (.int ((n::r).length:Int)):=by simp [U1,scr]
   have e4:dIx (scr (n::r)) (.int (k % ((n::r).length:Int)))=some (.int c):=e2;generalize hS:scr (n::r)=S at *;generalize hL:((n::r).length:Int)=m at *;simp_arith [e1,List.isEmpty_cons,e3,mD hl,qS hl (show m < 1073741824 by omega),pV,e4,Ai]
theorem N4 (ns:List Int) (hns:ns.length<=63) (k m:Int) (hm:0 < m):∃ r,B8 [scr ns,.int k,.int m]=.ok (.int r)/\0<=r/\r < m:=by
 obtain ⟨c,hc⟩:=rG ns hns k;unfold B8 Db Cc;generalize scr ns=S at *;simp_arith [hc,mD (show (0:Int) < 2147483563 by decide),Ai,lZ,hC];generalize hA:(c % 2147483563*69069+104723*(k+1)) % 2147483563=A;have a0:0<=A:=by rw [<- hA]; exact CP _ (by decide)
 have a1:A < 2147483563:=by rw [<- hA]; exact BN _ (by decide)
 simp_arith [aH (a:=A) (b:=A) (.inl ⟨Int.lt_of_lt_of_le (by decide) a0,GU a1 (by decide)⟩),qS (show (0:Int) < 3 by decide) (by decide),Ai,mD (show (0:Int) < 2147483399 by decide)]
 generalize hB:(A*A+A / 3) % 2147483399=B;have b0:0<=B:=by rw [<- hB]; exact CP _ (by decide)
 have b1:B < 2147483399:=by rw [<- hB]; exact BN _ (by decide)
 simp_arith [aH (a:=B) (b:=B) (.inl ⟨Int.lt_of_lt_of_le (by decide) b0,GU b1 (by decide)⟩),qS (show (0:Int) < 7 by decide) (by decide),Ai,mD (show (0:Int) < 2147483647 by decide),qS (show (0:Int) < 11 by decide) (by decide),mD hm]
 exact ⟨_,rfl,CP _ (by omega),BN _ hm⟩
theorem mK {x:Str} {i:Int} (h0:0<=i) (h:i < (x.cps.toList.length:Int)):∃ c∈x.cps.toList,dIx (.str x) (.int i)=some (.str ⟨#[c]⟩):=by
 obtain ⟨c,hc,e⟩:=Pg (xs:=x.cps.toList) h0 h;exact ⟨c,hc,by show (atI x.cps.toList i).map _=_; rw [e]; rfl⟩
theorem iC (c:Nat):(⟨#[c]⟩:Str).length=1:=rfl
theorem Pn:(1000:Nat)<=sizeLine:=by decide
theorem addS {x y:Str} (h:x.length+y.length<=1000):E2 (.str x) (.str y)=some (.str (x++y)):=by
 show (if _ then _ else _)=_;rw [if_pos (xD h Pn)]
theorem nP {x y:List wK} (h:x.length+y.length<=1000):E2 (.list x) (.list y)=some (.list (x++y)):=by
 show (if _ then _ else _)=_;rw [if_pos (xD h Pn)]
theorem wD {x y:List wK} (h:x.length+y.length<=1000):E2 (.tuple x) (.tuple y)=some (.tuple (x++y)):=by
 show (if _ then _ else _)=_;rw [if_pos (xD h Pn)]
theorem T4 (x y:Str):(x++y).length=x.length+y.length:=by
 show (x.cps++y.cps).size=_;rw [Array.size_append]; rfl
def chOk (lo hi:Nat) (x:Str):Prop:=∀ c∈x.cps.toList,lo<=c/\c<=hi
theorem chOk.app {lo hi:Nat} {x y:Str} (hx:chOk lo hi x) (hy:chOk lo hi y):chOk lo hi (x++y):=fun c hc=>by
 have:c∈(x.cps++y.cps).toList:=hc;rw [Array.toList_append] at this;exact (xC.mp this).elim (hx c) (hy c)
theorem chOk.one {lo hi c:Nat} (h:lo<=c/\c<=hi):chOk lo hi ⟨#[c]⟩:=fun d hd=>by
 have:d=c:=by simpa using hd
 rw [this]; exact h
theorem chOk.nil {lo hi:Nat}:chOk lo hi "" := fun c hc=>by
 rw [show ("" : Str).cps.toList=[] from rfl] at hc; exact nomatch hc
theorem mulS {c:Nat} {n:Int} (h0:0<=n) (h:n < 2):∃ y:Str,V1 (.str ⟨#[c]⟩) (.int n)=some (.str y)/\y.length<=1/\∀ d∈y.cps.toList,d=c:=by
 have:n=0\/n=1:=by omega
 rcases this with rfl | rfl
 . refine ⟨O4 0 ⟨#[c]⟩,rfl,(show (0:Nat)<=1 by decide),fun d hd=>?_⟩
   simp [O4] at hd
 . refine ⟨O4 1 ⟨#[c]⟩,rfl,by unfold O4; simp; exact xH _,fun d hd=>?_⟩
   simpa [O4] using hd
def Z8 (x:Str):Prop:=1<=x.length/\x.length<=6/\chOk 97 122 x
def Yq (x:Str):Prop:=1<=x.length/\x.length<=4/\chOk 32 126 x
theorem ixL {xs:List wK} {i:Int} (h0:0<=i) (h:i < (xs.length:Int)):∃ x∈xs,dIx (.list xs) (.int i)=some x:=Pg h0 h
theorem Ji (ns:List Int) (hns:ns.length<=63) (a k:Int) (hk:0<=k) (hk2:k < 3) (fd:List wK) (hf:fd.length < 1000) (s4:Sl):∃ z w:Str,Z8 z /\
   (D1 (I9 4 (b2 (b2 (vC (.str "abcdefghijklmnopqrstuvwxyz")) (B6 (A4 (A5 0) (A4 (b2 (A5 1) (b2 (vC (.int 2)) (A5 3) V1) E2) (A4 (vC (.int 26)) B2))) B8) dIx) (B6 (A4 (A5 0) (A4 (b2 (b2 (A5 1) (b2 (vC (.int 2)) (A5 3) V1) E2) (vC (.int 1)) E2) (A4 (vC (.int 2)) B2))) B8) V1)) (Gq 2 (b2 (I8 (A4 (b2 (A5 4) (b2 (vC (.str "xyz")) (A5 3) dIx) E2) (A4 (b2 (b2 (vC (.str "xyz")) (A5 3) dIx) (A5 4) E2) B2))) (B6 (A4 (A5 0) (A4 (b2 (A5 1) (vC (.int 6)) E2) (A4 (vC (.int 2)) B2))) B8) dIx)))
     [.sh (scr ns),.sh (.int a),.ow (.list fd),.sh (.int k),s4]=.nx [.sh (scr ns),.sh (.int a),.ow (.list (fd++[.str z])),.sh (.int k),.sh (.str w)]:=by
 obtain ⟨r1,e1,a1,b1⟩:=N4 ns hns (a+2*k) 26 (by decide);obtain ⟨r2,e2,a2,b2'⟩:=N4 ns hns (a+2*k+1) 2 (by decide);obtain ⟨r3,e3,a3,b3⟩:=N4 ns hns (a+6) 2 (by decide);obtain ⟨c1,hc1,f1⟩:=mK (x := "abcdefghijklmnopqrstuvwxyz") a1 (by rw [show ("abcdefghijklmnopqrstuvwxyz" : Str).cps.toList.length=26 from by decide]; exact b1);obtain ⟨y,f2,l2,hy⟩:=mulS (c:=c1) a2 b2';obtain ⟨c2,hc2,f3⟩:=mK (x := "xyz") hk (by rw [show ("xyz" : Str).cps.toList.length=3 from by decide]; exact hk2);have g1:E2 (.str y) (.str ⟨#[c2]⟩)=_:=addS (x:=y) (y:=⟨#[c2]⟩) (by rw [iC]; omega);have g2:E2 (.str ⟨#[c2]⟩) (.str y)=_:=addS (x:=⟨#[c2]⟩) (y:=y) (by rw [iC]; omega)
 obtain ⟨x,hx,f4⟩:=ixL (xs:=[.str (y++⟨#[c2]⟩),.str (⟨#[c2]⟩++y)]) a3 b3;have o1:chOk 97 122 y:=fun d hd=>by
   rw [hy d hd]; exact (by decide:∀ c∈("abcdefghijklmnopqrstuvwxyz" : Str).cps.toList,97<=c/\c<=122) c1 hc1
 have o2:chOk 97 122 ⟨#[c2]⟩:=.one ((by decide:∀ c∈("xyz" : Str).cps.toList,97<=c/\c<=122) c2 hc2);have:∃ z,x=.str z/\Z8 z:=by
   rcases wR.mp hx with h | h
   . exact ⟨_,h,by rw [T4,iC]; omega,by rw [T4,iC]; omega,o1.app o2⟩
   . exact ⟨_,wS.mp h,by rw [T4,iC]; omega,by rw [T4,iC]; omega,o2.app o1⟩
 obtain ⟨z,rfl,hz⟩:=this;refine ⟨z,y,hz,?_⟩;have szB:fd.length < sizeLine:=xZ hf Pn;simp_arith [mul2,Ai,e1,e2,e3,f1,f2,f3,g1,g2,f4,Gq,szB]
theorem lY (ns:List Int) (hns:ns.length<=63) (a:Int):∃ x y z:Str,(Z8 x/\Z8 y/\Z8 z)/\W4 [scr ns,.int a]=.ok (.list [.str x,.str y,.str z]):=by
 obtain ⟨x,w1,hx,e1⟩:=Ji ns hns a 0 (by decide) (by decide) [] (by simp) .un;obtain ⟨y,w2,hy,e2⟩:=Ji ns hns a 1 (by decide) (by decide) [.str x] (by simp) (.sh (.str w1));obtain ⟨z,w3,hz,e3⟩:=Ji ns hns a 2 (by decide) (by decide) [.str x,.str y] (by simp) (.sh (.str w2));refine ⟨x,y,z,⟨hx,hy,hz⟩,?_⟩;unfold W4 Da Bj Bi Bh Q3;have r:Jg [.int 3]=.ok [.int 0,.int 1,.int 2]:=rfl;simp only [Mj,F2,Ki (Oc _ _),Oc,B2,E7,cD,wU,zF,xB,yD,xF,yM,xP,xI,xJ,Ki (U5 _ _ _),U5,A4,vC,C7,r,K3,st1,zN,zM]
 rw [e1];simp only [xP,xI,xJ];rw [e2];simp only [yM,xP,xI,xJ];rw [e3];rfl
theorem Rw {bnd:wK->Res (List Sl)} {δc:Dn} {el:Dn->Res wK} {P:wK->Prop}:∀ (ds:List wK),(∀ d∈ds,∃ sl y,bnd d=.ok sl/\el (sl++δc)=.ok y/\P y)->∃ ys:List wK,D4 bnd δc K5 el ds=.ok ys/\ys.length=ds.length/\∀ y∈ys,P y
 | [],_=>⟨[],rfl,rfl,fun _ h=>nomatch h⟩
 | d::ds,h=>by
   obtain ⟨sl,y,e1,e2,p⟩:=h d (.head _); obtain ⟨ys,e3,e4,e5⟩:=Rw ds fun d' h'=>h d' (.tail _ h');refine ⟨y::ys,?_,by simp [e4],fun z hz=>?_⟩
   . unfold D4
     rw [e1]; simp only [K5,e2,e3]
   . rcases wR.mp hz with rfl | hz
     . exact p
     . exact e5 z hz
theorem eD {P:Str->Prop}:∀ (ys:List wK),(∀ y∈ys,∃ x,y=.str x/\P x)->∃ xs:List Str,Fh ys=some xs/\xs.length=ys.length/\∀ x∈xs,P x
 | [],_=>⟨[],rfl,rfl,fun _ h=>nomatch h⟩
 | y::ys,h=>by
   obtain ⟨x,rfl,p⟩:=h y (.head _); obtain ⟨xs,e1,e2,e3⟩:=eD ys fun d' h'=>h d' (.tail _ h');exact ⟨x::xs,by show (Fh ys).map _=_; rw [e1]; rfl,by simp [e2],fun z hz=>by
     rcases wR.mp hz with rfl | hz
     . exact p
     . exact e3 z hz⟩
theorem Mi:∀ (xs:List Str),(∀ x∈xs,x.length=1/\yB x=true/\chOk 32 126 x)->(m9 "" xs).length=xs.length/\yB (m9 "" xs)=true/\chOk 32 126 (m9 "" xs)
 | [],_=>⟨rfl,by decide +kernel,chOk.nil⟩
 | [x],h=>⟨(h x (.head _)).1,(h x (.head _)).2.1,(h x (.head _)).2.2⟩
 | x::y::r,h=>by
   obtain ⟨l,o,q⟩:=Mi (y::r) fun z hz=>h z (.tail _ hz);obtain ⟨l1,o1,q1⟩:=h x (.head _); show (x ++ "" ++ m9 "" (y::r)).length=_/\yB (x ++ "" ++ m9 "" (y::r))=true/\chOk 32 126 (x ++ "" ++ m9 "" (y::r));refine ⟨?_,Fi (Fi o1 (by decide +kernel)) o,(q1.app chOk.nil).app q⟩;rw [T4,T4]; have:(("" : Str)).length=0:=rfl; simp only [xB] at l ⊢;omega
theorem Pp:∀ (xs:List Str),(∀ x∈xs,x.length=1/\yB x=true/\chOk 32 126 x)->(xs.map (·.length)).sum=xs.length
 | [],_=>rfl
 | x::r,h=>by
   simp only [wU,List.sum_cons,xB,(h x (.head _)).1,Pp r fun z hz=>h z (.tail _ hz)];omega
theorem kO {n:Int} (h0:0<=n) (h:n < 1000):Jg [.int n]=.ok (Bo 0 n):=by
 show (if _ then _ else _)=_;rw [if_pos (by omega)]
theorem eE {fs:Dn->Res (List wK)} {δ:Dn} {n:Int} (h:fs δ=.ok [.int n]) (h0:0<=n) (h1:n < 1000):(fun δ=>(fs δ).bind Jg) δ=.ok (Bo 0 n):=by
 show (fs δ).bind Jg=_;rw [h,C7,kO h0 h1]
theorem F4 {f:Dn->Res wK} {δ:Dn} {d:wK} {ds:List wK} (h:f δ=.ok d) (h2:E5 d=.ok ds):(fun δ=>(f δ).bind E5) δ=.ok ds:=by
 show (f δ).bind E5=_;rw [h,C7,h2]
theorem jE (ns:List Int) (hns:ns.length<=63) (a:Int):∃ x:Str,V8 [scr ns,.int a]=.ok (.str x)/\Yq x:=by
 obtain ⟨r1,e1,a1,b1⟩:=N4 ns hns (a+4) 4 (by decide);unfold V8 Cy Ca;have hr:Jg [.int (1+r1)]=.ok (Bo 0 (1+r1)):=kO (by omega) (by omega);have hlen:(Bo 0 (1+r1)).length<=4/\1<=(Bo 0 (1+r1)).length:=by unfold Bo; simp; omega
 have hall:∀ d∈Bo 0 (1+r1),∃ sl y,D9 d=.ok sl/\(b2 (vC (.str "ab cd~ <")) (B6 (A4 (A5 1) (A4 (b2 (A5 2) (A5 0) E2) (A4 (vC (.int 8)) B2))) B8) dIx) (sl++[.sh (scr ns),.sh (.int a)])=.ok y/\∃ x:Str,y=.str x/\x.length=1/\yB x=true/\chOk 32 126 x:=fun d hd=>by
   unfold Bo at hd; obtain ⟨i,hi,rfl⟩:=xK.mp hd; have hi':i < 4:=by have:=a9.mp hi; omega
   obtain ⟨r2,e2,a2,b2'⟩:=N4 ns hns (a+(0+(i:Int))) 8 (by decide);obtain ⟨c,hc,f⟩:=mK (x := "ab cd~ <") a2 (by have:("ab cd~ <" : Str).cps.toList.length=8:=(by decide); rw [this]; exact b2');refine ⟨[.sh (.int (0+(i:Int)))],.str ⟨#[c]⟩,rfl,?_,⟨#[c]⟩,rfl,rfl,?_,.one ((by decide:∀ c∈("ab cd~ <" : Str).cps.toList,32<=c/\c<=126) c hc)⟩
   . simp_arith [Ai,e2,f]
   . have:∀ c∈("ab cd~ <" : Str).cps.toList,c < 0x110000:=by decide
     unfold yB; simp [this c hc]
 obtain ⟨ys,g1,g2,g3⟩:=Rw (Bo 0 (1+r1)) hall;obtain ⟨xs,g4,g5,g6⟩:=eD ys g3;obtain ⟨l1,o1,q1⟩:=Mi xs g6;have s1:=Pp xs g6;refine ⟨m9 "" xs,?_,by omega,by omega,q1⟩;have hj:Vq "" (.list ys)=some (.str (m9 "" xs)):=by
   show (Fh ys).bind _=_;rw [g4]; show (if _ then _ else _)=_;have:(("" : Str)).length=0:=rfl; rw [if_pos ⟨by rw [s1,this]; omega,o1,xD (show _<=1000 by omega) Pn⟩]
 have hz:(Bo 0 (1+r1)).length<=sizeLine:=xD (show _<=1000 by omega) Pn;simp_arith [Ai,e1,hr,F5,hz,Ej,EL,g1,hj]
abbrev idD (t:Int) (h:Str):wK:=.tuple [.int t,.str h]
abbrev IdP:=Int×Str
abbrev idP (p:IdP):wK:=idD p.1 p.2
abbrev sgD (p:IdP) (n:Int):wK:=.tuple [idP p,.int n]
noncomputable def hj (h:Str):Nat:=if h = "a" then 0 else if h = "b" then 1 else 2
noncomputable def key (p:IdP):Int:=3*p.1+hj p.2
def okH (h:Str):Prop:=h = "a" \/ h = "b" \/ h = "c"
abbrev okG (h:Str):Prop:=okH h
def okI (p:IdP):Prop:=1<=p.1/\p.1<=1000/\okG p.2
theorem Kz (h:Str):hj h<=2:=by unfold hj; split <;> (try split) <;> omega
def SgOf (T:Int) (ds:List wK) (x:wK):Prop:=∃ (p:IdP) (b:wK) (w:Str) (n:Nat),yR [.str "add",idP p,b,.str w]∈ds/\x=sgD p n/\n < w.length/\p.1 < T/\okI p
theorem SgOf.mono {T:Int} {ds ds':List wK} {x:wK} (h:SgOf T ds x) (k:∀ d∈ds,d∈ds'):SgOf T ds' x:=by
 obtain ⟨p,b,w,n,e,r⟩:=h; exact ⟨p,b,w,n,k _ e,r⟩
def sgR (a b:wK):Prop:=∃ (p q:IdP) (n m:Int),a=sgD p n/\b=sgD q m/\okG p.2/\okG q.2/\(key p < key q\/(p=q/\n < m))
def OrN (S:wK->Prop) (d:wK):Prop:=d=.none\/S d
def cW (x:Str):Prop:=x = "l" \/ x = "r"
def Wf (p:IdP) (S:wK->Prop) (U:IdP->Prop) (d:wK):Prop:=okI p /\
 ((∃ b w,d=.tuple [.str "add",idP p,b,.str w]/\OrN S b/\Yq w) \/
  (∃ sg,d=.tuple [.str "drop",idP p,.tuple sg]/\(∀ x∈sg,S x)/\sg.length<=40/\sg≠[]/\sg.Pairwise sgR) \/
  (∃ n s1 x1 s2 x2,d=.tuple [.str "mark",idP p,.str n,.tuple [s1,.str x1],.tuple [s2,.str x2]]/\OrN S s1/\OrN S s2/\Z8 n/\cW x1/\cW x2) \/
  (∃ n,d=.tuple [.str "unmark",idP p,.str n]/\Z8 n) \/
  (∃ q,d=.tuple [.str "undo",idP p,idP q]/\U q))
theorem OrN.mono {S S':wK->Prop} {d:wK} (h:OrN S d) (k:∀ x,S x->S' x):OrN S' d:=h.elim .inl fun z=>.inr (k _ z)
theorem Wf.mono {p:IdP} {S S':wK->Prop} {U U':IdP->Prop} {d:wK} (h:Wf p S U d) (k2:∀ x,S x->S' x) (k3:∀ q,U q->U' q):Wf p S' U' d:=by
 obtain ⟨o,r⟩:=h;refine ⟨o,?_⟩;rcases r with ⟨b,w,e,hb,hw⟩ | ⟨sg,e,hs,hl⟩ | ⟨n,s1,x1,s2,x2,e,h1,h2,h3⟩ | ⟨n,e⟩ | ⟨i,e,hi⟩
 . exact .inl ⟨b,w,e,hb.mono k2,hw⟩
 . exact .inr (.inl ⟨sg,e,fun x hx=>k2 x (hs x hx),hl⟩)
 . exact .inr (.inr (.inl ⟨n,s1,x1,s2,x2,e,h1.mono k2,h2.mono k2,h3⟩))
 . exact .inr (.inr (.inr (.inl ⟨n,e⟩)))
 . exact .inr (.inr (.inr (.inr ⟨i,e,k3 _ hi⟩)))
theorem Hr (x y:Str):dEq (.str x) (.str y)=some (.bool (x==y)):=by
 unfold dEq;rw [if_pos (xD (AC _ _) (by simp [yS]))];rfl
theorem sL:(("add" : Str)==("add" : Str))=true:=by decide +kernel
noncomputable def Vy:Dn->Out:=(sIf (C4 (b2 (b2 (A5 2) (vC (.int 0)) dIx) (vC (.str "add")) dEq)) (I9 1 (b2 (A5 1) (I8 (F5 (fun δ=>((A4 (vFn (A4 (b2 (A5 2) (vC (.int 3)) dIx) B2) U1) B2) δ).bind Jg) D9 [2] K5 (E8 (A4 (b2 (A5 1) (vC (.int 1)) dIx) (A4 (A5 0) B2))))) E2)) E4)
theorem Eu {α:Type} {δc:Dn} {el:Dn->Res wK} (g f:α->wK) (h:∀ y:α,el ([.sh (g y)]++δc)=.ok (f y)):∀ ys:List α,D4 D9 δc K5 el (ys.map g)=.ok (ys.map f)
 | []=>rfl
 | y::ys=>by
   rw [wU,wU]; unfold D4; simp only [D9,K5,h y,Eu g f h ys]
theorem cC {p:IdP} {S:wK->Prop} {U:IdP->Prop} {T:Int} {d:wK} (hd:Wf p S U d) (hT:p.1 < T) (B:wK) (fd:List wK) (hf:fd.length<=100):∃ more:List wK,more.length<=4/\(∀ x∈more,SgOf T [d] x)/\(∀ x∈more,∃ n,x=sgD p n)/\more.Pairwise sgR /\
   Vy [.sh B,.sh (.list fd),.sh d]=.nx [.sh B,.sh (.list (fd++more)),.sh d]:=by
 obtain ⟨o,r⟩:=hd;have ix0:∀ (x:wK) (xs:List wK),dIx (.tuple (x::xs)) (.int 0)=some x:=fun x xs=>M8 (xs:=x::xs) (j:=0) (by simp);have ix1:∀ (x y:wK) (xs:List wK),dIx (.tuple (x::y::xs)) (.int 1)=some y:=fun x y xs=>M8 (xs:=x::y::xs) (j:=1) (by simp);have ix3:∀ (x y z u:wK),dIx (.tuple [x,y,z,u]) (.int 3)=some u:=fun x y z u=>M8 (xs:=[x,y,z,u]) (j:=3) (by simp);have no:∀ d,(C4 (b2 (b2 (A5 2) (vC (.int 0)) dIx) (vC (.str "add")) dEq)) [.sh B,.sh (.list fd),.sh d]=.ok false->∃ more:List wK,more.length<=4/\(∀ x∈more,SgOf T [d] x)/\(∀ x∈more,∃ n,x=sgD p n)/\more.Pairwise sgR/\Vy [.sh B,.sh (.list fd),.sh d]=.nx [.sh B,.sh (.list (fd++more)),.sh d]:=fun d e=>by
   refine ⟨[],by simp,(fun _ h=>nomatch h),(fun _ h=>nomatch h),.nil,?_⟩;unfold Vy; rw [N3 e,xV]; rfl
 rcases r with ⟨b,w,rfl,hb,hw⟩ | ⟨sg,rfl,_⟩ | ⟨n,s1,x1,s2,x2,rfl,_⟩ | ⟨n,rfl,_⟩ | ⟨i,rfl,_⟩
 . have er:Bo 0 (w.length:Int)=(i5 w.length).map fun i:Nat=>j6 (0+(i:Int)):=by unfold Bo; simp
   have g1:=Eu (δc:=[.sh (.tuple [.str "add",idP p,b,.str w])]) (el:=E8 (A4 (b2 (A5 1) (vC (.int 1)) dIx) (A4 (A5 0) B2))) (fun i:Nat=>j6 (0+(i:Int))) (fun i=>sgD p (0+(i:Int))) (fun i=>by simp_arith [ix1]) (i5 w.length);have hl:=hw.2.1; refine ⟨(i5 w.length).map fun i:Nat=>sgD p (0+(i:Int)),by simp; exact hl,fun x hx=>?_,fun x hx=>?_,?_,?_⟩
   . obtain ⟨i,hi,rfl⟩:=xK.mp hx
     exact ⟨p,b,w,i,.head _,by rw [Int.zero_add],a9.mp hi,hT,o⟩
   . obtain ⟨i,hi,rfl⟩:=xK.mp hx
     exact ⟨_,rfl⟩
   . rw [u5]
     exact (List.pairwise_lt_range).imp fun {a b} h=>⟨p,p,_,_,rfl,rfl,o.2.2,o.2.2,.inr ⟨rfl,by omega⟩⟩
   . have ha:E2 (.list fd) (.list ((i5 w.length).map fun i:Nat=>sgD p (0+(i:Int))))=_:=nP (by simp; omega)
     have e1:U1 [.str w]=some (.int (w.length:Int)):=rfl; unfold Vy; rw [O9 (by simp_arith [ix0,Hr,sL])];refine F6 (C0 rfl (M3 (K1 (ds:=Bo 0 (w.length:Int)) (eE (by simp_arith [ix3,e1]) (by omega) (by omega)) (by rw [er]; simp; omega) rfl (by rw [er]; exact g1))) ha)
 . exact no _ (by simp_arith [ix0,Hr,show (("drop" : Str)==("add" : Str))=false from by decide +kernel])
 . exact no _ (by simp_arith [ix0,Hr,show (("mark" : Str)==("add" : Str))=false from by decide +kernel])
 . exact no _ (by simp_arith [ix0,Hr,show (("unmark" : Str)==("add" : Str))=false from by decide +kernel])
 . exact no _ (by simp_arith [ix0,Hr,show (("undo" : Str)==("add" : Str))=false from by decide +kernel])
abbrev Dp:=wK×IdP
theorem Qj {S:IdP->wK->Prop} {U:IdP->IdP->Prop} {T:Int} (D:List wK) (B:wK):∀ (ds:List Dp),(∀ e∈ds,Wf e.2 (S e.2) (U e.2) e.1/\e.1∈D/\e.2.1 < T)->ds.Pairwise (fun a b=>key a.2 < key b.2)->∀ (fd:List wK) (s2:Sl),fd.length+4*ds.length<=100->(∀ x∈fd,SgOf T D x) ->
   fd.Pairwise sgR->(∀ x∈fd,∃ q n,x=sgD q n/\okG q.2/\∀ e∈ds,key q < key e.2)->∃ (out:List wK) (s2':Sl),out.length<=fd.length+4*ds.length/\(∀ x∈out,SgOf T D x)/\out.Pairwise sgR /\
   K3 (st1 2) Vy (ds.map (·.1)) [.sh B,.sh (.list fd),s2]=.nx [.sh B,.sh (.list out),s2']
 | [],_,_,fd,s2,_,hs,hp,_=>⟨fd,s2,by omega,hs,hp,rfl⟩
 | e::ds,hd,up,fd,s2,hl,hs,hp,hq=>by
   obtain ⟨w,m,ht⟩:=hd e (.head _); obtain ⟨more,l1,s1,i1,p1,e1⟩:=cC w ht B fd (by simp at hl; omega);have up':=yK.mp up; obtain ⟨out,s2',l2,s3,p3,e2⟩:=Qj D B ds (fun d' h'=>hd d' (.tail _ h')) up'.2 (fd++more) (.sh e.1) (by simp at hl ⊢; omega)
     (fun x hx=>(xC.mp hx).elim (hs x) fun z=>(s1 x z).mono fun q hq=>by rw [wS.mp hq]; exact m)
     (j0.mpr ⟨hp,p1,fun a ha b hb=>by
       obtain ⟨q,n,rfl,o,k⟩:=hq a ha; obtain ⟨n',rfl⟩:=i1 b hb; exact ⟨q,e.2,n,n',rfl,rfl,o,w.1.2.2,.inl (k e (.head _))⟩⟩)
     (fun x hx=>(xC.mp hx).elim (fun z=>by
       obtain ⟨q,n,h1,h2,h3⟩:=hq x z; exact ⟨q,n,h1,h2,fun e' he'=>h3 e' (.tail _ he')⟩) fun z=>by
       obtain ⟨n',rfl⟩:=i1 x z; exact ⟨e.2,n',rfl,w.1.2.2,fun e' he'=>up'.1 e' he'⟩)
   refine ⟨out,s2',by simp at l2 ⊢; omega,s3,p3,?_⟩;rw [wU]; unfold K3; simp only [st1,xI,xJ]; rw [e1]; exact e2
theorem kC {S:IdP->wK->Prop} {U:IdP->IdP->Prop} {T:Int} (ds:List Dp) (hd:∀ e∈ds,Wf e.2 (S e.2) (U e.2) e.1/\e.2.1 < T) (up:ds.Pairwise (fun a b=>key a.2 < key b.2)) (hl:ds.length<=9) :
   ∃ out:List wK,V9 [.tuple (ds.map (·.1))]=.ok (.list out)/\out.length<=36/\(∀ x∈out,SgOf T (ds.map (·.1)) x)/\out.Pairwise sgR:=by
 obtain ⟨out,s2',l2,s3,p3,e2⟩:=Qj (ds.map (·.1)) (.tuple (ds.map (·.1))) ds (fun e h=>⟨(hd e h).1,xY h,(hd e h).2⟩) up [] .un (by simp; omega) (fun _ h=>nomatch h) .nil (fun _ h=>nomatch h);refine ⟨out,?_,by simp at l2; omega,s3,p3⟩;unfold V9 Cz Cb;simp only [Mj,F2,Ki (I9 _ _),I9,I8,B2,E7,C7,cD,wU,zF,xB,yD,xF,yM,xP,xI,xJ,Ki (U5 _ _ _),U5,X9,U4,E5,yQ,zN,zM];unfold Vy at e2;rw [e2];simp_arith
theorem D6 {c:Dn->Res Bool} {g1 g2:Dn->Out} {δ:Dn} (h:c δ=.ok false):D1 (sIf c g1 E4) g2 δ=g2 δ:=C5 (N3 h)
theorem mulL {xs:List wK} {n:Int} (h : -(2 ^ 63)<=n/\n < 2 ^ 63/\xs.length*n.toNat<=sizeLine):V1 (.list xs) (.int n)=some (.list (xF n.toNat xs).flatten):=by
 show (if _ then _ else _)=_;rw [if_pos h]
theorem dNeL (xs:List wK):dNe (.list xs) (.list [])=some (.bool (!xs.isEmpty)):=by
 unfold dNe;rw [if_pos (xD (i9 _ _) (by decide))];cases xs <;> rfl
theorem dEqL (xs:List wK):dEq (.list xs) (.list [])=some (.bool xs.isEmpty):=by
 unfold dEq;rw [if_pos (xD (i9 _ _) (by decide))];cases xs <;> rfl
theorem rC (xs:List wK):dNe (.tuple xs) (.tuple [])=some (.bool (!xs.isEmpty)):=by
 unfold dNe;rw [if_pos (xD (i9 _ _) (by decide))];cases xs <;> rfl
theorem ltI (a b:Int):I0 .Lt (.int a) (.int b)=some (.bool (decide (a < b))):=by
 unfold I0;rw [if_pos (by simp [yS])];rfl
theorem rD (a b:Int):dEq (.int a) (.int b)=some (.bool (a==b)):=by
 unfold dEq;rw [if_pos (xD (AC _ _) (by simp [yS]))];rfl
theorem Xy (t:Int) (h:Str):(idD t h).depth<=2:=by simp [idD,yS,yV]
theorem vD (xs:List wK):U1 [.list xs]=some (.int (xs.length:Int)):=rfl
theorem lenT (xs:List wK):U1 [.tuple xs]=some (.int (xs.length:Int)):=rfl
theorem We (ns:List Int) (hns:ns.length<=63) (a:Int) (S:wK->Prop) (sg:List wK) (hs:∀ x∈sg,S x) (hl:sg.length<=36):∃ s x,O5 [scr ns,.int a,.list sg]=.ok (.tuple [s,.str x])/\OrN S s/\cW x:=by
 obtain ⟨r1,e1,a1,b1⟩:=N4 ns hns a ((sg.length:Int)+1) (by omega);obtain ⟨r2,e2,a2,b2'⟩:=N4 ns hns (a+1) 2 (by decide);obtain ⟨c,hc,f2⟩:=mK (x := "lr") a2 (by rw [show ("lr" : Str).cps.toList.length=2 from by decide]; exact b2');have g:=nP (x:=[.none]) (y:=sg) (by simp; omega);obtain ⟨s,hs',f1⟩:=ixL (xs:=[.none]++sg) a1 (by simp; omega);refine ⟨s,⟨#[c]⟩,?_,?_,?_⟩
 . unfold O5 Bn Aq
   generalize [PyData.none]++sg=L at *;simp_arith [g,vD,Ai,e1,f1,e2,f2]
 . rcases xC.mp hs' with h | h
   . exact .inl (wS.mp h)
   . exact .inr (hs s h)
 . have h':c∈[108,114]:=by rw [show ("lr" : Str).cps.toList=[108,114] from by decide] at hc; exact hc
   simp only [wR,ET,or_false] at h'; rcases h' with rfl | rfl
   . exact .inl (by decide)
   . exact .inr (by decide)
theorem Vs {δc:Dn} {tt:Dn->Res Bool}:∀ (zs:List (wK×wK)),(∀ z∈zs,∃ b,tt ([.sh z.1,.sh z.2]++δc)=.ok b)->∃ ys:List wK,D4 De δc tt (A5 1) (zs.map fun z=>.tuple [z.1,z.2])=.ok ys/\ys.Sublist (zs.map (·.2))
 | [],_=>⟨[],rfl,.slnil⟩
 | z::zs,h=>by
   obtain ⟨b,e⟩:=h z (.head _); obtain ⟨ys,e1,e2⟩:=Vs zs fun z' hz=>h z' (.tail _ hz);rw [wU,wU];cases b with
   | true =>
     refine ⟨z.2::ys,?_,e2.cons_cons _⟩; unfold D4; rw [show De (.tuple [z.1,z.2])=.ok [.sh z.1,.sh z.2] from rfl];simp only [e,e1]; rfl
   | false =>
     refine ⟨ys,?_,e2.cons _⟩; unfold D4; rw [show De (.tuple [z.1,z.2])=.ok [.sh z.1,.sh z.2] from rfl];simp only [e,e1]
theorem qQ (xs:List wK):Ix xs=(xs.mapIdx fun i d=>(j6 i,d)).map fun z=>yR [z.1,z.2]:=by
 unfold Ix;apply BQ;intro i;simp [Function.comp_def]
theorem mT (xs:List wK):(xs.mapIdx fun i d=>(j6 i,d)).map (·.2)=xs:=by
 apply BQ;intro i;simp only [xS,GY,Option.map_map];cases xs[i]? <;> rfl
theorem jP {xs:List wK} {x:wK} (h:x∈Jn xs (some (-3)) none):x∈xs:=by
 unfold Jn at h;exact List.mem_of_mem_drop (List.mem_of_mem_take h)
theorem rE (xs:List wK) (lo hi:Option Int):(Jn xs lo hi).length<=xs.length:=by
 unfold Jn;rw [BY,EU]; exact xD (i9 _ _) (Nat.sub_le _ _)
theorem Xw {o:Out} {d:wK} (h:o=.rt d):o.fin=.ok d:=by rw [h]; rfl
theorem hW {a b:Int} (h:a < b):I0 .Lt (.int a) (.int b)=some (.bool true):=by rw [ltI,decide_eq_true h]
theorem iA {a b:Int} (h:¬ a < b):I0 .Lt (.int a) (.int b)=some (.bool false):=by rw [ltI,decide_eq_false h]
theorem Le {f g:Dn->Res Bool} {δ:Dn} (h1:f δ=.ok true) (h2:g δ=.ok true):W5 f g δ=.ok true:=by unfold W5; rw [h1,C7,if_pos rfl,h2]
theorem Jq {f g:Dn->Res Bool} {δ:Dn} (h1:f δ=.ok false):W5 f g δ=.ok false:=by unfold W5; rw [h1,C7,if_neg (by decide)]
theorem Fv {f g:Dn->Res Bool} {δ:Dn} (h1:f δ=.ok true) (h2:g δ=.ok false):W5 f g δ=.ok false:=by unfold W5; rw [h1,C7,if_pos rfl,h2]
theorem sM {f:Dn->Res wK} {lo hi:Dn->Res (Option Int)} {δ:Dn} {x y:wK} {l u:Option Int} (h1:f δ=.ok x) (h2:lo δ=.ok l) (h3:hi δ=.ok u) (h4:bB x l u=some y):vSl f lo hi δ=.ok y:=by unfold vSl; rw [h1,C7,h2,C7,h3,C7,h4]; rfl
theorem qY (ns:List Int) (hns:ns.length<=63) {S:IdP->wK->Prop} {U:IdP->IdP->Prop} (a:Int) (p:IdP) (ho:okI p) (kn0:List Dp) (hk:∀ e∈kn0,Wf e.2 (S e.2) (U e.2) e.1/\e.2.1 < p.1) (up:kn0.Pairwise (fun a b=>key a.2 < key b.2)) (hkl:kn0.length<=9) (x y z:Str) (hxyz:Z8 x/\Z8 y/\Z8 z) :
   ∃ d,P3 [scr ns,.int a,idP p,.tuple (kn0.map (·.1)),.list [.str x,.str y,.str z]]=.ok d/\Wf p (SgOf p.1 (kn0.map (·.1))) (fun q=>∃ e∈kn0,e.2=q) d:=by
 have hids:∀ d∈kn0.map (·.1),∃ q:IdP,dIx d (.int 1)=some (idP q)/\∃ e∈kn0,e.2=q:=fun d hd=>by
   obtain ⟨e,he,rfl⟩:=xK.mp hd; obtain ⟨_,hf⟩:=(hk e he).1; refine ⟨e.2,?_,e,he,rfl⟩; rcases hf with ⟨_,_,q,_⟩ | ⟨_,q,_⟩ | ⟨_,_,_,_,_,q,_⟩ | ⟨_,q,_⟩ | ⟨_,q,_⟩ <;> rw [q] <;> exact M8 (j:=1) (by simp)
 obtain ⟨sg,es,hsl,hsg,hsr⟩:=kC (T:=p.1) kn0 hk up hkl;have hkl':(kn0.map (·.1)).length<=9:=by rw [wT]; exact hkl
 generalize kn0.map (·.1)=kn at *;obtain ⟨way,ew,w0,w1⟩:=N4 ns hns a 12 (by decide);obtain ⟨r5,e5,a5,b5⟩:=N4 ns hns (a+5) 3 (by decide);obtain ⟨nm,hnm,f5⟩:=ixL (xs:=[.str x,.str y,.str z]) a5 b5;have:∃ q,nm=.str q/\Z8 q:=by
   simp only [wR,ET,or_false] at hnm; rcases hnm with rfl | rfl | rfl
   . exact ⟨_,rfl,hxyz.1⟩
   . exact ⟨_,rfl,hxyz.2.1⟩
   . exact ⟨_,rfl,hxyz.2.2⟩
 obtain ⟨q,rfl,hq⟩:=this;unfold P3 Ee Cp Co Cn Cm Cl Ck Cj Ci L7;rw [Mj];simp only [F2,wU,zF,xB,yD,xF,yM,xP,zN,zM];rw [C5 (F6 (B5 (A9 rfl rfl) es)),C5 (F6 (B5 (A9 rfl (A9 rfl (A9 rfl rfl))) ew))];simp only [xI,xJ];by_cases c1:way < 2/\sg≠[]
 . have t1 : (W5 (C4 (b2 (A5 6) (vC (.int 2)) (I0 .Lt))) (C4 (b2 (A5 5) (I8 B2) dNe))) [.sh (scr ns), .sh (.int a), .sh (idP p), .sh (.tuple kn), .sh (.list [.str x, .str y, .str z]), .sh (.list sg), .sh (.int way), .un, .un, .un] = .ok true := by
     have:sg.isEmpty=false:=by cases sg with | nil=>exact absurd rfl c1.2 | cons _ _=>rfl
     exact Le (C3 (C0 rfl rfl (hW c1.1))) (C3 (C0 rfl rfl (by rw [dNeL,this]; rfl)))
   have hall:∀ z∈sg.mapIdx (fun i d=>(j6 i,d)),∃ b,(C4 (b2 (B6 (A4 (A5 2) (A4 (b2 (b2 (A5 3) (vC (.int 20)) E2) (A5 0) E2) (A4 (vC (.int 4)) B2))) B8) (vC (.int 0)) dEq)) ([.sh z.1,.sh z.2]++[.sh (scr ns),.sh (.int a)])=.ok b:=fun z hz=>by
     rw [List.mem_mapIdx] at hz; obtain ⟨i,hi,rfl⟩:=hz; obtain ⟨r,er,_,_⟩:=N4 ns hns (a+20+(i:Int)) 4 (by decide);refine ⟨r==0,?_⟩;simp_arith [Ai,er,rD]
   obtain ⟨ys,g1,g2'⟩:=Vs _ hall; rw [mT] at g2'; rw [<- qQ] at g1; have g2:=g2'.length_le; have hel:(Ix sg).length=sg.length:=by unfold Ix; simp
   have n1:F5 (fun δ=>((A4 (A5 5) B2) δ).bind Rp) De [0,1] (C4 (b2 (B6 (A4 (A5 2) (A4 (b2 (b2 (A5 3) (vC (.int 20)) E2) (A5 0) E2) (A4 (vC (.int 4)) B2))) B8) (vC (.int 0)) dEq)) (A5 1) [.sh (scr ns),.sh (.int a),.sh (idP p),.sh (.tuple kn),.sh (.list [.str x,.str y,.str z]),.sh (.list sg),.sh (.int way),.un,.un,.un]=.ok ys :=
     K1 (ds:=Ix sg) (by show ((A4 (A5 5) B2) _).bind Rp=_; rw [A9 (d:=.list sg) (ds:=[]) rfl rfl]; rfl) (by omega) rfl g1
   have hex:∃ ex:List wK,ex.length<=1/\((ys++ex).Sublist sg/\ys++ex≠[])/\V1 (.list (sg.take 1)) (.int (if ys.isEmpty=true then 1 else 0))=some (.list ex):=by
     have lt:(sg.take 1).length<=1:=by simp; omega
     cases ey:ys with
     | nil =>
       refine ⟨(xF 1 (sg.take 1)).flatten,by simpa using lt,⟨by simpa using List.take_sublist 1 sg,fun z=>c1.2 ?_⟩,?_⟩
       . cases sg with
         | nil=>rfl
         | cons _ _=>simp at z
       . rw [if_pos (show List.isEmpty []=true from rfl)]
         exact mulL ⟨by decide,by decide,xD (show _<=1 by simpa using lt) (by decide)⟩
     | cons y0 yr =>
       refine ⟨[],by simp,⟨by rw [xV,<- ey]; exact g2',by simp⟩,?_⟩;rw [if_neg (by simp)]; exact mulL ⟨by decide,by decide,by simp⟩
   obtain ⟨ex,exl,exs,hmul⟩:=hex; have hadd:=nP (x:=ys) (y:=ex) (by omega);have cut1:bB (.list sg) none (some 1)=some (.list (sg.take 1)):=by
     show some (PyData.list (Jn sg none (some 1)))=_;congr 2;cases sg with
     | nil=>rfl
     | cons s r =>
       unfold Jn HT.sIx; simp
   have hint:Vr [.bool ys.isEmpty]=some (.int (if ys.isEmpty=true then 1 else 0)):=rfl;have htup:∀ l,Ho [.list l]=some (.tuple l):=fun _=>rfl;have hnew:kM 8 (F5 (fun δ=>((A4 (A5 5) B2) δ).bind Rp) De [0,1] (C4 (b2 (B6 (A4 (A5 2) (A4 (b2 (b2 (A5 3) (vC (.int 20)) E2) (A5 0) E2) (A4 (vC (.int 4)) B2))) B8) (vC (.int 0)) dEq)) (A5 1)) [.sh (scr ns),.sh (.int a),.sh (idP p),.sh (.tuple kn),.sh (.list [.str x,.str y,.str z]),.sh (.list sg),.sh (.int way),.un,.un,.un]=.nx [.sh (scr ns),.sh (.int a),.sh (idP p),.sh (.tuple kn),.sh (.list [.str x,.str y,.str z]),.sh (.list sg),.sh (.int way),.un,.sh (.list ys),.un]:=by
     unfold kM; rw [n1]; rfl
   have t2:(E9 (E8 (A4 (vC (.str "drop")) (A4 (A5 2) (A4 (vFn (A4 (b2 (A5 8) (b2 (vSl (A5 5) Kt (Ks (vC (.int 1)))) (vFn (A4 (b2 (A5 8) (I8 B2) dEq) B2) Vr) V1) E2) B2) Ho) B2))))) [.sh (scr ns),.sh (.int a),.sh (idP p),.sh (.tuple kn),.sh (.list [.str x,.str y,.str z]),.sh (.list sg),.sh (.int way),.un,.sh (.list ys),.un]=.rt (.tuple [.str "drop",idP p,.tuple (ys++ex)]):=by
     simp_arith [dEqL,hint,cut1,hmul,hadd,htup]
   rw [W7 ((O9 t1).trans ((C5 hnew).trans t2))]; refine ⟨_,rfl,ho,.inr (.inl ⟨_,rfl,fun s hs=>hsg s (exs.1.subset hs),?_,exs.2,hsr.sublist exs.1⟩)⟩;rw [xO]; omega
 . have t1 : (W5 (C4 (b2 (A5 6) (vC (.int 2)) (I0 .Lt))) (C4 (b2 (A5 5) (I8 B2) dNe))) [.sh (scr ns), .sh (.int a), .sh (idP p), .sh (.tuple kn), .sh (.list [.str x, .str y, .str z]), .sh (.list sg), .sh (.int way), .un, .un, .un] = .ok false := by
     by_cases h2:way < 2
     . have:sg=[]:=u8 fun z=>c1 ⟨h2,z⟩
       subst this; exact Fv (C3 (C0 rfl rfl (hW h2))) (C3 (C0 rfl rfl (dNeL [])))
     . exact Jq (C3 (C0 rfl rfl (iA h2)))
   rw [D6 t1];by_cases c2:way < 5
   . obtain ⟨s1,x1,f1,g1,l1⟩:=We ns hns (a+1) (SgOf p.1 kn) sg hsg hsl
     obtain ⟨s2,x2,f2,g2,l2⟩:=We ns hns (a+3) (SgOf p.1 kn) sg hsg hsl; have hadd:=wD (x:=[.str "mark",idP p,.str q]) (y:=[.tuple [s1,.str x1],.tuple [s2,.str x2]]) (by simp);refine ⟨.tuple [.str "mark",idP p,.str q,.tuple [s1,.str x1],.tuple [s2,.str x2]],?_,ho,.inr (.inr (.inl ⟨q,s1,x1,s2,x2,rfl,g1,g2,hq,l1,l2⟩))⟩; exact Xw (W7 ((O9 (C3 (C0 rfl rfl (hW c2)))).trans ((C5 (F6 (N0 (A9 (B5 (A9 rfl (A9 (C0 rfl rfl Ai) (A9 rfl rfl))) f1) (A9 (B5 (A9 rfl (A9 (C0 rfl rfl Ai) (A9 rfl rfl))) f2) rfl))))).trans (E1 (C0 (N0 (A9 rfl (A9 rfl (A9 (C0 rfl (B5 (A9 rfl (A9 (C0 rfl rfl Ai) (A9 rfl rfl))) e5) f5) rfl)))) rfl hadd)))))
   . by_cases c3:way=5
     . refine ⟨.tuple [.str "unmark",idP p,.str q],?_,ho,.inr (.inr (.inr (.inl ⟨q,rfl,hq⟩)))⟩
       rw [D6 (C3 (C0 rfl rfl (iA c2)))]; exact Xw (W7 ((O9 (C3 (C0 rfl rfl (by rw [rD,c3]; rfl)))).trans (E1 (N0 (A9 rfl (A9 rfl (A9 (C0 rfl (B5 (A9 rfl (A9 (C0 rfl rfl Ai) (A9 rfl rfl))) e5) f5) rfl)))))))
     . have c3':(way==5)=false:=by simpa using c3
       by_cases c4:way < 8/\kn≠[]
       . have hne:kn.isEmpty=false:=by cases kn with | nil=>exact absurd rfl c4.2 | cons _ _=>rfl
         have hpos:(0:Int) < kn.length:=by cases kn with | nil=>exact absurd rfl c4.2 | cons _ _=>simp
         obtain ⟨r6,e6,a6,b6⟩:=N4 ns hns (a+6) (kn.length:Int) hpos; obtain ⟨d,hd,f6⟩:=Pg (xs:=kn) a6 b6; obtain ⟨qi,f7,hu⟩:=hids d hd; have f6':dIx (.tuple kn) (.int r6)=some d:=f6; refine ⟨.tuple [.str "undo",idP p,idP qi],?_,ho,.inr (.inr (.inr (.inr ⟨_,rfl,hu⟩)))⟩; rw [D6 (C3 (C0 rfl rfl (iA c2))),D6 (C3 (C0 rfl rfl (by rw [rD,c3'])))];exact Xw (W7 ((O9 (Le (C3 (C0 rfl rfl (hW c4.1))) (C3 (C0 rfl rfl (by rw [rC,hne]; rfl))))).trans (E1 (N0 (A9 rfl (A9 rfl (A9 (C0 (C0 rfl (B5 (A9 rfl (A9 (C0 rfl rfl Ai) (A9 (Fa (A9 rfl rfl) (lenT _)) rfl))) e6) f6') rfl f7) rfl)))))))
       . have t4 : (W5 (C4 (b2 (A5 6) (vC (.int 8)) (I0 .Lt))) (C4 (b2 (A5 3) (E8 B2) dNe))) [.sh (scr ns), .sh (.int a), .sh (idP p), .sh (.tuple kn), .sh (.list [.str x, .str y, .str z]), .sh (.list sg), .sh (.int way), .un, .un, .un] = .ok false := by
           by_cases h2:way < 8
           . have:kn=[]:=u8 fun z=>c4 ⟨h2,z⟩
             subst this; exact Fv (C3 (C0 rfl rfl (hW h2))) (C3 (C0 rfl rfl (rC [])))
           . exact Jq (C3 (C0 rfl rfl (iA h2)))
         obtain ⟨w,ew2,wl⟩:=jE ns hns (a+8); have g1:=nP (x:=[.none]) (y:=sg) (by simp; omega);have hc:bB (.list sg) (some (-3)) none=some (.list (Jn sg (some (-3)) none)):=rfl; have hcl:=rE sg (some (-3)) none; have hcm:∀ s∈Jn sg (some (-3)) none,SgOf p.1 kn s:=fun s hs=>hsg s (jP hs);generalize Jn sg (some (-3)) none=ct at *;have g2:=nP (x:=[.none]++sg) (y:=ct) (by simp; omega);obtain ⟨r7,e7,a7,b7⟩:=N4 ns hns (a+7) ((sg.length:Int)+1+(ct.length:Int)) (by omega);obtain ⟨bh,hbh,f7⟩:=ixL (xs:=[.none]++sg++ct) a7 (by simp; omega);have hneg:nC (.int 3)=some (.int (-3)):=rfl; have hb:OrN (SgOf p.1 kn) bh:=by
           rcases xC.mp hbh with h | h
           . rcases xC.mp h with h | h
             . exact .inl (wS.mp h)
             . exact .inr (hsg bh h)
           . exact .inr (hcm bh h)
         generalize [PyData.none]++sg=L1 at *;generalize L1++ct=L2' at *;refine ⟨.tuple [.str "add",idP p,bh,.str w],?_,ho,.inl ⟨bh,w,rfl,hb,wl⟩⟩; rw [D6 (C3 (C0 rfl rfl (iA c2))),D6 (C3 (C0 rfl rfl (by rw [rD,c3']))),D6 t4];have sl:vSl (A5 5) (Ks (b1 (vC (.int 3)) nC)) Kt [.sh (scr ns),.sh (.int a),.sh (idP p),.sh (.tuple kn),.sh (.list [.str x,.str y,.str z]),.sh (.list sg),.sh (.int way),.un,.un,.un]=.ok (.list ct):=sM rfl rfl rfl hc; exact Xw ((C5 (F6 (C0 (C0 (C0 rfl rfl g1) sl g2) (B5 (A9 rfl (A9 (C0 rfl rfl Ai) (A9 (C0 (C0 (Fa (A9 rfl rfl) (vD _)) rfl Ai) (Fa (A9 sl rfl) (vD _)) Ai) rfl))) e7) f7))).trans (E1 (N0 (A9 rfl (A9 rfl (A9 rfl (A9 (B5 (A9 rfl (A9 (C0 rfl rfl Ai) rfl)) ew2) rfl)))))))
noncomputable def fV:Dn->Out:=(D1 (I9 7 (b2 (b2 (A5 5) (vC (.int 0)) dIx) (B6 (A4 (A5 0) (A4 (b2 (b2 (A5 1) (vC (.int 1)) E2) (b2 (vC (.int 60)) (A5 6) V1) E2) (A4 (vC (.int 2)) B2))) B8) E2)) (D1 (I9 8 (b2 (vC (.str "abc")) (B6 (A4 (A5 0) (A4 (b2 (b2 (A5 1) (vC (.int 2)) E2) (b2 (vC (.int 60)) (A5 6) V1) E2) (A4 (vC (.int 3)) B2))) B8) dIx)) (D1 (sIf (W5 (C4 (b2 (A5 4) (E8 B2) dNe)) (C4 (b2 (E8 (A4 (A5 7) (A4 (A5 8) B2))) (A5 5) (I0 .LtE)))) (I9 7 (b2 (b2 (A5 5) (vC (.int 0)) dIx) (vC (.int 1)) E2)) E4) (D1 (I9 5 (E8 (A4 (A5 7) (A4 (A5 8) B2)))) (D1 (I9 9 (vFn (A4 (I8 (F5 (fun δ=>((A5 4) δ).bind E5) D9 [7] (C4 (b2 (b2 (b2 (A5 0) (vC (.int 1)) dIx) (vC (.int 0)) dIx) (A5 1) (I0 .Lt))) (A5 0))) B2) Ho)) (I9 4 (b2 (A5 4) (E8 (A4 (B6 (A4 (A5 0) (A4 (b2 (b2 (A5 1) (vC (.int 3)) E2) (b2 (vC (.int 60)) (A5 6) V1) E2) (A4 (A5 5) (A4 (A5 9) (A4 (A5 3) B2))))) P3) B2)) E2)))))))
theorem leS (h h':Str) (k:okH h) (k':okH h'):(h==h')=decide (hj h=hj h')/\Qr .LtE h h'=decide (hj h<=hj h'):=by
 rcases k with rfl | rfl | rfl <;> rcases k' with rfl | rfl | rfl <;> exact ⟨by decide +kernel,by decide +kernel⟩
theorem leIdE {t t':Int} {h h':Str} (k:okH h) (k':okH h'):I0 .LtE (idD t h) (idD t' h')=some (.bool (decide (key (t,h)<=key (t',h')))):=by
 obtain ⟨e1,e2⟩:=leS h h' k k';have l1:=Kz h;have l2:=Kz h';unfold I0 key;rw [if_pos (xD (Xy t h) (by decide))];show (Ev .LtE [.int t,.str h] [.int t',.str h']).map zC=_;simp only [Ev];have f1:xA (.int t) (.int t')=(t==t'):=rfl;have f2:xA (.str h) (.str h')=(h==h'):=rfl;rw [f1,f2,e1];by_cases c1:t=t'
 . subst c1
   rw [if_pos (by simp)];by_cases c2:hj h=hj h'
   . rw [if_pos (by simp [c2])]
     simp [bQ,c2]
   . rw [if_neg (by simp [c2])]
     show (some (Qr .LtE h h')).map zC=_;rw [e2]; simp only [AW];congr 3;apply propext; omega
 . rw [if_neg (by simp [c1])]
   show (some (decide (t<=t'))).map zC=_;simp only [AW];congr 3;apply propext; omega
theorem Wf.id {p:IdP} {S:wK->Prop} {U:IdP->Prop} {d:wK} (w:Wf p S U d):dIx d (.int 1)=some (idP p):=by
 obtain ⟨_,hf⟩:=w;rcases hf with ⟨_,_,q,_⟩ | ⟨_,q,_⟩ | ⟨_,_,_,_,_,q,_⟩ | ⟨_,q,_⟩ | ⟨_,q,_⟩ <;> rw [q] <;> exact M8 (j:=1) (by simp)
theorem ix0 (x:wK) (xs:List wK):dIx (.tuple (x::xs)) (.int 0)=some x:=M8 (xs:=x::xs) (j:=0) (by simp)
theorem abc {c:Nat} (h:c∈("abc" : Str).cps.toList):(⟨#[c]⟩:Str) = "a" \/ (⟨#[c]⟩:Str) = "b" \/ (⟨#[c]⟩:Str) = "c" := by
 have h':c∈[97,98,99]:=by
   have:("abc" : Str).cps.toList=[97,98,99]:=by decide
   rw [this] at h; exact h
 simp only [wR,ET,or_false] at h';rcases h' with rfl | rfl | rfl
 . exact .inl (by decide)
 . exact .inr (.inl (by decide))
 . exact .inr (.inr (by decide))
theorem fR {δc:Dn} {tt:Dn->Res Bool} (f:Dp->Bool):∀ L:List Dp,(∀ e∈L,tt ([.sh e.1]++δc)=.ok (f e))->D4 D9 δc tt (A5 0) (L.map (·.1))=.ok ((L.filter f).map (·.1))
 | [],_=>rfl
 | e::L,h=>by
   have h1:=h e (.head _); have ih:=fR f L fun e' he=>h e' (.tail _ he);rw [wU]; unfold D4; rw [show D9 e.1=.ok [.sh e.1] from rfl];simp only [h1,ih];cases hf:f e with
   | true=>rw [yH hf]; rfl
   | false=>rw [yI (by rw [hf]; decide)]
def Upk (L:List Dp):Prop:=L.Pairwise fun a b=>key a.2 < key b.2
def WfIn (L:List Dp) (e:Dp):Prop:=Wf e.2 (SgOf e.2.1 (L.map (·.1))) (fun q=>(∃ e'∈L,e'.2=q)/\q.1 < e.2.1) e.1
def BkW (L:List Dp):Prop:=(∀ e∈L,WfIn L e)/\Upk L
theorem WfIn.mono {L L':List Dp} {e:Dp} (h:WfIn L e) (k:∀ x∈L,x∈L'):WfIn L' e :=
 Wf.mono h (fun x hx=>hx.mono fun d hd=>by obtain ⟨y,hy,rfl⟩:=xK.mp hd; exact xY (k y hy)) fun q ⟨⟨y,hy,e⟩,hq⟩=>⟨⟨y,k y hy,e⟩,hq⟩
theorem jB (ns:List Int) (hns:ns.length<=63) (x y z:Str) (hxyz:Z8 x/\Z8 y/\Z8 z) (k:Int) (hk:0<=k) (hk2:k < 9) (j:Nat) (hj:j < 9) (L:List Dp) (hl:L.length=j) (hd:BkW L) (t:Int) (h:Str) (ht:1<=t) (ht2:t<=j+1) (hth:okH h) (s7 s8 s9:Sl) :
   ∃ (d:wK) (t':Int) (h':Str) (s7' s8' s9':Sl),WfIn L (d,(t',h'))/\1<=t'/\t'<=((j+1:Nat):Int)+1/\okH h'/\(L=[]\/key (t,h) < key (t',h'))/\fV [.sh (scr ns),.sh (.int 10),.sh (.int 8),.sh (.list [.str x,.str y,.str z]),.sh (.tuple (L.map (·.1))),.sh (idD t h),.sh (.int k),s7,s8,s9]
     = .nx [.sh (scr ns),.sh (.int 10),.sh (.int 8),.sh (.list [.str x,.str y,.str z]),.sh (.tuple (L.map (·.1)++[d])),.sh (idD t' h'),.sh (.int k),s7',s8',s9']:=by
 obtain ⟨r1,e1,a1,b1⟩:=N4 ns hns (10+1+60*k) 2 (by decide);obtain ⟨r2,e2,a2,b2'⟩:=N4 ns hns (10+2+60*k) 3 (by decide);obtain ⟨c,hc,f2⟩:=mK (x := "abc") a2 (by have:("abc" : Str).cps.toList.length=3:=(by decide); rw [this]; exact b2');have hh:=abc hc;generalize (⟨#[c]⟩:Str)=hd' at *;have eb:=leIdE (t:=t+r1) (t':=t) (show okH hd' from hh) hth;have go : ∀ tt : Int, 1 <= tt -> tt <= j + 2 -> ∃ d, WfIn L (d, (tt, hd')) /\ ∃ kn, (D1 (I9 5 (E8 (A4 (A5 7) (A4 (A5 8) B2)))) (D1 (I9 9 (vFn (A4 (I8 (F5 (fun δ => ((A5 4) δ).bind E5) D9 [7] (C4 (b2 (b2 (b2 (A5 0) (vC (.int 1)) dIx) (vC (.int 0)) dIx) (A5 1) (I0 .Lt))) (A5 0))) B2) Ho)) (I9 4 (b2 (A5 4) (E8 (A4 (B6 (A4 (A5 0) (A4 (b2 (b2 (A5 1) (vC (.int 3)) E2) (b2 (vC (.int 60)) (A5 6) V1) E2) (A4 (A5 5) (A4 (A5 9) (A4 (A5 3) B2))))) P3) B2)) E2))))
     [.sh (scr ns),.sh (.int 10),.sh (.int 8),.sh (.list [.str x,.str y,.str z]),.sh (.tuple (L.map (·.1))),.sh (idD t h),.sh (.int k),.sh (.int tt),.sh (.str hd'),s9]
     = .nx [.sh (scr ns),.sh (.int 10),.sh (.int 8),.sh (.list [.str x,.str y,.str z]),.sh (.tuple (L.map (·.1)++[d])),.sh (idD tt hd'),.sh (.int k),.sh (.int tt),.sh (.str hd'),.sh (.tuple kn)]:=fun tt h1 h2=>by
   have g1:=fR (δc:=[.sh (.int tt)]) (tt:=C4 (b2 (b2 (b2 (A5 0) (vC (.int 1)) dIx) (vC (.int 0)) dIx) (A5 1) (I0 .Lt))) (fun e=>decide (e.2.1 < tt)) L fun e he=>by
     have:=(hd.1 e he).id;simp_arith [this,ix0,ltI]
   have fm:∀ e∈L.filter fun e=>decide (e.2.1 < tt),e∈L/\e.2.1 < tt:=fun e he=>by
     obtain ⟨m,q⟩:=zH.mp he; exact ⟨m,of_decide_eq_true q⟩
   have fl:=CO (fun e:Dp=>decide (e.2.1 < tt)) L;obtain ⟨d,ed,wd'⟩:=qY ns hns (S:=fun p=>SgOf p.1 (L.map (·.1))) (U:=fun p q=>(∃ e'∈L,e'.2=q)/\q.1 < p.1) (10+3+60*k) (tt,hd') ⟨h1,by simp only; omega,hh⟩ (L.filter fun e=>decide (e.2.1 < tt)) (fun e he=>⟨hd.1 e (fm e he).1,(fm e he).2⟩) (hd.2.filter _) (by omega) x y z hxyz;have wd:WfIn L (d,(tt,hd')):=wd'.mono (fun x hx=>hx.mono fun q hq=>by obtain ⟨e,he,rfl⟩:=xK.mp hq; exact xY (fm e he).1) fun q ⟨e,he,hq⟩=>⟨⟨e,(fm e he).1,hq⟩,hq▸(fm e he).2⟩;have ll:(L.map (·.1)).length=j:=by rw [wT]; exact hl
   generalize (L.filter fun e=>decide (e.2.1 < tt)).map (·.1)=kn at *;refine ⟨d,wd,kn,?_⟩; have hadd:=wD (x:=L.map (·.1)) (y:=[d]) (by simp; omega);have htup:Ho [.list kn]=some (.tuple kn):=rfl; rw [C5 (F6 (N0 (A9 rfl (A9 rfl rfl))))]; simp only [xI,xJ]; rw [C5 (F6 (Fa (A9 (M3 (K1 (F4 rfl rfl) (by omega) rfl g1)) rfl) htup))]; simp only [xI,xJ];simp_arith [Ai,mB,ed,hadd]
 unfold fV;rw [C5 (F6 (d:=.int (t+r1)) (by simp_arith [ix0,Ai,mB,e1]))];simp only [xI,xJ];rw [C5 (F6 (d:=.str hd') (by simp_arith [Ai,mB,e2,f2]))];simp only [xI,xJ];have hc1:∃ b,(b=false->L=[]\/key (t,h) < key (t+r1,hd'))/\(W5 (C4 (b2 (A5 4) (E8 B2) dNe)) (C4 (b2 (E8 (A4 (A5 7) (A4 (A5 8) B2))) (A5 5) (I0 .LtE)))) [.sh (scr ns),.sh (.int 10),.sh (.int 8),.sh (.list [.str x,.str y,.str z]),.sh (.tuple (L.map (·.1))),.sh (idD t h),.sh (.int k),.sh (.int (t+r1)),.sh (.str hd'),s9]=.ok b:=by
   cases he:(L.map (·.1)).isEmpty with
   | true=>exact ⟨false,fun _=>.inl (by cases L with | nil=>rfl | cons _ _=>cases he),by simp_arith [rC,he,BS]⟩
   | false=>exact ⟨decide (key (t+r1,hd')<=key (t,h)),fun z=>.inr (by have:=of_decide_eq_false z; omega),by simp_arith [rC,he,DG,eb]⟩
 obtain ⟨b,hbk,hb⟩:=hc1;cases b with
 | true =>
   obtain ⟨d,wd,kn,ek⟩:=go (t+1) (by omega) (by omega);refine ⟨d,t+1,hd',.sh (.int (t+1)),.sh (.str hd'),.sh (.tuple kn),wd,by omega,by omega,hh,.inr (by have:=Kz h; unfold key; simp only; omega),?_⟩;rw [C5 ((O9 hb).trans (F6 (d:=.int (t+1)) (by simp_arith [ix0,Ai])))];simp only [xI,xJ]; exact ek
 | false =>
   obtain ⟨d,wd,kn,ek⟩:=go (t+r1) (by omega) (by omega);refine ⟨d,t+r1,hd',.sh (.int (t+r1)),.sh (.str hd'),.sh (.tuple kn),wd,by omega,by omega,hh,hbk rfl,?_⟩;rw [D6 hb]; exact ek
theorem BkW.snoc {L:List Dp} {d:wK} {p q:IdP} (h:BkW L) (w:WfIn L (d,q)) (hk:∀ e∈L,key e.2<=key p) (hq:L=[]\/key p < key q):BkW (L++[(d,q)])/\∀ e∈L++[(d,q)],key e.2<=key q:=by
 have lt:∀ e∈L,key e.2 < key q:=fun e he=>by
   rcases hq with z | z
   . rw [z] at he; exact nomatch he
   . have:=hk e he; omega
 have up:∀ x∈L,x∈L++[(d,q)]:=fun x hx=>yT _ hx;refine ⟨⟨fun e he=>?_,?_⟩,fun e he=>?_⟩
 . rcases xC.mp he with z | z
   . exact (h.1 e z).mono up
   . rw [wS.mp z]; exact w.mono up
 . exact j0.mpr ⟨h.2,o6 _ _,fun a ha b hb=>by rw [wS.mp hb]; exact lt a ha⟩
 . rcases xC.mp he with z | z
   . exact Int.le_of_lt (lt e z)
   . rw [wS.mp z]; exact Int.le_refl _
theorem Vw (ns:List Int) (hns:ns.length<=63) (x y z:Str) (hxyz:Z8 x/\Z8 y/\Z8 z):∀ (l:List wK),(∀ d∈l,∃ k:Int,d=.int k/\0<=k/\k < 9)->∀ (j:Nat) (L:List Dp) (t:Int) (h:Str) (s6 s7 s8 s9:Sl),j+l.length<=9->L.length=j->BkW L->(∀ e∈L,key e.2<=key (t,h))->1<=t->t<=j+1->okH h ->
   ∃ L' s5 s6' s7' s8' s9',BkW L'/\L'.length<=j+l.length/\(∀ e∈L',key e.2<=32)/\K3 (st1 6) fV l [.sh (scr ns),.sh (.int 10),.sh (.int 8),.sh (.list [.str x,.str y,.str z]),.sh (.tuple (L.map (·.1))),.sh (idD t h),s6,s7,s8,s9]=.nx [.sh (scr ns),.sh (.int 10),.sh (.int 8),.sh (.list [.str x,.str y,.str z]),.sh (.tuple (L'.map (·.1))),s5,s6',s7',s8',s9']
 | [],_,j,L,t,h,s6,s7,s8,s9,hj,hl,hd,hb,_,h2,_=>⟨L,_,_,_,_,_,hd,by rw [hl]; exact Nat.le_add_right _ _,fun e he=>by
   have:=hb e he; have h9:=Kz h; have e9:key (t,h)=3*t+(Sm.hj h:Nat):=rfl; simp only [yD] at hj; omega,rfl⟩
 | d0::l,hk,j,L,t,h,s6,s7,s8,s9,hj,hl,hd,hb,h1,h2,h3=>by
   obtain ⟨k,rfl,k0,k1⟩:=hk d0 (.head _); simp only [xB] at hj; obtain ⟨d,t',h',s7',s8',s9',wd,t1,t2,t3,kk,e⟩:=jB ns hns x y z hxyz k k0 k1 j (by omega) L hl hd t h h1 h2 h3 s7 s8 s9;obtain ⟨hB,hB2⟩:=hd.snoc wd hb kk; obtain ⟨L',s5,s6',s7'',s8'',s9'',w',l',k32,e'⟩:=Vw ns hns x y z hxyz l (fun d hd=>hk d (.tail _ hd)) (j+1) (L++[(d,(t',h'))]) t' h' (.sh (.int k)) s7' s8' s9' (by omega) (by simp [hl]) hB hB2 t1 t2 t3;refine ⟨L',s5,s6',s7'',s8'',s9'',w',by rw [xB]; omega,k32,?_⟩;unfold K3; simp only [st1,xI,xJ]; rw [e]; rw [yO] at e'; exact e'
theorem rL (ns:List Int) (hns:ns.length<=63) (x y z:Str) (hxyz:Z8 x/\Z8 y/\Z8 z):∃ L,Au [scr ns,.int 10,.int 8,.list [.str x,.str y,.str z]]=.ok (.tuple (L.map (·.1)))/\L.length<=8/\BkW L/\∀ e∈L,key e.2<=32:=by
 obtain ⟨r,e,a,b⟩:=N4 ns hns 10 (8+1) (by decide);have hmem:∀ d∈Bo 0 r,∃ k:Int,d=.int k/\0<=k/\k < 9:=fun d hd=>by
   unfold Bo at hd; obtain ⟨i,hi,rfl⟩:=xK.mp hd; have:=a9.mp hi; exact ⟨_,rfl,by omega,by omega⟩
 have hlen:(Bo 0 r).length<=9:=by unfold Bo; simp; omega
 obtain ⟨L,s5,s6,s7,s8,s9,w,l,k32,e'⟩:=Vw ns hns x y z hxyz (Bo 0 r) hmem 0 [] 1 "a" .un .un .un .un (by omega) rfl ⟨(fun _ h=>nomatch h),.nil⟩ (fun _ h=>nomatch h) (by decide) (by decide) (.inl rfl);refine ⟨L,K9 ?_,by unfold Bo at l; simp at l; omega,w,k32⟩;unfold Eg Ct Cs Cr Cq P4;simp only [F2,wU,zF,xB,yD,xF,yM,xP,zN,zM];rw [C5 (F6 (d:=.tuple []) rfl),C5 (F6 (d:=idD 1 "a") rfl)];simp only [xI,xJ];have hfor:U5 (fun δ=>((A4 (B6 (A4 (A5 0) (A4 (A5 1) (A4 (b2 (A5 2) (vC (.int 1)) E2) B2))) B8) B2) δ).bind Jg) (st1 6) fV [.sh (scr ns),.sh (.int 10),.sh (.int 8),.sh (.list [.str x,.str y,.str z]),.sh (.tuple []),.sh (idD 1 "a"),.un,.un,.un,.un]=.nx [.sh (scr ns),.sh (.int 10),.sh (.int 8),.sh (.list [.str x,.str y,.str z]),.sh (.tuple (L.map (·.1))),s5,s6,s7,s8,s9]:=by
   unfold U5; have:=eE (fs:=A4 (B6 (A4 (A5 0) (A4 (A5 1) (A4 (b2 (A5 2) (vC (.int 1)) E2) B2))) B8) B2) (δ:=[.sh (scr ns),.sh (.int 10),.sh (.int 8),.sh (.list [.str x,.str y,.str z]),.sh (.tuple []),.sh (idD 1 "a"),.un,.un,.un,.un]) (n:=r) (by simp_arith [Ai,e]) a (by omega);rw [this,E7]; exact e'
 exact (C5 hfor).trans (E1 rfl)
structure Ad where
 p:IdP
 b:Option (IdP×Nat)
 w:Str
abbrev As:=Ad×Nat
abbrev sgn (u:As):IdP×Nat:=(u.1.p,u.2)
noncomputable def blk (e:Ad):List As:=(i5 e.w.length).map fun k=>(e,k)
noncomputable def Ky (s:IdP×Nat) (l:List As):List As->List As
 | []=>[]
 | u::r=>if sgn u=s then u::(l++r) else u::Ky s l r
noncomputable def iM (x:Option (IdP×Nat)) (l L:List As):List As:=match x with
 | none=>l++L
 | some s=>Ky s l L
noncomputable def ord (B:List Ad):List As:=B.foldl (fun L a=>iM a.b (blk a) L) []
theorem Er (B:List Ad) (e:Ad):ord (B++[e])=iM e.b (blk e) (ord B):=by unfold ord; rw [List.foldl_append]; rfl
inductive Bk:List Ad->Prop where
 | nil:Bk []
 | snoc {B:List Ad} {e:Ad}:Bk B->0 < e.w.length->(∀ a∈B,key a.p < key e.p)->(e.b=none\/∃ a∈B,∃ n,n < a.w.length/\e.b=some (a.p,n))->Bk (B++[e])
theorem Pc {e:Ad} {u:As}:u∈blk e↔u.1=e/\u.2 < e.w.length:=by
 unfold blk;rw [xK];constructor
 . rintro ⟨k,hk,rfl⟩; exact ⟨rfl,a9.mp hk⟩
 . rintro ⟨h1,h2⟩; exact ⟨u.2,a9.mpr h2,by rw [<- h1]⟩
theorem aO {s:IdP×Nat} {l:List As} {v:As}:∀ {L:List As},(∃ u∈L,sgn u=s)->(v∈Ky s l L↔v∈l\/v∈L)
 | [],h=>by obtain ⟨u,hu,_⟩:=h; cases hu
 | u::r,h=>by
   unfold Ky;split
   . rw [wR,xC,wR]
     constructor
     . rintro (h | h | h)
       . exact .inr (.inl h)
       . exact .inl h
       . exact .inr (.inr h)
     . rintro (h | h | h)
       . exact .inr (.inl h)
       . exact .inl h
       . exact .inr (.inr h)
   . rename_i hn
     have h':∃ u∈r,sgn u=s:=by
       obtain ⟨x,hx,e⟩:=h; rcases wR.mp hx with rfl | hx
       . exact absurd e hn
       . exact ⟨x,hx,e⟩
     rw [wR,aO h',wR];constructor
     . rintro (h | h | h)
       . exact .inr (.inl h)
       . exact .inl h
       . exact .inr (.inr h)
     . rintro (h | h | h)
       . exact .inr (.inl h)
       . exact .inl h
       . exact .inr (.inr h)
theorem Bk.pos {B:List Ad} (h:Bk B):∀ a∈B,0 < a.w.length:=by
 induction h with
 | nil=>intro a h; cases h
 | snoc _ h0 _ _ ih =>
   intro a ha; rcases xC.mp ha with ha | ha
   . exact ih a ha
   . rw [wS.mp ha]; exact h0
theorem Bk.refs {B:List Ad} (h:Bk B):∀ c∈B,∀ q n,c.b=some (q,n)->∃ a∈B,a.p=q/\n < a.w.length:=by
 induction h with
 | nil=>intro a h; cases h
 | @snoc B e _ h0 _ hb ih =>
   intro c hc q n e1; rcases xC.mp hc with hc | hc
   . obtain ⟨a,ha,r⟩:=ih c hc q n e1; exact ⟨a,xC.mpr (.inl ha),r⟩
   . rw [wS.mp hc] at e1
     rcases hb with hb | ⟨a,ha,n',hn,hb⟩
     . rw [hb] at e1; cases e1
     . rw [hb] at e1; cases e1; exact ⟨a,xC.mpr (.inl ha),rfl,hn⟩
theorem Bk.nokid {B:List Ad} {e:Ad} (h:Bk B) (hk:∀ a∈B,key a.p < key e.p) (hb:e.b=none\/∃ a∈B,∃ n,n < a.w.length/\e.b=some (a.p,n)):∀ c∈B++[e],∀ n,c.b≠some (e.p,n):=by
 intro c hc n z;have:∃ a∈B,a.p=e.p:=by
   rcases xC.mp hc with hc | hc
   . obtain ⟨a,ha,r,_⟩:=h.refs c hc _ _ z; exact ⟨a,ha,r⟩
   . rw [wS.mp hc] at z
     rcases hb with hb | ⟨a,ha,n',hn,hb⟩
     . rw [hb] at z; cases z
     . rw [hb] at z; exact ⟨a,ha,congrArg Prod.fst (yF z)⟩
 obtain ⟨a,ha,r⟩:=this;have:=hk a ha;rw [r] at this;omega
theorem Dl {B:List Ad} (h:Bk B):∀ u,u∈ord B↔u.1∈B/\u.2 < u.1.w.length:=by
 induction h with
 | nil=>intro u; constructor <;> intro h <;> simp [ord] at h
 | @snoc B e hB h0 hk hb ih =>
   intro u; have key:u∈iM e.b (blk e) (ord B)↔u∈blk e\/u∈ord B:=by
     rcases hb with hb | ⟨a,ha,n,hn,hb⟩
     . rw [hb]; exact xC
     . rw [hb]; exact aO ⟨(a,n),(ih (a,n)).mpr ⟨ha,hn⟩,rfl⟩
   rw [Er,key,Pc,ih,xC,wS];constructor
   . rintro (⟨h1,h2⟩ | ⟨h1,h2⟩)
     . exact ⟨.inr h1,by rw [h1]; exact h2⟩
     . exact ⟨.inl h1,h2⟩
   . rintro ⟨h1 | h1,h2⟩
     . exact .inr ⟨h1,h2⟩
     . exact .inl ⟨h1,by rw [<- h1]; exact h2⟩
theorem Vi {s:IdP×Nat} {l:List As}:∀ {L:List As},(∃ u∈L,sgn u=s)->(Ky s l L).Perm (l++L)
 | [],h=>by obtain ⟨u,hu,_⟩:=h; cases hu
 | u::r,h=>by
   unfold Ky;split
   . exact (List.perm_middle (l₁:=l) (a:=u) (l₂:=r)).symm
   . rename_i hn
     have h':∃ u∈r,sgn u=s:=by
       obtain ⟨x,hx,e⟩:=h; rcases wR.mp hx with rfl | hx
       . exact absurd e hn
       . exact ⟨x,hx,e⟩
     exact ((Vi h').cons u).trans (List.perm_middle (l₁:=l) (a:=u) (l₂:=r)).symm
theorem Vk {B:List Ad} {e:Ad} (hB:Bk B) (hb:e.b=none\/∃ a∈B,∃ n,n < a.w.length/\e.b=some (a.p,n)):(iM e.b (blk e) (ord B)).Perm (blk e++ord B):=by
 rcases hb with hb | ⟨a,ha,n,hn,hb⟩
 . rw [hb]; exact BB _
 . rw [hb]; exact Vi ⟨(a,n),(Dl hB (a,n)).mpr ⟨ha,hn⟩,rfl⟩
noncomputable def sgs (B:List Ad):List As:=B.flatMap blk
theorem lN {B:List Ad} (h:Bk B):(ord B).Perm (sgs B):=by
 induction h with
 | nil=>exact BB _
 | @snoc B e hB h0 hk hb ih =>
   rw [Er]; unfold sgs; rw [List.flatMap_append]; refine (Vk hB hb).trans ?_; refine List.perm_append_comm.trans ?_; rw [List.flatMap_cons,List.flatMap_nil,xV]; exact List.Perm.append_right _ ih
theorem jC (e:Ad):((blk e).map sgn).Nodup:=by
 unfold blk;rw [AI,x4,u5];refine List.Pairwise.imp ?_ (x4.mp List.nodup_range);intro a b h z;exact h (congrArg Prod.snd z)
theorem Hx {B:List Ad} (h:Bk B):((ord B).map sgn).Nodup:=by
 induction h with
 | nil=>exact .nil
 | @snoc B e hB h0 hk hb ih =>
   rw [Er]; refine ((Vk hB hb).map sgn).nodup_iff.mpr ?_; rw [yO,AH]; refine ⟨jC e,ih,fun x hx y hy z=>?_⟩;obtain ⟨u,hu,rfl⟩:=xK.mp hx; obtain ⟨v,hv,rfl⟩:=xK.mp hy; have h1:=(Pc.mp hu).1; have h2:=((Dl hB v).mp hv).1; have h3:=hk v.1 h2; have h4:u.1.p=v.1.p:=congrArg Prod.fst z; rw [h1] at h4; rw [<- h4] at h3; omega
noncomputable def Jm (B:List Ad) (u:As):List As:=(B.filter fun c=>c.b=some (sgn u)).map fun c=>(c,0)
noncomputable def Nh (B:List Ad):List As:=(B.filter fun c=>c.b=none).map fun c=>(c,0)
noncomputable def nxt (u:As):List As:=if u.2+1 < u.1.w.length then [(u.1,u.2+1)] else []
inductive Run (B:List Ad):List As->List As->Prop where
 | nil:Run B [] []
 | step {u:As} {st out:List As}:Run B ((Jm B u).reverse++(nxt u++st)) out->Run B (u::st) (u::out)
theorem Run.blk {B:List Ad} {e:Ad} (hn:∀ c∈B,∀ n,c.b≠some (e.p,n)) {st out:List As} (h:Run B st out):∀ (j k:Nat),k+j+1=e.w.length->Run B ((e,k)::st) (((i5 e.w.length).drop k).map (fun i=>(e,i))++out):=by
 have nk:∀ k,Jm B (e,k)=[]:=fun k=>by
   unfold Jm; rw [CF.mpr (fun c hc=>by simpa using hn c hc k),zF]
 intro j;induction j with
 | zero =>
   intro k hk; have hd:(i5 e.w.length).drop k=[k]:=by
     rw [i7 (by simp; omega),List.getElem_range,AJ (by simp; omega)]
   rw [hd]; refine .step ?_; rw [nk,List.reverse_nil,xP]; unfold nxt; rw [if_neg (by show ¬ (k+1 < e.w.length); omega),xP];exact h
 | succ j ih =>
   intro k hk; have hd:(i5 e.w.length).drop k=k::(i5 e.w.length).drop (k+1):=by
     rw [i7 (by simp; omega),List.getElem_range]
   rw [hd]; refine .step ?_; rw [nk,List.reverse_nil,xP]; unfold nxt; rw [if_pos (by show k+1 < e.w.length; omega)];exact ih (k+1) (by omega)
theorem Run.new {B:List Ad} {e:Ad} (hp:0 < e.w.length) (hn:∀ c∈B,∀ n,c.b≠some (e.p,n)) {st out:List As} (h:Run B st out):Run B ((e,0)::st) (Sm.blk e++out):=by
 have:=h.blk hn (e.w.length - 1) 0 (by omega);rw [BJ] at this;exact this
theorem Mh (B:List Ad) (e:Ad) (u:As):Jm (B++[e]) u=Jm B u++if e.b=some (sgn u) then [(e,0)] else []:=by
 unfold Jm;rw [yX,yO];congr 1;by_cases c:e.b=some (sgn u)
 . rw [if_pos c,xW,if_pos (by simpa using c)]; rfl
 . rw [if_neg c,xW,if_neg (by simpa using c)]; rfl
theorem Run.old {B:List Ad} {e:Ad} {st out:List As} (h:Run B st out) (hn:∀ u∈out,e.b≠some (sgn u)):Run (B++[e]) st out:=by
 induction h with
 | nil=>exact .nil
 | @step u st out h ih =>
   refine .step ?_; rw [Mh,if_neg (hn u (.head _)),xV]; exact ih fun v hv=>hn v (.tail _ hv)
theorem Run.ins {B:List Ad} {e:Ad} {s:IdP×Nat} (he:e.b=some s) (hp:0 < e.w.length) (hk:∀ c∈B++[e],∀ n,c.b≠some (e.p,n)) {st out:List As} (h:Run B st out) (hs:∃ u∈out,sgn u=s) (nd:(out.map sgn).Nodup):Run (B++[e]) st (Ky s (Sm.blk e) out):=by
 induction h with
 | nil=>obtain ⟨u,hu,_⟩:=hs; cases hu
 | @step u st out h ih =>
   rw [wU,zG] at nd; unfold Ky;split
   . rename_i c
     refine .step ?_; rw [Mh,if_pos (by rw [he,c]),z5,zQ];refine Run.new hp hk (h.old fun v hv z=>nd.1 ?_);rw [he] at z; cases z; rw [c]; exact xY hv
   . rename_i c
     refine .step ?_; rw [Mh,if_neg (by rw [he]; intro z; cases z; exact c rfl),xV];refine ih ?_ nd.2; obtain ⟨x,hx,e1⟩:=hs; rcases wR.mp hx with rfl | hx
     . exact absurd e1 c
     . exact ⟨x,hx,e1⟩
theorem eI {B:List Ad} (h:Bk B):Run B (Nh B).reverse (ord B):=by
 induction h with
 | nil=>exact .nil
 | @snoc B e hB h0 hk hb ih =>
   have nk:=hB.nokid hk hb; rw [Er]; unfold Nh at ih ⊢;rw [yX,yO,z5]; rcases hb with hb | ⟨a,ha,n,hn,hb⟩
   . rw [hb,xW,if_pos (by simpa using hb)]
     exact Run.new h0 nk (ih.old fun u _ z=>by rw [hb] at z; cases z)
   . rw [hb,xW,if_neg (by rw [hb]; simp)]
     exact ih.ins hb h0 nk ⟨(a,n),(Dl hB (a,n)).mpr ⟨ha,hn⟩,rfl⟩ (Hx hB)
noncomputable def anD (x:Option (IdP×Nat)):wK:=match x with
 | none=>.none
 | some s=>sgD s.1 s.2
noncomputable def Ad.d (a:Ad):wK:=.tuple [.str "add",idP a.p,anD a.b,.str a.w]
inductive Adds:List Dp->List Ad->Prop where
 | nil:Adds [] []
 | add {L:List Dp} {B:List Ad} (a:Ad):Adds L B->Adds ((a.d,a.p)::L) (a::B)
 | oth {L:List Dp} {B:List Ad} {e:Dp} (k:Str) (x:wK) (xs:List wK):e.1=.tuple (.str k::idP e.2::x::xs)->k ≠ "add" -> Adds L B->Adds (e::L) B
theorem Adds.snoc {L:List Dp} {B:List Ad} (h:Adds L B) (a:Ad):Adds (L++[(a.d,a.p)]) (B++[a]):=by
 induction h with
 | nil=>exact .add a .nil
 | add c _ ih=>exact .add c ih
 | oth k x xs e n _ ih=>exact .oth k x xs e n ih
theorem Adds.snocO {L:List Dp} {B:List Ad} {e:Dp} (h:Adds L B) (k:Str) (x:wK) (xs:List wK) (h1:e.1=.tuple (.str k::idP e.2::x::xs)) (h2:k ≠ "add"):Adds (L++[e]) B:=by
 induction h with
 | nil=>exact .oth k x xs h1 h2 .nil
 | add c _ ih=>exact .add c ih
 | oth k' x' xs' e' n _ ih=>exact .oth k' x' xs' e' n ih
theorem Bx {p q:IdP} (h:idP p=idP q):p=q:=by
 simp only [idP,idD,zY,yP,AE,m8,and_true] at h;exact DD h.1 h.2
theorem Adds.of {L:List Dp} {B:List Ad} (h:Adds L B) {p:IdP} {b:wK} {w:Str} (m:yR [.str "add",idP p,b,.str w]∈L.map (·.1)):∃ a∈B,a.p=p/\a.w=w:=by
 induction h with
 | nil=>cases m
 | add c _ ih =>
   rcases wR.mp m with e | m
   . have e':yR [.str "add",idP p,b,.str w]=.tuple [.str "add",idP c.p,anD c.b,.str c.w]:=e
     injection e' with e'
     injection e' with _ e'
     injection e' with e1 e'
     injection e' with _ e'
     injection e' with e2 _
     injection e2 with e2
     exact ⟨c,.head _,(Bx e1).symm,e2.symm⟩
   . obtain ⟨a,ha,r⟩:=ih m; exact ⟨a,.tail _ ha,r⟩
 | oth k x xs e n _ ih =>
   rcases wR.mp m with e1 | m
   . replace e1:=e1.trans e
     injection e1 with e1
     injection e1 with e1 _
     injection e1 with e1
     exact absurd e1.symm n
   . exact ih m
theorem Wf.shape {p:IdP} {S:wK->Prop} {U:IdP->Prop} {d:wK} (w:Wf p S U d):(∃ b w,d=.tuple [.str "add",idP p,b,.str w]/\OrN S b/\Yq w)\/∃ k x xs,d=.tuple (.str k::idP p::x::xs)/\k ≠ "add" := by
 obtain ⟨o,r⟩:=w;rcases r with h | ⟨sg,rfl,_⟩ | ⟨n,s1,x1,s2,x2,rfl,_⟩ | ⟨n,rfl,_⟩ | ⟨i,rfl,_⟩
 . exact .inl h
 . exact .inr ⟨"drop",_,_,rfl,by decide⟩
 . exact .inr ⟨"mark",_,_,rfl,by decide⟩
 . exact .inr ⟨"unmark",_,_,rfl,by decide⟩
 . exact .inr ⟨"undo",_,_,rfl,by decide⟩
theorem mI {p q:IdP} (h:key p < key q):p.1<=q.1:=by
 have h1:=Kz p.2;have h2:=Kz q.2;unfold key at h;omega
theorem BkW.init {L:List Dp} {e:Dp} (h:BkW (L++[e])):BkW L:=by
 obtain ⟨hw,hu⟩:=h;have hu':=j0.mp hu;refine ⟨fun x hx=>?_,hu'.1⟩;have hxe:key x.2 < key e.2:=hu'.2.2 x hx e (wS.mpr rfl);have ht:=mI hxe;refine Wf.mono (hw x (xC.mpr (.inl hx))) (fun y hy=>?_) fun q hq=>?_
 . obtain ⟨p,b,w,n,hm,e1,hn,hp,ho⟩:=hy
   refine ⟨p,b,w,n,?_,e1,hn,hp,ho⟩; rw [yO] at hm; rcases xC.mp hm with hm | hm
   . exact hm
   . exfalso
     have he:yR [.str "add",idP p,b,.str w]=e.1:=by simpa using hm
     have hid:p=e.2:=by
       have w1:=(hw e (xC.mpr (.inr (.head _)))).id; rw [<- he] at w1; have w2:dIx (yR [.str "add",idP p,b,.str w]) (.int 1)=some (idP p):=M8 (xs:=[.str "add",idP p,b,.str w]) (j:=1) (by simp);rw [w2] at w1; exact Bx (yF w1)
     rw [hid] at hp; omega
 . obtain ⟨⟨e',he',rfl⟩,hq⟩:=hq
   refine ⟨?_,hq⟩; rcases xC.mp he' with he' | he'
   . exact ⟨e',he',rfl⟩
   . rw [wS.mp he'] at hq
     omega
structure BkA (L:List Dp) (B:List Ad):Prop where
 ad:Adds L B
 bk:Bk B
 wd:∀ a∈B,Yq a.w
 id:∀ a∈B,okI a.p
 inL:∀ a∈B,(a.d,a.p)∈L
 len:B.length<=L.length
theorem bka:∀ (n:Nat) (L:List Dp),L.length=n->BkW L->∃ B,BkA L B
 | 0,L,hn,_=>by
   rw [zI.mp hn]; exact ⟨[],.nil,.nil,(fun _ h=>nomatch h),(fun _ h=>nomatch h),(fun _ h=>nomatch h),xH _⟩
 | n+1,L,hn,h=>by
   have hne:L≠[]:=fun z=>by rw [z] at hn; cases hn
   obtain ⟨L',e,rfl⟩:∃ L' e,L=L'++[e]:=⟨L.dropLast,L.getLast hne,(List.dropLast_concat_getLast hne).symm⟩; have h':=h.init; obtain ⟨B,A⟩:=bka n L' (by simpa using hn) h';have hu':=j0.mp h.2; have we:=h.1 e (xC.mpr (.inr (.head _))); rcases we.shape with ⟨b,w,e1,hb,hw⟩ | ⟨k,x,xs,e1,hk⟩
   . have hx : ∃ x : Option (IdP × Nat), b = anD x /\ (x = none \/ ∃ a ∈ B, ∃ n, n < a.w.length /\ x = some (a.p, n)) := by
       rcases hb with rfl | ⟨p,b',w',n',hm,rfl,hn',hp,ho⟩
       . exact ⟨none,rfl,.inl rfl⟩
       . rw [yO] at hm
         rcases xC.mp hm with hm | hm
         . obtain ⟨a,ha,rfl,rfl⟩:=A.ad.of hm
           exact ⟨some (a.p,n'),rfl,.inr ⟨a,ha,n',hn',rfl⟩⟩
         . exfalso
           have he:yR [.str "add",idP p,b',.str w']=e.1:=by simpa using hm
           rw [e1] at he;injection he with he
           injection he with _ he
           injection he with he _
           rw [Bx he] at hp; omega
     obtain ⟨x,rfl,hx⟩:=hx; have ee:e=((⟨e.2,x,w⟩:Ad).d,(⟨e.2,x,w⟩:Ad).p):=DD e1 rfl; refine ⟨B++[⟨e.2,x,w⟩],?_,.snoc A.bk (by have:=hw.1; show 0 < w.length; omega) (fun a ha=>hu'.2.2 _ (A.inL a ha) e (wS.mpr rfl)) hx,fun a ha=>?_,fun a ha=>?_,fun a ha=>?_,by simp; exact A.len⟩
     . rw [ee]; exact A.ad.snoc _
     . rcases xC.mp ha with ha | ha
       . exact A.wd a ha
       . rw [wS.mp ha]; exact hw
     . rcases xC.mp ha with ha | ha
       . exact A.id a ha
       . rw [wS.mp ha]; exact we.1
     . rcases xC.mp ha with ha | ha
       . exact xC.mpr (.inl (A.inL a ha))
       . rw [wS.mp ha,<- ee]; exact xC.mpr (.inr (.head _))
   . refine ⟨B,A.ad.snocO k x xs e1 hk,A.bk,A.wd,A.id,fun a ha=>xC.mpr (.inl (A.inL a ha)),by simp; have:=A.len; omega⟩
theorem bka' {L:List Dp} (h:BkW L):∃ B,BkA L B:=bka _ L rfl h
theorem T9 (x:wK) (xs:List wK):dIx (.tuple (x::xs)) (.int 0)=some x:=M8 (xs:=x::xs) (j:=0) (by simp)
theorem Ic (x y:wK) (xs:List wK):dIx (.tuple (x::y::xs)) (.int 1)=some y:=M8 (xs:=x::y::xs) (j:=1) (by simp)
theorem Yu (x y z:wK) (xs:List wK):dIx (.tuple (x::y::z::xs)) (.int 2)=some z:=M8 (xs:=x::y::z::xs) (j:=2) (by simp)
theorem gH (x y z u:wK) (xs:List wK):dIx (.tuple (x::y::z::u::xs)) (.int 3)=some u:=M8 (xs:=x::y::z::u::xs) (j:=3) (by simp)
theorem vB (w:Str):U1 [.str w]=some (.int (w.length:Int)):=rfl
theorem kH (a:Ad):D2 [a.d]=.ok (.int (a.w.length:Int)):=by
 unfold D2 Q5 T6 Ad.d;simp_arith [vIf,T9,gH,Hr,sL,vB]
theorem kG {k:Str} {i:wK} {xs:List wK} (h:k ≠ "add"):D2 [.tuple (.str k::i::xs)]=.ok (.int 0):=by
 unfold D2 Q5 T6;have:(k==("add" : Str))=false:=beq_eq_false_iff_ne.mpr h;simp_arith [vIf,T9,Hr,this]
noncomputable def Xq (kvs:Kvs) (x:wK):wK:=(G6 kvs x).getD (.list [])
theorem Ao (x y:Option (IdP×Nat)):xA (anD x) (anD y)=decide (x=y):=by
 cases x with
 | none=>cases y with
   | none=>rfl
   | some s=>rfl
 | some s=>cases y with
   | none=>rfl
   | some t =>
     show ((xA (idP s.1) (idP t.1))&&((xA (.int s.2) (.int t.2))&&true))=_;show (((s.1.1==t.1.1)&&((s.1.2==t.1.2)&&true))&&(((s.2:Int)==(t.2:Int))&&true))=_;rw [i6]; obtain ⟨⟨a,b⟩,c⟩:=s; obtain ⟨⟨a',b'⟩,c'⟩:=t; simp;intro _ _; omega
def nR (kvs:Kvs):Prop:=∀ p∈kvs,(∃ x,p.1=anD x)/\∃ ds,p.2=.list ds
theorem fY {kvs:Kvs} (h:nR kvs) (x:Option (IdP×Nat)) (v:wK):nR (Oq kvs (anD x) v)/\∀ y,∃ ds,Xq kvs (anD y)=.list ds/\Xq (Oq kvs (anD x) v) (anD y)=.list (if x=y then ds++[v] else ds):=by
 induction kvs with
 | nil =>
   refine ⟨fun p hp=>?_,fun y=>⟨[],rfl,?_⟩⟩
   . rw [wS.mp hp]; exact ⟨⟨x,rfl⟩,_,rfl⟩
   . show ((FS (fun p=>xA p.1 (anD y)) [(anD x,PyData.list [v])]).map (·.2)).getD (.list [])=_
     rw [xR,Ao];by_cases c:x=y
     . rw [decide_eq_true c,if_pos c]; rfl
     . rw [decide_eq_false c,if_neg c]; rfl
 | cons p r ih =>
   obtain ⟨⟨z,hz⟩,ds0,hd⟩:=h p (.head _); obtain ⟨i1,i2⟩:=ih fun q hq=>h q (.tail _ hq);unfold Oq; rw [hz,Ao];by_cases c:z=x
   . rw [if_pos (decide_eq_true c),hd]
     refine ⟨fun q hq=>?_,fun y=>?_⟩
     . rcases wR.mp hq with rfl | hq
       . exact ⟨⟨z,rfl⟩,_,rfl⟩
       . exact h q (.tail _ hq)
     . unfold Xq G6
       rw [xR,xR,hz,Ao];by_cases c2:z=y
       . rw [decide_eq_true c2]
         exact ⟨ds0,by rw [show (some p:Option (wK×wK)).map (·.2)=some p.2 from rfl,hd]; rfl,by rw [if_pos (c.symm.trans c2)]; rfl⟩
       . rw [decide_eq_false c2]
         obtain ⟨ds,e1,_⟩:=i2 y; exact ⟨ds,e1,by rw [if_neg (fun w=>c2 (c.trans w))]; exact e1⟩
   . rw [if_neg (by rw [decide_eq_false c]; decide)]
     refine ⟨fun q hq=>?_,fun y=>?_⟩
     . rcases wR.mp hq with rfl | hq
       . exact ⟨⟨z,hz⟩,_,hd⟩
       . exact i1 q hq
     . unfold Xq G6
       rw [xR,xR,hz,Ao];by_cases c2:z=y
       . rw [decide_eq_true c2]
         exact ⟨ds0,by rw [show (some p:Option (wK×wK)).map (·.2)=some p.2 from rfl,hd]; rfl,by rw [if_neg (fun w=>c (c2.trans w.symm)),show (some p:Option (wK×wK)).map (·.2)=some p.2 from rfl,hd]; rfl⟩
       . rw [decide_eq_false c2]
         exact i2 y
theorem Jt (x:Option (IdP×Nat)):nkD (anD x)=true:=by
 cases x with
 | none=>rfl
 | some s=>simp [anD,nkD,Ig,isK,yS,yV]
theorem vS {L:List Dp} {B:List Ad} (h:Adds L B) (hp:∀ a∈B,0 < a.w.length) (bk:wK):∀ (kvs:Kvs),nR kvs->∃ out,Ty [.sh bk,.un,.un] 2 (C4 (b2 (B6 (A4 (A5 2) B2) D2) (vC (.int 0)) (Gm .Gt))) (b2 (A5 2) (vC (.int 2)) dIx) (A5 2) (L.map (·.1)) kvs=.ok out /\
   ∀ y,∃ ds,Xq kvs (anD y)=.list ds/\Xq out (anD y)=.list (ds++(B.filter fun a=>a.b=y).map Ad.d):=by
 induction h with
 | nil =>
   intro kvs g; refine ⟨kvs,rfl,fun y=>?_⟩;obtain ⟨ds,e,_⟩:=(fY g none .none).2 y; exact ⟨ds,e,by simpa using e⟩
 | @add L B a _ ih =>
   intro kvs g; obtain ⟨g1,g2⟩:=fY g a.b a.d; obtain ⟨out,e,k⟩:=ih (fun c hc=>hp c (.tail _ hc)) _ g1;have ha:=hp a (.head _); have gt:Gm .Gt (.int (a.w.length:Int)) (.int 0)=some (.bool true):=by
     show some (zC (decide ((0:Int) < a.w.length)))=_;rw [decide_eq_true (by omega)]
   refine ⟨out,?_,fun y=>?_⟩
   . rw [wU]
     unfold Ty; have e1:(C4 (b2 (B6 (A4 (A5 2) B2) D2) (vC (.int 0)) (Gm .Gt))) ([Sl.sh bk,.un,.un].set 2 (.sh a.d))=.ok true:=by simp_arith [kH,gt]
     have e2:(b2 (A5 2) (vC (.int 2)) dIx) ([Sl.sh bk,.un,.un].set 2 (.sh a.d))=.ok (anD a.b):=by unfold Ad.d; simp_arith [Yu]
     rw [e1,e2]; show (if nkD (anD a.b)=true then _ else _)=_;rw [if_pos (Jt _)]; exact e
   . obtain ⟨ds,e3,e4⟩:=g2 y
     obtain ⟨ds',e5,e6⟩:=k y; rw [e4] at e5; cases e5; refine ⟨ds,e3,?_⟩; rw [e6];by_cases c:a.b=y
     . rw [if_pos c,xW,if_pos (by simpa using c)]; simp
     . rw [if_neg c,xW,if_neg (by simpa using c)]
 | @oth L B e k x xs he hk _ ih =>
   intro kvs g; obtain ⟨out,e2,kk⟩:=ih hp kvs g; refine ⟨out,?_,kk⟩; rw [wU]; unfold Ty; have gt:Gm .Gt (.int 0) (.int 0)=some (.bool false):=rfl; have e1:(C4 (b2 (B6 (A4 (A5 2) B2) D2) (vC (.int 0)) (Gm .Gt))) ([Sl.sh bk,.un,.un].set 2 (.sh e.1))=.ok false:=by rw [he]; simp_arith [kG hk,gt]
   rw [e1]; exact e2
theorem jD {L:List Dp} {B:List Ad} (A:BkA L B) (hl:L.length<=20):∃ out,T5 [.tuple (L.map (·.1))]=.ok out/\∀ y,Xq out (anD y)=.list ((B.filter fun a=>a.b=y).map Ad.d):=by
 obtain ⟨out,e,k⟩:=vS A.ad A.bk.pos (.tuple (L.map (·.1))) [] (fun _ h=>nomatch h);refine ⟨out,?_,fun y=>?_⟩
 . unfold T5 Bm Ap fnW F2 Gn Eh oJ Xn
   simp only [wU,zF,xB,yD,zN,zM,xF,yM,xP,xI,xJ,yQ,GD,X9,U4,C7,E5,E7]; rw [if_pos ⟨by rw [wT]; omega,by decide⟩,e];rfl
 . obtain ⟨ds,e1,e2⟩:=k y
   cases e1; exact e2
noncomputable def bK:Dn->Out:=(D1 (gO 2 4) (D1 (I9 5 (b2 (A5 4) (vC (.int 0)) dIx)) (D1 (I9 6 (b2 (A5 4) (vC (.int 1)) dIx)) (D1 (I9 7 (E8 (A4 (b2 (A5 5) (vC (.int 1)) dIx) (A4 (A5 6) B2)))) (D1 (Gq 3 (E8 (A4 (A5 7) (A4 (b2 (b2 (A5 5) (vC (.int 3)) dIx) (A5 6) dIx) B2)))) (D1 (sIf (C4 (b2 (b2 (A5 6) (vC (.int 1)) E2) (vFn (A4 (b2 (A5 5) (vC (.int 3)) dIx) B2) U1) (I0 .Lt))) (Gq 2 (E8 (A4 (A5 5) (A4 (b2 (A5 6) (vC (.int 1)) E2) B2)))) E4) (gP 2 (F5 (fun δ=>((Pm 1 (A5 7) (I8 B2)) δ).bind E5) D9 [] K5 (E8 (A4 (A5 0) (A4 (vC (.int 0)) B2)))))))))))
abbrev wt (u:As):wK:=.tuple [u.1.d,.int (u.2:Int)]
noncomputable def ltr (u:As):Str:=⟨#[u.1.w.cps.toList.getD u.2 0]⟩
abbrev sgA (u:As):wK:=sgD u.1.p (u.2:Int)
abbrev tl (u:As):wK:=.tuple [sgA u,.str (ltr u)]
theorem jV (x:Str):x.length=x.cps.toList.length:=by unfold Str.length; simp
theorem uZ {u:As} (h:u.2 < u.1.w.length):dIx (.str u.1.w) (.int (u.2:Int))=some (.str (ltr u)):=by
 have h':u.2 < u.1.w.cps.toList.length:=by rw [<- jV]; exact h
 show (atI u.1.w.cps.toList (u.2:Int)).map _=_;rw [M8 h'];unfold ltr;rw [FR,yJ h'];rfl
theorem oI {i j:Nat} {δ:Dn} {W:List wK} {d:wK} (h:δ[i]? = some (.ow (.list (W++[d])))) (hij:i≠j):gO i j δ=.nx ((δ.set i (.ow (.list W))).set j (.sh d)):=by
 unfold gO;rw [h];simp [hij]
theorem Kj {i:Nat} {δ:Dn} {f:Dn->Res wK} {W:List wK} {d:wK} (h:δ[i]? = some (.ow (.list W))) (hf:f δ=.ok d) (hl:W.length<=1000):Gq i f δ=.nx (δ.set i (.ow (.list (W++[d])))):=by
 unfold Gq;rw [h];show O7 (f δ) _=_;rw [hf,E7,if_pos (BM hl (by decide))]
theorem oK {i:Nat} {δ:Dn} {f:Dn->Res (List wK)} {W ds:List wK} (h:δ[i]? = some (.ow (.list W))) (hf:f δ=.ok ds) (hl:W.length+ds.length<=1000):gP i f δ=.nx (δ.set i (.ow (.list (W++ds)))):=by
 unfold gP;rw [h];show O7 (f δ) _=_;rw [hf,E7,if_pos (xD hl (by decide))]
theorem fQ (δc:Dn):∀ ds:List Ad,D4 D9 δc K5 (E8 (A4 (A5 0) (A4 (vC (.int 0)) B2))) (ds.map Ad.d)=.ok (ds.map fun a=>wt (a,0))
 | ds=>Eu Ad.d (fun a=>wt (a,0)) (fun a=>by simp_arith; rfl) ds
theorem Run.len {B:List Ad} {st out:List As} (h:Run B st out):st.length<=out.length:=by
 induction h with
 | nil=>exact xH _
 | step _ ih=>simp only [xO,xB] at ih ⊢; omega
theorem qA (B:List Ad) (u:As):(Jm B u).map wt=((B.filter fun a=>a.b=some (sgn u)).map fun a=>wt (a,0)):=by
 unfold Jm;rw [AI]; rfl
theorem oD {B:List Ad} {b:wK} {kvs:Kvs} (hk:∀ y,Xq kvs (anD y)=.list ((B.filter fun a=>a.b=y).map Ad.d)) {u:As} (hu:u.2 < u.1.w.length) (W T:List wK) (hl:W.length+1+(Jm B u).length<=900) (hT:T.length<=900) (s4 s5 s6 s7:Sl) :
   ∃ t4 t5 t6 t7,bK [.sh b,.ow (.tuple [.dict kvs,.none]),.ow (.list (W++[wt u])),.ow (.list T),s4,s5,s6,s7]=.nx [.sh b,.ow (.tuple [.dict kvs,.none]),.ow (.list (W++(nxt u).map wt++(Jm B u).map wt)),.ow (.list (T++[tl u])),t4,t5,t6,t7]:=by
 refine ⟨.sh (wt u),.sh u.1.d,.sh (.int u.2),.sh (sgA u),?_⟩;unfold bK;rw [C5 (oI (W:=W) rfl (by decide))];simp only [xI,xJ];rw [C5 (F6 (d:=u.1.d) (by simp_arith [T9]))];simp only [xI,xJ];rw [C5 (F6 (d:=.int (u.2:Int)) (by simp_arith [Ic]))];simp only [xI,xJ];rw [C5 (F6 (d:=sgA u) (by unfold Ad.d; simp_arith [Ic]))];simp only [xI,xJ];rw [C5 (Kj (W:=T) (d:=tl u) rfl (by unfold Ad.d; simp_arith [gH,uZ hu]) (by omega))];simp only [xI,xJ];have hif : sIf (C4 (b2 (b2 (A5 6) (vC (.int 1)) E2) (vFn (A4 (b2 (A5 5) (vC (.int 3)) dIx) B2) U1) (I0 .Lt))) (Gq 2 (E8 (A4 (A5 5) (A4 (b2 (A5 6) (vC (.int 1)) E2) B2)))) E4 [.sh b, .ow (.tuple [.dict kvs, .none]), .ow (.list W), .ow (.list (T ++ [tl u])), .sh (wt u), .sh u.1.d, .sh (.int u.2), .sh (sgA u)]
     = .nx [.sh b,.ow (.tuple [.dict kvs,.none]),.ow (.list (W++(nxt u).map wt)),.ow (.list (T++[tl u])),.sh (wt u),.sh u.1.d,.sh (.int u.2),.sh (sgA u)]:=by
   unfold nxt;by_cases c:u.2+1 < u.1.w.length
   . rw [if_pos c,O9 (by unfold Ad.d; simp_arith [gH,vB,Ai,hW (show (u.2:Int)+1 < (u.1.w.length:Int) by omega)])]
     rw [Kj (W:=W) (d:=wt (u.1,u.2+1)) rfl (by simp_arith [Ai]; rfl) (by omega)];rfl
   . rw [if_neg c,N3 (by unfold Ad.d; simp_arith [gH,vB,Ai,iA (show ¬ (u.2:Int)+1 < (u.1.w.length:Int) by omega)])]
     simp [E4]
 rw [C5 hif];have hnl:(nxt u).length<=1:=by unfold nxt; split <;> simp
 have hgl:(B.filter fun a=>a.b=some (sgn u)).length=(Jm B u).length:=by unfold Jm; rw [wT]
 have hget:(fun δ=>((Pm 1 (A5 7) (I8 B2)) δ).bind E5) [.sh b,.ow (.tuple [.dict kvs,.none]),.ow (.list (W++(nxt u).map wt)),.ow (.list (T++[tl u])),.sh (wt u),.sh u.1.d,.sh (.int u.2),.sh (sgA u)]=.ok ((B.filter fun a=>a.b=some (sgn u)).map Ad.d):=by
   refine F4 (d:=.list ((B.filter fun a=>a.b=some (sgn u)).map Ad.d)) ?_ rfl;rw [<- hk (some (sgn u))]; show (if nkD (anD (some (sgn u)))=true then Res.ok ((G6 kvs (anD (some (sgn u)))).getD (.list [])) else Res.no)=_;rw [if_pos (Jt (some (sgn u)))]; rfl
 rw [oK (W:=W++(nxt u).map wt) (ds:=(Jm B u).map wt) rfl (K1 hget (by rw [wT,hgl]; omega) rfl (by rw [qA]; exact fQ _ _)) (by simp only [xO,wT]; omega)];rfl
theorem jF {B:List Ad} {b:wK} {kvs:Kvs} (hk:∀ y,Xq kvs (anD y)=.list ((B.filter fun a=>a.b=y).map Ad.d)) {st out:List As} (h:Run B st out):(∀ u∈out,u.2 < u.1.w.length)->∀ (n:Nat) (T:List wK) (s4 s5 s6 s7:Sl),out.length < n->T.length+out.length<=800 ->
   ∃ t4 t5 t6 t7,He (bI 2) bK n [.sh b,.ow (.tuple [.dict kvs,.none]),.ow (.list (st.reverse.map wt)),.ow (.list T),s4,s5,s6,s7]=.nx [.sh b,.ow (.tuple [.dict kvs,.none]),.ow (.list []),.ow (.list (T++out.map tl)),t4,t5,t6,t7]:=by
 induction h with
 | nil =>
   intro _ n T s4 s5 s6 s7 hn _;cases n with
   | zero=>cases hn
   | succ n =>
     refine ⟨s4,s5,s6,s7,?_⟩; unfold He; rw [show bI 2 [Sl.sh b,.ow (.tuple [.dict kvs,.none]),.ow (.list (([]:List As).reverse.map wt)),.ow (.list T),s4,s5,s6,s7]=.ok false from rfl,E7,if_neg (by decide)];simp
 | @step u st out h ih =>
   intro hu n T s4 s5 s6 s7 hn hT; have hlen:=h.len; simp only [xO,DQ,xB] at hlen hn hT;cases n with
   | zero=>cases hn
   | succ n =>
     have e1:(u::st).reverse.map wt=st.reverse.map wt++[wt u]:=by rw [List.reverse_cons,yO]; rfl
     rw [e1]; obtain ⟨a4,a5,a6,a7,e2⟩:=oD (b:=b) hk (hu u (.head _)) (st.reverse.map wt) T (by rw [wT,DQ]; omega) (by omega) s4 s5 s6 s7;have e3:(st.reverse.map wt++(nxt u).map wt++(Jm B u).map wt)=((Jm B u).reverse++(nxt u++st)).reverse.map wt:=by
       have hr:(nxt u).reverse=nxt u:=by unfold nxt; split <;> rfl
       rw [z5,z5,GX,hr,yO,yO]
     rw [e3] at e2; obtain ⟨t4,t5,t6,t7,e4⟩:=ih (fun v hv=>hu v (.tail _ hv)) n (T++[tl u]) a4 a5 a6 a7 (by omega) (by rw [xO]; simp; omega);refine ⟨t4,t5,t6,t7,?_⟩; unfold He; have ec:bI 2 [Sl.sh b,.ow (.tuple [.dict kvs,.none]),.ow (.list (st.reverse.map wt++[wt u])),.ow (.list T),s4,s5,s6,s7]=.ok true:=by
       show Res.ok (!(st.reverse.map wt++[wt u]).isEmpty)=_;simp
     rw [ec,E7,if_pos rfl,e2]; show He (bI 2) bK n _=_;rw [e4,zQ]; rfl
theorem oF {B:List Ad} (h:∀ a∈B,Yq a.w):(sgs B).length<=4*B.length:=by
 unfold sgs;induction B with
 | nil=>exact xH _
 | cons a B ih =>
   rw [List.flatMap_cons,xO,xB]; have:=ih fun c hc=>h c (.tail _ hc);have h2:=(h a (.head _)).2.1; have h3:(blk a).length=a.w.length:=by unfold blk; simp
   omega
theorem Fq {L:List Dp} {B:List Ad} (A:BkA L B):(ord B).length<=4*L.length:=by
 have h1:=(lN A.bk).length_eq;have h2:=oF A.wd;have h3:=A.len;omega
theorem Di {L:List Dp} {B:List Ad} (A:BkA L B) (hl:L.length<=20):K6 [.tuple (L.map (·.1))]=.ok (.list ((ord B).map tl)):=by
 obtain ⟨kvs,e1,hk⟩:=jD A hl;have hol:=Fq A;unfold K6 Fk P9;refine K9 ?_;unfold F2;simp only [wU,zF,xB,yD,zN,zM,xF,yM,xP];rw [C5 (δ':=[.sh (.tuple (L.map (·.1))),.ow (.tuple [.dict kvs,.none]),.un,.un,.un,.un,.un,.un]) (by unfold Dz Y8 Ch; simp_arith [e1])];have hrl:(Nh B).length<=80:=by
   have:=(eI A.bk).len; rw [DQ] at this; omega
 have hgl:(B.filter fun a=>a.b=none).length=(Nh B).length:=by unfold Nh; rw [wT]
 have hget:(fun δ=>((Pm 1 (vC .none) (I8 B2)) δ).bind E5) [.sh (.tuple (L.map (·.1))),.ow (.tuple [.dict kvs,.none]),.un,.un,.un,.un,.un,.un]=.ok ((B.filter fun a=>a.b=none).map Ad.d):=by
   refine F4 (d:=.list ((B.filter fun a=>a.b=none).map Ad.d)) ?_ rfl;rw [<- hk none]; rfl
 rw [C5 (δ':=[.sh (.tuple (L.map (·.1))),.ow (.tuple [.dict kvs,.none]),.ow (.list (((Nh B).reverse).reverse.map wt)),.un,.un,.un,.un,.un]) (by
   unfold Dy Oc; rw [K1 hget (by rw [wT,hgl]; omega) rfl (fQ _ _),E7,GX];unfold Nh; rw [AI]; rfl)]
 rw [C5 (δ':=[.sh (.tuple (L.map (·.1))),.ow (.tuple [.dict kvs,.none]),.ow (.list (((Nh B).reverse).reverse.map wt)),.ow (.list []),.un,.un,.un,.un]) (by rfl)];obtain ⟨t4,t5,t6,t7,e2⟩:=jF (b:=.tuple (L.map (·.1))) hk (eI A.bk) (fun u hu=>((Dl A.bk u).mp hu).2) 4096 [] .un .un .un .un (by omega) (by simp; omega);rw [xP] at e2;have e3:Dx=He (bI 2) bK 4096:=rfl;rw [e3,C5 e2];rfl
noncomputable def Vx:Dn->Out:=(sIf (W5 (C4 (b2 (b2 (A5 2) (vC (.int 0)) dIx) (vC (.str "undo")) dEq)) (C4 (T8 true 1 (b2 (A5 2) (vC (.int 1)) dIx)))) (Y3 1 (b2 (A5 2) (vC (.int 2)) dIx) (vC (.bool true))) E4)
noncomputable def Mw:Dn->Out:=(sIf (W5 (C4 (b2 (b2 (A5 3) (vC (.int 0)) dIx) (vC (.str "drop")) dEq)) (C4 (T8 true 1 (b2 (A5 3) (vC (.int 1)) dIx)))) (U5 (fun δ=>((b2 (A5 3) (vC (.int 2)) dIx) δ).bind E5) (st1 4) (Y3 2 (A5 4) (vC (.bool true)))) E4)
abbrev sgO (s:IdP×Nat):wK:=anD (some s)
inductive Kd (e:Dp):Prop where
 | drop (ss:List (IdP×Nat)):e.1=.tuple [.str "drop",idP e.2,.tuple (ss.map sgO)]->ss.length<=40->Kd e
 | undo (q:IdP):e.1=.tuple [.str "undo",idP e.2,idP q]->Kd e
 | oth (k:Str) (x:wK) (xs:List wK):e.1=.tuple (.str k::idP e.2::x::xs)->k ≠ "drop" -> k ≠ "undo" -> Kd e
theorem Qk {T:Int} {D:List wK}:∀ (sg:List wK),(∀ x∈sg,SgOf T D x)->∃ ss:List (IdP×Nat),sg=ss.map sgO
 | [],_=>⟨[],rfl⟩
 | x::sg,h=>by
   obtain ⟨ss,e⟩:=Qk sg fun y hy=>h y (.tail _ hy);obtain ⟨p,b,w,n,_,e1,_⟩:=h x (.head _); exact ⟨(p,n)::ss,by rw [wU,<- e,e1]; rfl⟩
theorem WfIn.kd {L:List Dp} {e:Dp} (h:WfIn L e):Kd e:=by
 obtain ⟨o,r⟩:=(show Wf _ _ _ _ from h);rcases r with ⟨b,w,e1,_⟩ | ⟨sg,e1,hs,hl,_⟩ | ⟨n,s1,x1,s2,x2,e1,_⟩ | ⟨n,e1,_⟩ | ⟨q,e1,_⟩
 . exact .oth "add" _ _ e1 (by decide) (by decide)
 . obtain ⟨ss,rfl⟩:=Qk sg hs
   exact .drop ss e1 (by simpa using hl)
 . exact .oth "mark" _ _ e1 (by decide) (by decide)
 . exact .oth "unmark" _ _ e1 (by decide) (by decide)
 . exact .undo q e1
theorem Kd.id {e:Dp} (h:Kd e):∃ k x xs,e.1=.tuple (.str k::idP e.2::x::xs):=by
 cases h with
 | drop ss h _=>exact ⟨_,_,_,h⟩
 | undo q h=>exact ⟨_,_,_,h⟩
 | oth k x xs h _ _=>exact ⟨_,_,_,h⟩
abbrev oN (kvs:Kvs):Sl:=.ow (.tuple [.dict kvs,.none])
abbrev fN (kvs:Kvs):Sl:=.fd ((.dict [],.none)::kvs)
theorem Dg {b:Bool} {i:Nat} {f:Dn->Res wK} {δ:Dn} {kvs:Kvs} {kd:wK} (h:kvN δ i=some kvs) (hf:f δ=.ok kd) (hk:nkD kd=true):T8 b i f δ=.ok (.bool ((G6 kvs kd).isSome != b)):=by
 unfold T8;rw [hf,C7,h];show (if nkD kd=true then _ else _)=_;rw [if_pos hk]
theorem Y6 (p:IdP):nkD (idP p)=true:=by simp [nkD,Ig,isK,yS,yV]
theorem Ep {i:Nat} {fk fv:Dn->Res wK} {δ:Dn} {kvs:Kvs} {kd v:wK} (h:δ[i]? = some (oN kvs)) (hv:fv δ=.ok v) (hk:fk δ=.ok kd) (hn:nkD kd=true) (hl:kvs.length<=1000):Y3 i fk fv δ=.nx (δ.set i (oN (N7 kvs kd v))):=by
 unfold Y3;rw [h];show O7 (fv δ) _=_;rw [hv,E7,hk,E7,if_pos ⟨hn,BM hl (by decide)⟩]
theorem Br {x y:Str} (h:x≠y):(x==y)=false:=beq_eq_false_iff_ne.mpr h
theorem Gh (x:Str):(x==x)=true:=beq_self_eq_true x
abbrev has (kvs:Kvs) (y:Option (IdP×Nat)):Bool:=(G6 kvs (anD y)).isSome
abbrev Lh (kvs:Kvs):Prop:=∀ p∈kvs,∃ x,p.1=anD x
theorem kS {kvs:Kvs} (h:Lh kvs) (x:Option (IdP×Nat)) (v:wK):Lh (N7 kvs (anD x) v)/\∀ y,has (N7 kvs (anD x) v) y=(decide (x=y)||has kvs y):=by
 induction kvs with
 | nil =>
   refine ⟨fun p hp=>?_,fun y=>?_⟩
   . rw [wS.mp hp]; exact ⟨x,rfl⟩
   . show ((FS (fun p=>xA p.1 (anD y)) [(anD x,v)]).map (·.2)).isSome=_
     rw [xR,Ao];cases decide (x=y) <;> rfl
 | cons p r ih =>
   obtain ⟨z,hz⟩:=h p (.head _); obtain ⟨i1,i2⟩:=ih fun q hq=>h q (.tail _ hq);unfold N7; rw [hz,Ao];by_cases c:z=x
   . rw [if_pos (decide_eq_true c)]
     refine ⟨fun q hq=>?_,fun y=>?_⟩
     . rcases wR.mp hq with rfl | hq
       . exact ⟨z,rfl⟩
       . exact h q (.tail _ hq)
     . unfold has G6
       rw [xR,xR,hz,Ao,c];cases decide (x=y) <;> rfl
   . rw [if_neg (by rw [decide_eq_false c]; decide)]
     refine ⟨fun q hq=>?_,fun y=>?_⟩
     . rcases wR.mp hq with rfl | hq
       . exact ⟨z,hz⟩
       . exact i1 q hq
     . unfold has G6
       rw [xR,xR,hz,Ao];cases hd:decide (z=y) with
       | true=>simp
       | false=>exact i2 y
noncomputable def Hn (un:IdP->Bool) (e:Dp) (s:IdP×Nat):Bool:=match e.1 with
 | .tuple (.str k::_::.tuple xs::_)=>(k == "drop")&&(!un e.2)&&(xs.any fun y=>xA y (sgO s))
 | _=>false
theorem Ag {un:IdP->Bool} {e:Dp} {s:IdP×Nat} {k:Str} {i x:wK} {xs:List wK} (h:e.1=.tuple (.str k::i::x::xs)) (hk:k ≠ "drop"):Hn un e s=false:=by
 unfold Hn;rw [h];split
 . rename_i heq
   injection heq with heq
   injection heq with h1 _
   injection h1 with h1
   rw [<- h1,Br hk]; rfl
 . rfl
theorem Zv (b:wK) (ku:Kvs) (s3:Sl):∀ (ss:List (IdP×Nat)) (kvs:Kvs) (s4:Sl),Lh kvs->kvs.length+ss.length<=900->∃ kvs' s4',Lh kvs'/\kvs'.length<=kvs.length+ss.length/\(∀ y,has kvs' y=(has kvs y||ss.any fun s=>decide (some s=y))) /\
   K3 (st1 4) (Y3 2 (A5 4) (vC (.bool true))) (ss.map sgO) [.sh b,fN ku,oN kvs,s3,s4]=.nx [.sh b,fN ku,oN kvs',s3,s4']
 | [],kvs,s4,hk,_=>⟨kvs,s4,hk,by simp,fun y=>by simp,rfl⟩
 | s::ss,kvs,s4,hk,hl=>by
   rw [xB] at hl; obtain ⟨g1,g2⟩:=kS hk (some s) (.bool true); have l1:=Dc (k:=sgO s) (v:=zC true) kvs; obtain ⟨kvs',s4',k1,k2,k3,k4⟩:=Zv b ku s3 ss (N7 kvs (sgO s) (.bool true)) (.sh (sgO s)) g1 (by omega);refine ⟨kvs',s4',k1,by rw [xB]; omega,fun y=>?_,?_⟩
   . rw [k3,g2,EA]
     cases decide (some s=y) <;> simp
   . rw [wU]
     unfold K3; simp only [st1,xI,xJ]; rw [Ep (kd:=sgO s) (v:=.bool true) rfl rfl rfl (Jt _) (by omega)]; exact k4
theorem mV {e:Dp} (h:Kd e) (b:wK) (ku kvs:Kvs) (s4:Sl) (hk:Lh kvs) (hl:kvs.length<=800):∃ kvs' s4',Lh kvs'/\kvs'.length<=kvs.length+40/\(∀ s,has kvs' (some s)=(has kvs (some s)||Hn (fun p=>(G6 ku (idP p)).isSome) e s)) /\
   Mw [.sh b,fN ku,oN kvs,.sh e.1,s4]=.nx [.sh b,fN ku,oN kvs',.sh e.1,s4']:=by
 have no : ∀ k x xs, e.1 = .tuple (.str k :: idP e.2 :: x :: xs) -> k ≠ "drop" -> ∃ kvs' s4', Lh kvs' /\ kvs'.length <= kvs.length + 40 /\ (∀ s, has kvs' (some s) = (has kvs (some s) || Hn (fun p => (G6 ku (idP p)).isSome) e s)) /\
     Mw [.sh b,fN ku,oN kvs,.sh e.1,s4]=.nx [.sh b,fN ku,oN kvs',.sh e.1,s4']:=fun k x xs e1 hn=>by
   refine ⟨kvs,s4,hk,by omega,fun s=>by rw [Ag e1 hn,GB],?_⟩;unfold Mw; rw [N3 (Jq (by rw [e1]; simp_arith [T9,Hr,Br hn]))];rfl
 cases h with
 | undo q h=>exact no _ _ _ h (by decide)
 | oth k x xs h h1 _=>exact no _ _ _ h h1
 | drop ss h hss =>
   have c1:(C4 (b2 (b2 (A5 3) (vC (.int 0)) dIx) (vC (.str "drop")) dEq)) [.sh b,fN ku,oN kvs,.sh e.1,s4]=.ok true:=by rw [h]; simp_arith [T9,Hr,Gh]
   have c2:(C4 (T8 true 1 (b2 (A5 3) (vC (.int 1)) dIx))) [.sh b,fN ku,oN kvs,.sh e.1,s4]=.ok ((G6 ku (idP e.2)).isSome != true):=by
     refine C3 (Dg rfl ?_ (Y6 e.2)); rw [h]; simp_arith [Ic]
   have hd:∀ s,Hn (fun p=>(G6 ku (idP p)).isSome) e s=(!(G6 ku (idP e.2)).isSome&&ss.any fun t=>decide (some t=some s)):=fun s=>by
     unfold Hn; rw [h]; show (("drop" : Str) == "drop" && (!(G6 ku (idP e.2)).isSome)&&((ss.map sgO).any fun y=>xA y (sgO s)))=_;rw [Gh,Bool.true_and,GJ];congr 1;congr 1;funext t;exact Ao _ _
   unfold Mw;cases c:(G6 ku (idP e.2)).isSome with
   | true =>
     rw [c] at c2 hd; rw [N3 (Fv c1 c2)]; exact ⟨kvs,s4,hk,by omega,fun s=>by rw [hd]; simp,rfl⟩
   | false =>
     rw [c] at c2 hd; obtain ⟨kvs',s4',k1,k2,k3,k4⟩:=Zv b ku (.sh e.1) ss kvs s4 hk (by omega);refine ⟨kvs',s4',k1,by omega,fun s=>by rw [k3,hd]; simp,?_⟩;rw [O9 (Le c1 c2)]; unfold U5; rw [F4 (d:=.tuple (ss.map sgO)) (ds:=ss.map sgO) (by rw [h]; simp_arith [Yu]) rfl,E7];exact k4
theorem aV (b:wK) (ku:Kvs):∀ (ds:List Dp),(∀ e∈ds,Kd e)->∀ (kvs:Kvs) (s3 s4:Sl),Lh kvs->kvs.length+40*ds.length<=800->∃ kvs' s3' s4',Lh kvs'/\(∀ s,has kvs' (some s)=(has kvs (some s)||ds.any fun e=>Hn (fun p=>(G6 ku (idP p)).isSome) e s)) /\
   K3 (st1 3) Mw (ds.map (·.1)) [.sh b,fN ku,oN kvs,s3,s4]=.nx [.sh b,fN ku,oN kvs',s3',s4']
 | [],_,kvs,s3,s4,hk,_=>⟨kvs,s3,s4,hk,fun s=>by simp,rfl⟩
 | e::ds,h,kvs,s3,s4,hk,hl=>by
   rw [xB] at hl; obtain ⟨kvs1,t4,g1,g2,g3,g4⟩:=mV (h e (.head _)) b ku kvs s4 hk (by omega);obtain ⟨kvs2,u3,u4,k1,k2,k3⟩:=aV b ku ds (fun d hd=>h d (.tail _ hd)) kvs1 (.sh e.1) t4 g1 (by omega);refine ⟨kvs2,u3,u4,k1,fun s=>by rw [k2,g3,EA,Bool.or_assoc],?_⟩;rw [wU]; unfold K3; simp only [st1,xI,xJ]; rw [g4]; exact k3
theorem vU {L:List Dp} (h:∀ e∈L,Kd e) (hl:L.length<=20) (ku:Kvs):∃ kd,M4 [.sh (.tuple (L.map (·.1))),fN ku]=.ok kd/\∀ s,has kd (some s)=L.any fun e=>Hn (fun p=>(G6 ku (idP p)).isSome) e s:=by
 obtain ⟨kd,s3,s4,k1,k2,k3⟩:=aV (.tuple (L.map (·.1))) ku L h [] .un .un (fun _ h=>nomatch h) (by simp; omega);refine ⟨kd,?_,fun s=>by rw [k2]; rfl⟩;unfold M4 Cw Bz qM Fj Gn Eh U5 Xn;simp only [xB,yD,zN,zM,xF,yM,xP,xI,xJ,X9,yQ,U4,C7,E5,E7];have k3':=k3;unfold Mw at k3';unfold U5 at k3';rw [k3'];rfl
noncomputable def fU:Dn->Out:=(Gq 3 (E8 (A4 (A5 4) (A4 (W6 (T8 true 1 (b2 (b2 (A5 4) (vC (.int 0)) dIx) (vC (.int 0)) dIx)) (T8 true 2 (b2 (A5 4) (vC (.int 0)) dIx))) B2))))
abbrev bkD (L:List Dp):wK:=.tuple (L.map (·.1))
structure Pr (L:List Dp) (ku kd:Kvs):Prop where
 u:K0 [bkD L]=.ok ku
 d:M4 [.sh (bkD L),fN ku]=.ok kd
 h:∀ s,has kd (some s)=L.any fun e=>Hn (fun p=>(G6 ku (idP p)).isSome) e s
noncomputable def un (ku:Kvs) (p:IdP):Bool:=(G6 ku (idP p)).isSome
noncomputable def pres (ku kd:Kvs) (u:As):Bool := !(un ku u.1.p) && !(has kd (some (sgn u)))
theorem bne_true (b:Bool):(b != true) = !b:=by cases b <;> rfl
theorem nV {f g:Dn->Res wK} {δ:Dn} {a b:Bool} (h1:f δ=.ok (.bool a)) (h2:g δ=.ok (.bool b)):W6 f g δ=.ok (.bool (a&&b)):=by
 unfold W6;rw [h1,C7];cases a with
 | true=>exact h2
 | false=>rfl
theorem Uy (b:wK) (ku kd:Kvs):∀ (us:List As) (T:List wK) (s4:Sl),T.length+us.length<=800->∃ s4',K3 (st1 4) fU (us.map tl) [.sh b,fN ku,oN kd,.ow (.list T),s4]=.nx [.sh b,fN ku,oN kd,.ow (.list (T++us.map fun u=>.tuple [tl u,.bool (pres ku kd u)])),s4']
 | [],T,s4,_=>⟨s4,by simp [K3]⟩
 | u::us,T,s4,hl=>by
   rw [xB] at hl; obtain ⟨s4',e⟩:=Uy b ku kd us (T++[.tuple [tl u,.bool (pres ku kd u)]]) (.sh (tl u)) (by simp; omega);refine ⟨s4',?_⟩; rw [wU]; unfold K3; simp only [st1,xI,xJ]; have e1:(T8 true 1 (b2 (b2 (A5 4) (vC (.int 0)) dIx) (vC (.int 0)) dIx)) [.sh b,fN ku,oN kd,.ow (.list T),.sh (tl u)]=.ok (.bool (!(un ku u.1.p))):=by
     rw [Dg (kvs:=ku) (kd:=idP u.1.p) rfl (by simp_arith [T9]) (Y6 _),bne_true]; rfl
   have e2:(T8 true 2 (b2 (A5 4) (vC (.int 0)) dIx)) [.sh b,fN ku,oN kd,.ow (.list T),.sh (tl u)]=.ok (.bool (!(has kd (some (sgn u))))):=by
     rw [Dg (kvs:=kd) (kd:=sgA u) rfl (by simp_arith [T9]) (Jt (some (sgn u))),bne_true]; rfl
   have e3:fU [.sh b,fN ku,oN kd,.ow (.list T),.sh (tl u)]=.nx [.sh b,fN ku,oN kd,.ow (.list (T++[.tuple [tl u,.bool (pres ku kd u)]])),.sh (tl u)]:=by
     unfold fU; exact Kj rfl (N0 (A9 (d:=tl u) (by simp_arith) (A9 (nV e1 e2) rfl))) (by omega)
   rw [e3]; show K3 (st1 4) fU (us.map tl) _=_;rw [e,zQ]; rfl
theorem eO {L:List Dp} {B:List Ad} (A:BkA L B) (hl:L.length<=20) {ku kd:Kvs} (P:Pr L ku kd):N2 [bkD L]=.ok (.list ((ord B).map fun u=>.tuple [tl u,.bool (pres ku kd u)])):=by
 have hol:=Fq A;obtain ⟨s4,e⟩:=Uy (bkD L) ku kd (ord B) [] .un (by simp; omega);unfold N2 Bl M6;refine K9 ?_;unfold F2;simp only [wU,zF,xB,yD,zN,zM,xF,yM,xP];rw [C5 (δ':=[.sh (bkD L),oN ku,.un,.un,.un]) (by unfold Z0 Y8 Ch; simp_arith [P.u])];rw [C5 (δ':=[.sh (bkD L),fN ku,oN kd,.un,.un]) (by
   unfold Y9 cN Y8 Os; show O7 (Res.bind (Res.ok (bkD L)) fun d=>M4 [.sh d,fN ku]) _=_;rw [C7,P.d]; rfl)]
 rw [C5 (δ':=[.sh (bkD L),fN ku,oN kd,.ow (.list []),.un]) (by rfl)];rw [xP] at e;have e3:V5 [.sh (bkD L),fN ku,oN kd,.ow (.list []),.un]=.nx [.sh (bkD L),fN ku,oN kd,.ow (.list ((ord B).map fun u=>.tuple [tl u,.bool (pres ku kd u)])),s4]:=by
   unfold V5 U5; rw [F4 (d:=.list ((ord B).map tl)) (ds:=(ord B).map tl) (by simp_arith [Di A hl]) rfl,E7];exact e
 rw [C5 e3];rfl
theorem Yd {α:Type} {δc:Dn} {tt:Dn->Res Bool} {el:Dn->Res wK} (g h:α->wK) (f:α->Bool):∀ xs:List α,(∀ x∈xs,tt ([.sh (g x)]++δc)=.ok (f x))->(∀ x∈xs,el ([.sh (g x)]++δc)=.ok (h x))->D4 D9 δc tt el (xs.map g)=.ok ((xs.filter f).map h)
 | [],_,_=>rfl
 | x::xs,ht,he=>by
   have ih:=Yd g h f xs (fun y hy=>ht y (.tail _ hy)) fun y hy=>he y (.tail _ hy);have h1:=ht x (.head _); have h2:=he x (.head _); rw [wU]; unfold D4;cases c:f x with
   | true =>
     rw [c] at h1; simp only [D9,h1,h2,ih]; rw [xW,c,if_pos rfl,wU]
   | false =>
     rw [c] at h1; simp only [D9,h1,ih]; rw [xW,c,if_neg (by decide)]
theorem kD {L:List Dp} {B:List Ad} (A:BkA L B) (hl:L.length<=20) {ku kd:Kvs} (P:Pr L ku kd):Z9 [bkD L]=.ok (.list (((ord B).filter (pres ku kd)).map tl)):=by
 have hol:=Fq A;have hp:=eO A hl P;unfold Z9 Fl Fw;refine K9 (E1 (M3 (K1 (F4 (d:=.list ((ord B).map fun u=>.tuple [tl u,.bool (pres ku kd u)])) (by simp_arith [hp]) rfl) (by simp; omega) rfl ?_)));exact Yd (fun u=>.tuple [tl u,.bool (pres ku kd u)]) tl (pres ku kd) (ord B) (fun u _=>by
   unfold Ej; exact C3 (by simp_arith [Ic])) fun u _=>by unfold Ej; simp_arith [T9]
theorem vA {u:As} (hw:Yq u.1.w) (h:u.2 < u.1.w.length):(ltr u).length=1/\yB (ltr u)=true/\chOk 32 126 (ltr u):=by
 have h':u.2 < u.1.w.cps.toList.length:=by rw [<- jV]; exact h
 have hc:=hw.2.2 _ (BZ h');have e:u.1.w.cps.toList.getD u.2 0=u.1.w.cps.toList[u.2]:=by rw [FR,yJ h']; rfl
 refine ⟨rfl,?_,?_⟩
 . unfold ltr
   rw [e];generalize u.1.w.cps.toList[u.2]=c at hc;unfold yB; simp;omega
 . unfold ltr
   rw [e]; exact .one hc
theorem Ps {α:Type} (f:α->Str):∀ us:List α,Fh (us.map fun u=>c6 (f u))=some (us.map f)
 | []=>rfl
 | u::us=>by
   show (Fh (us.map fun u=>c6 (f u))).map _=_;rw [Ps f us]; rfl
theorem mJ {us:List As} (h:∀ u∈us,Yq u.1.w/\u.2 < u.1.w.length) (hl:us.length<=100):Vq "" (.list (us.map fun u=>c6 (ltr u)))=some (.str (m9 "" (us.map ltr))):=by
 have hx:∀ x∈us.map ltr,x.length=1/\yB x=true/\chOk 32 126 x:=fun x hx=>by
   obtain ⟨u,hu,rfl⟩:=xK.mp hx; exact vA (h u hu).1 (h u hu).2
 obtain ⟨l1,o1,_⟩:=Mi _ hx;have s1:=Pp _ hx;rw [wT] at l1 s1;show (Fh (us.map fun u=>c6 (ltr u))).bind _=_;rw [Ps ltr us];show (if _ then _ else _)=_;have:(("" : Str)).length=0:=rfl;rw [if_pos ⟨by rw [s1,this]; omega,o1,xD (show _<=1000 by omega) Pn⟩]
theorem Ov {L:List Dp} {B:List Ad} (A:BkA L B) (hl:L.length<=20) {ku kd:Kvs} (P:Pr L ku kd):D7 [bkD L]=.ok (.str (m9 "" (((ord B).filter (pres ku kd)).map ltr))):=by
 have hol:=Fq A;have hf:=CO (pres ku kd) (ord B);have hs:=kD A hl P;have hj:=mJ (us:=(ord B).filter (pres ku kd)) (fun u hu=>by
   have:=(Dl A.bk u).mp (zH.mp hu).1; exact ⟨A.wd _ this.1,this.2⟩) (by omega)
 have hc:F5 (fun δ=>((B6 (A4 (A5 0) B2) Z9) δ).bind E5) D9 [] K5 (b2 (A5 0) (vC (.int 1)) dIx) [.sh (bkD L)]=.ok (((ord B).filter (pres ku kd)).map fun u=>c6 (ltr u)) :=
   K1 (F4 (d:=.list (((ord B).filter (pres ku kd)).map tl)) (by simp_arith [hs]) rfl) (by simp; omega) rfl (Eu tl (fun u=>c6 (ltr u)) (fun u=>by unfold Ej; simp_arith [Ic]) _)
 unfold D7 Gv Ia;refine K9 (E1 ?_);show (Uk "" _ [.sh (bkD L)])=_;unfold Uk;rw [M3 hc,C7,hj]; rfl
theorem Ro (p q:IdP):xA (idP p) (idP q)=decide (p=q):=by
 show ((p.1==q.1)&&((p.2==q.2)&&true))=_;rw [i6];simp [Prod.ext_iff]
theorem dF (p:IdP):(idP p).depth<=2:=Xy p.1 p.2
theorem uO {L:List Dp} (h:Upk L) {e e':Dp} (he:e∈L) (he':e'∈L) (h2:e.2=e'.2):e=e':=by
 induction L with
 | nil=>cases he
 | cons a L ih =>
   have hu:=yK.mp h; rcases wR.mp he with rfl | he1
   . rcases wR.mp he' with rfl | he'
     . rfl
     . have:=hu.1 _ he'; rw [h2] at this; omega
   . rcases wR.mp he' with rfl | he'
     . have he:=he1; have:=hu.1 _ he; rw [h2] at this; omega
     . exact ih hu.2 he1 he'
theorem X0 {st:wK->Dn->Option Dn} {body:Dn->Out} {d:wK} {ds:List wK} {δ δ1 δ':Dn} (h1:st d δ=some δ1) (h2:body δ1=.nx δ'):K3 st body (d::ds) δ=K3 st body ds δ':=by
 conv=>lhs; unfold K3
 rw [h1];show (match body δ1 with | .nx δ'=>_ | .ct δ'=>_ | .bk δ'=>_ | o=>_)=_;rw [h2]
noncomputable def Az (d:wK):Option IdP:=match d with
 | .tuple [.str k,_,.tuple [.int t,.str h]]=>if k = "undo" then some (t,h) else none
 | _=>none
theorem U3 {k:Str} {i x:wK} {xs:List wK} (h:k ≠ "undo"):Az (.tuple (.str k::i::x::xs))=none:=by
 unfold Az;split
 . rename_i heq
   injection heq with heq
   injection heq with h1 _
   injection h1 with h1
   rw [<- h1,if_neg h]
 . rfl
theorem Gu (i:wK) (q:IdP):Az (.tuple [.str "undo",i,idP q])=some q:=by
 unfold Az;exact if_pos rfl
noncomputable def Hg (e:Dp) (o:List IdP):List IdP:=match Az e.1 with
 | some q=>if e.2∈o then o else o++[q]
 | none=>o
theorem Vb {e:Dp} {q:IdP} (h:e.1=.tuple [.str "undo",idP e.2,idP q]) (o:List IdP):Hg e o=if e.2∈o then o else o++[q]:=by
 unfold Hg; rw [h,Gu]
theorem lV {e:Dp} {k:Str} {i x:wK} {xs:List wK} (h:e.1=.tuple (.str k::i::x::xs)) (hk:k ≠ "undo") (o:List IdP):Hg e o=o:=by
 unfold Hg; rw [h,U3 hk]
noncomputable def X7:List Dp->List IdP->List IdP
 | [],o=>o
 | e::r,o=>X7 r (Hg e o)
abbrev off (L:List Dp):List IdP:=X7 L.reverse []
abbrev Sn (kvs:Kvs):Prop:=∀ p∈kvs,∃ x:IdP,p.1=idP x
theorem Ux {kvs:Kvs} (h:Sn kvs) (x:IdP) (v:wK):Sn (N7 kvs (idP x) v)/\∀ y,un (N7 kvs (idP x) v) y=(decide (x=y)||un kvs y):=by
 induction kvs with
 | nil =>
   refine ⟨fun p hp=>?_,fun y=>?_⟩
   . rw [wS.mp hp]; exact ⟨x,rfl⟩
   . show ((FS (fun p=>xA p.1 (idP y)) [(idP x,v)]).map (·.2)).isSome=_
     rw [xR,Ro];cases decide (x=y) <;> rfl
 | cons p r ih =>
   obtain ⟨z,hz⟩:=h p (.head _); obtain ⟨i1,i2⟩:=ih fun q hq=>h q (.tail _ hq);unfold N7; rw [hz,Ro];by_cases c:z=x
   . rw [if_pos (decide_eq_true c)]
     refine ⟨fun q hq=>?_,fun y=>?_⟩
     . rcases wR.mp hq with rfl | hq
       . exact ⟨z,rfl⟩
       . exact h q (.tail _ hq)
     . unfold un G6
       rw [xR,xR,hz,Ro,c];cases decide (x=y) <;> rfl
   . rw [if_neg (by rw [decide_eq_false c]; decide)]
     refine ⟨fun q hq=>?_,fun y=>?_⟩
     . rcases wR.mp hq with rfl | hq
       . exact ⟨z,hz⟩
       . exact i1 q hq
     . unfold un G6
       rw [xR,xR,hz,Ro];cases hd:decide (z=y) with
       | true=>simp
       | false=>exact i2 y
theorem gC {e:Dp} (h:Kd e) (b:wK) (kvs:Kvs) (o:List IdP) (hk:Sn kvs) (ho:∀ p,un kvs p=decide (p∈o)) (hl:kvs.length<=900):∃ kvs',Sn kvs'/\kvs'.length<=kvs.length+1/\(∀ p,un kvs' p=decide (p∈Hg e o))/\Vx [.sh b,oN kvs,.sh e.1]=.nx [.sh b,oN kvs',.sh e.1]:=by
 have no:∀ k x xs,e.1=.tuple (.str k::idP e.2::x::xs)->k ≠ "undo" -> ∃ kvs',Sn kvs'/\kvs'.length<=kvs.length+1/\(∀ p,un kvs' p=decide (p∈Hg e o))/\Vx [.sh b,oN kvs,.sh e.1]=.nx [.sh b,oN kvs',.sh e.1]:=fun k x xs e1 hk2=>by
   refine ⟨kvs,hk,BA _,by rw [lV e1 hk2]; exact ho,?_⟩;unfold Vx; rw [N3 (Jq (by rw [e1]; simp_arith [T9,Hr,Br hk2]))];rfl
 cases h with
 | drop ss h _=>exact no _ _ _ h (by decide)
 | oth k x xs h _ h2=>exact no _ _ _ h h2
 | undo q h =>
   have c1:(C4 (b2 (b2 (A5 2) (vC (.int 0)) dIx) (vC (.str "undo")) dEq)) [.sh b,oN kvs,.sh e.1]=.ok true:=by rw [h]; simp_arith [T9,Hr,Gh]
   have c2:(C4 (T8 true 1 (b2 (A5 2) (vC (.int 1)) dIx))) [.sh b,oN kvs,.sh e.1]=.ok (!(decide (e.2∈o))):=by
     refine C3 ?_; rw [Dg (kvs:=kvs) (kd:=idP e.2) rfl (by rw [h]; simp_arith [Ic]) (Y6 e.2),bne_true];exact congrArg (fun z=>Res.ok (zC (!z))) (ho e.2)
   rw [Vb h]; unfold Vx;by_cases c:e.2∈o
   . rw [decide_eq_true c] at c2
     rw [N3 (Fv c1 c2),if_pos c]; exact ⟨kvs,hk,BA _,ho,rfl⟩
   . rw [decide_eq_false c] at c2
     obtain ⟨g1,g2⟩:=Ux hk q (.bool true); rw [O9 (Le c1 c2),Ep (kd:=idP q) (v:=.bool true) rfl rfl (by rw [h]; simp_arith [Yu]) (Y6 q) (by omega),if_neg c];refine ⟨_,g1,Dc kvs,fun p=>?_,rfl⟩;rw [g2,ho]; rw [i6]; simp;constructor
     . rintro (h | h)
       . exact .inr h.symm
       . exact .inl h
     . rintro (h | h)
       . exact .inr h
       . exact .inl h.symm
theorem Ul (b:wK):∀ (ds:List Dp),(∀ e∈ds,Kd e)->∀ (kvs:Kvs) (o:List IdP) (s2:Sl),Sn kvs->(∀ p,un kvs p=decide (p∈o))->kvs.length+ds.length<=900->∃ kvs' s2',(∀ p,un kvs' p=decide (p∈X7 ds o))/\K3 (st1 2) Vx (ds.map (·.1)) [.sh b,oN kvs,s2]=.nx [.sh b,oN kvs',s2']
 | [],_,kvs,o,s2,_,ho,_=>⟨kvs,s2,ho,rfl⟩
 | e::ds,h,kvs,o,s2,hk,ho,hl=>by
   rw [xB] at hl; obtain ⟨kvs1,k1,l1,o1,e1⟩:=gC (h e (.head _)) b kvs o hk ho (by omega);obtain ⟨kvs2,s2',o2,e2⟩:=Ul b ds (fun d hd=>h d (.tail _ hd)) kvs1 _ (.sh e.1) k1 o1 (by omega);exact ⟨kvs2,s2',o2,(X0 rfl e1).trans e2⟩
theorem nX {L:List Dp} (h:∀ e∈L,Kd e) (hl:L.length<=20):∃ kvs,K0 [.tuple (L.map (·.1))]=.ok kvs/\∀ p,un kvs p=decide (p∈off L):=by
 obtain ⟨kvs,s2,o,e⟩:=Ul (.tuple (L.map (·.1))) L.reverse (fun e he=>h e (y4.mp he)) [] [] .un (fun _ h=>nomatch h) (fun _=>rfl) (by simp; omega);refine ⟨kvs,?_,o⟩;rw [List.map_reverse] at e;unfold K0 Ec Ds fnW F2 Gn Eh U5 Xn;simp only [wU,zF,xB,yD,zN,zM,xF,yM,xP,xI,xJ,X9,yQ,U4,C7,Zr,E7];have e':=e;unfold Vx at e';rw [e'];rfl
structure Pq (L:List Dp) (ku kd:Kvs):Prop where
 P:Pr L ku kd
 o:∀ p,un ku p=decide (p∈off L)
theorem pq_ex {L:List Dp} (h:∀ e∈L,Kd e) (hl:L.length<=20):∃ ku kd,Pq L ku kd:=by
 obtain ⟨ku,e1,e4⟩:=nX h hl;obtain ⟨kd,e2,e3⟩:=vU h hl ku;exact ⟨ku,kd,⟨e1,e2,e3⟩,e4⟩
theorem Kd.tid {e:Dp} (h:Kd e):dIx e.1 (.int 1)=some (idP e.2):=by
 obtain ⟨k,x,xs,e1⟩:=h.id;rw [e1]; exact Ic _ _ _
theorem Wu (u v:As):xA (sgA u) (sgA v)=decide (sgn u=sgn v):=by
 rw [show sgA u=anD (some (sgn u)) from rfl,show sgA v=anD (some (sgn v)) from rfl,Ao];congr 1;exact propext ⟨fun h=>yF h,fun h=>congrArg some h⟩
theorem dH {δc:Dn} {tt:Dn->Res Bool} {el:Dn->Res wK} {d y:wK} {ds ys:List wK} (h1:tt ([.sh d]++δc)=.ok true) (h2:el ([.sh d]++δc)=.ok y) (h3:D4 D9 δc tt el ds=.ok ys):D4 D9 δc tt el (d::ds)=.ok (y::ys):=by
 unfold D4;simp only [D9,h1,h2,h3]
theorem nF {δc:Dn} {tt:Dn->Res Bool} {el:Dn->Res wK} {d:wK} {ds ys:List wK} (h1:tt ([.sh d]++δc)=.ok false) (h3:D4 D9 δc tt el ds=.ok ys):D4 D9 δc tt el (d::ds)=.ok ys:=by
 unfold D4;simp only [D9,h1,h3]
theorem Fp {k v:wK}:∀ {kvs:Kvs},(∀ p∈kvs,xA p.1 k=false)->N7 kvs k v=kvs++[(k,v)]
 | [],_=>rfl
 | p::r,h=>by
   unfold N7; rw [if_neg (by rw [h p (.head _)]; decide),Fp fun q hq=>h q (.tail _ hq)]; rfl
theorem Va {α:Type} (f:α->wK×wK) (hk:∀ a,nkD (f a).1=true):∀ (us vs:List α),(vs++us).Pairwise (fun a b=>xA (f a).1 (f b).1=false)->Jh (us.map fun a=>.tuple [(f a).1,(f a).2]) (vs.map f)=some ((vs++us).map f)
 | [],vs,_=>by rw [xV]; rfl
 | u::us,vs,pw=>by
   rw [wU]; unfold Jh; rw [if_pos (hk u),Fp (fun p hp=>by
     obtain ⟨a,ha,rfl⟩:=xK.mp hp; exact (j0.mp pw).2.2 a ha u (.head _))]
   have:=Va f hk us (vs++[u]) (by rw [zQ]; exact pw);rw [yO,zQ] at this; exact this
theorem Rl {α:Type} (f:α->wK×wK) {u:α} (hu:xA (f u).1 (f u).1=true):∀ {us:List α} {more:Kvs},u∈us->us.Pairwise (fun a b=>xA (f a).1 (f b).1=false)->G6 (us.map f++more) (f u).1=some (f u).2
 | x::us,more,h,pw=>by
   rw [yK] at pw; unfold G6; rw [wU,yM,xR]; rcases wR.mp h with rfl | h
   . rw [hu]; rfl
   . rw [pw.1 u h]; exact Rl f hu h pw.2
noncomputable def cnt (f:As->Bool) (X:List As):Nat:=(X.filter f).length
noncomputable def b1n (b:Bool):Nat:=if b=true then 1 else 0
theorem bD (f:As->Bool) (X:List As) (u:As):cnt f (X++[u])=cnt f X+b1n (f u):=by
 unfold cnt b1n;rw [yX,xO];cases h:f u with
 | true=>rw [xW,h]; rfl
 | false=>rw [xW,h]; rfl
noncomputable def num (f:As->Bool):List As->Nat->List (As×Nat)
 | [],_=>[]
 | u::us,n=>(u,n)::num f us (n+b1n (f u))
theorem aC (f:As->Bool) (u:As):∀ (X:List As) (n:Nat),num f (X++[u]) n=num f X n++[(u,n+cnt f X)]
 | [],n=>rfl
 | x::X,n=>by
   show (x,n)::num f (X++[u]) (n+b1n (f x))=(x,n)::(num f X (n+b1n (f x))++[(u,n+cnt f (x::X))]);rw [aC f u X,Nat.add_assoc]; have:b1n (f x)+cnt f X=cnt f (x::X):=by
     unfold cnt b1n; rw [xW];cases f x <;> simp <;> omega
   rw [this]
theorem Ku (f:As->Bool):∀ (X:List As) (n:Nat),(num f X n).map (·.1)=X
 | [],_=>rfl
 | x::X,n=>by show x::(num f X _).map (·.1)=_; rw [Ku f X]
theorem eX (f:As->Bool) (u:As) (Y:List As):∀ (X:List As) (n:Nat),(u,n+cnt f X)∈num f (X++u::Y) n
 | [],n=>.head _
 | x::X,n=>by
   have:=eX f u Y X (n+b1n (f x)); have e:n+b1n (f x)+cnt f X=n+cnt f (x::X):=by
     unfold cnt b1n; rw [xW];cases f x <;> simp <;> omega
   rw [e] at this; exact .tail _ this
abbrev plE (f:As->Bool) (x:As×Nat):wK×wK:=(sgA x.1,.tuple [.int ((x.2+b1n (f x.1):Nat):Int),.int (x.2:Int)])
noncomputable def fT:Dn->Out:=(D1 (I9 4 (A5 2)) (D1 (sIf (C4 (b2 (A5 3) (vC (.int 1)) dIx)) (I9 2 (b2 (A5 4) (vC (.int 1)) E2)) E4) (Y3 1 (b2 (b2 (A5 3) (vC (.int 0)) dIx) (vC (.int 0)) dIx) (E8 (A4 (A5 2) (A4 (A5 4) B2))))))
theorem pG (f:As->Bool) (b:wK) (X:List As) (u:As) (hX:X.length<=100) (hn:sgn u∉X.map sgn) (s4:Sl):fT [.sh b,oN ((num f X 0).map (plE f)),.sh (.int (cnt f X:Int)),.sh (.tuple [tl u,.bool (f u)]),s4]=.nx [.sh b,oN ((num f (X++[u]) 0).map (plE f)),.sh (.int (cnt f (X++[u]):Int)),.sh (.tuple [tl u,.bool (f u)]),.sh (.int (cnt f X:Int))]:=by
 unfold fT;rw [C5 (F6 (d:=.int (cnt f X:Int)) rfl)];simp only [xI,xJ];have hif:sIf (C4 (b2 (A5 3) (vC (.int 1)) dIx)) (I9 2 (b2 (A5 4) (vC (.int 1)) E2)) E4 [.sh b,oN ((num f X 0).map (plE f)),.sh (.int (cnt f X:Int)),.sh (.tuple [tl u,.bool (f u)]),.sh (.int (cnt f X:Int))]=.nx [.sh b,oN ((num f X 0).map (plE f)),.sh (.int (cnt f (X++[u]):Int)),.sh (.tuple [tl u,.bool (f u)]),.sh (.int (cnt f X:Int))]:=by
   rw [bD];cases c:f u with
   | true =>
     rw [O9 (C3 (C0 (x:=.tuple [tl u,.bool true]) (y:=.int 1) rfl rfl (Ic _ _ _)))];rw [F6 (d:=.int ((cnt f X:Int)+1)) (C0 rfl rfl rfl)]; rfl
   | false =>
     rw [N3 (C3 (C0 (x:=.tuple [tl u,.bool false]) (y:=.int 1) rfl rfl (Ic _ _ _)))];rfl
 rw [C5 hif];have hl:((num f X 0).map (plE f)).length<=1000:=by
   have:=congrArg AX (Ku f X 0); rw [wT] at this ⊢;omega
 rw [Ep (kvs:=(num f X 0).map (plE f)) (kd:=sgA u) (v:=.tuple [.int (cnt f (X++[u]):Int),.int (cnt f X:Int)]) rfl rfl (C0 (x:=tl u) (y:=.int 0) (C0 (x:=.tuple [tl u,.bool (f u)]) (y:=.int 0) rfl rfl (T9 _ _)) rfl (T9 _ _)) (Jt (some (sgn u))) hl];rw [Fp (fun p hp=>by
   obtain ⟨x,hx,rfl⟩:=xK.mp hp; have hx:x.1∈X:=by rw [<- Ku f X 0]; exact xY hx
   show xA (sgA x.1) (sgA u)=false;rw [Wu,decide_eq_false]; intro z; exact hn (by rw [<- z]; exact xY hx))]
 rw [aC,yO,GP,bD];rfl
theorem eP (f:As->Bool) (b:wK):∀ (us X:List As),((X++us).map sgn).Nodup->(X++us).length<=100->∀ s3 s4:Sl,∃ t3 t4,K3 (st1 3) fT (us.map fun u=>.tuple [tl u,.bool (f u)]) [.sh b,oN ((num f X 0).map (plE f)),.sh (.int (cnt f X:Int)),s3,s4]=.nx [.sh b,oN ((num f (X++us) 0).map (plE f)),.sh (.int (cnt f (X++us):Int)),t3,t4]
 | [],X,_,_,s3,s4=>by rw [xV]; exact ⟨s3,s4,rfl⟩
 | u::us,X,nd,hl,s3,s4=>by
   have e1:=pG f b X u (by rw [xO] at hl; omega) (by
     rw [yO,AH] at nd; intro z; exact nd.2.2 _ z _ (by rw [wU]; exact .head _) rfl) s4
   obtain ⟨t3,t4,e2⟩:=eP f b us (X++[u]) (by rw [zQ]; exact nd) (by rw [zQ]; exact hl) (.sh (.tuple [tl u,.bool (f u)])) (.sh (.int (cnt f X:Int)));rw [zQ] at e2; exact ⟨t3,t4,(X0 rfl e1).trans e2⟩
noncomputable def plN (f:As->Bool) (O:List As):Kvs:=(num f O 0).map (plE f)++[(.none,.tuple [.int 0,.int (cnt f O:Int)])]
theorem Ot {g1:Dn->Out} {g2:Dn->Res Kvs} {δ δ':Dn} (h:g1 δ=.nx δ'):Gn g1 g2 δ=g2 δ':=by unfold Gn; rw [h]
theorem gU {L:List Dp} {B:List Ad} (A:BkA L B) (hl:L.length<=20) {ku kd:Kvs} (P:Pr L ku kd):X1 [bkD L]=.ok (plN (pres ku kd) (ord B)):=by
 have hol:=Fq A;obtain ⟨t3,t4,e⟩:=eP (pres ku kd) (bkD L) (ord B) [] (Hx A.bk) (by simp; omega) .un .un;have hp:=eO A hl P;have hlen:((num (pres ku kd) (ord B) 0).map (plE (pres ku kd))).length<=1000:=by
   have:=congrArg AX (Ku (pres ku kd) (ord B) 0); rw [wT] at this ⊢;omega
 have e5:Y3 1 (vC .none) (E8 (A4 (vC (.int 0)) (A4 (A5 2) B2))) [.sh (bkD L),oN ((num (pres ku kd) (ord B) 0).map (plE (pres ku kd))),.sh (.int (cnt (pres ku kd) (ord B):Int)),t3,t4]=.nx [.sh (bkD L),oN (plN (pres ku kd) (ord B)),.sh (.int (cnt (pres ku kd) (ord B):Int)),t3,t4]:=by
   rw [Ep (kvs:=(num (pres ku kd) (ord B) 0).map (plE (pres ku kd))) (kd:=.none) (v:=.tuple [.int 0,.int (cnt (pres ku kd) (ord B):Int)]) rfl rfl rfl rfl hlen];rw [Fp (fun p hp=>by
     obtain ⟨x,hx,rfl⟩:=xK.mp hp; rfl)]
   rfl
 have e6:U5 (fun δ=>((B6 (A4 (A5 0) B2) N2) δ).bind E5) (st1 3) fT [.sh (bkD L),oN [],.sh (.int 0),.un,.un]=.nx [.sh (bkD L),oN ((num (pres ku kd) (ord B) 0).map (plE (pres ku kd))),.sh (.int (cnt (pres ku kd) (ord B):Int)),t3,t4]:=by
   unfold U5; rw [F4 (d:=.list ((ord B).map fun u=>.tuple [tl u,.bool (pres ku kd u)])) (B5 (A9 (d:=bkD L) rfl rfl) hp) rfl,E7];exact e
 unfold X1 Ed Dt fnW;show Gn _ _ [.sh (bkD L),.un,.un,.un,.un]=_;refine (Ot (g1:=Eh 1) (δ':=[.sh (bkD L),oN [],.un,.un,.un]) rfl).trans ((Ot (g1:=I9 2 (vC (.int 0))) (δ':=[.sh (bkD L),oN [],.sh (.int 0),.un,.un]) rfl).trans ((Ot e6).trans ((Ot e5).trans rfl)))
theorem Vn {k:wK} {more:Kvs}:∀ {kvs:Kvs},(∀ p∈kvs,xA p.1 k=false)->G6 (kvs++more) k=G6 more k
 | [],_=>rfl
 | p::r,h=>by
   unfold G6; rw [yM,xR,h p (.head _)]; exact Vn (kvs:=r) fun q hq=>h q (.tail _ hq)
theorem uS {O:List As} (nd:(O.map sgn).Nodup) (f:As->Bool):(num f O 0).Pairwise (fun a b=>xA (plE f a).1 (plE f b).1=false):=by
 have h1:((num f O 0).map (fun x=>sgn x.1)).Nodup:=by
   have:(num f O 0).map (fun x=>sgn x.1)=((num f O 0).map (·.1)).map sgn:=by rw [AI]; rfl
   rw [this,Ku]; exact nd
 rw [x4,u5] at h1;exact h1.imp fun {a b} h=>by show xA (sgA a.1) (sgA b.1)=false; rw [Wu,decide_eq_false h]
theorem Kp (f:As->Bool) (O:List As):G6 (plN f O) .none=some (.tuple [.int 0,.int (cnt f O:Int)]):=by
 unfold plN;rw [Vn (fun p hp=>by obtain ⟨x,hx,rfl⟩:=xK.mp hp; rfl)];rfl
theorem Ko {f:As->Bool} {O X Y:List As} {u:As} (nd:(O.map sgn).Nodup) (e:O=X++u::Y):G6 (plN f O) (sgA u)=some (.tuple [.int ((cnt f X+b1n (f u):Nat):Int),.int (cnt f X:Int)]):=by
 have hm:(u,cnt f X)∈num f O 0:=by have:=eX f u Y X 0; rw [GP] at this; rw [e]; exact this
 exact Rl (plE f) (u:=(u,cnt f X)) (by show xA (sgA u) (sgA u)=true; rw [Wu]; simp) hm (uS nd f)
theorem fH:Hq "lr" (.str "l")=some (.int 0):=by
 have:z8 "lr" "l" 0 (("lr" : Str)).length 1=[0]:=by decide +kernel
 simp only [Hq,this]; rfl
theorem fG:Hq "lr" (.str "r")=some (.int 1):=by
 have:z8 "lr" "r" 0 (("lr" : Str)).length 1=[1]:=by decide +kernel
 simp only [Hq,this]; rfl
theorem Dr {kvs:Kvs} {k:wK} {x:Str} {y z v:wK} {j:Int} (hk:nkD k=true) (hg:G6 kvs k=some (.tuple [y,z])) (hi:Hq "lr" (.str x)=some (.int j)) (hv:dIx (.tuple [y,z]) (.int j)=some v):J2 [fN kvs,.sh (.tuple [k,.str x])]=.ok v:=by
 unfold J2 Fo Gd fnS;have:E9 (b2 (Ib 0 (b2 (A5 1) (vC (.int 0)) dIx)) (Ou (vC (.str "lr")) (b2 (A5 1) (vC (.int 1)) dIx)) dIx) [fN kvs,.sh (.tuple [k,.str x])]=.rt v:=by
   refine E1 (C0 (x:=.tuple [y,z]) (y:=.int j) ?_ ?_ hv)
   . unfold Ib
     show Res.bind _ (fun kd'=>if nkD kd'=true then ofO (G6 kvs kd') else Res.no)=_;rw [C0 (x:=.tuple [k,.str x]) (y:=.int 0) rfl rfl (T9 _ _),C7,if_pos hk,hg]; rfl
   . unfold Ou
     show Res.bind _ _=_;rw [show vC (.str "lr") [fN kvs,.sh (.tuple [k,.str x])]=.ok (.str "lr") from rfl,C7];show Res.bind _ _=_;rw [C0 (x:=.tuple [k,.str x]) (y:=.int 1) rfl rfl (Ic _ _ _),C7,hi]; rfl
 show (match E9 _ [fN kvs,.sh (.tuple [k,.str x])] with | .rt d=>_ | .nx _=>_ | .exc c=>_ | _=>_)=_;rw [this]
def Mz (O:List As) (d:wK):Prop:=∃ s x,d=.tuple [s,.str x]/\cW x/\(s=.none\/∃ u∈O,s=sgA u)
inductive Md (O:List As) (e:Dp):Prop where
 | mark (n:Str) (a1 a2:wK):e.1=.tuple [.str "mark",idP e.2,.str n,a1,a2]->Z8 n->Mz O a1->Mz O a2->Md O e
 | unm (n:Str):e.1=.tuple [.str "unmark",idP e.2,.str n]->Z8 n->Md O e
 | oth (k:Str) (x:wK) (xs:List wK):e.1=.tuple (.str k::idP e.2::x::xs)->k ≠ "mark" -> k ≠ "unmark" -> Md O e
theorem WfIn.md {L:List Dp} {B:List Ad} (A:BkA L B) {e:Dp} (h:WfIn L e):Md (ord B) e:=by
 obtain ⟨o,r⟩:=(show Wf _ _ _ _ from h);have an:∀ s x,OrN (SgOf e.2.1 (L.map (·.1))) s->cW x->Mz (ord B) (.tuple [s,.str x]):=fun s x hs hx=>by
   refine ⟨s,x,rfl,hx,?_⟩; rcases hs with rfl | ⟨p,b,w,n,hm,rfl,hn,_,_⟩
   . exact .inl rfl
   . obtain ⟨a,ha,rfl,rfl⟩:=A.ad.of hm
     exact .inr ⟨(a,n),(Dl A.bk (a,n)).mpr ⟨ha,hn⟩,rfl⟩
 rcases r with ⟨b,w,e1,_⟩ | ⟨sg,e1,_⟩ | ⟨n,s1,x1,s2,x2,e1,h1,h2,hn,l1,l2⟩ | ⟨n,e1,hn⟩ | ⟨q,e1,_⟩
 . exact .oth "add" _ _ e1 (by decide) (by decide)
 . exact .oth "drop" _ _ e1 (by decide) (by decide)
 . exact .mark n _ _ e1 hn (an _ _ h1 l1) (an _ _ h2 l2)
 . exact .unm n e1 hn
 . exact .oth "undo" _ _ e1 (by decide) (by decide)
noncomputable def U0 (d:wK):Option Str:=match d with
 | .tuple (.str k::_::.str n::_)=>if k = "mark" \/ k = "unmark" then some n else none
 | _=>none
theorem Jj {k:Str} {i x:wK} {xs:List wK} (h1:k ≠ "mark") (h2:k ≠ "unmark"):U0 (.tuple (.str k::i::x::xs))=none:=by
 unfold U0;split
 . rename_i heq
   injection heq with heq
   injection heq with h _
   injection h with h
   rw [<- h,if_neg (by rintro (z | z); exact h1 z; exact h2 z)]
 . rfl
noncomputable def Av (o:List IdP) (e:Dp) (kvs:Kvs):Kvs:=match U0 e.1 with
 | some n=>if e.2∈o then kvs else N7 kvs (.str n) e.1
 | none=>kvs
noncomputable def Iw (o:List IdP):List Dp->Kvs->Kvs
 | [],kvs=>kvs
 | e::r,kvs=>Iw o r (Av o e kvs)
noncomputable def cMk:Dn->Res Bool:=C4 (b2 (b2 (A5 3) (vC (.int 0)) dIx) (E8 (A4 (vC (.str "mark")) (A4 (vC (.str "unmark")) B2))) (dIn false))
theorem inMk (k:Str):dIn false (.str k) (.tuple [.str "mark",.str "unmark"])=some (.bool (decide (k = "mark" \/ k = "unmark"))):=by
 have h:([c6 "mark",.str "unmark"].any fun y=>xA y (.str k))=decide (k = "mark" \/ k = "unmark"):=by
   show ((("mark" : Str)==k)||((("unmark" : Str)==k)||false))=_;rw [GB,i6,CL,beq_iff_eq,beq_iff_eq,decide_eq_true_iff]; exact ⟨fun h=>h.elim (fun z=>.inl z.symm) fun z=>.inr z.symm,fun h=>h.elim (fun z=>.inl z.symm) fun z=>.inr z.symm⟩
 rw [<- h];unfold dIn;simp only [];rw [if_pos (xD (i9 _ _) (by simp [yS])),if_neg (by decide)]
theorem iD {O:List As} {e:Dp} (h:Md O e) (o:List IdP) (c:Dn->Res Bool) (x0 x1:Sl) (kvs:Kvs) (hl:kvs.length<=900) (hc:c [x0,x1,oN kvs,.sh e.1]=.ok (!decide (e.2∈o))) :
   sIf (W5 cMk c) (Y3 2 (b2 (A5 3) (vC (.int 2)) dIx) (A5 3)) E4 [x0,x1,oN kvs,.sh e.1]=.nx [x0,x1,oN (Av o e kvs),.sh e.1]/\(Av o e kvs).length<=kvs.length+1:=by
 have go:∀ k n xs,e.1=.tuple (.str k::idP e.2::.str n::xs)->(k = "mark" \/ k = "unmark")->sIf (W5 cMk c) (Y3 2 (b2 (A5 3) (vC (.int 2)) dIx) (A5 3)) E4 [x0,x1,oN kvs,.sh e.1]=.nx [x0,x1,oN (Av o e kvs),.sh e.1]/\(Av o e kvs).length<=kvs.length+1:=fun k n xs e1 hk=>by
   have c1:cMk [x0,x1,oN kvs,.sh e.1]=.ok true:=by
     unfold cMk; refine C3 (C0 (x:=.str k) (y:=.tuple [.str "mark",.str "unmark"]) (C0 (x:=e.1) (y:=.int 0) rfl rfl (by rw [e1]; exact T9 _ _)) rfl ?_);rw [inMk,decide_eq_true hk]
   have hn:U0 e.1=some n:=by rw [e1]; unfold U0; exact if_pos hk
   unfold Av; rw [hn];by_cases ho:e.2∈o
   . rw [decide_eq_true ho] at hc
     rw [N3 (Fv c1 hc)]; show _=Out.nx [x0,x1,oN (if e.2∈o then kvs else _),_]/\(if e.2∈o then kvs else _).length<=_;rw [if_pos ho]; exact ⟨rfl,by omega⟩
   . rw [decide_eq_false ho] at hc
     rw [O9 (Le c1 hc),Ep (kvs:=kvs) (kd:=.str n) (v:=e.1) rfl rfl (C0 (x:=e.1) (y:=.int 2) rfl rfl (by rw [e1]; exact Yu _ _ _ _)) rfl (by omega)];show _=Out.nx [x0,x1,oN (if e.2∈o then kvs else _),_]/\(if e.2∈o then kvs else _).length<=_;rw [if_neg ho]; exact ⟨rfl,Dc kvs⟩
 cases h with
 | mark n a1 a2 e1 _ _ _=>exact go _ n _ e1 (.inl rfl)
 | unm n e1 _=>exact go _ n _ e1 (.inr rfl)
 | oth k x xs e1 h1 h2 =>
   have c1:cMk [x0,x1,oN kvs,.sh e.1]=.ok false:=by
     unfold cMk; refine C3 (C0 (x:=.str k) (y:=.tuple [.str "mark",.str "unmark"]) (C0 (x:=e.1) (y:=.int 0) rfl rfl (by rw [e1]; exact T9 _ _)) rfl ?_);rw [inMk,decide_eq_false (by rintro (z | z); exact h1 z; exact h2 z)]
   have hn:U0 e.1=none:=by rw [e1]; exact Jj h1 h2
   unfold Av; rw [hn,N3 (Jq c1)]; exact ⟨rfl,BA _⟩
theorem Ve {O:List As} (o:List IdP) (c:Dn->Res Bool) (x0 x1:Sl):∀ (M:List Dp),(∀ e∈M,Md O e)->(∀ e∈M,∀ kvs,c [x0,x1,oN kvs,.sh e.1]=.ok (!decide (e.2∈o)))->∀ (kvs:Kvs) (s3:Sl),kvs.length+M.length<=900 ->
   ∃ t3,K3 (st1 3) (sIf (W5 cMk c) (Y3 2 (b2 (A5 3) (vC (.int 2)) dIx) (A5 3)) E4) (M.map (·.1)) [x0,x1,oN kvs,s3]=.nx [x0,x1,oN (Iw o M kvs),t3]/\(Iw o M kvs).length<=kvs.length+M.length
 | [],_,_,kvs,s3,_=>⟨s3,rfl,xH _⟩
 | e::M,h,hc,kvs,s3,hl=>by
   rw [xB] at hl ⊢;obtain ⟨e1,l1⟩:=iD (h e (.head _)) o c x0 x1 kvs (by omega) (hc e (.head _) kvs);obtain ⟨t3,e2,l2⟩:=Ve o c x0 x1 M (fun d hd=>h d (.tail _ hd)) (fun d hd=>hc d (.tail _ hd)) (Av o e kvs) (.sh e.1) (by omega);refine ⟨t3,(X0 rfl e1).trans e2,?_⟩; show (Iw o M (Av o e kvs)).length<=_;omega
def LastOk (O:List As) (kvs:Kvs):Prop:=∀ p∈kvs,∃ n,p.1=.str n/\Z8 n/\((∃ i a1 a2,p.2=.tuple [.str "mark",i,.str n,a1,a2]/\Mz O a1/\Mz O a2)\/∃ i,p.2=.tuple [.str "unmark",i,.str n])
theorem Uw {O:List As} {kvs:Kvs} (h:LastOk O kvs) {n:Str} {d:wK} (hn:Z8 n) (hd:(∃ i a1 a2,d=.tuple [.str "mark",i,.str n,a1,a2]/\Mz O a1/\Mz O a2)\/∃ i,d=.tuple [.str "unmark",i,.str n]):LastOk O (N7 kvs (.str n) d):=by
 induction kvs with
 | nil=>intro p hp; rw [wS.mp hp]; exact ⟨n,rfl,hn,hd⟩
 | cons q r ih =>
   unfold N7;split
   . rename_i c
     obtain ⟨m,hm,_⟩:=h q (.head _); intro p hp; rcases wR.mp hp with rfl | hp
     . have : m = n := by
         rw [hm] at c; exact j4 (show (m==n)=true from c)
       exact ⟨n,by rw [hm,this],hn,hd⟩
     . exact h p (.tail _ hp)
   . intro p hp
     rcases wR.mp hp with rfl | hp
     . exact h p (.head _)
     . exact ih (fun x hx=>h x (.tail _ hx)) p hp
theorem aM {O:List As} (o:List IdP):∀ (M:List Dp),(∀ e∈M,Md O e)->∀ kvs,LastOk O kvs->LastOk O (Iw o M kvs)
 | [],_,kvs,h=>h
 | e::M,hM,kvs,h=>by
   refine aM o M (fun d hd=>hM d (.tail _ hd)) _ ?_;cases hM e (.head _) with
   | mark n a1 a2 e1 hn h1 h2 =>
     unfold Av; rw [e1,show U0 (.tuple [.str "mark",idP e.2,.str n,a1,a2])=some n by unfold U0; exact if_pos (.inl rfl)];show LastOk O (if e.2∈o then kvs else _);split
     . exact h
     . exact Uw h hn (.inl ⟨_,_,_,rfl,h1,h2⟩)
   | unm n e1 hn =>
     unfold Av; rw [e1,show U0 (.tuple [.str "unmark",idP e.2,.str n])=some n by unfold U0; exact if_pos (.inr rfl)];show LastOk O (if e.2∈o then kvs else _);split
     . exact h
     . exact Uw h hn (.inr ⟨_,rfl⟩)
   | oth k x xs e1 h1 h2 =>
     unfold Av; rw [e1,Jj h1 h2]; exact h
theorem LastOk.texts {O:List As}:∀ {kvs:Kvs},LastOk O kvs->∃ ss,Ak (kvs.map (·.1))=some ss/\ss.length=kvs.length/\(∀ x∈ss,Z8 x)/\∀ x∈ss,∃ d,G6 kvs (.str x)=some d
 | [],_=>⟨[],rfl,rfl,(fun _ h=>nomatch h),(fun _ h=>nomatch h)⟩
 | p::r,h=>by
   obtain ⟨ss,e1,e2,e3,e4⟩:=LastOk.texts (kvs:=r) fun q hq=>h q (.tail _ hq);obtain ⟨n,hn,ho,_⟩:=h p (.head _); refine ⟨n::ss,?_,by simp [e2],fun x hx=>?_,fun x hx=>?_⟩
   . rw [wU,hn]
     show (Ak (r.map (·.1))).map (n::·)=_;rw [e1]; rfl
   . rcases wR.mp hx with rfl | hx
     . exact ho
     . exact e3 x hx
   . unfold G6
     rw [xR];cases c:xA p.1 (.str x) with
     | true=>exact ⟨_,rfl⟩
     | false =>
       rcases wR.mp hx with rfl | hx
       . rw [hn] at c
         exact absurd (show (x==x)=false from c) (by rw [beq_self_eq_true]; decide)
       . exact e4 x hx
theorem LastOk.get {O:List As} {kvs:Kvs} (h:LastOk O kvs) {x:Str} {d:wK} (e:G6 kvs (.str x)=some d):(∃ i a1 a2,d=.tuple [.str "mark",i,.str x,a1,a2]/\Mz O a1/\Mz O a2)\/∃ i,d=.tuple [.str "unmark",i,.str x]:=by
 unfold G6 at e;obtain ⟨p,e1,e2⟩:=yN.mp e;have hp:=FY e1;have hq:=List.find?_some e1;obtain ⟨n,hn,_,hd⟩:=h p hp;rw [hn] at hq;have:n=x:=j4 (show (n==x)=true from hq);subst this;rw [<- e2];exact hd
noncomputable def bef (f:As->Bool):List As->As->Nat
 | [],_=>0
 | v::r,u=>if sgn v=sgn u then 0 else b1n (f v)+bef f r u
theorem bE (f:As->Bool) (v:As) (X:List As):cnt f (v::X)=b1n (f v)+cnt f X:=by
 unfold cnt b1n;rw [xW];cases f v <;> simp <;> omega
theorem Wd {f:As->Bool}:∀ {O:List As} {u:As},u∈O->(O.map sgn).Nodup->∃ X Y,O=X++u::Y/\bef f O u=cnt f X
 | v::r,u,h,nd=>by
   rw [wU,zG] at nd; unfold bef;by_cases c:sgn v=sgn u
   . rw [if_pos c]
     have:v=u:=by
       rcases wR.mp h with e | h
       . exact e.symm
       . exact absurd (xY (f:=sgn) h) (by rw [<- c]; exact nd.1)
     exact ⟨[],r,by rw [this]; rfl,rfl⟩
   . rw [if_neg c]
     have hu:u∈r:=by
       rcases wR.mp h with e | h
       . exact absurd (by rw [e]) c
       . exact h
     obtain ⟨X,Y,e1,e2⟩:=Wd hu nd.2; exact ⟨v::X,Y,by rw [e1]; rfl,by rw [e2,bE]⟩
structure Pb (L:List Dp) (B:List Ad) (ku kd:Kvs):Prop where
 A:BkA L B
 W:BkW L
 hl:L.length<=20
 P:Pq L ku kd
theorem Zz {L:List Dp} {B:List Ad} (A:BkA L B) (W:BkW L) (hl:L.length<=20):∃ ku kd,Pb L B ku kd:=by
 obtain ⟨ku,kd,P⟩:=pq_ex (fun e he=>(W.1 e he).kd) hl;exact ⟨ku,kd,A,W,hl,P⟩
theorem bM {f:As->Bool} {O:List As} (nd:(O.map sgn).Nodup) {d:wK} (h:Mz O d):∃ n:Nat,J2 [fN (plN f O),.sh d]=.ok (.int (n:Int))/\n<=cnt f O:=by
 obtain ⟨s,x,rfl,hx,hs⟩:=h;rcases hs with rfl | ⟨u,hu,rfl⟩
 . rcases hx with rfl | rfl
   . exact ⟨0,Dr rfl (Kp f O) fH (T9 _ _),l7 _⟩
   . exact ⟨cnt f O,Dr rfl (Kp f O) fG (Ic _ _ _),xH _⟩
 . obtain ⟨X,Y,e1,_⟩:=Wd (f:=f) hu nd
   have hc:cnt f O=cnt f X+(b1n (f u)+cnt f Y):=by
     rw [e1,<- bE]; unfold cnt; rw [yX,xO]
   rcases hx with rfl | rfl
   . exact ⟨cnt f X+b1n (f u),Dr (Jt (some (sgn u))) (Ko nd e1) fH (T9 _ _),by omega⟩
   . exact ⟨cnt f X,Dr (Jt (some (sgn u))) (Ko nd e1) fG (Ic _ _ _),by omega⟩
noncomputable def sel (kvs:Kvs) (n:Str):wK:=(G6 kvs (.str n)).getD .none
noncomputable def isM (kvs:Kvs) (n:Str):Bool:=match sel kvs n with
 | .tuple (.str k::_)=>k == "mark"
 | _=>false
abbrev Bu (t:Str×Nat×Nat):wK:=.tuple [.str t.1,.int (t.2.1:Int),.int (t.2.2:Int)]
inductive Rows (kvs:Kvs) (O:List As) (f:As->Bool):List Str->List (Str×Nat×Nat)->Prop where
 | nil:Rows kvs O f [] []
 | mark {n:Str} {i a1 a2:wK} {b c:Nat} {ns:List Str} {rs:List (Str×Nat×Nat)}:G6 kvs (.str n)=some (.tuple [.str "mark",i,.str n,a1,a2])->J2 [fN (plN f O),.sh a1]=.ok (.int (b:Int))->J2 [fN (plN f O),.sh a2]=.ok (.int (c:Int))->b<=cnt f O->c<=cnt f O->Rows kvs O f ns rs->Rows kvs O f (n::ns) ((n,b,if b < c then c else b)::rs)
 | skip {n:Str} {i:wK} {ns:List Str} {rs:List (Str×Nat×Nat)}:G6 kvs (.str n)=some (.tuple [.str "unmark",i,.str n])->Rows kvs O f ns rs->Rows kvs O f (n::ns) rs
theorem eJ {kvs:Kvs} {O:List As} {f:As->Bool} (nd:(O.map sgn).Nodup) (h:LastOk O kvs):∀ ns:List Str,(∀ x∈ns,∃ d,G6 kvs (.str x)=some d)->∃ rs,Rows kvs O f ns rs
 | [],_=>⟨[],.nil⟩
 | n::ns,hn=>by
   obtain ⟨rs,hr⟩:=eJ (f:=f) nd h ns fun x hx=>hn x (.tail _ hx);obtain ⟨d,hd⟩:=hn n (.head _); rcases h.get hd with ⟨i,a1,a2,rfl,h1,h2⟩ | ⟨i,rfl⟩
   . obtain ⟨b,b1,b2⟩:=bM (f:=f) nd h1
     obtain ⟨c,c1,c2⟩:=bM (f:=f) nd h2; exact ⟨_,.mark hd b1 c1 b2 c2 hr⟩
   . exact ⟨rs,.skip hd hr⟩
theorem Rows.ok {kvs:Kvs} {O:List As} {f:As->Bool} {ns:List Str} {rs:List (Str×Nat×Nat)} (h:Rows kvs O f ns rs):rs.length<=ns.length/\(∀ t∈rs,t.1∈ns/\t.2.1<=t.2.2/\t.2.2<=cnt f O)/\(ns.Nodup->(rs.map (·.1)).Nodup):=by
 induction h with
 | nil=>exact ⟨xH _,(fun _ h=>nomatch h),fun _=>.nil⟩
 | @mark n i a1 a2 b c ns rs _ _ _ hb hc _ ih =>
   refine ⟨Nat.succ_le_succ ih.1,fun t ht=>?_,fun nd=>?_⟩
   . rcases wR.mp ht with rfl | ht
     . refine ⟨.head _,?_,?_⟩
       . show b<=(if b < c then c else b)
         split <;> omega
       . show (if b < c then c else b)<=_
         split <;> omega
     . obtain ⟨k1,k2⟩:=ih.2.1 t ht
       exact ⟨.tail _ k1,k2⟩
   . rw [zG] at nd
     rw [wU,zG]; refine ⟨fun z=>?_,ih.2.2 nd.2⟩;obtain ⟨t,ht,e⟩:=xK.mp z; have:=(ih.2.1 t ht).1; rw [e] at this; exact nd.1 this
 | skip _ _ ih =>
   refine ⟨AL ih.1,fun t ht=>?_,fun nd=>?_⟩
   . obtain ⟨k1,k2⟩:=ih.2.1 t ht
     exact ⟨.tail _ k1,k2⟩
   . exact ih.2.2 (zG.mp nd).2
theorem Ri {kvs:Kvs} {n:Str} {xs:List wK} (h:G6 kvs (.str n)=some (.tuple (.str "mark" :: xs))):isM kvs n=true:=by
 unfold isM sel; rw [h]; exact beq_self_eq_true _
theorem cX {kvs:Kvs} {n:Str} {xs:List wK} (h:G6 kvs (.str n)=some (.tuple (.str "unmark" :: xs))):isM kvs n=false:=by
 unfold isM sel; rw [h]; exact Br (by decide)
theorem pY {kvs:Kvs} {O:List As} {f:As->Bool} {ns:List Str} {rs:List (Str×Nat×Nat)} (h:Rows kvs O f ns rs):D4 D9 [oN kvs] (C4 (b2 (b2 (Ib 1 (A5 0)) (vC (.int 0)) dIx) (vC (.str "mark")) dEq)) (Ib 1 (A5 0)) (ns.map .str)=.ok ((ns.filter (isM kvs)).map (sel kvs)):=by
 have get:∀ {n:Str} {d:wK},G6 kvs (.str n)=some d->(Ib 1 (A5 0)) ([.sh (.str n)]++[oN kvs])=.ok d:=fun {n d} e=>by
   show Res.bind (Res.ok (c6 n)) (fun kd'=>if nkD kd'=true then ofO (G6 kvs kd') else Res.no)=_;rw [C7,if_pos (show nkD (.str n)=true from rfl),e]; rfl
 induction h with
 | nil=>rfl
 | @mark n i a1 a2 b c ns rs hg _ _ _ _ _ ih =>
   rw [xW,Ri hg,if_pos rfl,wU,wU,show sel kvs n=.tuple [.str "mark",i,.str n,a1,a2] by unfold sel; rw [hg]; rfl];exact dH (C3 (C0 (x:=.str "mark") (y:=.str "mark") (C0 (get hg) rfl (T9 _ _)) rfl (by rw [Hr,Gh]))) (get hg) ih
 | @skip n i ns rs hg _ ih =>
   rw [xW,cX hg,if_neg (by decide),wU]; exact nF (C3 (C0 (x:=.str "unmark") (y:=.str "mark") (C0 (get hg) rfl (T9 _ _)) rfl (by rw [Hr,Br (by decide)]))) ih
noncomputable def nJ:Dn->Out:=(D1 (I9 4 (Y0 1 (b2 (A5 3) (vC (.int 3)) dIx) J2)) (Gq 2 (E8 (A4 (b2 (A5 3) (vC (.int 2)) dIx) (A4 (A5 4) (A4 (vFn (A4 (A5 4) (A4 (Y0 1 (b2 (A5 3) (vC (.int 4)) dIx) J2) B2)) iU) B2))))))
theorem tix4 (x y z u v:wK) (xs:List wK):dIx (.tuple (x::y::z::u::v::xs)) (.int 4)=some v:=M8 (xs:=x::y::z::u::v::xs) (j:=4) (by simp)
theorem Vu {i:Nat} {f:Dn->Res wK} {m:List Sl->Res wK} {δ:Dn} {kvs:Kvs} {d v:wK} (h1:δ[i]? = some (.fd kvs)) (h2:f δ=.ok d) (h3:m [.fd kvs,.sh d]=.ok v):Y0 i f m δ=.ok v:=by
 unfold Y0;rw [h1];show (f δ).bind _=_;rw [h2,C7,h3]
theorem mx (b c:Nat):iU [.int (b:Int),.int (c:Int)]=some (.int ((if b < c then c else b:Nat):Int)):=by
 show some (j6 (if (b:Int) < (c:Int) then (c:Int) else (b:Int)))=_;by_cases h:b < c
 . rw [if_pos h,if_pos (by omega)]
 . rw [if_neg h,if_neg (by omega)]
theorem pX {kvs:Kvs} {O:List As} {f:As->Bool} (b:wK) {ns:List Str} {rs:List (Str×Nat×Nat)} (h:Rows kvs O f ns rs):∀ (T:List wK) (s3 s4:Sl),T.length+ns.length<=800->∃ t3 t4,K3 (st1 3) nJ ((ns.filter (isM kvs)).map (sel kvs)) [.sh b,fN (plN f O),.ow (.list T),s3,s4]=.nx [.sh b,fN (plN f O),.ow (.list (T++rs.map Bu)),t3,t4]:=by
 induction h with
 | nil=>intro T s3 s4 _; rw [zF,xV]; exact ⟨s3,s4,rfl⟩
 | @mark n i a1 a2 bb c ns rs hg p1 p2 _ _ _ ih =>
   intro T s3 s4 hl; rw [xB] at hl; rw [xW,Ri hg,if_pos rfl,wU,show sel kvs n=.tuple [.str "mark",i,.str n,a1,a2] by unfold sel; rw [hg]; rfl];obtain ⟨t3,t4,e2⟩:=ih (T++[Bu (n,bb,if bb < c then c else bb)]) (.sh (.tuple [.str "mark",i,.str n,a1,a2])) (.sh (.int (bb:Int))) (by simp; omega);rw [zQ] at e2; refine ⟨t3,t4,(X0 rfl ?_).trans e2⟩; unfold nJ; rw [C5 (F6 (d:=.int (bb:Int)) (Vu rfl (C0 (x:=.tuple [.str "mark",i,.str n,a1,a2]) (y:=.int 3) rfl rfl (gH _ _ _ _ _)) p1))];simp only [xI,xJ]; exact Kj rfl (N0 (A9 (C0 (x:=.tuple [.str "mark",i,.str n,a1,a2]) (y:=.int 2) rfl rfl (Yu _ _ _ _)) (A9 (d:=.int (bb:Int)) rfl (A9 (Fa (A9 (d:=.int (bb:Int)) rfl (A9 (Vu rfl (C0 (x:=.tuple [.str "mark",i,.str n,a1,a2]) (y:=.int 4) rfl rfl (tix4 _ _ _ _ _ _)) p2) rfl)) (mx bb c)) rfl)))) (by omega)
 | @skip n i ns rs hg _ ih =>
   intro T s3 s4 hl; rw [xB] at hl; rw [xW,cX hg,if_neg (by decide)]; exact ih T s3 s4 (by omega)
theorem uT {x:Str} (h:Z8 x):(yB x&&decide (x.length<=1000))=true:=by
 obtain ⟨_,h2,h3⟩:=h;rw [xX];refine ⟨?_,decide_eq_true (by omega)⟩;unfold yB;have:∀ c∈x.cps.toList,97<=c/\c<=122:=h3;first
   | (rw [f9]; intro c hc; have:=this c hc; simp; omega)
   | (rw [Array.all_eq_true']; intro c hc; have:=this c (by simpa using hc); simp; omega)
   | (simp; intro c hc; have:=this c (by simpa using hc); omega)
theorem Lx {k v:wK}:∀ {kvs:Kvs} {q:wK×wK},q∈N7 kvs k v->q.1=k\/∃ q'∈kvs,q.1=q'.1
 | [],q,h=>by rw [wS.mp h]; exact .inl rfl
 | p::r,q,h=>by
   unfold N7 at h;split at h
   . rcases wR.mp h with rfl | h
     . exact .inr ⟨p,.head _,rfl⟩
     . exact .inr ⟨q,.tail _ h,rfl⟩
   . rcases wR.mp h with rfl | h
     . exact .inr ⟨_,.head _,rfl⟩
     . rcases Lx h with z | ⟨q',h',z⟩
       . exact .inl z
       . exact .inr ⟨q',.tail _ h',z⟩
abbrev Kpw (kvs:Kvs):Prop:=kvs.Pairwise fun p q=>xA p.1 q.1=false
theorem eM {k v:wK}:∀ {kvs:Kvs},Kpw kvs->Kpw (N7 kvs k v)
 | [],_=>o6 _ _
 | p::r,h=>by
   rw [Kpw,yK] at h; unfold N7;split
   . exact yK.mpr ⟨h.1,h.2⟩
   . rename_i c
     refine yK.mpr ⟨fun q hq=>?_,eM h.2⟩;rcases Lx hq with z | ⟨q',h',z⟩
     . rw [z]; simpa using c
     . rw [z]; exact h.1 q' h'
theorem aL (o:List IdP):∀ (M:List Dp) (kvs:Kvs),Kpw kvs->Kpw (Iw o M kvs)
 | [],_,h=>h
 | e::M,kvs,h=>by
   refine aL o M _ ?_; unfold Av;split
   . split
     . exact h
     . exact eM h
   . exact h
theorem Yv:∀ {kvs:Kvs} {ss:List Str},Ak (kvs.map (·.1))=some ss->Kpw kvs->ss.Nodup
 | [],ss,e,_=>by cases e; exact .nil
 | p::r,ss,e,h=>by
   rw [Kpw,yK] at h; have e':=Ja e;cases ss with
   | nil=>cases e'
   | cons x ss =>
     rw [wU,wU] at e';injection e' with e1 e2
     have e1:p.1=.str x:=e1; refine zG.mpr ⟨fun z=>?_,Yv (kvs:=r) ?_ h.2⟩
     . have:c6 x∈r.map (·.1):=by rw [e2]; exact xY z
       obtain ⟨q,hq,eq⟩:=xK.mp this; have hh:=h.1 q hq; rw [e1,show q.1=_ from eq] at hh; exact absurd (show (x==x)=false from hh) (by rw [beq_self_eq_true]; decide)
     . have : ∀ (l : List Str), Ak (l.map c6) = some l := fun l => by
         induction l with
         | nil=>rfl
         | cons y l ih=>show (Ak (l.map c6)).map (y::·)=_; rw [ih]; rfl
       rw [e2]; exact this ss
def bP (kvs:Kvs):Prop:=∀ p∈kvs,∃ x:Str,p.1=.str x
theorem Vo {n:Str} {d:wK}:∀ {kvs:Kvs},bP kvs->∀ m:Str,G6 (N7 kvs (.str n) d) (.str m)=if n=m then some d else G6 kvs (.str m)
 | [],_,m=>by
   show ((FS (fun p=>xA p.1 (.str m)) [((.str n:wK),d)]).map (·.2))=_;rw [xR,show xA ((c6 n,d):wK×wK).1 (.str m)=(n==m) from rfl];by_cases c:n=m
   . rw [if_pos c,c,Gh]; rfl
   . rw [if_neg c,Br c]; rfl
 | p::r,h,m=>by
   obtain ⟨x,hx⟩:=h p (.head _); have ih:=Vo (n:=n) (d:=d) (kvs:=r) (fun q hq=>h q (.tail _ hq)) m;unfold N7; rw [hx,show xA (.str x) (.str n)=(x==n) from rfl];by_cases c:x=n
   . subst c
     rw [Gh,if_pos rfl]; unfold G6; rw [xR,xR,hx,show xA (.str x) (.str m)=(x==m) from rfl];by_cases c2:x=m
     . rw [if_pos c2,c2,Gh]; rfl
     . rw [if_neg c2,Br c2]
   . rw [Br c,if_neg (by decide)]
     unfold G6 at ih ⊢;rw [xR,xR,hx,show xA (.str x) (.str m)=(x==m) from rfl];by_cases c2:x=m
     . rw [c2,Gh,if_neg (by rw [<- c2]; exact fun z=>c z.symm)]
     . rw [Br c2]; exact ih
noncomputable def lk (o:List IdP) (n:Str):List Dp->Option wK->Option wK
 | [],a=>a
 | e::r,a=>lk o n r (if U0 e.1=some n/\e.2∉o then some e.1 else a)
theorem iE {o:List IdP} {e:Dp} {kvs:Kvs} (h:bP kvs) (n:Str):bP (Av o e kvs)/\G6 (Av o e kvs) (.str n)=if U0 e.1=some n/\e.2∉o then some e.1 else G6 kvs (.str n):=by
 unfold Av;cases c:U0 e.1 with
 | none=>exact ⟨h,(if_neg (by rintro ⟨z,_⟩; cases z)).symm⟩
 | some m =>
   show bP (if e.2∈o then kvs else N7 kvs (.str m) e.1)/\G6 (if e.2∈o then kvs else N7 kvs (.str m) e.1) (.str n)=_;by_cases ho:e.2∈o
   . rw [if_pos ho,if_neg (fun z=>z.2 ho)]; exact ⟨h,rfl⟩
   . rw [if_neg ho]
     refine ⟨fun p hp=>?_,?_⟩
     . rcases Lx hp with z | ⟨q,hq,z⟩
       . exact ⟨m,z⟩
       . obtain ⟨x,hx⟩:=h q hq
         exact ⟨x,z.trans hx⟩
     . rw [Vo h]
       by_cases e1:m=n
       . rw [if_pos e1,if_pos ⟨by rw [e1],ho⟩]
       . rw [if_neg e1,if_neg (fun z=>e1 (yF z.1))]
theorem Vd {o:List IdP} (n:Str):∀ (M:List Dp) {kvs:Kvs},bP kvs->G6 (Iw o M kvs) (.str n)=lk o n M (G6 kvs (.str n))
 | [],_,_=>rfl
 | e::M,kvs,h=>by
   obtain ⟨h1,h2⟩:=iE (o:=o) (e:=e) h n; show G6 (Iw o M (Av o e kvs)) (.str n)=lk o n M _;rw [Vd n M h1,h2]
theorem mF {o:List IdP} {n:Str} {d:wK}:∀ {M:List Dp} {a:Option wK},lk o n M a=some d->a=some d\/∃ e∈M,e.1=d
 | [],_,h=>.inl h
 | e::M,a,h=>by
   rcases mF (M:=M) (show lk o n M _=some d from h) with z | ⟨x,hx,z⟩
   . by_cases c:U0 e.1=some n/\e.2∉o
     . rw [if_pos c] at z; exact .inr ⟨e,.head _,yF z⟩
     . rw [if_neg c] at z; exact .inl z
   . exact .inr ⟨x,.tail _ hx,z⟩
abbrev Row:=Str×Nat×Nat
def GR (O:List As) (f:As->Bool) (look:Str->Option wK) (t:Row):Prop:=∃ i a1 a2,∃ c:Nat,look t.1=some (.tuple [.str "mark",i,.str t.1,a1,a2])/\J2 [fN (plN f O),.sh a1]=.ok (.int (t.2.1:Int))/\J2 [fN (plN f O),.sh a2]=.ok (.int (c:Int))/\t.2.2=(if t.2.1 < c then c else t.2.1)
def ltW (a b:Row):Prop:=leX a.1 b.1/\a.1≠b.1
theorem aS:∀ {l l':List Row},l.Pairwise ltW->l'.Pairwise ltW->(∀ x,x∈l↔x∈l')->l=l'
 | [],[],_,_,_=>rfl
 | [],b::m,_,_,h=>nomatch (h b).mpr (.head _)
 | a::l,[],_,_,h=>nomatch (h a).mp (.head _)
 | a::l,b::m,h1,h2,h=>by
   rw [yK] at h1 h2; have e:a=b:=by
     rcases wR.mp ((h a).mp (.head _)) with e | e
     . exact e
     . rcases wR.mp ((h b).mpr (.head _)) with e' | e'
       . exact e'.symm
       . exact absurd ((h1.1 b e').1.anti (h2.1 a e).1) (h1.1 b e').2
   subst e; have:l=m:=aS h1.2 h2.2 fun x=>⟨fun hx=>by
     rcases wR.mp ((h x).mp (.tail _ hx)) with z | z
     . exact absurd (by rw [z]) (h1.1 x hx).2
     . exact z,fun hx=>by
     rcases wR.mp ((h x).mpr (.tail _ hx)) with z | z
     . exact absurd (by rw [z]) (h2.1 x hx).2
     . exact z⟩
   rw [this]
theorem lS {a b:Nat} {r:Res wK} (h1:r=.ok (.int (a:Int))) (h2:r=.ok (.int (b:Int))):a=b:=by
 rw [h1] at h2;injection h2 with h2
 injection h2 with h2
 omega
theorem Rows.mem {kvs:Kvs} {O:List As} {f:As->Bool} {ns:List Str} {rs:List Row} (h:Rows kvs O f ns rs):∀ t:Row,t∈rs↔t.1∈ns/\GR O f (fun n=>G6 kvs (.str n)) t:=by
 induction h with
 | nil=>intro t; exact ⟨fun h=>(nomatch h),fun h=>(nomatch h.1)⟩
 | @mark n i a1 a2 b c ns rs hg p1 p2 hb hc _ ih =>
   intro t;constructor
   . intro ht
     rcases wR.mp ht with rfl | ht
     . exact ⟨.head _,i,a1,a2,c,hg,p1,p2,rfl⟩
     . obtain ⟨z1,z2⟩:=(ih t).mp ht
       exact ⟨.tail _ z1,z2⟩
   . rintro ⟨h1,h2⟩
     rcases wR.mp h1 with e | h1
     . obtain ⟨t1,t2,t3⟩:=t
       have e:t1=n:=e; subst e; obtain ⟨i',b1,b2,c',g1,g2,g3,g4⟩:=h2; have g1:G6 kvs (.str t1)=some (.tuple [.str "mark",i',.str t1,b1,b2]):=g1; rw [hg] at g1;injection g1 with g1
       injection g1 with g1
       injection g1 with _ g1
       injection g1 with _ g1
       injection g1 with _ g1
       injection g1 with z1 g1
       injection g1 with z2 _
       subst z1; subst z2; have k1:t2=b:=lS g2 p1; have k2:c'=c:=lS g3 p2; subst k1; subst k2; have g4:t3=_:=g4; rw [g4]; exact .head _
     . exact .tail _ ((ih t).mpr ⟨h1,h2⟩)
 | @skip n i ns rs hg _ ih =>
   intro t;constructor
   . intro ht
     obtain ⟨z1,z2⟩:=(ih t).mp ht; exact ⟨.tail _ z1,z2⟩
   . rintro ⟨h1,h2⟩
     refine (ih t).mpr ⟨?_,h2⟩; rcases wR.mp h1 with e | h1
     . obtain ⟨i',b1,b2,c',g1,_⟩:=h2
       have g1:G6 kvs (.str t.1)=_:=g1; rw [e,hg] at g1;injection g1 with g1
       injection g1 with g1
       injection g1 with g1 _
       injection g1 with g1
       exact absurd g1 (by decide)
     . exact h1
theorem Rows.sub {kvs:Kvs} {O:List As} {f:As->Bool} {ns:List Str} {rs:List Row} (h:Rows kvs O f ns rs):(rs.map (·.1)).Sublist ns/\(ns.filter (isM kvs)).map (sel kvs)=rs.map fun t=>sel kvs t.1:=by
 induction h with
 | nil=>exact ⟨.slnil,rfl⟩
 | mark hg _ _ _ _ _ ih=>exact ⟨ih.1.cons_cons _,by rw [xW,Ri hg,if_pos rfl,wU,wU,ih.2]⟩
 | skip hg _ ih=>exact ⟨ih.1.cons _,by rw [xW,cX hg,if_neg (by decide),ih.2]⟩
abbrev look (L:List Dp) (n:Str):Option wK:=lk (off L) n L none
structure Mks (L:List Dp) (O:List As) (f:As->Bool) (ts:List Row):Prop where
 m:C9 [bkD L]=.ok (.list (ts.map Bu))
 up:ts.Pairwise ltW
 mem:∀ t,t∈ts↔GR O f (look L) t
 len:ts.length<=20
 dd:P8 [bkD L]=.ok (.list (ts.map fun t=>(look L t.1).getD .none))
theorem Kw {L:List Dp} {B:List Ad} {ku kd:Kvs} (S:Pb L B ku kd):∃ ts:List Row,Mks L (ord B) (pres ku kd) ts:=by
 have A:=S.A;have W:=S.W;have hl:=S.hl;have P:=S.P;have kdL:∀ e∈L,Kd e:=fun e he=>(W.1 e he).kd;have mdL:∀ e∈L,Md (ord B) e:=fun e he=>(W.1 e he).md A;have hol:=Fq A;have nd:=Hx A.bk;obtain ⟨t3,g1,g2⟩:=Ve (O:=ord B) (off L) (C4 (T8 true 1 (b2 (A5 3) (vC (.int 1)) dIx))) (.sh (bkD L)) (oN ku) L mdL (fun e he kvs=>by
   refine C3 ?_; rw [Dg (kvs:=ku) (kd:=idP e.2) rfl (C0 (x:=e.1) (y:=.int 1) rfl rfl (kdL e he).tid) (Y6 _),bne_true]; exact congrArg (fun z=>Res.ok (zC (!z))) (P.o e.2)) [] .un (by simp; omega)
 have hlast:=aM (O:=ord B) (off L) L mdL [] (fun _ h=>nomatch h);have hpw:=aL (off L) L [] .nil;have hget:∀ n,G6 (Iw (off L) L []) (.str n)=look L n:=fun n=>Vd n L (fun _ h=>nomatch h);generalize hkv:Iw (off L) L []=kvs at *;have hkl:kvs.length<=20:=by simp at g2; omega
 obtain ⟨ss,s1,s2,s3,s4⟩:=hlast.texts;have hsort:∀ (δ:Dn) (i:Nat),kvN δ i=some kvs->Pl i δ=.ok (.list ((Bs ss).map .str)):=fun δ i h=>by
   unfold Pl; rw [h]; show (match Ak (kvs.map (·.1)) with | some ss=>_ | none=>_)=_;rw [s1]; show (if _ then _ else _)=_;rw [if_pos ⟨by omega,f9.mpr fun x hx=>uT (s3 x hx)⟩]
 have hnl:(Bs ss).length<=20:=by rw [(W9 ss).length_eq]; omega
 obtain ⟨rs,R⟩:=eJ (f:=pres ku kd) nd hlast (Bs ss) fun x hx=>s4 x ((W9 ss).mem_iff.mp hx);have hmd:P8 [bkD L]=.ok (.list (((Bs ss).filter (isM kvs)).map (sel kvs))):=by
   unfold P8 Cu O3; refine K9 ?_; show D1 _ _ [.sh (bkD L),.un,.un,.un]=_;rw [C5 (δ':=[.sh (bkD L),oN ku,.un,.un]) (by unfold Bc Y8 Ch; simp_arith [P.P.u])];rw [C5 (δ':=[.sh (bkD L),oN ku,oN [],.un]) (by rfl)];rw [C5 (δ':=[.sh (bkD L),oN ku,oN kvs,t3]) (by
     unfold Bb U5; rw [F4 (d:=bkD L) (ds:=L.map (·.1)) rfl rfl,E7]; exact g1)]
   unfold Ba; exact E1 (M3 (K1 (F4 (d:=.list ((Bs ss).map .str)) (hsort _ _ rfl) rfl) (by rw [wT]; omega) rfl (pY R)))
 obtain ⟨v3,v4,q1⟩:=pX (bkD L) R [] .un .un (by simp; omega);obtain ⟨r1,r2,r3⟩:=R.ok;obtain ⟨r4,r5⟩:=R.sub;have hnd:(Bs ss).Nodup:=(W9 ss).nodup_iff.mpr (Yv s1 hpw);have hss:∀ n d,G6 kvs (.str n)=some d->n∈ss:=fun n d h=>by
   unfold G6 at h; obtain ⟨p,e1,_⟩:=yN.mp h; have hp:=FY e1; have hq:=List.find?_some e1; have e2:=Ja s1; have:p.1∈ss.map c6:=by rw [<- e2]; exact xY hp
   obtain ⟨x,hx,e3⟩:=xK.mp this; rw [<- e3] at hq; have:x=n:=j4 (show (x==n)=true from hq);rw [<- this]; exact hx
 refine ⟨rs,?_,?_,fun t=>?_,by omega,?_⟩
 . unfold C9 Fm V3
   refine K9 ?_; show D1 _ _ [.sh (bkD L),.un,.un,.un,.un]=_;rw [C5 (δ':=[.sh (bkD L),oN (plN (pres ku kd) (ord B)),.un,.un,.un]) (by unfold Eb Y8 Ch; simp_arith [gU A hl P.P])];rw [C5 (δ':=[.sh (bkD L),oN (plN (pres ku kd) (ord B)),.ow (.list []),.un,.un]) (by rfl)];rw [C5 (δ':=[.sh (bkD L),fN (plN (pres ku kd) (ord B)),.ow (.list (rs.map Bu)),v3,v4]) (by
     unfold Ea cN; show U5 _ _ _ [.sh (bkD L),fN (plN (pres ku kd) (ord B)),.ow (.list []),.un,.un]=_;unfold U5; rw [F4 (d:=.list (((Bs ss).filter (isM kvs)).map (sel kvs))) (B5 (A9 (d:=bkD L) rfl rfl) hmd) rfl,E7]; exact q1)]
   rfl
 . have h1:(rs.map (·.1)).Pairwise leX:=(Zg ss).sublist r4
   have h2:(rs.map (·.1)).Nodup:=hnd.sublist r4; rw [u5] at h1; rw [x4,u5] at h2; exact (h1.and h2).imp fun h=>h
 . rw [R.mem t]
   have e:GR (ord B) (pres ku kd) (fun n=>G6 kvs (.str n)) t↔GR (ord B) (pres ku kd) (look L) t:=by
     unfold GR; simp only [hget]
   rw [e]; refine ⟨fun h=>h.2,fun h=>⟨?_,h⟩⟩;obtain ⟨i,a1,a2,c,g,_⟩:=h; exact (W9 ss).mem_iff.mpr (hss t.1 _ (by rw [hget]; exact g))
 . rw [hmd,r5]
   congr 2;exact List.map_congr_left fun t _=>by unfold sel; rw [hget]
abbrev txt (ku kd:Kvs) (B:List Ad):Str:=m9 "" (((ord B).filter (pres ku kd)).map ltr)
theorem Kr:∀ (A B:List Dp) (o:List IdP),X7 (A++B) o=X7 B (X7 A o)
 | [],_,_=>rfl
 | e::A,B,o=>Kr A B _
theorem Qy {X:List IdP}:∀ (ds:List Dp),(∀ e∈ds,Az e.1≠none->e.2∉X)->∀ o o',(∀ p,p∈o'↔p∈o\/p∈X)->∀ p,p∈X7 ds o'↔p∈X7 ds o\/p∈X
 | [],_,o,o',h=>h
 | e::ds,hd,o,o',h=>by
   refine Qy ds (fun d hd'=>hd d (.tail _ hd')) _ _ ?_;intro p; unfold Hg;cases c:Az e.1 with
   | none=>exact h p
   | some q =>
     have hx:=hd e (.head _) (by rw [c]; simp);show p∈(if e.2∈o' then o' else o'++[q])↔p∈(if e.2∈o then o else o++[q])\/p∈X;have he:e.2∈o'↔e.2∈o:=by rw [h]; exact ⟨fun z=>z.elim id fun z=>absurd z hx,.inl⟩
     by_cases z:e.2∈o
     . rw [if_pos z,if_pos (he.mpr z)]; exact h p
     . rw [if_neg z,if_neg (fun y=>z (he.mp y))]
       rw [xC,xC,wS,h p];constructor
       . rintro ((z | z) | z)
         . exact .inl (.inl z)
         . exact .inr z
         . exact .inl (.inr z)
       . rintro ((z | z) | z)
         . exact .inl (.inl z)
         . exact .inr z
         . exact .inl (.inr z)
theorem aB:∀ (ds:List Dp) (o:List IdP) (p:IdP),p∈X7 ds o->p∈o\/∃ e∈ds,Az e.1=some p
 | [],_,_,h=>.inl h
 | e::ds,o,p,h=>by
   rcases aB ds (Hg e o) p h with z | ⟨d,hd,z⟩
   . unfold Hg at z
     cases c:Az e.1 with
     | none=>rw [c] at z; exact .inl z
     | some q =>
       rw [c] at z; have z:p∈(if e.2∈o then o else o++[q]):=z;split at z
       . exact .inl z
       . rcases xC.mp z with z | z
         . exact .inl z
         . exact .inr ⟨e,.head _,by rw [c,wS.mp z]⟩
   . exact .inr ⟨d,.tail _ hd,z⟩
def Mild (e:Dp):Prop:=∃ k x xs,e.1=.tuple (.str k::idP e.2::x::xs)/\k ≠ "drop" /\ k ≠ "add"
theorem BkA.mild {L:List Dp} {B:List Ad} (A:BkA L B) {e:Dp} (h:Mild e):BkA (L++[e]) B:=by
 obtain ⟨k,x,xs,h1,_,h2⟩:=h;exact ⟨A.ad.snocO k x xs h1 h2,A.bk,A.wd,A.id,fun a ha=>yT _ (A.inL a ha),by rw [xO]; exact xD A.len (Nat.le_add_right _ _)⟩
theorem BkW.more {L:List Dp} {d:wK} {q:IdP} (h:BkW L) (w:WfIn L (d,q)) (hk:∀ e∈L,key e.2 < key q):BkW (L++[(d,q)]):=by
 have up:∀ x∈L,x∈L++[(d,q)]:=fun x hx=>yT _ hx;refine ⟨fun e he=>?_,?_⟩
 . rcases xC.mp he with z | z
   . exact (h.1 e z).mono up
   . rw [wS.mp z]; exact w.mono up
 . exact j0.mpr ⟨h.2,o6 _ _,fun a ha b hb=>by rw [wS.mp hb]; exact hk a ha⟩
theorem mS (p q:IdP):xA (idP p) (idP q)=decide (p=q):=by
 show (xA (.int p.1) (.int q.1)&&(xA (.str p.2) (.str q.2)&&true))=_;show ((p.1==q.1)&&((p.2==q.2)&&true))=_;rw [i6];simp [Prod.ext_iff]
theorem dE (p:IdP):(idP p).depth<=2:=Xy p.1 p.2
theorem dEqP (p q:IdP):dEq (idP p) (idP q)=some (.bool (decide (p=q))):=by
 unfold dEq;rw [if_pos (xD (AC _ _) (xD (dE p) (by decide))),mS]
theorem Dq (x y:wK) (xs:List wK):dIx (.tuple (x::y::xs)) (.int 1)=some y:=M8 (xs:=x::y::xs) (j:=1) (by simp)
theorem fM (x y z:wK) (xs:List wK):dIx (.tuple (x::y::z::xs)) (.int 2)=some z:=M8 (xs:=x::y::z::xs) (j:=2) (by simp)
theorem sK (x y z u:wK) (xs:List wK):dIx (.tuple (x::y::z::u::xs)) (.int 3)=some u:=M8 (xs:=x::y::z::u::xs) (j:=3) (by simp)
theorem dIdx4 (x y z u v:wK) (xs:List wK):dIx (.tuple (x::y::z::u::v::xs)) (.int 4)=some v:=M8 (xs:=x::y::z::u::v::xs) (j:=4) (by simp)
theorem leI (a b:Int):I0 .LtE (.int a) (.int b)=some (.bool (decide (a<=b))):=by
 unfold I0;rw [if_pos (by simp [yS])];rfl
theorem sA {p q:IdP} (k:okH p.2) (k':okH q.2) (h:key p < key q):xA (idP p) (idP q)=false/\Rx .Lt (idP p) (idP q)=some true:=by
 obtain ⟨t,x⟩:=p;obtain ⟨t',y⟩:=q;have hne:(t,x)≠(t',y):=fun e=>by rw [e] at h; omega
 refine ⟨by rw [mS]; exact decide_eq_false hne,?_⟩;have e3:Qr .Lt x y=decide (hj x < hj y):=by
   rcases k with rfl | rfl | rfl <;> rcases k' with rfl | rfl | rfl <;> decide +kernel
 obtain ⟨e1,_⟩:=leS x y k k';have l1:=Kz x;have l2:=Kz y;unfold key at h;simp only at h;show Ev .Lt [.int t,.str x] [.int t',.str y]=_;simp only [Ev];have f1:xA (.int t) (.int t')=(t==t'):=rfl;have f2:xA (.str x) (.str y)=(x==y):=rfl;rw [f1,f2,e1];by_cases c1:t=t'
 . subst c1
   rw [if_pos (by simp),if_neg (by simp; omega)];show some (Qr .Lt x y)=_;rw [e3,decide_eq_true (by omega)]
 . rw [if_neg (by simp [c1])]
   show some (decide (t < t'))=_;rw [decide_eq_true (by omega)]
def ltD (a b:wK):Prop:=I0 .Lt a b=some (.bool true)
theorem ltId {p q:IdP} (k:okH p.2) (k':okH q.2) (h:key p < key q):ltD (idP p) (idP q):=by
 unfold ltD I0;rw [if_pos (xD (dE p) (by decide)),(sA k k' h).2]; rfl
theorem sgR.lt {a b:wK} (h:sgR a b):ltD a b:=by
 obtain ⟨p,q,n,m,rfl,rfl,k,k',h⟩:=h;unfold ltD I0;have hd:(sgD p n).depth<=60:=by
   have:=dE p; simp only [yS,yV] at this ⊢;omega
 rw [if_pos hd];show (Ev .Lt [idP p,.int n] [idP q,.int m]).map zC=_;simp only [Ev];rcases h with h | ⟨rfl,h⟩
 . obtain ⟨e1,e2⟩:=sA k k' h
   rw [if_neg (by rw [e1]; decide),e2]; rfl
 . rw [if_pos (by rw [mS]; simp)]
   have f1:xA (.int n) (.int m)=(n==m):=rfl; rw [f1,if_neg (by simp; omega)];show (some (decide (n < m))).map zC=_;rw [decide_eq_true h]; rfl
theorem nL:∀ (ys:List wK),(∀ y∈ys,y=.bool true)->Gr [.list ys]=some (.bool true):=fun ys h=>by
 have:∀ ys:List wK,(∀ y∈ys,y=.bool true)->∃ bs,An ys=some bs/\bs.all id=true:=fun ys=>by
   induction ys with
   | nil=>exact fun _=>⟨[],rfl,rfl⟩
   | cons y ys ih =>
     intro h; obtain ⟨bs,e1,e2⟩:=ih fun z hz=>h z (.tail _ hz);rw [h y (.head _)]; exact ⟨true::bs,by show (An ys).map _=_; rw [e1]; rfl,by simp [e2]⟩
 obtain ⟨bs,e1,e2⟩:=this ys h;show (An ys).map _=_;rw [e1];show some (zC (bs.all id))=_;rw [e2]
theorem Ay {src:Dn->Res (List wK)} {cap:List Nat} {el:Dn->Res wK} {δ δc:Dn} {ds:List wK} (h:src δ=.ok ds) (hl:ds.length<=1000) (hc:Ej δ cap=δc) (e:∀ d∈ds,el ([.sh d]++δc)=.ok (.bool true)) :
   (vFn (A4 (I8 (F5 src D9 cap K5 el)) B2) Gr) δ=.ok (.bool true):=by
 obtain ⟨ys,g1,g2,g3⟩:=Rw (bnd:=D9) (δc:=δc) (el:=el) (P:=fun y=>y=.bool true) ds fun d hd=>⟨_,_,rfl,e d hd,rfl⟩;exact Fa (A9 (M3 (K1 h hl hc g1)) rfl) (nL ys g3)
theorem Ut {V:wK} {xs:List wK} (hV:V=.list xs\/V=.tuple xs) (hl:xs.length<=900) (h:xs.Pairwise ltD):P2 [V]=.ok (.bool true):=by
 have e1:U1 [V]=some (.int (xs.length:Int)):=by rcases hV with rfl | rfl <;> rfl
 have e2:∀ i:Int,dIx V (.int i)=atI xs i:=fun i=>by rcases hV with rfl | rfl <;> rfl
 have e3:nB (.int (xs.length:Int)) (.int 1)=some (.int ((xs.length:Int) - 1)):=rfl;have e4:Jg [.int ((xs.length:Int) - 1)]=.ok (Bo 0 ((xs.length:Int) - 1)):=by
   show (if _ then _ else _)=_;rw [if_pos (by omega)]
 refine K9 (E1 (Ay (ds:=Bo 0 ((xs.length:Int) - 1)) (δc:=[.sh V]) (by simp_arith [F2,e1,e3,e4]) (by unfold Bo; simp; omega) rfl fun d hd=>?_));unfold Bo at hd;obtain ⟨i,hi,rfl⟩:=xK.mp hd;have hi':=a9.mp hi;have hi2:i+1 < xs.length:=by omega
 have hh:ltD xs[i] xs[i+1]:=(List.pairwise_iff_getElem.mp h) i (i+1) (by omega) hi2 (by omega);have a1:atI xs (0+(i:Int))=some xs[i]:=by rw [Int.zero_add]; exact M8 (by omega)
 have a2:atI xs (0+(i:Int)+1)=some xs[i+1]:=by
   have:=M8 (xs:=xs) (j:=i+1) hi2; rw [show (0+(i:Int)+1)=((i+1:Nat):Int) from by omega]; exact this
 unfold ltD at hh;simp_arith [e2,a1,Ai,a2,hh]
theorem N1 {f g:Dn->Res wK} {δ:Dn} (h:f δ=.ok (.bool true)) (h2:g δ=.ok (.bool true)):W6 f g δ=.ok (.bool true):=by rw [sN _ _ _ h,h2]
theorem Yp {n l:Int} (h:l<=n):Aa [.int n,.int l]=.ok (.bool true):=by
 refine K9 (E1 (N1 rfl (N1 rfl ?_)));refine C0 (x:=.int n) (y:=.int l) rfl rfl ?_;show some (zC (decide (l<=n)))=_;rw [decide_eq_true h]
theorem Xh (a b:wK):X2 [.tuple [a,b]]=.ok (.bool true):=K9 (E1 (N1 rfl rfl))
theorem qI {h:Str} (k:okH h):U8 [.str h,.str "abcdefgh"]=.ok (.bool true):=by
 rcases k with rfl | rfl | rfl <;> kernel_rfl
theorem oE {h:Str} (k:cW h):U8 [.str h,.str "lr"]=.ok (.bool true):=by
 rcases k with rfl | rfl <;> kernel_rfl
theorem Mm {p:IdP} (o:okI p):K8 [idP p]=.ok (.bool true):=by
 refine K9 (E1 (N1 (B5 (A9 rfl rfl) (Xh _ _)) (N1 (B5 (A9 (C0 rfl rfl (ix0 _ _)) (A9 rfl rfl)) (Yp o.1)) (B5 (A9 (C0 rfl rfl (Dq _ _ _)) (A9 rfl rfl)) (qI o.2.2)))))
theorem Uq {p:IdP} (o:okI p) {n:Int} (h:0<=n):O0 [sgD p n]=.ok (.bool true):=by
 refine K9 (E1 (N1 (B5 (A9 rfl rfl) (Xh _ _)) (N1 (B5 (A9 (C0 rfl rfl (ix0 _ _)) rfl) (Mm o)) (B5 (A9 (C0 rfl rfl (Dq _ _ _)) (A9 rfl rfl)) (Yp h)))))
def SgK (S:wK->Prop):Prop:=∀ x,S x->∃ (p:IdP) (n:Int),x=sgD p n/\okI p/\0<=n
theorem Zh {S:wK->Prop} (hS:SgK S) {s:wK} (h:OrN S s):G9 [s]=.ok (.bool true):=by
 rcases h with rfl | h
 . kernel_rfl
 . obtain ⟨p,n,rfl,o,h0⟩:=hS s h
   refine K9 (E1 ?_); have:(b1 (A5 0) fun d=>some (.bool (Af d))) (F2 M7 [sgD p n])=.ok (.bool false):=rfl;unfold vOr; rw [this]; show B6 (A4 (A5 0) B2) O0 (F2 M7 [sgD p n])=_;exact B5 (A9 rfl rfl) (Uq o h0)
theorem Nl {S:wK->Prop} (hS:SgK S) {s:wK} (h:OrN S s) {x:Str} (hx:cW x):X3 [.tuple [s,.str x]]=.ok (.bool true) :=
 K9 (E1 (N1 (B5 (A9 rfl rfl) (Xh _ _)) (N1 (B5 (A9 (C0 rfl rfl (ix0 _ _)) rfl) (Zh hS h)) (B5 (A9 (C0 rfl rfl (Dq _ _ _)) (A9 rfl rfl)) (oE hx)))))
theorem le1 (a b:Nat):Qr .LtE ⟨#[a]⟩ ⟨#[b]⟩=decide (a<=b):=by
 show (!decide ([b] < [a]))=_;rw [i6];simp [List.cons_lt_cons_iff]
theorem leS1 (a b:Nat):I0 .LtE (.str ⟨#[a]⟩) (.str ⟨#[b]⟩)=some (.bool (decide (a<=b))):=by
 unfold I0;rw [if_pos (by simp [yS])];show some (zC (Qr .LtE ⟨#[a]⟩ ⟨#[b]⟩))=_;rw [le1]
theorem Yh {f g f':Dn->Res wK} {op op':wK->wK->Option wK} {δ:Dn} {x y z:wK} (h1:f δ=.ok x) (h2:g δ=.ok y) (h3:f' δ=.ok z) (e1:op x y=some (.bool true)) (e2:op' y z=some (.bool true)):W8 f g f' op op' δ=.ok (.bool true):=by
 unfold W8;rw [h1,C7,h2,C7,e1,Rb,C7];show (f' δ).bind _=_;rw [h3,C7,e2]; rfl
theorem Vg {w:Str} {m:Int} {a b:Nat} (h1:1<=w.length) (h2:(w.length:Int)<=m) (h3:w.length<=900) (h4:chOk a b w):Ce [.str w,.int m,.str ⟨#[a]⟩,.str ⟨#[b]⟩]=.ok (.bool true):=by
 refine K9 ?_;unfold Gx;rw [D6]
 . refine E1 (Ay (ds:=Je w) (δc:=[.sh (.str ⟨#[a]⟩),.sh (.str ⟨#[b]⟩)]) rfl ?_ rfl fun d hd=>?_)
   . unfold Je; rw [wT]; exact xD h3 (by decide)
   . unfold Je at hd
     obtain ⟨c,hc,rfl⟩:=xK.mp hd; obtain ⟨l1,l2⟩:=h4 c hc; exact Yh (x:=.str ⟨#[a]⟩) (y:=.str ⟨#[c]⟩) (z:=.str ⟨#[b]⟩) rfl rfl rfl (by rw [leS1,decide_eq_true l1]) (by rw [leS1,decide_eq_true l2])
 . have t1:X8 (C4 (b1 (A5 0) fun d=>some (.bool (Kx "str" d)))) (F2 Ey [.str w,.int m,.str ⟨#[a]⟩,.str ⟨#[b]⟩])=.ok false:=rfl
   have t2:(W8 (vC (.int 1)) (vFn (A4 (A5 0) B2) U1) (A5 1) (I0 .LtE) (I0 .LtE)) (F2 Ey [.str w,.int m,.str ⟨#[a]⟩,.str ⟨#[b]⟩])=.ok (.bool true) :=
     Yh (x:=.int 1) (y:=.int (w.length:Int)) (z:=.int m) rfl rfl rfl (by rw [leI,decide_eq_true (by omega)]) (by rw [leI,decide_eq_true h2])
   unfold cOr; rw [t1,C7,if_neg (by decide)]; unfold X8; rw [C3 t2]; rfl
theorem eY {w:Str} (h:Z8 w):Ab [.str w]=.ok (.bool true) :=
 K9 (E1 (B5 (A9 rfl (A9 rfl (A9 rfl (A9 rfl rfl)))) (Vg (a:=97) (b:=122) h.1 (by have:=h.2.1; omega) (by have:=h.2.1; omega) h.2.2)))
theorem nT {w:Str} (h:Yq w):Q7 [.str w]=.ok (.bool true) :=
 K9 (E1 (B5 (A9 rfl (A9 rfl (A9 rfl (A9 rfl rfl)))) (Vg (a:=32) (b:=126) h.1 (by have:=h.2.1; omega) (by have:=h.2.1; omega) h.2.2)))
theorem dC {S:wK->Prop} (hS:SgK S) {sg:List wK} (h:∀ x∈sg,S x) (hl:sg.length<=40) (hn:sg≠[]) (hr:sg.Pairwise sgR):Y5 [.tuple sg]=.ok (.bool true):=by
 have h1:1<=sg.length:=by cases sg with | nil=>exact absurd rfl hn | cons _ _=>simp
 refine K9 ?_;unfold Cv Bg Bf;rw [D6]
 . refine E1 (N1 (Ay (ds:=sg) (δc:=[]) rfl (by omega) rfl fun d hd=>?_) (B5 (A9 rfl rfl) (Ut (.inr rfl) (by omega) (hr.imp fun h=>h.lt))))
   obtain ⟨p,n,rfl,o,h0⟩:=hS d (h d hd); exact B5 (A9 rfl rfl) (Uq o h0)
 . have t1:X8 (C4 (b1 (A5 0) fun d=>some (.bool (Kx "tuple" d)))) (F2 Q1 [.tuple sg])=.ok false:=rfl
   have t2:(W8 (vC (.int 1)) (vFn (A4 (A5 0) B2) U1) (vC (.int 400)) (I0 .LtE) (I0 .LtE)) (F2 Q1 [.tuple sg])=.ok (.bool true) :=
     Yh (x:=.int 1) (y:=.int (sg.length:Int)) (z:=.int 400) rfl rfl rfl (by rw [leI,decide_eq_true (by omega)]) (by rw [leI,decide_eq_true (by omega)])
   unfold cOr; rw [t1,C7,if_neg (by decide)]; unfold X8; rw [C3 t2]; rfl
def isSg (d:wK):Prop:=∃ (p:IdP) (n:Int),d=sgD p n
theorem isSg.p {d:wK} (h:isSg d):∃ (p:IdP) (n:Int),d=.tuple [idP p,.int n]:=h
theorem iJ {d:wK} (h:isSg d):Af d=false:=by obtain ⟨i,n,rfl⟩:=h; rfl
def sE (d:wK):Prop:=d=.none\/isSg d
theorem kF:∀ (sg:List wK),(∀ s∈sg,isSg s)->∃ ps:List IdP,ps.length=sg.length /\
   D4 D9 [] K5 (b2 (A5 0) (vC (.int 0)) dIx) sg=.ok (ps.map idP) /\
   D4 D9 [] (fun δ=>((A5 0) δ).bind fun d=>.ok (!Af d)) (A5 0) sg=.ok sg /\
   ∀ q:IdP,∃ ys:List wK,D4 D9 [.sh (idP q)] (C4 (b2 (b2 (A5 0) (vC (.int 0)) dIx) (A5 1) dEq)) (A5 0) sg=.ok ys/\(!ys.isEmpty)=decide (q∈ps)/\(q∈ps↔∃ n,yR [idP q,.int n]∈sg)
 | [],_=>⟨[],rfl,rfl,rfl,fun q=>⟨[],rfl,rfl,by simp⟩⟩
 | s::sg,h=>by
   obtain ⟨p,n,rfl⟩:=(h s (.head _)).p; obtain ⟨ps,e1,e2,e3,e4⟩:=kF sg fun x hx=>h x (.tail _ hx);refine ⟨p::ps,by simp [e1],?_,?_,fun q=>?_⟩
   . have:(b2 (A5 0) (vC (.int 0)) dIx) ([.sh (.tuple [idP p,.int n])]++[])=.ok (idP p):=by simp_arith [ix0]
     unfold D4; simp only [D9,K5,this,e2,wU]
   . unfold D4
     simp only [D9,X9,xV,yQ,U4,C7,Af,DG]; simp only [D9,X9,xV,yQ,U4,C7,Af,DG] at e3; rw [e3]
   . obtain ⟨ys,f1,f2,f3⟩:=e4 q
     have mm:q∈p::ps↔∃ m,yR [idP q,.int m]∈yR [idP p,.int n]::sg:=by
       rw [wR,f3];constructor
       . rintro (rfl | ⟨m,hm⟩)
         . exact ⟨n,.head _⟩
         . exact ⟨m,.tail _ hm⟩
       . rintro ⟨m,hm⟩
         rcases wR.mp hm with h | h
         . left
           simp only [idP,idD,zY,yP,AE,m8,and_true] at h; exact DD h.1.1 h.1.2
         . exact .inr ⟨m,h⟩
     have t:(C4 (b2 (b2 (A5 0) (vC (.int 0)) dIx) (A5 1) dEq)) ([.sh (.tuple [idP p,.int n])]++[.sh (idP q)])=.ok (decide (p=q)):=by simp_arith [ix0,dEqP]
     by_cases hpq:p=q
     . refine ⟨.tuple [idP p,.int n]::ys,?_,by simp [hpq],mm⟩
       unfold D4; rw [show D9 (.tuple [idP p,.int n])=.ok [.sh (.tuple [idP p,.int n])] from rfl];simp only [t,decide_eq_true hpq,f1]; rfl
     . refine ⟨ys,?_,by rw [f2]; simp [Ne.symm hpq],mm⟩
       unfold D4; rw [show D9 (.tuple [idP p,.int n])=.ok [.sh (.tuple [idP p,.int n])] from rfl];simp only [t,decide_eq_false hpq,f1]
theorem eF:∀ (sg:List wK),(∀ s∈sg,sE s)->∃ out:List wK,(∀ s∈out,isSg s)/\out.length<=sg.length/\D4 D9 [] (fun δ=>((A5 0) δ).bind fun d=>.ok (!Af d)) (A5 0) sg=.ok out/\(∀ s∈sg,isSg s->s∈out)/\∀ s∈out,s∈sg
 | [],_=>⟨[],(fun _ h=>nomatch h),xH _,rfl,(fun _ h=>nomatch h),fun _ h=>nomatch h⟩
 | s::sg,h=>by
   obtain ⟨out,e1,e2,e3,e4,e5⟩:=eF sg fun x hx=>h x (.tail _ hx);rcases h s (.head _) with rfl | hs
   . refine ⟨out,e1,by simp; omega,?_,fun x hx hq=>?_,fun x hx=>.tail _ (e5 x hx)⟩
     . unfold D4
       simp only [D9,X9,xV,yQ,U4,C7,Af,BS]; simp only [D9,X9,xV,yQ,U4,C7] at e3; exact e3
     . rcases wR.mp hx with rfl | hx
       . obtain ⟨i,n,hh⟩:=hq; cases hh
       . exact e4 x hx hq
   . refine ⟨s::out,fun x hx=>(wR.mp hx).elim (fun z=>z▸hs) (e1 x),by simp; omega,?_,fun x hx hq=>?_,fun x hx=>?_⟩
     . unfold D4
       simp only [D9,X9,xV,yQ,U4,C7,iJ hs,DG]; simp only [D9,X9,xV,yQ,U4,C7] at e3; rw [e3]
     . rcases wR.mp hx with rfl | hx
       . exact .head _
       . exact .tail _ (e4 x hx hq)
     . rcases wR.mp hx with rfl | hx
       . exact .head _
       . exact .tail _ (e5 x hx)
theorem Kv {S:wK->Prop} (hS:∀ x,S x->isSg x) {d:wK} {raw:List wK} (hraw':∀ s∈raw,OrN S s) (hlen:raw.length<=40) (hund:(C4 (b2 (b2 (A5 0) (vC (.int 0)) dIx) (vC (.str "undo")) dEq)) [.sh d]=.ok false)
   (hsg:(sIf (C4 (b2 (b2 (A5 0) (vC (.int 0)) dIx) (vC (.str "add")) dEq)) (I9 1 (I8 (A4 (b2 (A5 0) (vC (.int 2)) dIx) B2))) (sIf (C4 (b2 (b2 (A5 0) (vC (.int 0)) dIx) (vC (.str "drop")) dEq)) (I9 1 (vFn (A4 (b2 (A5 0) (vC (.int 2)) dIx) B2) Mn)) (sIf (C4 (b2 (b2 (A5 0) (vC (.int 0)) dIx) (vC (.str "mark")) dEq)) (I9 1 (I8 (A4 (b2 (b2 (A5 0) (vC (.int 3)) dIx) (vC (.int 0)) dIx) (A4 (b2 (b2 (A5 0) (vC (.int 4)) dIx) (vC (.int 0)) dIx) B2)))) E4))) [.sh d,.sh (.list [])]=.nx [.sh d,.sh (.list raw)]) :
   ∃ (out:List wK) (ps:List IdP),ps.length<=40/\(∀ s∈out,isSg s)/\(∀ s∈raw,isSg s->s∈out)/\(∀ s∈out,s∈raw)/\C6 [d]=.ok (.list (ps.map idP)) /\
     (∃ out:List wK,F1 [d]=.ok (.list out)/\out.length<=40/\∀ s∈out,S s/\∃ q n,s=.tuple [idP q,.int n]/\q∈ps)/\∀ q:IdP,q∈ps↔∃ n,.tuple [idP q,.int n]∈out:=by
 have hraw:∀ s∈raw,sE s:=fun s hs=>(hraw' s hs).elim .inl fun z=>.inr (hS s z);obtain ⟨out,o1,o2,o3,o4,o5⟩:=eF raw hraw;obtain ⟨ps,e1,e2,e3,e4⟩:=kF out o1;have hs:F1 [d]=.ok (.list out):=by
   refine K9 ?_; unfold Q4 V4 D5 O8 M5; simp only [F2,wU,zF,xB,yD,xF,yM,xP,zN,zM]; rw [C5 (F6 (d:=.list []) rfl)];simp only [xI,xJ]; rw [C5 hsg]; exact E1 (M3 (K1 (F4 rfl rfl) (by omega) rfl o3))
 refine ⟨out,ps,by omega,o1,o4,o5,?_,⟨out,hs,by omega,fun s hs'=>?_⟩,fun q=>?_⟩
 . refine K9 ?_
   unfold N8 O6; simp only [F2,wU,zF,xB,yD,xF,yM,xP,zN,zM]; rw [D6 hund]; exact E1 (M3 (K1 (F4 (B5 (A9 rfl rfl) hs) rfl) (by omega) rfl e2))
 . obtain ⟨q,n,rfl⟩:=(o1 s hs').p
   obtain ⟨_,_,_,z⟩:=e4 q; exact ⟨(hraw' _ (o5 _ hs')).elim (fun z=>nomatch z) (fun z=>z),q,n,rfl,z.mpr ⟨n,hs'⟩⟩
 . obtain ⟨_,_,_,z⟩:=e4 q
   exact z
theorem neS {x y:Str} (h:(x==y)=false):dEq (.str x) (.str y)=some (.bool false):=by rw [Hr,h]
theorem Tz {x:Str}:dEq (.str x) (.str x)=some (.bool true):=by rw [Hr]; simp
theorem k1:(("add" : Str) == "undo")=false:=by decide +kernel
theorem k2:(("drop" : Str) == "undo")=false:=by decide +kernel
theorem k3:(("mark" : Str) == "undo")=false:=by decide +kernel
theorem k4:(("unmark" : Str) == "undo")=false:=by decide +kernel
theorem k5:(("drop" : Str) == "add")=false:=by decide +kernel
theorem k6:(("mark" : Str) == "add")=false:=by decide +kernel
theorem k7:(("unmark" : Str) == "add")=false:=by decide +kernel
theorem k8:(("undo" : Str) == "add")=false:=by decide +kernel
theorem k9:(("mark" : Str) == "drop")=false:=by decide +kernel
theorem k10:(("unmark" : Str) == "drop")=false:=by decide +kernel
theorem k11:(("undo" : Str) == "drop")=false:=by decide +kernel
theorem k12:(("unmark" : Str) == "mark")=false:=by decide +kernel
theorem k14:(("undo" : Str) == "unmark")=false:=by decide +kernel
theorem k13:(("undo" : Str) == "mark")=false:=by decide +kernel
theorem cB (i j:wK):F1 [.tuple [.str "undo",i,j]]=.ok (.list []):=by
 refine K9 ?_;unfold Q4 V4 D5 O8 M5;simp only [F2,wU,zF,xB,yD,xF,yM,xP,zN,zM];rw [C5 (F6 (d:=.list []) rfl)];simp only [xI,xJ];rw [C5 (show _=Out.nx [.sh (.tuple [.str "undo",i,j]),.sh (.list [])] by rw [N3 (by simp_arith [ix0,neS k8]),N3 (by simp_arith [ix0,neS k11]),N3 (by simp_arith [ix0,neS k13])]; rfl)];exact E1 (M3 (K1 (ds:=[]) (F4 (d:=.list []) rfl rfl) (by simp) rfl rfl))
structure DK (S:wK->Prop) (U:IdP->Prop) (d:wK) (p:IdP) (ps:List IdP):Prop where
 id:dIx d (.int 1)=some (idP p)
 ok:okI p
 nm:C6 [d]=.ok (.list (ps.map idP))
 len:ps.length<=40
 sn:∃ out:List wK,F1 [d]=.ok (.list out)/\out.length<=40/\∀ s∈out,S s/\∃ q n,s=.tuple [idP q,.int n]/\q∈ps
 nmd:∀ q∈ps,U q\/∃ n,S (sgD q n)
 isd:Ac [d]=.ok (.bool true)
theorem Lb {x:wK} {p:IdP} {L8:List wK} {ps:List IdP} (o:okI p) (hl:ps.length<=40) (hc:bB (.tuple (x::idP p::L8)) (some 2) none=some (.tuple L8)) (hf:Ae [x,.tuple L8]=.ok (.bool true)) (nm:C6 [.tuple (x::idP p::L8)]=.ok (.list (ps.map idP))) (lt:∀ q∈ps,q.1 < p.1) :
   Ac [.tuple (x::idP p::L8)]=.ok (.bool true):=by
 refine K9 ?_;unfold Hb Ff Fe Fd;have t0:X8 (C4 (b1 (A5 0) fun d=>some (.bool (Kx "tuple" d)))) (F2 T7 [.tuple (x::idP p::L8)])=.ok false:=rfl;have t1:C4 (b2 (vFn (A4 (A5 0) B2) U1) (vC (.int 2)) (I0 .Lt)) (F2 T7 [.tuple (x::idP p::L8)])=.ok false:=by
   refine C3 (C0 (x:=.int ((x::idP p::L8).length:Int)) (y:=.int 2) rfl rfl ?_); rw [ltI,decide_eq_false (by simp only [xB]; omega)]
 have t2:C4 (B6 (A4 (b2 (A5 0) (vC (.int 1)) dIx) B2) K8) (F2 T7 [.tuple (x::idP p::L8)])=.ok true:=C3 (B5 (A9 (C0 rfl rfl (Dq _ _ _)) rfl) (Mm o));rw [D6 (by unfold cOr; rw [t0,C7,if_neg (by decide),t1,C7,if_neg (by decide)]; unfold X8; rw [t2]; rfl)];have t3:C4 (B6 (A4 (b2 (A5 0) (vC (.int 0)) dIx) (A4 (vSl (A5 0) (Ks (vC (.int 2))) Kt) B2)) Ae) (F2 T7 [.tuple (x::idP p::L8)])=.ok true:=by
   refine C3 (B5 (A9 (C0 rfl rfl (ix0 _ _)) (A9 (d:=.tuple L8) ?_ rfl)) hf); unfold vSl; show ofO (bB (.tuple (x::idP p::L8)) (some 2) none)=_;rw [hc]; rfl
 rw [D6 (by unfold X8; rw [t3]; rfl)];refine E1 (Ay (ds:=ps.map idP) (δc:=[.sh (.tuple (x::idP p::L8))]) (F4 (B5 (A9 rfl rfl) nm) rfl) (by rw [wT]; omega) rfl fun d hd=>?_);obtain ⟨q,hq,rfl⟩:=xK.mp hd;refine C0 (x:=.int q.1) (y:=.int p.1) (C0 rfl rfl (ix0 _ _)) (C0 (C0 rfl rfl (Dq _ _ _)) rfl (ix0 _ _)) ?_;rw [ltI,decide_eq_true (lt q hq)]
theorem dk_of {S:wK->Prop} {U:IdP->Prop} (hS:SgK S) {d:wK} {p:IdP} (w:Wf p S U d) (hT:∀ q n,S (sgD q n)->q.1 < p.1) (hU:∀ q,U q->q.1 < p.1/\okI q):∃ ps,DK S U d p ps:=by
 have hS':∀ x,S x->isSg x:=fun x hx=>let ⟨q,n,e,_⟩:=hS x hx; ⟨q,n,e⟩;obtain ⟨ok,hf⟩:=w;have fin:∀ {ps:List IdP} {out raw:List wK},(∀ s∈raw,OrN S s)->(∀ s∈out,s∈raw)->(∀ q:IdP,q∈ps↔∃ n,yR [idP q,.int n]∈out)->∀ q∈ps,∃ n,S (sgD q n):=fun hr ho hq q hm=>by
   obtain ⟨n,hn⟩:=(hq q).mp hm; exact ⟨n,(hr _ (ho _ hn)).elim (fun z=>nomatch z) (fun z=>z)⟩
 rcases hf with ⟨b,wd,rfl,hb,hw⟩ | ⟨sg,rfl,hsg,hl,hne,hr⟩ | ⟨nme,s1,x1,s2,x2,rfl,hs1,hs2,hn,hx1,hx2⟩ | ⟨nme,rfl,hn⟩ | ⟨i,rfl,hi⟩
 . have hraw:∀ s∈[b],OrN S s:=fun s hs=>by rw [wS.mp hs]; exact hb
   obtain ⟨out,ps,l,o1,o2,o3,nm,sn,hq⟩:=Kv hS' (d:=.tuple [.str "add",idP p,b,.str wd]) (raw:=[b]) hraw (by simp) (by simp_arith [ix0,neS k1]) (by rw [O9 (by simp_arith [ix0,Tz])]; simp_arith [fM]);have hh:=fin hraw o3 hq; refine ⟨ps,Dq _ _ _,ok,nm,l,sn,fun q hq=>.inr (hh q hq),Lb ok l rfl ?_ nm fun q hq=>let ⟨n,z⟩:=hh q hq; hT q n z⟩;exact K9 (W7 ((O9 (C3 (C0 rfl rfl Tz))).trans (E1 (N1 rfl (N1 (B5 (A9 (C0 rfl rfl (ix0 _ _)) rfl) (Zh hS hb)) (B5 (A9 (C0 rfl rfl (Dq _ _ _)) rfl) (nT hw)))))))
 . have hraw:∀ s∈sg,OrN S s:=fun s hs=>.inr (hsg s hs)
   obtain ⟨out,ps,l,o1,o2,o3,nm,sn,hq⟩:=Kv hS' (d:=.tuple [.str "drop",idP p,.tuple sg]) (raw:=sg) hraw hl (by simp_arith [ix0,neS k2]) (by
     rw [N3 (by simp_arith [ix0,neS k5]),O9 (by simp_arith [ix0,Tz])];have:Mn [.tuple sg]=some (.list sg):=rfl;simp_arith [fM,this])
   have hh:=fin hraw o3 hq; refine ⟨ps,Dq _ _ _,ok,nm,l,sn,fun q hq=>.inr (hh q hq),Lb ok l rfl ?_ nm fun q hq=>let ⟨n,z⟩:=hh q hq; hT q n z⟩;refine K9 ?_; unfold V7 T3 T2 T1 T0 S9 R0; rw [D6 (C3 (C0 rfl rfl (neS k5)))]; exact W7 ((O9 (C3 (C0 rfl rfl Tz))).trans (E1 (N1 rfl (B5 (A9 (C0 rfl rfl (ix0 _ _)) rfl) (dC hS hsg hl hne hr)))))
 . have hraw : ∀ s ∈ [s1, s2], OrN S s := fun s hs => by
     rcases wR.mp hs with rfl | hs
     . exact hs1
     . rw [wS.mp hs]; exact hs2
   obtain ⟨out,ps,l,o1,o2,o3,nm,sn,hq⟩:=Kv hS' (d:=.tuple [.str "mark",idP p,.str nme,.tuple [s1,.str x1],.tuple [s2,.str x2]]) (raw:=[s1,s2]) hraw (by simp) (by simp_arith [ix0,neS k3]) (by
     rw [N3 (by simp_arith [ix0,neS k6]),N3 (by simp_arith [ix0,neS k9]),O9 (by simp_arith [ix0,Tz])];simp_arith [sK,dIdx4,ix0])
   have hh:=fin hraw o3 hq; refine ⟨ps,Dq _ _ _,ok,nm,l,sn,fun q hq=>.inr (hh q hq),Lb ok l rfl ?_ nm fun q hq=>let ⟨n,z⟩:=hh q hq; hT q n z⟩;refine K9 ?_; unfold V7 T3 T2 T1 T0 S9 R0; rw [D6 (C3 (C0 rfl rfl (neS k6))),D6 (C3 (C0 rfl rfl (neS k9)))]; exact W7 ((O9 (C3 (C0 rfl rfl Tz))).trans (E1 (N1 rfl (N1 (B5 (A9 (C0 rfl rfl (ix0 _ _)) rfl) (eY hn)) (N1 (B5 (A9 (C0 rfl rfl (Dq _ _ _)) rfl) (Nl hS hs1 hx1)) (B5 (A9 (C0 rfl rfl (fM _ _ _ _)) rfl) (Nl hS hs2 hx2)))))))
 . obtain ⟨out, ps, l, o1, o2, o3, nm, sn, hq⟩ := Kv hS' (d := .tuple [.str "unmark", idP p, .str nme]) (raw := []) (fun s hs => nomatch hs) (by simp) (by simp_arith [ix0, neS k4]) (by
     rw [N3 (by simp_arith [ix0,neS k7]),N3 (by simp_arith [ix0,neS k10]),N3 (by simp_arith [ix0,neS k12])]; rfl)
   have hh:=fin (raw:=[]) (fun s hs=>nomatch hs) o3 hq;refine ⟨ps,Dq _ _ _,ok,nm,l,sn,fun q hq=>.inr (hh q hq),Lb ok l rfl ?_ nm fun q hq=>let ⟨n,z⟩:=hh q hq; hT q n z⟩;refine K9 ?_; unfold V7 T3 T2 T1 T0 S9 R0; rw [D6 (C3 (C0 rfl rfl (neS k7))),D6 (C3 (C0 rfl rfl (neS k10))),D6 (C3 (C0 rfl rfl (neS k12)))]; exact W7 ((O9 (C3 (C0 rfl rfl Tz))).trans (E1 (N1 rfl (B5 (A9 (C0 rfl rfl (ix0 _ _)) rfl) (eY hn)))))
 . have nm : C6 [.tuple [.str "undo", idP p, idP i]] = .ok (.list ([i].map idP)) := by
     refine K9 ?_; unfold N8 O6; simp only [F2,wU,zF,xB,yD,xF,yM,xP,zN,zM]; refine W7 ((O9 (by simp_arith [ix0,Tz])).trans (E1 ?_));simp_arith [fM]
   have one:∀ q∈[i],U q:=fun q hq=>by rw [wS.mp hq]; exact hi
   refine ⟨[i],Dq _ _ _,ok,nm,by simp,⟨[],cB _ _,by simp,fun s hs=>nomatch hs⟩,fun q hq=>.inl (one q hq),Lb ok (by simp) rfl ?_ nm fun q hq=>(hU q (one q hq)).1⟩;refine K9 ?_; unfold V7 T3 T2 T1 T0 S9 R0; rw [D6 (C3 (C0 rfl rfl (neS k8))),D6 (C3 (C0 rfl rfl (neS k11))),D6 (C3 (C0 rfl rfl (neS k13))),D6 (C3 (C0 rfl rfl (neS k14)))]; exact W7 ((O9 (C3 (C0 rfl rfl Tz))).trans (E1 (N1 rfl (B5 (A9 (C0 rfl rfl (ix0 _ _)) rfl) (Mm (hU i hi).2)))))
theorem gQ {st:wK->Dn->Option Dn} {body:Dn->Out} {d r:wK} {ds:List wK} {δ δ1:Dn} (h1:st d δ=some δ1) (h2:body δ1=.rt r):K3 st body (d::ds) δ=.rt r:=by
 conv=>lhs; unfold K3
 rw [h1];show (match body δ1 with | .nx δ'=>_ | .ct δ'=>_ | .bk δ'=>_ | o=>_)=_;rw [h2]
theorem Mo {c c':Dn->Res Bool} {δ:Dn} (h1:c δ=.ok false) (h2:c' δ=.ok false):cOr c c' δ=.ok false:=by unfold cOr; rw [h1,C7,if_neg (by decide),h2]
def Rf (n:Nat) (d:wK):Prop:=xA d d=true/\d.depth<=n
theorem Rf.all {n:Nat}:∀ {xs:List wK},(∀ x∈xs,Rf n x)->z4 xs xs=true/\yV xs<=n:=by
 intro xs;induction xs with
 | nil=>intro _; exact ⟨rfl,l7 _⟩
 | cons x xs ih =>
   intro h; obtain ⟨i1,i2⟩:=ih fun y hy=>h y (.tail _ hy);obtain ⟨j1,j2⟩:=h x (.head _); rw [z4,yV,i1,j1]; exact ⟨rfl,by lia⟩
theorem Rf.list {n:Nat} {xs:List wK} (h:∀ x∈xs,Rf n x):Rf (n+1) (.list xs):=by
 obtain ⟨h1,h2⟩:=Rf.all h;exact ⟨h1,by rw [yS]; lia⟩
theorem Rf.tup {n:Nat} {xs:List wK} (h:∀ x∈xs,Rf n x):Rf (n+1) (.tuple xs):=by
 obtain ⟨h1,h2⟩:=Rf.all h;exact ⟨h1,by rw [yS]; lia⟩
theorem Rf.ne {n:Nat} {d:wK} (h:Rf n d) (hn:n<=62):dNe d d=some (.bool false):=by
 unfold dNe;rw [if_pos (xD (AC _ _) (xD h.2 (xD hn (by decide)))),h.1]; rfl
theorem Rf.str {n:Nat} (x:Str):Rf n (.str x):=⟨by simp [xA],by simp [yS]⟩
theorem Rf.int {n:Nat} (x:Int):Rf n (.int x):=⟨by simp [xA],by simp [yS]⟩
theorem Rf.nil {n:Nat} {x:wK} (h:x∈([]:List wK)):Rf n x:=nomatch h
theorem Rf.cs {n:Nat} {y:wK} {ys:List wK} (h:Rf n y) (h2:∀ x∈ys,Rf n x):∀ x∈y::ys,Rf n x:=fun x hx=>by
 rcases wR.mp hx with rfl | hx
 . exact h
 . exact h2 x hx
theorem Rf.id (p:IdP):Rf 1 (idP p):=Rf.tup (.cs (.int _) (.cs (.str _) fun _=>.nil))
theorem Rf.sg (p:IdP) (n:Int):Rf 2 (sgD p n):=Rf.tup (.cs (.id p) (.cs (.int _) fun _=>.nil))
theorem bO (i:wK) (b:wK) (w:Str):D2 [.tuple [.str "add",i,b,.str w]]=.ok (.int (w.length:Int)):=by
 refine K9 ?_;unfold Q5 T6;simp only [F2,wU,zF,xB,yD,xF,yM,xP,zN,zM];refine E1 ?_;have e1:U1 [.str w]=some (.int (w.length:Int)):=rfl;unfold vIf;simp_arith [ix0,Tz,sK,e1]
abbrev dpE (e:Dp):wK×wK:=(idP e.2,e.1)
noncomputable section
variable {L:List Dp}
theorem dkW (W:BkW L) {e:Dp} (he:e∈L):∃ ps,DK (SgOf e.2.1 (L.map (·.1))) (fun q=>(∃ e'∈L,e'.2=q)/\q.1 < e.2.1) e.1 e.2 ps :=
 dk_of (fun x hx => by obtain ⟨p, b, w, n, _, e, _, _, o⟩ := hx; exact ⟨p, n, e, o, by lia⟩) (W.1 e he) (fun q n hs => by
     obtain ⟨p,b,w,m,_,e,_,ht,_⟩:=hs; simp only [sgD,idP,idD,zY,yP,AE,m8,and_true] at e; rw [e.1.1]; exact ht) (fun q hq=>by
     obtain ⟨⟨e',m,z⟩,l⟩:=hq; exact ⟨l,by rw [<- z]; exact (W.1 e' m).1⟩)
theorem mW (W:BkW L):L.Pairwise (fun a b=>xA (dpE a).1 (dpE b).1=false):=W.2.imp fun {a b} h=>by
 show xA (idP a.2) (idP b.2)=false;rw [Ro,decide_eq_false];intro z;rw [z] at h;lia
theorem mP (W:BkW L) {e:Dp} (he:e∈L):G6 (L.map dpE) (idP e.2)=some e.1:=by
 have:=Rl dpE (u:=e) (more:=[]) (by show xA (idP _) (idP _)=true; rw [Ro,decide_eq_true rfl]) he (mW W)
 rwa [xV] at this
theorem Pf {δc:Dn} {el:Dn->Res wK} (f:Dp->wK):∀ M:List Dp,(∀ e∈M,el ([.sh e.1]++δc)=.ok (f e))->D4 D9 δc K5 el (M.map (·.1))=.ok (M.map f)
 | [],_=>rfl
 | e::M,h=>dH rfl (h e (.head _)) (Pf f M fun x hx=>h x (.tail _ hx))
theorem aQ (W:BkW L) {e:Dp} (he:e∈L) {δ:Dn}:(b2 (A5 0) (vC (.int 1)) dIx) ([.sh e.1]++δ)=.ok (idP e.2):=by
 obtain ⟨ps,k⟩:=dkW W he;exact C0 (x:=e.1) (y:=.int 1) rfl rfl k.id
theorem nH (W:BkW L) (hl:L.length<=20):Es [bkD L]=.ok (L.map dpE):=by
 have hc:D4 D9 [] K5 (E8 (A4 (b2 (A5 0) (vC (.int 1)) dIx) (A4 (A5 0) B2))) (L.map (·.1))=.ok (L.map fun e=>.tuple [(dpE e).1,(dpE e).2]):=Pf (fun e=>.tuple [(dpE e).1,(dpE e).2]) L fun e he=>N0 (A9 (aQ W he) (A9 (d:=e.1) rfl rfl));have hp:=Va dpE (fun a=>Y6 a.2) L [] (by rw [xP]; exact mW W);rw [xP,zF] at hp;unfold Es fnW Jf Rg;rw [M3 (K1 (δ:=F2 Lg [bkD L]) (F4 (d:=bkD L) rfl rfl) (by rw [wT]; lia) rfl hc),C7];show (if _ then _ else _)=_;rw [if_pos (by rw [wT]; lia),hp]; rfl
theorem vR (W:BkW L) {e:Dp} (he:e∈L):N9 [.fd ((.dict [],.none)::L.map dpE),.sh e.1]=.ok (.bool true):=by
 obtain ⟨ps,k⟩:=dkW W he;have inE:∀ {e':Dp},e'∈L->T8 false 1 (A5 0) ([.sh (idP e'.2)]++[.fd ((.dict [],.none)::L.map dpE)])=.ok (.bool true):=fun {e'} h'=>by
   show T8 false 1 (A5 0) [.sh (idP e'.2),.fd ((.dict [],.none)::L.map dpE)]=_;unfold T8; show (if nkD (idP e'.2)=true then Res.ok (zC ((G6 (L.map dpE) (idP e'.2)).isSome != false)) else Res.no)=_;rw [if_pos (Y6 _),mP W h']; rfl
 have sgE:∀ {q:IdP} {n:Int},SgOf e.2.1 (L.map (·.1)) (sgD q n)->∃ e'∈L,e'.2=q/\∃ m:Int,D2 [e'.1]=.ok (.int m)/\n < m:=fun {q n} hs=>by
   obtain ⟨p,b,w,j,hm,z,hk,_,_⟩:=hs; simp only [sgD,idP,idD,zY,yP,AE,m8,and_true] at z; obtain ⟨⟨i1,i2⟩,i3⟩:=z; have ep:q=p:=DD i1 i2; subst ep; obtain ⟨e',he',ex⟩:=xK.mp hm; obtain ⟨ps',k'⟩:=dkW W he'; have hid:=k'.id; rw [ex,Dq] at hid; simp only [idP,idD,CZ,zY,yP,AE,m8,and_true] at hid; refine ⟨e',he',(DD hid.1 hid.2).symm,w.length,?_,by lia⟩;rw [ex]; exact bO _ _ _
 have c1:(vFn (A4 (I8 (F5 (fun δ=>((B6 (A4 (A5 1) B2) C6) δ).bind E5) D9 [0] K5 (T8 false 1 (A5 0)))) B2) Gr) [.fd ((.dict [],.none)::L.map dpE),.sh e.1]=.ok (.bool true):=by
   refine Ay (ds:=ps.map idP) (δc:=[.fd ((.dict [],.none)::L.map dpE)]) (F4 (B5 (A9 rfl rfl) k.nm) rfl) (by rw [wT]; have:=k.len; lia) rfl fun d hd=>?_;obtain ⟨q,hq,rfl⟩:=xK.mp hd; rcases k.nmd q hq with z | ⟨n,hs⟩
   . obtain ⟨⟨e',he',z⟩,_⟩:=z
     rw [<- z]; exact inE he'
   . obtain ⟨e',he',z,_⟩:=sgE hs
     rw [<- z]; exact inE he'
 have c2:(vFn (A4 (I8 (F5 (fun δ=>((B6 (A4 (A5 1) B2) F1) δ).bind E5) D9 [0] K5 (b2 (b2 (A5 0) (vC (.int 1)) dIx) (B6 (A4 (Ib 1 (b2 (A5 0) (vC (.int 0)) dIx)) B2) D2) (I0 .Lt)))) B2) Gr) [.fd ((.dict [],.none)::L.map dpE),.sh e.1]=.ok (.bool true):=by
   obtain ⟨out,o1,o2,o3⟩:=k.sn; refine Ay (ds:=out) (δc:=[.fd ((.dict [],.none)::L.map dpE)]) (F4 (B5 (A9 rfl rfl) o1) rfl) (by lia) rfl fun s hs=>?_;obtain ⟨hS,q,n,rfl,hq⟩:=o3 s hs; obtain ⟨e',he',z,m,f3,f4⟩:=sgE hS; have g1:Ib 1 (b2 (A5 0) (vC (.int 0)) dIx) ([.sh (.tuple [idP q,.int n])]++[.fd ((.dict [],.none)::L.map dpE)])=.ok e'.1:=by
     show Ib 1 (b2 (A5 0) (vC (.int 0)) dIx) [.sh (.tuple [idP q,.int n]),.fd ((.dict [],.none)::L.map dpE)]=_;unfold Ib; show Res.bind ((b2 (A5 0) (vC (.int 0)) dIx) [.sh (.tuple [idP q,.int n]),.fd ((.dict [],.none)::L.map dpE)]) _=_;rw [C0 (x:=.tuple [idP q,.int n]) (y:=.int 0) rfl rfl (ix0 _ _),C7,if_pos (Y6 _),<- z,mP W he']; rfl
   refine C0 (x:=.int n) (y:=.int m) (C0 rfl rfl (Dq _ _ _)) (B5 (A9 g1 rfl) f3) ?_; rw [ltI,decide_eq_true f4]
 have:U2 [.fd ((.dict [],.none)::L.map dpE),.sh e.1]=.rt (.bool true):=(D6 (by unfold X8; rw [C3 c1]; rfl)).trans (E1 c2);show (match U2 [.fd ((.dict [],.none)::L.map dpE),.sh e.1] with | .rt d=>Res.ok d | .nx _=>.ok .none | .exc c=>.exc c | _=>.no)=_;rw [this]
theorem iI (W:BkW L) (hl:L.length<=20):Cf [bkD L]=.ok (.bool true):=by
 have hl':(L.map (·.1)).length<=20:=by rw [wT]; exact hl
 have t1:(vFn (A4 (I8 (F5 (fun δ=>((A5 0) δ).bind E5) D9 [] K5 (B6 (A4 (A5 0) B2) Ac))) B2) Gr) [.sh (bkD L),.un]=.ok (.bool true):=by
   refine Ay (ds:=L.map (·.1)) (δc:=[]) (F4 (d:=bkD L) rfl rfl) (by lia) rfl fun d hd=>?_;obtain ⟨e,he,rfl⟩:=xK.mp hd; obtain ⟨ps,k⟩:=dkW W he; exact B5 (A9 rfl rfl) k.isd
 have hr:(L.map fun e=>idP e.2).Pairwise ltD:=by
   rw [u5]; exact W.2.imp_of_mem fun {a b} ha hb h=>ltId (W.1 a ha).1.2.2 (W.1 b hb).1.2.2 h
 refine K9 ((D6 (Mo (δ:=[.sh (bkD L),.un]) rfl (by unfold X8; rw [C3 t1]; rfl))).trans ((C5 (δ':=[.sh (bkD L),.ow (.tuple [.dict (L.map dpE),.none])]) ?_).trans ?_))
 . unfold Fg Y8 Ch
   rw [A9 (d:=bkD L) (ds:=[]) rfl rfl,C7,nH W hl,E7]; rfl
 . show E9 _ [.sh (bkD L),.fd ((.dict [],.none)::L.map dpE)]=_
   refine E1 (N1 (B5 (A9 (M3 (K1 (F4 (d:=bkD L) rfl rfl) (by lia) rfl (Pf (fun e=>idP e.2) L fun e he=>aQ W he))) rfl) (Ut (.inl rfl) (by rw [wT]; lia) hr)) ?_);refine Ay (ds:=L.map (·.1)) (δc:=[.fd ((.dict [],.none)::L.map dpE)]) (F4 (d:=bkD L) rfl rfl) (by lia) rfl fun d hd=>?_;obtain ⟨e,he,rfl⟩:=xK.mp hd; show Y0 1 (A5 0) N9 [.sh e.1,.fd ((.dict [],.none)::L.map dpE)]=_;unfold Y0; exact vR W he
end
structure Sb (L0:List Dp) (B0:List Ad) (k0 d0:Kvs) (L1:List Dp) (B1:List Ad) (k1 d1:Kvs) (g:Dp->Bool) (κ:As->Bool):Prop where
 e:L0=L1.filter g
 S0:Pb L0 B0 k0 d0
 S1:Pb L1 B1 k1 d1
 rm:∀ e∈L1,g e=false->Az e.1≠none\/e.2∈off L1
 of:∀ e∈L0,e.2∈off L0↔e.2∈off L1
 od:ord B0=(ord B1).filter κ
 kp:∀ u∈ord B1,κ u=false->u.1.p∈off L1
theorem fX {α:Type} (g p q:α->Bool):∀ (l:List α),(∀ e∈l,g e=false->p e=false)->(∀ e∈l,g e=true->p e=q e)->l.any p=(l.filter g).any q
 | [],_,_=>rfl
 | e::l,h1,h2=>by
   have ih:=fX g p q l (fun x hx=>h1 x (.tail _ hx)) fun x hx=>h2 x (.tail _ hx);rw [EA,ih];cases c:g e with
   | true=>rw [yH c,EA,h2 e (.head _) c]
   | false=>rw [yI (by simp [c]),h1 e (.head _) c,Bool.false_or]
theorem mG {o o':List IdP} {n:Str} (g:Dp->Bool):∀ {M:List Dp} {a:Option wK},(∀ e∈M,g e=false->U0 e.1=some n->e.2∈o)->(∀ e∈M,g e=true->(e.2∈o'↔e.2∈o))->lk o n M a=lk o' n (M.filter g) a
 | [],_,_,_=>rfl
 | e::M,a,h1,h2=>by
   have ih:=fun b=>mG (n:=n) (o:=o) (o':=o') g (M:=M) (a:=b) (fun x hx=>h1 x (.tail _ hx)) fun x hx=>h2 x (.tail _ hx);show lk o n M (if U0 e.1=some n/\e.2∉o then some e.1 else a)=_;cases c:g e with
   | true =>
     rw [yH c]; show _=lk o' n (M.filter g) (if U0 e.1=some n/\e.2∉o' then some e.1 else a);have:=h2 e (.head _) c; rw [ih];congr 1;by_cases z:e.2∈o
     . rw [if_neg (fun y=>y.2 z),if_neg (fun y=>y.2 (this.mpr z))]
     . by_cases w:U0 e.1=some n
       . rw [if_pos ⟨w,z⟩,if_pos ⟨w,fun y=>z (this.mp y)⟩]
       . rw [if_neg (fun y=>w y.1),if_neg (fun y=>w y.1)]
   | false =>
     rw [yI (by simp [c]),if_neg (fun y=>y.2 (h1 e (.head _) c y.1)),ih]
noncomputable section
variable {L0 L1:List Dp} {B0 B1:List Ad} {k0 d0 k1 d1:Kvs} {g:Dp->Bool} {κ:As->Bool}
theorem Sb.un (T:Sb L0 B0 k0 d0 L1 B1 k1 d1 g κ) {e:Dp} (he:e∈L0):Sm.un k1 e.2=Sm.un k0 e.2:=by
 rw [T.S1.P.o,T.S0.P.o];exact decide_eq_decide.mpr (T.of e he).symm
theorem Sb.inL (T:Sb L0 B0 k0 d0 L1 B1 k1 d1 g κ) {e:Dp} (he:e∈L1) (hg:g e=true):e∈L0:=by rw [T.e]; exact zH.mpr ⟨he,hg⟩
theorem Sb.pres (T:Sb L0 B0 k0 d0 L1 B1 k1 d1 g κ) {u:As} (hu:u∈ord B0):Sm.pres k1 d1 u=Sm.pres k0 d0 u:=by
 have h1:=((Dl T.S0.A.bk u).mp hu).1;have h2:=T.un (T.S0.A.inL u.1 h1);have h3:has d1 (some (sgn u))=has d0 (some (sgn u)):=by
   rw [T.S1.P.P.h,T.S0.P.P.h,T.e]; refine fX g _ _ L1 (fun e he hg=>?_) fun e he hg=>?_
   . cases (T.S1.W.1 e he).kd with
     | drop ss e1 _ =>
       have:e.2∈off L1:=(T.rm e he hg).elim (fun z=>absurd (by rw [e1]; exact U3 (by decide)) z) id;unfold Hn; rw [e1]; show ((("drop" : Str) == "drop")&&(!(Sm.un k1 e.2))&&_)=false;rw [T.S1.P.o,decide_eq_true this]; simp
     | undo q e1=>exact Ag e1 (by decide)
     | oth k x xs e1 h1 _=>exact Ag e1 h1
   . cases (T.S1.W.1 e he).kd with
     | drop ss e1 _ =>
       have hd:=T.un (T.inL he hg); unfold Hn; rw [e1]; show ((("drop" : Str) == "drop")&&(!(Sm.un k1 e.2))&&_)=((("drop" : Str) == "drop")&&(!(Sm.un k0 e.2))&&_);rw [hd]
     | undo q e1=>rw [Ag e1 (by decide),Ag e1 (by decide)]
     | oth k x xs e1 h1 _=>rw [Ag e1 h1,Ag e1 h1]
 unfold Sm.pres;rw [h2,h3]
theorem Sb.gone (T:Sb L0 B0 k0 d0 L1 B1 k1 d1 g κ) {u:As} (hu:u∈ord B1) (h:κ u=false):Sm.pres k1 d1 u=false:=by
 unfold Sm.pres;rw [T.S1.P.o,decide_eq_true (T.kp u hu h)]; rfl
theorem Sb.fil (T:Sb L0 B0 k0 d0 L1 B1 k1 d1 g κ) {X:List As} (hX:∀ u∈X,u∈ord B1):X.filter (Sm.pres k1 d1)=(X.filter κ).filter (Sm.pres k0 d0):=by
 rw [List.filter_filter];refine List.filter_congr fun u hu=>?_;cases c:κ u with
 | true=>rw [Bool.and_true]; exact T.pres (by rw [T.od]; exact zH.mpr ⟨hX u hu,c⟩)
 | false=>rw [Bool.and_false]; exact T.gone (hX u hu) c
theorem Sb.text (T:Sb L0 B0 k0 d0 L1 B1 k1 d1 g κ):txt k1 d1 B1=txt k0 d0 B0:=by
 unfold txt;rw [T.fil fun _ h=>h,T.od]
theorem sY (u:As):nkD (sgA u)=true:=by simp [nkD,Ig,isK,yS,yV]
theorem lX {B:List Ad} {L:List Dp} (A:BkA L B):((ord B).map sgn).Nodup:=Hx A.bk
theorem Sb.anch (T:Sb L0 B0 k0 d0 L1 B1 k1 d1 g κ) {d:wK} (h:Mz (ord B0) d):J2 [fN (plN (Sm.pres k1 d1) (ord B1)),.sh d]=J2 [fN (plN (Sm.pres k0 d0) (ord B0)),.sh d]:=by
 obtain ⟨s,x,rfl,hx,hs⟩:=h;have hg:∃ y z,nkD s=true/\G6 (plN (Sm.pres k1 d1) (ord B1)) s=some (.tuple [y,z])/\G6 (plN (Sm.pres k0 d0) (ord B0)) s=some (.tuple [y,z]):=by
   rcases hs with rfl | ⟨u,hu,rfl⟩
   . refine ⟨_,_,rfl,Kp _ _,?_⟩
     rw [Kp]; unfold cnt; rw [T.fil fun _ h=>h,T.od]
   . have hu1:=hu
     rw [T.od] at hu1; obtain ⟨hu1,hk⟩:=zH.mp hu1; obtain ⟨X,Y,e⟩:=List.append_of_mem hu1; have e0:ord B0=X.filter κ++u::Y.filter κ:=by rw [T.od,e,yX,yH hk]
     refine ⟨_,_,sY u,Ko (lX T.S1.A) e,?_⟩; rw [Ko (lX T.S0.A) e0,<- T.pres hu]; unfold cnt; rw [T.fil fun v hv=>by rw [e]; exact yT _ hv]
 obtain ⟨y,z,hk,h1,h0⟩:=hg;rcases hx with rfl | rfl
 . rw [Dr hk h1 fH (T9 _ _),Dr hk h0 fH (T9 _ _)]
 . rw [Dr hk h1 fG (Ic _ _ _),Dr hk h0 fG (Ic _ _ _)]
theorem Sb.look (T:Sb L0 B0 k0 d0 L1 B1 k1 d1 g κ) (n:Str):Sm.look L1 n=Sm.look L0 n:=by
 unfold Sm.look;rw [mG (o':=off L0) g (fun e he hg hn=>(T.rm e he hg).elim (fun z=>?_) id) fun e he hg=>T.of e (T.inL he hg),<- T.e];cases (T.S1.W.1 e he).md T.S1.A with
 | mark n a1 a2 e1=>exact absurd (by rw [e1]; exact U3 (by decide)) z
 | unm n e1=>exact absurd (by rw [e1]; exact U3 (by decide)) z
 | oth k x xs e1 h1 h2=>rw [e1,Jj h1 h2] at hn; cases hn
theorem fC {L:List Dp} {B:List Ad} {ku kd:Kvs} (S:Pb L B ku kd) {n m:Str} {i a1 a2:wK} (h:Sm.look L n=some (.tuple [.str "mark",i,.str m,a1,a2])):Mz (ord B) a1/\Mz (ord B) a2:=by
 rcases mF h with z | ⟨e,he,z⟩
 . cases z
 . cases (S.W.1 e he).md S.A with
   | mark n a1' a2' e1 _ h1 h2 =>
     rw [e1] at z; simp only [zY,yP,and_true] at z; obtain ⟨_,_,_,rfl,rfl⟩:=z; exact ⟨h1,h2⟩
   | unm n e1=>rw [e1] at z; simp at z
   | oth k x xs e1 h1 h2=>rw [e1] at z; simp at z; exact absurd z.1 h1
theorem Sb.gr (T:Sb L0 B0 k0 d0 L1 B1 k1 d1 g κ) (t:Row):GR (ord B1) (Sm.pres k1 d1) (Sm.look L1) t↔GR (ord B0) (Sm.pres k0 d0) (Sm.look L0) t:=by
 unfold GR;rw [T.look];constructor
 . rintro ⟨i,a1,a2,c,h,p1,p2,p3⟩
   obtain ⟨n1,n2⟩:=fC T.S0 h; rw [T.anch n1] at p1; rw [T.anch n2] at p2; exact ⟨i,a1,a2,c,h,p1,p2,p3⟩
 . rintro ⟨i,a1,a2,c,h,p1,p2,p3⟩
   obtain ⟨n1,n2⟩:=fC T.S0 h; rw [<- T.anch n1] at p1; rw [<- T.anch n2] at p2; exact ⟨i,a1,a2,c,h,p1,p2,p3⟩
theorem Sb.marks (T:Sb L0 B0 k0 d0 L1 B1 k1 d1 g κ):∃ ts:List Row,ts.length<=20/\C9 [bkD L0]=.ok (.list (ts.map Bu))/\C9 [bkD L1]=.ok (.list (ts.map Bu)):=by
 obtain ⟨ts,M0⟩:=Kw T.S0;obtain ⟨ts',M1⟩:=Kw T.S1;have:ts'=ts:=aS M1.up M0.up fun t=>by rw [M1.mem,M0.mem,T.gr]
 subst this;exact ⟨ts',M0.len,M0.m,M1.m⟩
end
theorem sn_of {d:wK} {raw:List (Option (IdP×Nat))} (hl:raw.length<=40) (h:D5 [.sh d,.sh (.list [])]=.nx [.sh d,.sh (.list (raw.map anD))]):F1 [d]=.ok (.list ((raw.filterMap id).map sgO)):=by
 have c:D4 D9 [] (fun δ=>((A5 0) δ).bind fun d=>.ok (!Af d)) (A5 0) (raw.map anD)=.ok ((raw.filterMap id).map sgO):=by
   clear h hl;induction raw with
   | nil=>rfl
   | cons x raw ih =>
     cases x with
     | none=>exact nF rfl ih
     | some s=>exact dH rfl rfl ih
 unfold F1 Q4 M5;refine K9 ?_;show D1 _ _ [.sh d,.un]=_;rw [C5 (δ':=[.sh d,.sh (.list [])]) (by rfl),C5 h];unfold O8;exact E1 (M3 (K1 (F4 (d:=.list (raw.map anD)) rfl rfl) (by rw [wT]; lia) rfl c))
theorem sH {d:wK} {k:Str} {raw:List (Option (IdP×Nat))} (hl:raw.length<=40) (hk:dIx d (.int 0)=some (.str k)) (hu:k ≠ "undo") (h:D5 [.sh d,.sh (.list [])]=.nx [.sh d,.sh (.list (raw.map anD))]):C6 [d]=.ok (.list (((raw.filterMap id).map (·.1)).map idP)):=by
 have hs:=sn_of hl h;unfold C6 N8 O6;refine K9 ?_;show D1 _ _ [.sh d]=_;rw [D6 (C3 (C0 (x:=.str k) (y:=.str "undo") (C0 (x:=d) (y:=.int 0) rfl rfl hk) rfl (by rw [Hr,Br hu])))];have hfl:=List.length_filterMap_le id raw;rw [AI];exact E1 (M3 (K1 (F4 (B5 (A9 (d:=d) rfl rfl) hs) rfl) (by rw [wT]; lia) rfl (Eu sgO (fun s=>idP s.1) (fun s=>C0 (x:=sgO s) (y:=.int 0) rfl rfl (T9 _ _)) _)))
theorem jG {d:wK} {k:Str} {δ:Dn} (h0:A5 0 δ=.ok d) (hk:dIx d (.int 0)=some (.str k)) (x:Str):(C4 (b2 (b2 (A5 0) (vC (.int 0)) dIx) (vC (.str x)) dEq)) δ=.ok (k==x) :=
 C3 (C0 (x:=.str k) (y:=.str x) (C0 h0 rfl hk) rfl (Hr k x))
theorem cT {T:Int} {D:List wK} {s:wK} (h:OrN (SgOf T D) s):∃ x:Option (IdP×Nat),s=anD x/\∀ t,x=some t->SgOf T D (sgO t):=by
 rcases h with rfl | h
 . exact ⟨none,rfl,fun t z=>by cases z⟩
 . obtain ⟨p,b,w,n,hm,rfl,r⟩:=id h
   exact ⟨some (p,n),rfl,fun t z=>by cases z; exact h⟩
abbrev Bw (L:List Dp) (q:IdP):List Dp:=L.filter fun x=>decide (x.2≠q)
theorem oG {L:List Dp} (W:BkW L) {T:Int} {t:IdP×Nat} {q:IdP} (h:SgOf T (L.map (·.1)) (sgO t)) (hq:t.1≠q):SgOf T ((Bw L q).map (·.1)) (sgO t):=by
 obtain ⟨p,b,w,n,hm,e,r⟩:=h;refine ⟨p,b,w,n,?_,e,r⟩;have hp:t.1=p:=by
   have e':yR [idP t.1,.int (t.2:Int)]=.tuple [idP p,.int (n:Int)]:=e;injection e' with e'
   injection e' with e' _
   exact Bx e'
 obtain ⟨x,hx,ex⟩:=xK.mp hm;have hid:=(W.1 x hx).id;rw [show x.1=_ from ex,Ic] at hid;have:p=x.2:=Bx (yF hid);exact xK.mpr ⟨x,zH.mpr ⟨hx,decide_eq_true (by rw [<- this,<- hp]; exact hq)⟩,ex⟩
theorem eC {i x w:wK}:D5 [.sh (.tuple [.str "add",i,x,w]),.sh (.list [])]=.nx [.sh (.tuple [.str "add",i,x,w]),.sh (.list [x])]:=by
 unfold D5;rw [O9 (by rw [jG (d:=.tuple [.str "add",i,x,w]) (k := "add") rfl (T9 _ _),Gh])];exact F6 (M3 (A9 (C0 (x:=.tuple [.str "add",i,x,w]) (y:=.int 2) rfl rfl (Yu _ _ _ _)) rfl))
theorem jU {i:wK} {xs:List wK}:D5 [.sh (.tuple [.str "drop",i,.tuple xs]),.sh (.list [])]=.nx [.sh (.tuple [.str "drop",i,.tuple xs]),.sh (.list xs)]:=by
 have w:=jG (δ:=[.sh (.tuple [.str "drop",i,.tuple xs]),.sh (.list [])]) (d:=.tuple [.str "drop",i,.tuple xs]) (k := "drop") rfl (T9 _ _);unfold D5;rw [N3 (by rw [w,Br (by decide)]),O9 (by rw [w,Gh])];exact F6 (Fa (A9 (C0 (x:=.tuple [.str "drop",i,.tuple xs]) (y:=.int 2) rfl rfl (Yu _ _ _ _)) rfl) rfl)
theorem jT {i n x1 y1 x2 y2:wK}:D5 [.sh (.tuple [.str "mark",i,n,.tuple [x1,y1],.tuple [x2,y2]]),.sh (.list [])]=.nx [.sh (.tuple [.str "mark",i,n,.tuple [x1,y1],.tuple [x2,y2]]),.sh (.list [x1,x2])]:=by
 have w:=jG (δ:=[.sh (.tuple [.str "mark",i,n,.tuple [x1,y1],.tuple [x2,y2]]),.sh (.list [])]) (d:=.tuple [.str "mark",i,n,.tuple [x1,y1],.tuple [x2,y2]]) (k := "mark") rfl (T9 _ _);unfold D5;rw [N3 (by rw [w,Br (by decide)]),N3 (by rw [w,Br (by decide)]),O9 (by rw [w,Gh])];exact F6 (M3 (A9 (C0 (x:=.tuple [x1,y1]) (y:=.int 0) (C0 (x:=.tuple [.str "mark",i,n,.tuple [x1,y1],.tuple [x2,y2]]) (y:=.int 3) rfl rfl (gH _ _ _ _ _)) rfl (T9 _ _)) (A9 (C0 (x:=.tuple [x2,y2]) (y:=.int 0) (C0 (x:=.tuple [.str "mark",i,n,.tuple [x1,y1],.tuple [x2,y2]]) (y:=.int 4) rfl rfl (tix4 _ _ _ _ _ _)) rfl (T9 _ _)) rfl)))
theorem bX {i n:wK}:D5 [.sh (.tuple [.str "unmark",i,n]),.sh (.list [])]=.nx [.sh (.tuple [.str "unmark",i,n]),.sh (.list [])]:=by
 have w:=jG (δ:=[.sh (.tuple [.str "unmark",i,n]),.sh (.list [])]) (d:=.tuple [.str "unmark",i,n]) (k := "unmark") rfl (T9 _ _);unfold D5;rw [N3 (by rw [w,Br (by decide)]),N3 (by rw [w,Br (by decide)]),N3 (by rw [w,Br (by decide)])];rfl
theorem SgOf.lt {T:Int} {D:List wK} {t:IdP×Nat} (h:SgOf T D (sgO t)):t.1.1 < T:=by
 obtain ⟨p,b,w,n,_,e,_,hp,_⟩:=h;have e':yR [idP t.1,.int (t.2:Int)]=.tuple [idP p,.int (n:Int)]:=e;injection e' with e'
 injection e' with e' _
 rw [Bx e']; exact hp
theorem rY {L:List Dp} (W:BkW L) {e:Dp} (he:e∈L):∃ ps:List IdP,C6 [e.1]=.ok (.list (ps.map idP))/\(∀ q∈ps,q.1 < e.2.1)/\∀ q,q∉ps->WfIn (Bw L q) e:=by
 obtain ⟨o,r⟩:=(show Wf _ _ _ _ from W.1 e he);have fin : ∀ (d : wK) (k : Str) (raw : List (Option (IdP × Nat))), e.1 = d -> raw.length <= 40 -> dIx d (.int 0) = some (.str k) -> k ≠ "undo" -> D5 [.sh d, .sh (.list [])] = .nx [.sh d, .sh (.list (raw.map anD))] -> (∀ t, some t ∈ raw -> SgOf e.2.1 (L.map (·.1)) (sgO t)) -> (∀ q, (∀ t, some t ∈ raw -> SgOf e.2.1 ((Bw L q).map (·.1)) (sgO t)) -> WfIn (Bw L q) e) ->
     ∃ ps:List IdP,C6 [e.1]=.ok (.list (ps.map idP))/\(∀ q∈ps,q.1 < e.2.1)/\∀ q,q∉ps->WfIn (Bw L q) e:=fun d k raw ed hl hk hu hs hsg hkeep=>by
   refine ⟨(raw.filterMap id).map (·.1),by rw [ed]; exact sH hl hk hu hs,fun q hq=>?_,fun q hq=>hkeep q fun t ht=>oG W (hsg t ht) fun z=>hq ?_⟩
   . obtain ⟨t,ht,rfl⟩:=xK.mp hq
     obtain ⟨x,hx,e1⟩:=AD.mp ht; rw [show x=some t from e1] at hx; exact (hsg t hx).lt
   . exact xK.mpr ⟨t,AD.mpr ⟨some t,ht,rfl⟩,z⟩
 rcases r with ⟨b,w,e1,hb,hw⟩ | ⟨sg,e1,hs,hl,hne,hpw⟩ | ⟨n,s1,x1,s2,x2,e1,h1,h2,hn,l1,l2⟩ | ⟨n,e1,hn⟩ | ⟨q,e1,hq⟩
 . obtain ⟨x,rfl,hx⟩:=cT hb
   refine fin _ "add" [x] e1 (by simp) (T9 _ _) (by decide) eC (fun t ht=>hx t (wS.mp ht).symm) fun q hk=>⟨o,.inl ⟨_,_,e1,?_,hw⟩⟩;cases x with
   | none=>exact .inl rfl
   | some t=>exact .inr (hk t (.head _))
 . obtain ⟨ss,rfl⟩:=Qk sg hs
   rw [wT] at hl; refine fin _ "drop" (ss.map some) e1 (by rw [wT]; exact hl) (T9 _ _) (by decide) (by rw [AI]; exact jU) (fun t ht=>?_) fun q hk=>⟨o,.inr (.inl ⟨_,e1,fun x hx=>?_,by rw [wT]; exact hl,hne,hpw⟩)⟩
   . obtain ⟨s,hs',z⟩:=xK.mp ht
     cases z; exact hs _ (xY hs')
   . obtain ⟨s,hs',rfl⟩:=xK.mp hx
     exact hk s (xY hs')
 . obtain ⟨y1,rfl,hy1⟩:=cT h1
   obtain ⟨y2,rfl,hy2⟩:=cT h2; refine fin _ "mark" [y1,y2] e1 (by simp) (T9 _ _) (by decide) jT (fun t ht=>?_) fun q hk=>⟨o,.inr (.inr (.inl ⟨_,_,_,_,_,e1,?_,?_,hn,l1,l2⟩))⟩
   . rcases wR.mp ht with z | ht
     . exact hy1 t z.symm
     . exact hy2 t (wS.mp ht).symm
   . cases y1 with
     | none=>exact .inl rfl
     | some t=>exact .inr (hk t (.head _))
   . cases y2 with
     | none=>exact .inl rfl
     | some t=>exact .inr (hk t (.tail _ (.head _)))
 . exact fin _ "unmark" [] e1 (by simp) (T9 _ _) (by decide) bX (fun t ht=>nomatch ht) fun q _=>⟨o,.inr (.inr (.inr (.inl ⟨_,e1,hn⟩)))⟩
 . refine ⟨[q],?_,fun q' h=>by rw [wS.mp h]; exact hq.2,fun q' h=>⟨o,.inr (.inr (.inr (.inr ⟨_,e1,?_,hq.2⟩)))⟩⟩
   . rw [e1]
     unfold C6 N8 O6; refine K9 ?_; show D1 _ _ [.sh (.tuple [.str "undo",idP e.2,idP q])]=_;refine W7 ?_; rw [O9 (by rw [jG (d:=.tuple [.str "undo",idP e.2,idP q]) (k := "undo") rfl (T9 _ _),Gh])];exact E1 (M3 (A9 (C0 (x:=.tuple [.str "undo",idP e.2,idP q]) (y:=.int 2) rfl rfl (Yu _ _ _ _)) rfl))
   . obtain ⟨e',he',rfl⟩:=hq.1
     exact ⟨e',zH.mpr ⟨he',decide_eq_true fun z=>h (by rw [z]; exact .head _)⟩,rfl⟩
theorem eqId (p q:IdP):dEq (idP p) (idP q)=some (.bool (decide (p=q))):=by
 unfold dEq;rw [if_pos (xD (AC _ _) (xD (dF _) (by decide))),Ro]
theorem neId (p q:IdP):dNe (idP p) (idP q)=some (.bool (decide (p≠q))):=by
 unfold dNe;rw [if_pos (xD (AC _ _) (xD (dF _) (by decide))),Ro];by_cases c:p=q
 . rw [decide_eq_true c,decide_eq_false (fun z=>z c)]; rfl
 . rw [decide_eq_false c,decide_eq_true c]; rfl
theorem Vv {α:Type} (f:α->Bool):∀ l:List α,An (l.map fun a=>zC (f a))=some (l.map f)
 | []=>rfl
 | a::l=>by
   show (An (l.map fun a=>zC (f a))).map _=_;rw [Vv f l]; rfl
theorem vP (t:Bool) (p:IdP) (o:List IdP):dIn t (idP p) (.list (o.map idP))=some (.bool (t != decide (p∈o))):=by
 show (if _ then _ else _)=_;rw [if_pos (xD (i9 _ _) (xD (dF p) (by decide)))];have:((o.map idP).any fun y=>xA y (idP p))=decide (p∈o):=by
   rw [GJ,i6,CA,decide_eq_true_iff];constructor
   . rintro ⟨q,hq,e⟩
     have e:xA (idP q) (idP p)=true:=e; rw [Ro] at e; rw [<- of_decide_eq_true e]; exact hq
   . intro h
     exact ⟨p,h,by show xA (idP p) (idP p)=true; rw [Ro]; simp⟩
 rw [this];cases t <;> cases decide (p∈o) <;> rfl
theorem dS {c:Dn->Res Bool} {δ:Dn} (h:c δ=.ok true):X8 c δ=.ok false:=by unfold X8; rw [h]; rfl
theorem Vc {e:Dp} {o:List IdP} {p:IdP} (h:p∈o):p∈Hg e o:=by
 unfold Hg;split
 . split
   . exact h
   . exact yT _ h
 . exact h
theorem Mb {p:IdP}:∀ (ds:List Dp) {o:List IdP},p∈o->p∈X7 ds o
 | [],_,h=>h
 | _::ds,_,h=>Mb ds (Vc h)
theorem eW (ds:List Dp) {o o':List IdP} (h:∀ p,p∈o'↔p∈o) (p:IdP):p∈X7 ds o'↔p∈X7 ds o:=by
 have:=Qy (X:=[]) ds (fun _ _ _=>by simp) o o' (fun p=>by rw [h]; simp) p;simpa using this
theorem Xj (q:IdP):∀ (ds:List Dp) {o:List IdP},q∈o->X7 ds o=X7 (ds.filter fun x=>decide (x.2≠q)) o
 | [],_,_=>rfl
 | e::ds,o,h=>by
   show X7 ds (Hg e o)=_;by_cases c:e.2=q
   . rw [yI (by simp [c])]
     have:Hg e o=o:=by
       unfold Hg;split
       . rw [if_pos (by rw [c]; exact h)]
       . rfl
     rw [this]; exact Xj q ds h
   . rw [yH (by simp [c])]
     show _=X7 (ds.filter _) (Hg e o);exact Xj q ds (Vc h)
theorem nW {L:List Dp} (W:BkW L) {e:Dp} (he:e∈L) {q:IdP} (h:Az e.1=some q):q.1 < e.2.1:=by
 obtain ⟨_,r⟩:=(show Wf _ _ _ _ from W.1 e he);rcases r with ⟨b,w,e1,_⟩ | ⟨sg,e1,_⟩ | ⟨n,s1,x1,s2,x2,e1,_⟩ | ⟨n,e1,hn⟩ | ⟨p,e1,hq⟩
 . rw [e1,U3 (by decide)] at h; cases h
 . rw [e1,U3 (by decide)] at h; cases h
 . rw [e1,U3 (by decide)] at h; cases h
 . rw [e1,U3 (by decide)] at h; cases h
 . rw [e1,Gu] at h
   rw [<- yF h]; exact hq.2
theorem vI {p q:IdP} (h:q.1 < p.1):key q < key p:=by
 have:=Kz q.2;unfold key; lia
theorem gX {L:List Dp} (W:BkW L) {e:Dp} (he:e∈L) (h:e.2∈off L) (p:IdP):p∈X7 L.reverse [e.2]↔p∈off L:=by
 obtain ⟨A,C,hL⟩:=List.append_of_mem he;have up:=W.2;unfold Upk at up;rw [hL] at up;obtain ⟨_,u2,u3⟩:=j0.mp up;rw [yK] at u2;have hr:L.reverse=C.reverse++(e::A.reverse):=by rw [hL]; simp
 show p∈X7 L.reverse [e.2]↔p∈X7 L.reverse [];have h:e.2∈X7 L.reverse []:=h;rw [hr,Kr] at h;rw [hr,Kr,Kr];have h1:=Qy (X:=[e.2]) C.reverse (fun x hx _ z=>by
   have:=u2.1 x (y4.mp hx); rw [wS.mp z] at this;lia) [] [e.2] (fun p=>by simp)
 have h2:e.2∈X7 C.reverse []:=by
   rcases aB _ _ _ h with z | ⟨x,hx,z⟩
   . exact z
   . have hxL : x ∈ L := by
       rw [hL]; rcases wR.mp hx with rfl | hx
       . exact zD _ (.head _)
       . exact yT _ (y4.mp hx)
     have lt:=vI (nW W hxL z); rcases wR.mp hx with rfl | hx
     . lia
     . have:=u3 x (y4.mp hx) e (.head _)
       lia
 refine eW _ (fun q=>?_) p;rw [h1 q];exact ⟨fun z=>z.elim id fun y=>by rw [wS.mp y]; exact h2,.inl⟩
theorem lT {L:List Dp} {q:IdP} (p:IdP):p∈X7 L.reverse [q]↔p∈off (Bw L q)\/p=q:=by
 rw [Xj q L.reverse (.head _)];have:(L.reverse.filter fun x=>decide (x.2≠q))=(Bw L q).reverse:=by rw [List.filter_reverse]
 rw [this];have:=Qy (X:=[q]) (Bw L q).reverse (fun x hx _ z=>by
   have:=of_decide_eq_true (zH.mp (y4.mp hx)).2; exact this (wS.mp z)) [] [q] (fun p=>by simp) p
 rw [this,wS]
theorem Vj {s:IdP×Nat} {l:List As} {κ:As->Bool} (hl:l.filter κ=[]):∀ (O:List As),(Ky s l O).filter κ=O.filter κ
 | []=>rfl
 | u::O=>by
   have ih:=Vj (s:=s) hl O; unfold Ky;split
   . rw [xW,xW,yX,hl,xP]
   . rw [xW,xW,ih]
theorem aP {s:IdP×Nat} {l:List As} {κ:As->Bool}:∀ (O:List As),(∀ u∈O,sgn u=s->κ u=true)->(Ky s l O).filter κ=Ky s (l.filter κ) (O.filter κ)
 | [],_=>rfl
 | u::O,h=>by
   have ih:=aP (s:=s) (l:=l) O fun v hv=>h v (.tail _ hv);rw [show Ky s l (u::O)=if sgn u=s then u::(l++O) else u::Ky s l O from rfl];split
   . rename_i e
     have hk:=h u (.head _) e; rw [yH hk,yH hk,yX]; show _=if sgn u=s then _ else _;rw [if_pos e]
   . rename_i e
     cases c:κ u with
     | true =>
       rw [yH c,yH c,ih]; show _=if sgn u=s then _ else _;rw [if_neg e]
     | false=>rw [yI (by simp [c]),yI (by simp [c]),ih]
abbrev kap (q:IdP) (u:As):Bool:=decide (u.1.p≠q)
abbrev aK (B:List Ad) (q:IdP):List Ad:=B.filter fun a=>decide (a.p≠q)
theorem uI {B:List Ad} (hB:Bk B) {q:IdP}:(∀ c∈B,∀ n,c.b≠some (q,n))->ord (aK B q)=(ord B).filter (kap q):=by
 induction hB with
 | nil=>intro _; rfl
 | @snoc B e hB h0 hk hb ih =>
   intro h; have ih:=ih fun c hc=>h c (yT _ hc);have hbe:=h e (zD _ (.head _)); rw [Er]; unfold aK; rw [yX];by_cases c:e.p=q
   . rw [show ([e].filter fun a=>decide (a.p≠q))=[] by simp [c],xV]
     have hl:(blk e).filter (kap q)=[]:=CF.mpr fun u hu=>by
       have:=(Pc.mp hu).1; simp [this,c]
     refine ih.trans ?_; unfold iM;split
     . rw [yX,hl,xP]
     . rw [Vj hl]
   . rw [show ([e].filter fun a=>decide (a.p≠q))=[e] by simp [c],Er]
     have hl:(blk e).filter (kap q)=blk e:=BE.mpr fun u hu=>by
       have:=(Pc.mp hu).1; simp [this,c]
     rw [show ord (B.filter fun a=>decide (a.p≠q))=_ from ih];unfold iM;split
     . rw [yX,hl]
     . rename_i s hs
       rw [aP (κ:=kap q) _ fun u _ hu=>decide_eq_true fun z=>hbe s.2 (by rw [hs,<- z,<- hu]),hl]
theorem Adds.fil {L:List Dp} {B:List Ad} (h:Adds L B) (q:IdP):Adds (Bw L q) (aK B q):=by
 induction h with
 | nil=>exact .nil
 | @add L B a _ ih =>
   unfold Bw aK at ih ⊢;by_cases c:a.p=q
   . rw [yI (by simp [c]),yI (by simp [c])]; exact ih
   . rw [yH (by simp [c]),yH (by simp [c])]; exact .add a ih
 | @oth L B e k x xs h1 hk _ ih =>
   unfold Bw at ih ⊢;by_cases c:e.2=q
   . rw [yI (by simp [c])]; exact ih
   . rw [yH (by simp [c])]; exact .oth k x xs h1 hk ih
theorem wE {a b:Ad} (h:a.d=b.d):a=b:=by
 obtain ⟨p,x,w⟩:=a;obtain ⟨p',x',w'⟩:=b;have h:yR [.str "add",idP p,anD x,.str w]=.tuple [.str "add",idP p',anD x',.str w']:=h;injection h with h
 injection h with _ h
 injection h with h1 h
 injection h with h2 h
 injection h with h3 _
 injection h3 with h3
 have e1:=Bx h1;have e2:x=x':=by
   cases x with
   | none=>cases x' with
     | none=>rfl
     | some t=>cases h2
   | some s=>cases x' with
     | none=>cases h2
     | some t =>
       have h2:yR [idP s.1,.int (s.2:Int)]=.tuple [idP t.1,.int (t.2:Int)]:=h2;injection h2 with h2
       injection h2 with h4 h2
       injection h2 with h5 _
       injection h5 with h5
       rw [show s=t from DD (Bx h4) (by lia)]
 subst e1 e2 h3;rfl
theorem Adds.uniq {L:List Dp} {B:List Ad} (h:Adds L B):∀ {B':List Ad},Adds L B'->B'=B:=by
 induction h with
 | nil=>intro B' h'; cases h'; rfl
 | @add L B a _ ih =>
   intro B' h';generalize hl:(a.d,a.p)::L=M at h';cases h' with
   | nil=>cases hl
   | add a' h'' =>
     simp only [yP,Prod.mk.injEq] at hl; obtain ⟨⟨h1,_⟩,rfl⟩:=hl; rw [wE h1,ih h'']
   | oth k x xs h1 hk _ =>
     simp only [yP] at hl; rw [<- hl.1] at h1; have h1:yR [.str "add",idP a.p,anD a.b,.str a.w]=.tuple (.str k::idP a.p::x::xs):=h1; simp only [zY,yP,m8] at h1; exact absurd h1.1.symm hk
 | @oth L B e k x xs h1 hk _ ih =>
   intro B' h';generalize hl:e::L=M at h';cases h' with
   | nil=>cases hl
   | add a' h'' =>
     simp only [yP] at hl; rw [hl.1] at h1; have h1:yR [.str "add",idP a'.p,anD a'.b,.str a'.w]=.tuple (.str k::idP a'.p::x::xs):=h1; simp only [zY,yP,m8] at h1; exact absurd h1.1.symm hk
   | oth k' x' xs' h2 hk' h'' =>
     simp only [yP] at hl; obtain ⟨_,rfl⟩:=hl; exact ih h''
noncomputable section
variable {L:List Dp} {B:List Ad} {ku kd:Kvs}
theorem Uv (W:BkW L) (hl:L.length<=20) {e:Dp} (he:e∈L):F3 [bkD L,idP e.2]=.ok .none:=by
 have hc:=M3 (K1 (src:=fun δ=>((A5 0) δ).bind E5) (δ:=[.sh (bkD L),.sh (idP e.2)]) (cap:=[]) (δc:=[]) (F4 (d:=bkD L) rfl rfl) (by rw [wT]; lia) rfl (Pf (fun e=>idP e.2) L fun e he=>aQ W he));have hi:dIn true (idP e.2) (.list (L.map fun e=>idP e.2))=some (.bool false):=by
   have:=vP true e.2 (L.map (·.2)); rw [AI,decide_eq_true (xY he)] at this; exact this
 unfold F3;rw [Mj];show Out.fin (sIf _ _ _ [.sh (bkD L),.sh (idP e.2)])=_;rw [N3 (C3 (C0 (x:=idP e.2) rfl hc hi))]; rfl
theorem dB (S:Pb L B ku kd) {e:Dp} (he:e∈L):L5 [bkD L,idP e.2]=.ok (.bool (!decide (e.2∈off L))):=by
 refine K9 ((C5 (δ':=[.sh (bkD L),.sh (idP e.2)]) ?_).trans (E1 ?_))
 . unfold kN
   rw [B5 (fs:=A4 (A5 0) (A4 (A5 1) B2)) (δ:=F2 Du [bkD L,idP e.2]) (A9 (d:=bkD L) rfl (A9 (d:=idP e.2) rfl rfl)) (Uv S.W S.hl he),E7]; rfl
 . unfold jJ Ch
   show Res.bind (Res.ok (idP e.2)) _=_;rw [C7,A9 (δ:=[.sh (bkD L),.sh (idP e.2)]) (d:=bkD L) (ds:=[]) rfl rfl,C7,S.P.P.u,C7,if_pos (Y6 _),bne_true];exact congrArg (fun z=>Res.ok (zC (!z))) (S.P.o e.2)
noncomputable def dW:Dn->Out:=(sIf (C4 (b2 (b2 (A5 2) (vC (.int 1)) dIx) (b2 (A5 1) (vC (.int 0)) dIx) dEq)) (E9 (W8 (vC (.int 0)) (b2 (A5 1) (vC (.int 1)) dIx) (B6 (A4 (A5 2) B2) D2) (I0 .LtE) (I0 .Lt))) E4)
theorem fI (b:wK) (u:As) (hu:u.2 < u.1.w.length):∀ (M:List Dp),(∀ x∈M,Kd x)->(u.1.d,u.1.p)∈M->(∀ x∈M,x.2=u.1.p->x=(u.1.d,u.1.p))->∀ s2,K3 (st1 2) dW (M.map (·.1)) [.sh b,.sh (sgA u),s2]=.rt (.bool true)
 | [],_,h,_,_=>nomatch h
 | x::M,hk,hm,h1,s2=>by
   have c:(C4 (b2 (b2 (A5 2) (vC (.int 1)) dIx) (b2 (A5 1) (vC (.int 0)) dIx) dEq)) [.sh b,.sh (sgA u),.sh x.1]=.ok (decide (x.2=u.1.p)):=C3 (C0 (x:=idP x.2) (y:=idP u.1.p) (C0 (x:=x.1) (y:=.int 1) rfl rfl (hk x (.head _)).tid) (C0 (x:=sgA u) (y:=.int 0) rfl rfl (T9 _ _)) (eqId _ _));by_cases z:x.2=u.1.p
   . have ex:=h1 x (.head _) z
     rw [decide_eq_true z] at c; refine gQ (δ1:=[.sh b,.sh (sgA u),.sh x.1]) rfl ?_; unfold dW; rw [O9 c]; refine E1 ?_; unfold W8; show Res.bind (Res.ok (j6 0)) _=_;rw [C7,C0 (δ:=[.sh b,.sh (sgA u),.sh x.1]) (x:=sgA u) (y:=.int 1) rfl rfl (Ic _ _ _),C7,show I0 .LtE (.int 0) (.int (u.2:Int))=some (.bool (decide ((0:Int)<=(u.2:Int)))) from rfl,Rb,C7,decide_eq_true (by lia)];show Res.bind (B6 (A4 (A5 2) B2) D2 [.sh b,.sh (sgA u),.sh x.1]) _=_;rw [B5 (δ:=[.sh b,.sh (sgA u),.sh x.1]) (A9 (d:=x.1) (ds:=[]) rfl rfl) ((congrArg (fun d=>D2 [d]) (congrArg Prod.fst ex)).trans (bO _ _ _)),C7,ltI,decide_eq_true (by lia)]; rfl
   . rw [decide_eq_false z] at c
     refine (X0 (δ1:=[.sh b,.sh (sgA u),.sh x.1]) (δ':=[.sh b,.sh (sgA u),.sh x.1]) rfl (by unfold dW; rw [N3 c]; rfl)).trans (fI b u hu M (fun y hy=>hk y (.tail _ hy)) ?_ (fun y hy=>h1 y (.tail _ hy)) _);rcases wR.mp hm with y | y
     . exact absurd (by rw [<- y]) z
     . exact y
theorem jO (S:Pb L B ku kd) {u:As} (hu:u∈ord B) (ho:u.1.p∈off L):U7 [bkD L,sgA u]=.ok (.bool false):=by
 obtain ⟨m1,m2⟩:=(Dl S.A.bk u).mp hu;have hm:=S.A.inL u.1 m1;have hl:=S.hl;have hs:Fs [bkD L,sgA u]=.ok (.bool true):=by
   have e:=fI (bkD L) u m2 L (fun x hx=>(S.W.1 x hx).kd) hm (fun x hx h=>uO S.W.2 hx hm h) .un;refine K9 (W7 ?_); unfold U5; rw [F4 (δ:=F2 Ga [bkD L,sgA u]) (d:=bkD L) (ds:=L.map (·.1)) rfl rfl,E7];exact e
 refine K9 ((D6 (δ:=[.sh (bkD L),.sh (sgA u),.un]) (dS (C3 (B5 (A9 (d:=bkD L) rfl (A9 (d:=sgA u) rfl rfl)) hs)))).trans ((C5 (δ':=[.sh (bkD L),.sh (sgA u),oN ku]) ?_).trans ?_))
 . unfold Y8 Ch
   rw [A9 (d:=bkD L) (ds:=[]) rfl rfl,C7,S.P.P.u,E7]; rfl
 . show E9 _ [.sh (bkD L),.sh (sgA u),fN ku]=_
   refine E1 (sO _ _ _ ?_); rw [Dg (kvs:=ku) (kd:=idP u.1.p) rfl (C0 (x:=sgA u) (y:=.int 0) rfl rfl (T9 _ _)) (Y6 _),bne_true]; have:=S.P.o u.1.p; rw [decide_eq_true ho] at this; exact congrArg (fun z=>Res.ok (zC (!z))) this
noncomputable def dU:Dn->Out:=(sIf (C4 (vFn (A4 (I8 (F5 (fun δ=>((B6 (A4 (A5 4) B2) C6) δ).bind E5) D9 [2] K5 (T8 false 1 (A5 0)))) B2) iW)) (D1 (Y3 2 (b2 (A5 4) (vC (.int 1)) dIx) (vC (.bool true))) (Gq 3 (b2 (A5 4) (vC (.int 1)) dIx))) E4)
theorem Xr (W:BkW L) (q:IdP) (b i:wK):∀ (M:List Dp),(∀ x∈M,x∈L)->∀ (kvs:Kvs) (told:List IdP) (s4:Sl),Sn kvs->un kvs q=true->kvs.length+M.length<=900->told.length+M.length<=900->∃ kvs' told' t4,K3 (st1 4) dU (M.map (·.1)) [.sh b,.sh i,oN kvs,.ow (.list (told.map idP)),s4]=.nx [.sh b,.sh i,oN kvs',.ow (.list (told'.map idP)),t4]/\told'.length<=told.length+M.length/\(told'=[]->told=[]/\∀ x∈M,∀ ps:List IdP,C6 [x.1]=.ok (.list (ps.map idP))->q∉ps)
 | [],_,kvs,told,s4,_,_,_,_=>⟨kvs,told,s4,rfl,xH _,fun h=>⟨h,fun x hx=>nomatch hx⟩⟩
 | x::M,hM,kvs,told,s4,hk,hq,h1,h2=>by
   rw [xB] at h1 h2; have hx:=hM x (.head _); obtain ⟨ps,hps,_,_⟩:=rY W hx; obtain ⟨ps',K⟩:=dkW W hx; have hpl:ps.length<=40:=by
     have:=K.nm; rw [hps] at this;injection this with this
     injection this with this
     have:=congrArg AX this; rw [wT,wT] at this; have:=K.len;lia
   have inj:∀ ps':List IdP,C6 [x.1]=.ok (.list (ps'.map idP))->∀ p,p∈ps'->p∈ps:=fun ps' h p hp=>by
     rw [hps] at h;injection h with h
     injection h with h
     have:idP p∈ps.map idP:=by rw [h]; exact xY hp
     obtain ⟨p',h1,h2⟩:=xK.mp this; rw [<- Bx h2]; exact h1
   have c:(C4 (vFn (A4 (I8 (F5 (fun δ=>((B6 (A4 (A5 4) B2) C6) δ).bind E5) D9 [2] K5 (T8 false 1 (A5 0)))) B2) iW)) [.sh b,.sh i,oN kvs,.ow (.list (told.map idP)),.sh x.1]=.ok (ps.any (un kvs)):=by
     refine C3 (Fa (A9 (M3 (K1 (δc:=[oN kvs]) (F4 (B5 (A9 (d:=x.1) rfl rfl) hps) rfl) (by rw [wT]; lia) rfl (Eu idP (fun p=>.bool (un kvs p)) (fun p=>?_) ps))) rfl) ?_)
     . refine (Dg (f:=A5 0) (kvs:=kvs) (kd:=idP p) rfl rfl (Y6 _)).trans ?_
       show Res.ok (zC (un kvs p != false))=_;cases un kvs p <;> rfl
     . show (An _).map _=_
       rw [Vv]; show some (zC ((ps.map (un kvs)).any id))=_;rw [GJ]; rfl
   have hid:∀ s,(b2 (A5 4) (vC (.int 1)) dIx) [.sh b,.sh i,s,.ow (.list (told.map idP)),.sh x.1]=.ok (idP x.2):=fun s=>C0 (x:=x.1) (y:=.int 1) rfl rfl K.id;cases d:ps.any (un kvs) with
   | true =>
     rw [d] at c; obtain ⟨g1,g2⟩:=Ux hk x.2 (.bool true); have hpl2:=Dc (k:=idP x.2) (v:=.bool true) kvs; obtain ⟨kvs',told',t4,e,l,n⟩:=Xr W q b i M (fun y hy=>hM y (.tail _ hy)) (N7 kvs (idP x.2) (.bool true)) (told++[x.2]) (.sh x.1) g1 (by rw [g2,hq,Bool.or_true]) (by lia) (by rw [xO,AR]; lia);rw [xO,AR] at l; refine ⟨kvs',told',t4,(X0 (δ1:=[.sh b,.sh i,oN kvs,.ow (.list (told.map idP)),.sh x.1]) rfl ?_).trans e,by rw [xB]; lia,fun z=>absurd (n z).1 (by simp)⟩;unfold dU; rw [O9 c,C5 (Ep (kvs:=kvs) (kd:=idP x.2) (v:=.bool true) rfl rfl (hid _) (Y6 _) (by lia))]; rw [yO]; exact Kj (W:=told.map idP) rfl (hid _) (by rw [wT]; lia)
   | false =>
     rw [d] at c; obtain ⟨kvs',told',t4,e,l,n⟩:=Xr W q b i M (fun y hy=>hM y (.tail _ hy)) kvs told (.sh x.1) hk hq (by lia) (by lia);refine ⟨kvs',told',t4,(X0 (δ1:=[.sh b,.sh i,oN kvs,.ow (.list (told.map idP)),.sh x.1]) rfl (by unfold dU; rw [N3 c]; rfl)).trans e,by rw [xB]; lia,fun z=>⟨(n z).1,fun y hy ps' h hq'=>?_⟩⟩;rcases wR.mp hy with rfl | hy
     . rw [CA.mpr ⟨q,inj ps' h q hq',hq⟩] at d; cases d
     . exact (n z).2 y hy ps' h hq'
theorem pZ (W:BkW L) (hl:L.length<=20) (q:IdP):∃ told:List IdP,K7 [bkD L,idP q]=.ok (.list (told.map idP))/\told.length<=20/\(told=[]->∀ x∈L,∀ ps:List IdP,C6 [x.1]=.ok (.list (ps.map idP))->q∉ps):=by
 obtain ⟨kvs',told',t4,e,l,n⟩:=Xr W q (bkD L) (idP q) L (fun _ h=>h) [(idP q,.bool true)] [] .un (fun p hp=>⟨q,by rw [wS.mp hp]⟩) (by
   unfold un G6; rw [xR]; show (Option.map _ (match xA (idP q) (idP q) with | true=>_ | false=>_)).isSome=true;rw [Ro,decide_eq_true rfl]; rfl) (by simp; lia) (by simp; lia)
 rw [yD,GP] at l;refine ⟨told',?_,by lia,fun z=>(n z).2⟩;refine K9 ((C5 (δ':=[.sh (bkD L),.sh (idP q),oN [(idP q,.bool true)],.un,.un]) ?_).trans ((C5 (δ':=[.sh (bkD L),.sh (idP q),oN [(idP q,.bool true)],.ow (.list []),.un]) rfl).trans ((C5 (δ':=[.sh (bkD L),.sh (idP q),oN kvs',.ow (.list (told'.map idP)),t4]) ?_).trans ?_)))
 . unfold Be Oy
   show O7 (Res.ok (idP q)) _=_;rw [E7]; show O7 (Res.ok (zC true)) _=_;rw [E7,if_pos (Y6 _)]; rfl
 . unfold Bd U5
   rw [F4 (d:=bkD L) (ds:=L.map (·.1)) rfl rfl,E7]; exact e
 . rfl
theorem bR (W:BkW L) (hl:L.length<=20) {e:Dp} (he:e∈L) (h:K7 [bkD L,idP e.2]=.ok (.list [])):Cd [bkD L,idP e.2]=.ok (bkD (Bw L e.2)):=by
 have c:=Yd (δc:=[.sh (idP e.2),oN []]) (tt:=W5 (C4 (b2 (b2 (A5 0) (vC (.int 1)) dIx) (A5 1) dNe)) (C4 (T8 true 2 (b2 (A5 0) (vC (.int 1)) dIx)))) (el:=A5 0) (fun x:Dp=>x.1) (fun x=>x.1) (fun x=>decide (x.2≠e.2)) L (fun x hx=>by
   have h1:(C4 (b2 (b2 (A5 0) (vC (.int 1)) dIx) (A5 1) dNe)) ([.sh x.1]++[.sh (idP e.2),oN []])=.ok (decide (x.2≠e.2)):=C3 (C0 (x:=idP x.2) (y:=idP e.2) (aQ W hx) rfl (neId _ _)); unfold W5; rw [h1,C7];cases decide (x.2≠e.2) with
   | false=>rfl
   | true =>
     rw [if_pos rfl]; exact C3 (Dg (kvs:=[]) (kd:=idP x.2) rfl (aQ W hx) (Y6 _))) fun _ _=>rfl
 refine K9 ((C5 (δ':=[.sh (bkD L),.sh (idP e.2),.un]) ?_).trans ((C5 (δ':=[.sh (bkD L),.sh (idP e.2),oN []]) ?_).trans ?_))
 . unfold Fc kN
   rw [B5 (δ:=F2 Aj [bkD L,idP e.2]) (A9 (d:=bkD L) rfl (A9 (d:=idP e.2) rfl rfl)) (Uv W hl he),E7]; rfl
 . unfold Fb Y8 Rg
   rw [M3 (K1 (ys:=[]) (δ:=[.sh (bkD L),.sh (idP e.2),.un]) (F4 (d:=.list []) (ds:=[]) (B5 (A9 (d:=bkD L) rfl (A9 (d:=idP e.2) rfl rfl)) h) rfl) (by simp) rfl rfl),C7];rfl
 . exact E1 (Fa (ds:=[.list ((Bw L e.2).map (·.1))]) (A9 (M3 (K1 (δc:=[.sh (idP e.2),oN []]) (F4 (d:=bkD L) rfl rfl) (by rw [wT]; lia) rfl c)) rfl) rfl)
end
theorem Sb.same {L0 L1:List Dp} {B0 B1:List Ad} {k0 d0 k1 d1:Kvs} {g:Dp->Bool} {κ:As->Bool} (T:Sb L0 B0 k0 d0 L1 B1 k1 d1 g κ):D7 [bkD L1]=D7 [bkD L0]/\C9 [bkD L1]=C9 [bkD L0]:=by
 obtain ⟨ts,_,h0,h1⟩:=T.marks;have t1:=Ov T.S1.A T.S1.hl T.S1.P.P;have t0:=Ov T.S0.A T.S0.hl T.S0.P.P;exact ⟨by rw [t1,t0]; exact congrArg (fun z=>Res.ok (c6 z)) T.text,by rw [h1,h0]⟩
abbrev ud (r q:IdP):Dp:=(.tuple [.str "undo",idP r,idP q],r)
theorem Wh (r q:IdP):Mild (ud r q):=⟨"undo",idP q,[],rfl,by decide,by decide⟩
theorem sQ {L:List Dp} (W:BkW L) {e:Dp} (he:e∈L) {r:IdP} (ho:okI r) (hk:∀ x∈L,key x.2 < key r) (hr:e.2.1 < r.1):BkW (L++[ud r e.2]) :=
 W.more ⟨ho,.inr (.inr (.inr (.inr ⟨e.2,rfl,⟨e,he,rfl⟩,hr⟩)))⟩ hk
theorem Qz (L:List Dp) (r q:IdP) (o:List IdP):X7 (L++[ud r q]).reverse o=if r∈o then X7 L.reverse o else X7 L.reverse (o++[q]):=by
 rw [z5];show X7 L.reverse (Hg (ud r q) o)=_;rw [Vb (e:=ud r q) rfl];split <;> rfl
abbrev r0:IdP:=(50, "b")
abbrev r1:IdP:=(51, "a")
abbrev r2:IdP:=(51, "c")
theorem Hj:key r0=151/\key r1=153/\key r2=155:=by decide +kernel
theorem uP:okI r0/\okI r1/\okI r2:=⟨⟨by decide,by decide,.inr (.inl rfl)⟩,⟨by decide,by decide,.inl rfl⟩,⟨by decide,by decide,.inr (.inr rfl)⟩⟩
noncomputable section
variable {L:List Dp} {B:List Ad} {e:Dp}
abbrev lsB (L:List Dp) (e:Dp):List Dp:=L++[ud r0 e.2]
abbrev agB (L:List Dp) (e:Dp):List Dp:=lsB L e++[ud r1 r0]
abbrev btB (L:List Dp) (e:Dp):List Dp:=lsB L e++[ud r2 e.2]
theorem rP (h32:∀ x∈L,key x.2<=32) {x:Dp} (hx:x∈L):x.2.1 < 50:=by
 have:=h32 x hx;unfold key at this;lia
theorem wF (W:BkW L) (h32:∀ x∈L,key x.2<=32) (he:e∈L):BkW (lsB L e):=sQ W he uP.1 (fun x hx=>by have:=h32 x hx; rw [Hj.1]; lia) (rP h32 he)
theorem qB (h32:∀ x∈L,key x.2<=32) {x:Dp} (hx:x∈lsB L e):key x.2<=151:=by
 rcases xC.mp hx with z | z
 . have:=h32 x z; lia
 . rw [wS.mp z]; exact CK Hj.1
theorem W_ag (W:BkW L) (h32:∀ x∈L,key x.2<=32) (he:e∈L):BkW (agB L e):=sQ (e:=ud r0 e.2) (wF W h32 he) (zD _ (.head _)) uP.2.1 (fun x hx=>by have:=qB h32 hx; rw [Hj.2.1]; lia) (by show (50:Int) < 51; decide)
theorem W_bt (W:BkW L) (h32:∀ x∈L,key x.2<=32) (he:e∈L):BkW (btB L e):=sQ (wF W h32 he) (yT _ he) uP.2.2 (fun x hx=>by have:=qB h32 hx; rw [Hj.2.2]; lia) (GU (rP h32 he) (show (50:Int) < 51 by decide))
theorem Ra (L:List Dp) (e:Dp):off (lsB L e)=X7 L.reverse [e.2]:=by
 show X7 _ []=_;rw [Qz,if_neg (fun h=>nomatch h)]; rfl
theorem pU (h32:∀ x∈L,key x.2<=32) {x:Dp} (hx:x∈L) {r:IdP} (hr:151<=key r):x.2≠r:=fun z=>by
 have:=h32 x hx;rw [z] at this;lia
theorem lU (h32:∀ x∈L,key x.2<=32) (e:Dp) (p:IdP):p∈off (agB L e)↔p∈off L\/p=r0:=by
 show p∈X7 _ []↔_;rw [Qz,if_neg (fun h=>nomatch h),Qz,if_pos (.head _)];have:=Qy (X:=[r0]) L.reverse (fun x hx _ z=>pU h32 (y4.mp hx) (r:=r0) (CK Hj.1.symm) (wS.mp z)) [] ([]++[r0]) (fun p=>by simp) p;rw [this,wS]
theorem uR (h32:∀ x∈L,key x.2<=32) (he:e∈L) (p:IdP):p∈off (btB L e)↔p∈off (lsB L e):=by
 rw [Ra];show p∈X7 _ []↔_;rw [Qz,if_neg (fun h=>nomatch h),xP,Qz,if_neg fun z=>pU h32 he (r:=r0) (CK Hj.1.symm) (wS.mp z).symm];exact eW _ (fun p=>by simp) p
theorem qN (h32:∀ x∈L,key x.2<=32):(L.filter fun x=>decide (key x.2<=32))=L:=BE.mpr fun x hx=>decide_eq_true (h32 x hx)
theorem Ys (r q:IdP):Az (ud r q).1≠none:=by rw [Gu]; exact fun z=>by cases z
theorem lM (B:List Ad):ord B=(ord B).filter fun _=>true:=(BE.mpr fun _ _=>rfl).symm
variable {ku kd:Kvs}
structure Fx (L:List Dp) (B:List Ad) (e:Dp):Prop where
 S:∃ ku kd,Pb (lsB L e) B ku kd
 Sa:∃ ku kd,Pb (agB L e) B ku kd
 ag:D7 [bkD (agB L e)]=D7 [bkD L]/\C9 [bkD (agB L e)]=C9 [bkD L]
 bt:D7 [bkD (btB L e)]=D7 [bkD (lsB L e)]/\C9 [bkD (btB L e)]=C9 [bkD (lsB L e)]
 of:e.2∈off L->D7 [bkD (lsB L e)]=D7 [bkD L]/\C9 [bkD (lsB L e)]=C9 [bkD L]
 br:(∀ x∈L,∀ ps:List IdP,C6 [x.1]=.ok (.list (ps.map idP))->e.2∉ps)->D7 [bkD (lsB L e)]=D7 [bkD (Bw L e.2)]/\C9 [bkD (lsB L e)]=C9 [bkD (Bw L e.2)]
theorem fx (S:Pb L B ku kd) (h8:L.length<=8) (h32:∀ x∈L,key x.2<=32) (he:e∈L):Fx L B e:=by
 have W:=S.W;have A1:=S.A.mild (Wh r0 e.2);have A2:=A1.mild (Wh r1 r0);have A3:=A1.mild (Wh r2 e.2);have W1:=wF W h32 he;have W2:=W_ag W h32 he;have W3:=W_bt W h32 he;obtain ⟨k1,d1,S1⟩:=Zz A1 W1 (by simp; lia);obtain ⟨k2,d2,S2⟩:=Zz A2 W2 (by simp; lia);obtain ⟨k3,d3,S3⟩:=Zz A3 W3 (by simp; lia);have f1:L=(lsB L e).filter fun x=>decide (key x.2<=32):=by
   rw [yX,qN h32]; have:([ud r0 e.2].filter fun x=>decide (key x.2<=32))=[]:=by
     rw [yI]; rfl;show ¬ decide (key r0<=32)=true;rw [Hj.1]; decide
   rw [this,xV]
 refine ⟨⟨k1,d1,S1⟩,⟨k2,d2,S2⟩,?_,?_,fun ho=>?_,fun hn=>?_⟩
 . have T : Sb L B ku kd (agB L e) B k2 d2 (fun x => decide (key x.2 <= 32)) (fun _ => true) := ⟨by
     rw [yX,<- f1]; have:([ud r1 r0].filter fun x=>decide (key x.2<=32))=[]:=by
       rw [yI]; rfl;show ¬ decide (key r1<=32)=true;rw [Hj.2.1]; decide
     rw [this,xV],S,S2,fun x hx hg=>?_,fun x hx=>?_,lM B,fun _ _ h=>by cases h⟩
   . exact T.same
   . refine .inl ?_
     rcases xC.mp hx with z | z
     . rcases xC.mp z with z | z
       . rw [decide_eq_true (h32 x z)] at hg; cases hg
       . rw [wS.mp z]; exact Ys _ _
     . rw [wS.mp z]; exact Ys _ _
   . rw [lU h32]
     exact ⟨.inl,fun z=>z.elim id fun y=>absurd y (pU h32 hx (CK Hj.1.symm))⟩
 . have T : Sb (lsB L e) B k1 d1 (btB L e) B k3 d3 (fun x => decide (key x.2 <= 151)) (fun _ => true) := ⟨by
     rw [yX,show ((lsB L e).filter fun x=>decide (key x.2<=151))=lsB L e from BE.mpr fun x hx=>decide_eq_true (qB h32 hx)];have:([ud r2 e.2].filter fun x=>decide (key x.2<=151))=[]:=by
       rw [yI]; rfl;show ¬ decide (key r2<=151)=true;rw [Hj.2.2]; decide
     rw [this,xV],S1,S3,fun x hx hg=>?_,fun x hx=>(uR h32 he x.2).symm,lM B,fun _ _ h=>by cases h⟩
   . exact T.same
   . refine .inl ?_
     rcases xC.mp hx with z | z
     . rw [decide_eq_true (qB h32 z)] at hg; cases hg
     . rw [wS.mp z]; exact Ys _ _
 . have T:Sb L B ku kd (lsB L e) B k1 d1 (fun x=>decide (key x.2<=32)) (fun _=>true):=⟨f1,S,S1,fun x hx hg=>?_,fun x hx=>by rw [Ra]; exact (gX W he ho x.2).symm,lM B,fun _ _ h=>by cases h⟩
   . exact T.same
   . refine .inl ?_
     rcases xC.mp hx with z | z
     . rw [decide_eq_true (h32 x z)] at hg; cases hg
     . rw [wS.mp z]; exact Ys _ _
 . have W0 : BkW (Bw L e.2) := ⟨fun x hx => by
     obtain ⟨hx,_⟩:=zH.mp hx; obtain ⟨ps,h1,_,h3⟩:=rY W hx; exact h3 e.2 (hn x hx ps h1),List.Pairwise.sublist List.filter_sublist W.2⟩
   have hl0:(Bw L e.2).length<=20:=xD (CO _ _) (by lia);obtain ⟨B0,A0⟩:=bka' W0; obtain rfl:=(S.A.ad.fil e.2).uniq A0.ad; obtain ⟨k0,d0,S0⟩:=Zz A0 W0 hl0; have hq:e.2∈off (lsB L e):=by rw [Ra]; exact Mb _ (.head _)
   have T:Sb (Bw L e.2) (aK B e.2) k0 d0 (lsB L e) B k1 d1 (fun x=>decide (x.2≠e.2)&&decide (key x.2<=32)) (kap e.2):=⟨by
     rw [<- List.filter_filter,<- f1],S0,S1,fun x hx hg=>?_,fun x hx=>?_,uI S.A.bk fun c hc n z=>?_,fun u hu hk=>?_⟩
   . exact T.same
   . rcases xC.mp hx with z | z
     . rw [decide_eq_true (h32 x z),Bool.and_true] at hg
       have:x.2=e.2:=EV fun y=>by rw [decide_eq_true y] at hg; cases hg
       exact .inr (by rw [this]; exact hq)
     . exact .inl (by rw [wS.mp z]; exact Ys _ _)
   . rw [Ra,lT]
     exact ⟨.inl,fun z=>z.elim id fun y=>absurd y (of_decide_eq_true (zH.mp hx).2)⟩
   . have h1 := sH (d := c.d) (k := "add") (raw := [some (e.2, n)]) (by simp) (T9 _ _) (by decide) (by
       show D5 [.sh (.tuple [.str "add",idP c.p,anD c.b,.str c.w]),.sh (.list [])]=_;rw [z]; exact (eC).trans (by unfold Ad.d; rw [z]; rfl))
     exact hn (c.d,c.p) (S.A.inL c hc) _ h1 (.head _)
   . have : u.1.p = e.2 := EV fun y => by
       rw [show kap e.2 u=decide (u.1.p≠e.2) from rfl,decide_eq_true y] at hk; cases hk
     rw [this]; exact hq
end
theorem nE {α:Type} {δc:Dn} {tt:Dn->Res Bool} {el:Dn->Res wK} (g1 g2 h:α->wK) (f:α->Bool):∀ xs:List α,(∀ x∈xs,tt ([.sh (g1 x),.sh (g2 x)]++δc)=.ok (f x))->(∀ x∈xs,el ([.sh (g1 x),.sh (g2 x)]++δc)=.ok (h x))->D4 De δc tt el (xs.map fun x=>.tuple [g1 x,g2 x])=.ok ((xs.filter f).map h):=by
 intro xs;induction xs with
 | nil=>intro _ _; rfl
 | cons x xs ih =>
   intro h1 h2; have e1:=h1 x (.head _); have e2:=h2 x (.head _); have e3:=ih (fun y hy=>h1 y (.tail _ hy)) fun y hy=>h2 y (.tail _ hy);rw [wU]; unfold D4;cases e:f x with
   | true=>simp only [De,e1,e,e2,e3,yH e,wU]
   | false=>simp only [De,e1,e,e3,yI (by simp [e]:¬ f x=true)]
abbrev dl (v0 v1 v2 v3 v4 v5 v6 v7 v8:Sl):Dn:=[v0,v1,v2,v3,v4,v5,v6,v7,v8]
noncomputable def nK:Dn->Out:=(D1 (I9 5 (b2 (A5 1) (E8 (A4 (E8 (A4 (vC (.str "undo")) (A4 (E8 (A4 (vC (.int 50)) (A4 (vC (.str "b")) B2))) (A4 (b2 (A5 4) (vC (.int 1)) dIx) B2)))) B2)) E2)) (D1 (I9 6 (b2 (A5 5) (E8 (A4 (E8 (A4 (vC (.str "undo")) (A4 (E8 (A4 (vC (.int 51)) (A4 (vC (.str "a")) B2))) (A4 (E8 (A4 (vC (.int 50)) (A4 (vC (.str "b")) B2))) B2)))) B2)) E2)) (D1 (sIf (cOr (X8 (C4 (B6 (A4 (A5 6) B2) Cf))) (cOr (C4 (B6 (A4 (A5 5) (A4 (b2 (A5 4) (vC (.int 1)) dIx) B2)) L5)) (C4 (b2 (B6 (A4 (A5 5) B2) K6) (B6 (A4 (A5 1) B2) K6) dNe)))) (E9 (vC (.bool false))) E4) (D1 (sIf (cOr (C4 (b2 (B6 (A4 (A5 6) B2) D7) (A5 2) dNe)) (cOr (C4 (b2 (B6 (A4 (A5 6) B2) C9) (A5 3) dNe)) (C4 (b2 (B6 (A4 (A5 6) (A4 (b2 (A5 4) (vC (.int 1)) dIx) B2)) L5) (B6 (A4 (A5 1) (A4 (b2 (A5 4) (vC (.int 1)) dIx) B2)) L5) dNe)))) (E9 (vC (.bool false))) E4) (D1 (sIf (C4 (b2 (I8 (F5 (fun δ=>((B6 (A4 (A5 1) B2) K6) δ).bind E5) De [4,5] (W5 (C4 (b2 (b2 (A5 0) (vC (.int 0)) dIx) (b2 (A5 2) (vC (.int 1)) dIx) dEq)) (C4 (B6 (A4 (A5 3) (A4 (A5 0) B2)) U7))) (A5 0))) (I8 B2) dNe)) (E9 (vC (.bool false))) E4) (D1 (sIf (W5 (X8 (C4 (B6 (A4 (A5 1) (A4 (b2 (A5 4) (vC (.int 1)) dIx) B2)) L5))) (C4 (b2 (E8 (A4 (B6 (A4 (A5 5) B2) D7) (A4 (B6 (A4 (A5 5) B2) C9) B2))) (E8 (A4 (A5 2) (A4 (A5 3) B2))) dNe))) (E9 (vC (.bool false))) E4) (D1 (sIf (C4 (b2 (B6 (A4 (A5 1) (A4 (b2 (A5 4) (vC (.int 1)) dIx) B2)) K7) (I8 B2) dEq)) (D1 (I9 8 (B6 (A4 (A5 1) (A4 (b2 (A5 4) (vC (.int 1)) dIx) B2)) Cd)) (sIf (cOr (C4 (b2 (B6 (A4 (A5 8) B2) D7) (B6 (A4 (A5 5) B2) D7) dNe)) (C4 (b2 (B6 (A4 (A5 8) B2) C9) (B6 (A4 (A5 5) B2) C9) dNe))) (E9 (vC (.bool false))) E4)) E4) (D1 (I9 7 (b2 (A5 5) (E8 (A4 (E8 (A4 (vC (.str "undo")) (A4 (E8 (A4 (vC (.int 51)) (A4 (vC (.str "c")) B2))) (A4 (b2 (A5 4) (vC (.int 1)) dIx) B2)))) B2)) E2)) (sIf (C4 (b2 (E8 (A4 (B6 (A4 (A5 7) B2) D7) (A4 (B6 (A4 (A5 7) B2) C9) B2))) (E8 (A4 (B6 (A4 (A5 5) B2) D7) (A4 (B6 (A4 (A5 5) B2) C9) B2))) dNe)) (E9 (vC (.bool false))) E4)))))))))
theorem Rf.rows (ts:List Row):Rf 2 (.list (ts.map Bu)):=Rf.list fun x hx=>by
 obtain ⟨t,_,rfl⟩:=xK.mp hx;exact Rf.tup (.cs (.str _) (.cs (.int _) (.cs (.int _) fun _=>.nil)))
theorem Rf.sgs (T:List As):Rf 4 (.list (T.map tl)):=Rf.list fun x hx=>by
 obtain ⟨u,_,rfl⟩:=xK.mp hx;exact Rf.tup (.cs (Rf.sg _ _) (.cs (.str _) fun _=>.nil))
theorem Rf.bool {n:Nat} (b:Bool):Rf n (.bool b):=by
 refine ⟨?_,by simp [yS]⟩;cases b <;> rfl
theorem rH {c:Dn->Res Bool} {δ:Dn} {b:Bool} (h:c δ=.ok b):X8 c δ=.ok (!b):=by unfold X8; rw [h]; rfl
noncomputable section
variable {L:List Dp} {B:List Ad} {ku kd:Kvs} {v0 v5 v6 v7 v8:Sl} {e:Dp}
theorem Xo {f:Dn->Res wK} {g:Dn->Res wK} {δ:Dn} {M:List Dp} {r q:IdP} (hl:M.length<=20) (h1:f δ=.ok (bkD M)) (h2:g δ=.ok (.tuple [(ud r q).1])):b2 f g E2 δ=.ok (bkD (M++[ud r q])):=by
 refine C0 h1 h2 ((wD (by rw [wT]; simp; lia)).trans ?_);rw [<- List.map_singleton (f:=fun x:Dp=>x.1),<- yO]
theorem step3 (S:Pb L B ku kd) (h8:L.length<=8) (h32:∀ x∈L,key x.2<=32) (he:e∈L) {t:Str} {ts:List Row} (ht:D7 [bkD L]=.ok (.str t)) (hm:C9 [bkD L]=.ok (.list (ts.map Bu))):∃ t5 t6 t7 t8,nK (dl v0 (.sh (bkD L)) (.sh (.str t)) (.sh (.list (ts.map Bu))) (.sh e.1) v5 v6 v7 v8)=.nx (dl v0 (.sh (bkD L)) (.sh (.str t)) (.sh (.list (ts.map Bu))) (.sh e.1) t5 t6 t7 t8):=by
 have F:=fx S h8 h32 he;obtain ⟨k1,d1,S1⟩:=F.S;obtain ⟨k2,d2,S2⟩:=F.Sa;have hid:=(S.W.1 e he).kd.tid;have t1:=Ov S1.A S1.hl S1.P.P;obtain ⟨ts1,M1⟩:=Kw S1;have m1:=M1.m;generalize m9 "" (((ord B).filter (pres k1 d1)).map ltr)=t1' at t1;have heL:e∈lsB L e:=yT _ he;have heA:e∈agB L e:=yT _ heL;have hq:e.2∈off (lsB L e):=by rw [Ra]; exact Mb _ (.head _)
 have e1:=dB S1 heL;rw [decide_eq_true hq] at e1;have e2:=dB S2 heA;have e0:=dB S he;have e20:decide (e.2∈off (agB L e))=decide (e.2∈off L):=decide_eq_decide.mpr ((lU h32 e e.2).trans ⟨fun z=>z.elim id fun y=>absurd y (pU h32 he (CK Hj.1.symm)),.inl⟩);rw [e20] at e2;obtain ⟨told,hto,htl,htn⟩:=pZ S.W S.hl e.2;have hI:∀ (x5 x6 x7 x8:Sl),(b2 (A5 4) (vC (.int 1)) dIx) (dl v0 (.sh (bkD L)) (.sh (.str t)) (.sh (.list (ts.map Bu))) (.sh e.1) x5 x6 x7 x8)=.ok (idP e.2):=fun _ _ _ _=>C0 (x:=e.1) (y:=.int 1) rfl rfl hid;have cc:D4 De [.sh e.1,.sh (bkD (lsB L e))] (W5 (C4 (b2 (b2 (A5 0) (vC (.int 0)) dIx) (b2 (A5 2) (vC (.int 1)) dIx) dEq)) (C4 (B6 (A4 (A5 3) (A4 (A5 0) B2)) U7))) (A5 0) ((ord B).map tl)=.ok []:=by
   have:=nE (δc:=[.sh e.1,.sh (bkD (lsB L e))]) (tt:=W5 (C4 (b2 (b2 (A5 0) (vC (.int 0)) dIx) (b2 (A5 2) (vC (.int 1)) dIx) dEq)) (C4 (B6 (A4 (A5 3) (A4 (A5 0) B2)) U7))) (el:=A5 0) (fun u:As=>sgA u) (fun u=>.str (ltr u)) (fun u=>sgA u) (fun _=>false) (ord B) (fun u hu=>by
     have h1:(C4 (b2 (b2 (A5 0) (vC (.int 0)) dIx) (b2 (A5 2) (vC (.int 1)) dIx) dEq)) ([.sh (sgA u),.sh (.str (ltr u))]++[.sh e.1,.sh (bkD (lsB L e))])=.ok (decide (u.1.p=e.2)):=C3 (C0 (x:=idP u.1.p) (y:=idP e.2) (C0 (x:=sgA u) (y:=.int 0) rfl rfl (T9 _ _)) (C0 (x:=e.1) (y:=.int 1) rfl rfl hid) (eqId _ _));by_cases z:u.1.p=e.2
     . rw [decide_eq_true z] at h1
       exact Fv h1 (C3 (B5 (A9 (d:=bkD (lsB L e)) rfl (A9 (d:=sgA u) rfl rfl)) (jO S1 hu (by rw [z]; exact hq))))
     . rw [decide_eq_false z] at h1
       exact Jq h1) fun _ _=>rfl
   rw [show List.filter (fun _=>false) (ord B)=[] from CF.mpr fun _ _=>by decide] at this;exact this
 have hol:=Fq S.A;have hl:=S.hl;unfold nK;refine ⟨.sh (bkD (lsB L e)),.sh (bkD (agB L e)),.sh (bkD (btB L e)),if told=[] then .sh (bkD (Bw L e.2)) else v8,?_⟩;refine (C5 (δ':=dl v0 (.sh (bkD L)) (.sh (.str t)) (.sh (.list (ts.map Bu))) (.sh e.1) (.sh (bkD (lsB L e))) v6 v7 v8) (F6 (Xo (M:=L) S.hl rfl (N0 (A9 (N0 (A9 (d:=.str "undo") rfl (A9 (d:=idP r0) rfl (A9 (hI _ _ _ _) rfl)))) rfl))))).trans ?_;refine (C5 (δ':=dl v0 (.sh (bkD L)) (.sh (.str t)) (.sh (.list (ts.map Bu))) (.sh e.1) (.sh (bkD (lsB L e))) (.sh (bkD (agB L e))) v7 v8) (F6 (Xo (M:=lsB L e) S1.hl rfl (N0 (A9 (N0 (A9 (d:=.str "undo") rfl (A9 (d:=idP r1) rfl (A9 (d:=idP r0) rfl rfl)))) rfl))))).trans ?_
 refine (D6 (Mo (dS (C3 (B5 (A9 (d:=bkD (agB L e)) rfl rfl) (iI S2.W S2.hl)))) (Mo (C3 (B5 (A9 (d:=bkD (lsB L e)) rfl (A9 (hI _ _ _ _) rfl)) e1)) (C3 (C0 (B5 (A9 (d:=bkD (lsB L e)) rfl rfl) (Di S1.A S1.hl)) (B5 (A9 (d:=bkD L) rfl rfl) (Di S.A S.hl)) ((Rf.sgs _).ne (by decide))))))).trans ?_;refine (D6 (Mo (C3 (C0 (B5 (A9 (d:=bkD (agB L e)) rfl rfl) (F.ag.1.trans ht)) (y:=.str t) rfl ((Rf.str (n:=0) _).ne (by decide)))) (Mo (C3 (C0 (B5 (A9 (d:=bkD (agB L e)) rfl rfl) (F.ag.2.trans hm)) (y:=.list (ts.map Bu)) rfl ((Rf.rows ts).ne (by decide)))) (C3 (C0 (B5 (A9 (d:=bkD (agB L e)) rfl (A9 (hI _ _ _ _) rfl)) e2) (B5 (A9 (d:=bkD L) rfl (A9 (hI _ _ _ _) rfl)) e0) ((Rf.bool (n:=0) _).ne (by decide))))))).trans ?_
 refine (D6 (C3 (C0 (x:=.list []) (y:=.list []) (M3 (K1 (δc:=[.sh e.1,.sh (bkD (lsB L e))]) (F4 (d:=.list ((ord B).map tl)) (ds:=(ord B).map tl) (B5 (A9 (d:=bkD L) rfl rfl) (Di S.A S.hl)) rfl) (by rw [wT]; lia) rfl cc)) rfl rfl))).trans ?_;refine (D6 ?_).trans ?_
 . by_cases z:e.2∈off L
   . obtain ⟨z1,z2⟩:=F.of z
     rw [decide_eq_true z] at e0; refine Fv (rH (b:=false) (C3 (B5 (A9 (d:=bkD L) rfl (A9 (hI _ _ _ _) rfl)) e0))) (C3 (C0 (N0 (A9 (B5 (A9 (d:=bkD (lsB L e)) rfl rfl) (z1.trans ht)) (A9 (B5 (A9 (d:=bkD (lsB L e)) rfl rfl) (z2.trans hm)) rfl))) (N0 (A9 (d:=.str t) rfl (A9 (d:=.list (ts.map Bu)) rfl rfl))) ((Rf.tup (n:=2) (.cs (.str _) (.cs (Rf.rows ts) fun _=>.nil))).ne (by decide))))
   . rw [decide_eq_false z] at e0
     exact Jq (dS (C3 (B5 (A9 (d:=bkD L) rfl (A9 (hI _ _ _ _) rfl)) e0)))
 refine (C5 (δ':=dl v0 (.sh (bkD L)) (.sh (.str t)) (.sh (.list (ts.map Bu))) (.sh e.1) (.sh (bkD (lsB L e))) (.sh (bkD (agB L e))) v7 (if told=[] then .sh (bkD (Bw L e.2)) else v8)) ?_).trans ?_
 . have ct : (C4 (b2 (B6 (A4 (A5 1) (A4 (b2 (A5 4) (vC (.int 1)) dIx) B2)) K7) (I8 B2) dEq)) (dl v0 (.sh (bkD L)) (.sh (.str t)) (.sh (.list (ts.map Bu))) (.sh e.1) (.sh (bkD (lsB L e))) (.sh (bkD (agB L e))) v7 v8) = .ok (decide (told = [])) := by
     refine C3 (C0 (y:=.list []) (B5 (A9 (d:=bkD L) rfl (A9 (hI _ _ _ _) rfl)) hto) rfl ?_);cases told with
     | nil=>rfl
     | cons x told =>
       show (if _ then _ else _)=_;rw [if_pos (xD (i9 _ _) (by decide))]; rfl
   by_cases z:told=[]
   . obtain ⟨b1,b2'⟩:=F.br (htn z)
     subst z; rw [decide_eq_true rfl] at ct; rw [O9 ct,if_pos rfl]; refine (C5 (δ':=dl v0 (.sh (bkD L)) (.sh (.str t)) (.sh (.list (ts.map Bu))) (.sh e.1) (.sh (bkD (lsB L e))) (.sh (bkD (agB L e))) v7 (.sh (bkD (Bw L e.2)))) (F6 (B5 (A9 (d:=bkD L) rfl (A9 (hI _ _ _ _) rfl)) (bR S.W S.hl he hto)))).trans ?_; exact (N3 (Mo (C3 (C0 (B5 (A9 (d:=bkD (Bw L e.2)) rfl rfl) (b1.symm.trans t1)) (B5 (A9 (d:=bkD (lsB L e)) rfl rfl) t1) ((Rf.str (n:=0) _).ne (by decide)))) (C3 (C0 (B5 (A9 (d:=bkD (Bw L e.2)) rfl rfl) (b2'.symm.trans m1)) (B5 (A9 (d:=bkD (lsB L e)) rfl rfl) m1) ((Rf.rows ts1).ne (by decide)))))).trans rfl
   . rw [decide_eq_false z] at ct
     rw [N3 ct,if_neg z]; rfl
 generalize (if told=[] then Sl.sh (bkD (Bw L e.2)) else v8)=w8;refine (C5 (δ':=dl v0 (.sh (bkD L)) (.sh (.str t)) (.sh (.list (ts.map Bu))) (.sh e.1) (.sh (bkD (lsB L e))) (.sh (bkD (agB L e))) (.sh (bkD (btB L e))) w8) (F6 (Xo (M:=lsB L e) S1.hl rfl (N0 (A9 (N0 (A9 (d:=.str "undo") rfl (A9 (d:=idP r2) rfl (A9 (hI _ _ _ _) rfl)))) rfl))))).trans ?_;exact (N3 (C3 (C0 (N0 (A9 (B5 (A9 (d:=bkD (btB L e)) rfl rfl) (F.bt.1.trans t1)) (A9 (B5 (A9 (d:=bkD (btB L e)) rfl rfl) (F.bt.2.trans m1)) rfl))) (N0 (A9 (B5 (A9 (d:=bkD (lsB L e)) rfl rfl) t1) (A9 (B5 (A9 (d:=bkD (lsB L e)) rfl rfl) m1) rfl))) ((Rf.tup (n:=2) (.cs (.str _) (.cs (Rf.rows ts1) fun _=>.nil))).ne (by decide))))).trans rfl
theorem sB (S:Pb L B ku kd) (h8:L.length<=8) (h32:∀ x∈L,key x.2<=32) {t:Str} {ts:List Row} (ht:D7 [bkD L]=.ok (.str t)) (hm:C9 [bkD L]=.ok (.list (ts.map Bu))):∀ (M:List Dp),(∀ e∈M,e∈L)->∀ v4 v5 v6 v7 v8,∃ t4 t5 t6 t7 t8,K3 (st1 4) nK (M.map (·.1)) (dl v0 (.sh (bkD L)) (.sh (.str t)) (.sh (.list (ts.map Bu))) v4 v5 v6 v7 v8)=.nx (dl v0 (.sh (bkD L)) (.sh (.str t)) (.sh (.list (ts.map Bu))) t4 t5 t6 t7 t8)
 | [],_,v4,v5,v6,v7,v8=>⟨v4,v5,v6,v7,v8,rfl⟩
 | e::M,h,v4,v5,v6,v7,v8=>by
   obtain ⟨a,b,c,d,e1⟩:=step3 (v0:=v0) (v5:=v5) (v6:=v6) (v7:=v7) (v8:=v8) S h8 h32 (h e (.head _)) ht hm; obtain ⟨t4,t5,t6,t7,t8,e2⟩:=sB S h8 h32 ht hm M (fun x hx=>h x (.tail _ hx)) (.sh e.1) a b c d;exact ⟨t4,t5,t6,t7,t8,(X0 rfl e1).trans e2⟩
end
theorem kT (ns:List Int) (hns:ns.length<=63):fB [.list (ns.map j6)]=.ok (.bool true):=by
 obtain ⟨x,y,z,hxyz,en⟩:=lY ns hns 0;obtain ⟨L,eb,h8,W,h32⟩:=rL ns hns x y z hxyz;obtain ⟨B,A⟩:=bka' W;obtain ⟨ku,kd,S⟩:=Zz A W (by lia);have ht:=Ov A S.hl S.P.P;obtain ⟨ts,M⟩:=Kw S;generalize m9 "" (((ord B).filter (pres ku kd)).map ltr)=t at ht;obtain ⟨t4,t5,t6,t7,t8,e⟩:=sB (v0:=.sh (scr ns)) S h8 h32 ht M.m L (fun _ h=>h) .un .un .un .un .un;refine K9 ?_;show Ox (dl (.sh (scr ns)) .un .un .un .un .un .un .un .un)=_;unfold Ox;refine (C5 (δ':=dl (.sh (scr ns)) (.sh (bkD L)) .un .un .un .un .un .un .un) (F6 (B5 (A9 (d:=scr ns) rfl (A9 (d:=.int 10) rfl (A9 (d:=.int 8) rfl (A9 (B5 (A9 (d:=scr ns) rfl (A9 (d:=.int 0) rfl rfl)) en) rfl)))) eb))).trans ?_
 refine (C5 (δ':=dl (.sh (scr ns)) (.sh (bkD L)) (.sh (.str t)) .un .un .un .un .un .un) (F6 (B5 (A9 (d:=bkD L) rfl rfl) ht))).trans ?_;refine (C5 (δ':=dl (.sh (scr ns)) (.sh (bkD L)) (.sh (.str t)) (.sh (.list (ts.map Bu))) .un .un .un .un .un) (F6 (B5 (A9 (d:=bkD L) rfl rfl) M.m))).trans ?_;refine (C5 (δ':=dl (.sh (scr ns)) (.sh (bkD L)) (.sh (.str t)) (.sh (.list (ts.map Bu))) t4 t5 t6 t7 t8) ?_).trans rfl;unfold Po U5;rw [F4 (d:=bkD L) (ds:=L.map (·.1)) rfl rfl,E7];exact e
end Sm
end
set_option maxRecDepth 100000 in
set_option maxHeartbeats 0 in
theorem PySem.Challenge.cw_staymark_k43_whole_undone_holds : PySem.Challenge.rw_staymark_k43_whole_undone.Holds := by
 w_on; o_law
 refine PySem.W.holds_open (XP:=PySem.W.XL Sm.owV []) Sm.owL (PySem.W.Hook.of _) (PySem.W.Hook.keeps _) (fun s e=>PySem.W.xl_of s (Bool.and_eq_true_iff.mp e).1) PySem.W.XL.keeps (by rfl) (by rfl) (by rfl) (fun s e=>PySem.W.recFacts_of (Bool.and_eq_true_iff.mp e).2) (by rfl) (by first | assumption | decide +kernel) (by decide +kernel) ⟨rfl,rfl,rfl,rfl,rfl,by decide +kernel⟩ ?hw ?hc
 (case hw=>w_witness2)
 k_fill
 refine Sm.walkD (l:=PySem.Challenge.rw_staymark_k43_whole_undone) rfl rfl rfl (fun w h Y=>PySem.W.kIn_of Y) (fun w=>?hK) ?F Sm.kT
 case hK=>kernel_rfl
 case F =>
   intro w mg h KX G; refine' ⟨⟨?b0,?b1,?b2,?b3,?b4,?b5,?b6,?b7,?b8,?b9,?b10,?b11,?b12,?b13,?b14,?c0,?c1,?c2,?c3,?c4⟩,⟨?d45,?d0,?d1,?d2,?d3,?d4,?d5,?d6,?d7,?d8,?d9,?d10,?d11,?d12,?d13,?d14,?d15,?d16,?d17,?d18,?d19,?d20,?d21,?d22,?d23,?d24,?d25,?d26,?d27,?d28,?d29,?d30,?d31,?d32,?d33,?d34,?d35,?d36,?d37,?d38,?d39,?d40,?d41,?d42,?d43,?d44⟩⟩
   case b0 | b1 | b2 | b3 | b4 | b5 | b6 | b7 | b8 | b9 | b10 | b11 | b12 | b13 | b14=>exact PySem.W.mg_none_of KX G (by k_is)
   case c0 | c1 | c2 | c3 | c4=>exact ⟨_,(PySem.W.mg_of KX G (by k_is)).trans rfl⟩
   case d0 | d1 | d12 | d18 | d23 | d24 | d25 | d29 | d30 | d31 | d33 | d36 | d37 | d39 | d40=>exact Sm.qW KX G (by k_is) (by k_is) (by k_is) (by k_is) (fun _ _ _ _ _ _ _ _=>rfl) rfl
   case d2 | d44=>exact Sm.qU KX G (by k_is) (by k_is) (by k_is) (by k_is) (fun _ _ _ _ _ _ _ _ _ _=>rfl) rfl
   case d3 | d4 | d5 | d6 | d7 | d8 | d9 | d10 | d11 | d13 | d14 | d15 | d16 | d17 | d19 | d20 | d21 | d22 | d26 | d27 | d28 | d32 | d34 | d35 | d41 | d45=>exact Sm.qX KX G (by k_is) (by k_is) (by k_is) (by k_is) (fun _ _ _ _ _ _ _=>rfl) rfl
   case d38 | d42=>exact Sm.qV KX G (by k_is) (by k_is) (by k_is) (by k_is) (fun _ _ _ _ _ _ _ _ _=>rfl) rfl
   case d43=>exact Sm.qT KX G (by k_is) (by k_is) (by k_is) (by k_is) (fun _ _ _ _ _ _ _ _ _ _ _=>rfl) rfl
