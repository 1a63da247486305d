import PyProof.Rows.All
import Wide.All
import OpenK.AllK
import Wide.FinOn
import Lean
import PyProof.EqAt
import PyProof.EqKinds
import PyProof.TupleCall
import PyProof.AttrMiss
import PyProof.IsiH_list
import PySem.SetOps
import PyProof.SetScanFacts
import PyProof.SetKind
import PyProof.IsRules
import PyProof.TupleKey
import PyProof.P3Eq
import Wide.Seal
import PyProof.StrCalls
import PyProof.SeqI3
import PyProof.Draws
import PyProof.EnumMake
import PyProof.DictValues
import PyProof.DictWalks
import PyProof.TupleOfSeq
import PyProof.TupleOfGen
import KE.KDictList
import KE.KRevIter
import PyProof.MinMaxWalk
import PyProof.Rows.CallKwBuiltin
import KE.KSortTup
import PyProof.Rows.SortWalk
import PyProof.Rows.SortShell
import PyProof.DictIter
import PyProof.P3In
import PyProof.Rows.SortStr
import PyProof.MeetsStr
import PyProof.FactsAll.str_6
import PyProof.StrCalls2
import PyProof.MeetsStr2
import KE.KIntText
import PyProof.SliceStr2
import PyProof.Rows.Range3
import PyProof.FactsAll.list_3
import PyProof.FString4
import PyProof.ZipIter
import PyProof.ListNew
import PyProof.SetRoads
import PyProof.Rows.SetFrom
import PyProof.SetNew
import PyProof.WalksMore
import PyProof.FactsAll.set_2
import PyProof.ListRange
import PySem.Challenge.RW_staymark_k20_marks
import PyProof.StrLawsRepr
set_option Elab.async false
set_option linter.all false
set_option maxRecDepth 100000
set_option maxHeartbeats 4000000
set_option compiler.extract_closed false
set_option bootstrap.genMatcherCode false
set_option genSizeOf false
local macro_rules | `(⋯) => `(by kernel_rfl)
open PySem renaming PyData->f8,wpAny_bind->f9,Value->g9,wpAny_pure->i0,Spec->i4,Shared->i6,starEach->i8,Addr->i9,Program->o9,model->u7,World->x8,Heap->BL,Around->BO,wpAny_newObj_type->BX,foldedSetIterable->CB,backTo->CD,compareOp->CH,wpAny_holding->CJ,DictEntry->CL,mainGlobals->DD,wpAny_mono->DG,wpAny_callSpecial?_slot->DH,Paired->DJ,wpAny_dictEpoch->DM,wpAny_call_entry->DR,wpAny_Call_Name_kw->DV,wpAny_loadPart'->DY,wpAny_truthy_bool->ED,wpAny_rule->EI,Builtin->EM,cLine->EO,wpAny_specialOf->EW,CmpOp->FA,attributeBase->FK,keywordEach->FL,swapsWith->FT,relabel->FU,sysModules->FX,Stmt->GC,wpAny_execs_cons->GE,mem_of_lookup->GK,wpAny_field->GL,bootBuiltins->GN,Keyword->GX,wpAny_typeNameOfWhole_keyiter->HB,wpAny_of_eq->HC,rawInt->HF,wpAny_passesOwn->HL,SetTable->HM,wpAny_attempt->HP,builtinLookup_eq_fast->HS,wpAny_dictEntries->HU,backToKw->HY,FuncData->IB,wpAny_execs_nil->IH,codeAny_builtin->II,codeAny->IJ,sliceBounds->IR,wpAny_sequenceKey->IZ,wpAny_Return_some->JA,getItem->JB,wpAny_notOrdered_dict->JF,strLen_append->JG,wpAny_isInstance->JH,wpAny_forIn_list->JI,call_meets->JJ,typeLookup_type->JS,wpAny_typeOf->JY,codeAny_mono->JZ,lastMarks->KD,wpAny_setField->KI,typeLookup->KJ,pyNext->KL,NameKind->KP,slot_list_getitem->KR,sizeLine_eq->KS,wpAny_getItem_list_slice->KY,bindArgs->LK,binaryOp->LL,builtinsNs->LS,Params->LW,IsPart->LX,wpAny_ite_split->LY,letOwnedTupleGo->LZ,wpAny_isOneOf_keyiter->MB,firstArgMember->MO,codeAny_call_builtin->MP,evalPart_none->MX,wpAny_call->NC,assignEach->NE,callerA->NP,call_meetsIn->NQ,Model->NR,noFill_tuple_add->NW,subscripted->OB,ItemsOf->OM,BindsTo->OQ,wpAny_newFunctionEnv_cells->OR,setField->OT,recursionLimit->OU,carriedByValue->OV,callType_codes->OW,ReadsAll->OX
open PySem.W renaming Frag->i5,keepIn->BR,fnOf->CF,codeIn->FD,hideAll_none->HG,hideAll->JC,nsIn->JD,kitOne->JL,cellsFrom_some->KN,hideAll_get->LN,of_hideAll->LU,callWith_K->LV,methodObj->MC,codeRec_of->OY
open List renaming length_map->i7,mem_cons->j9,map_cons->k6,length_append->k7,length_cons->l7,mem_append->m6,size_toArray->m8,mem_singleton->m9,mem_map->t8,set_cons_zero->t9,set_cons_succ->u5,replicate->u6,append_nil->u8,getElem?_eq_some_iff->x4,append_assoc->x6,map_append->z4,filter_cons->z7,find?_cons->z9,nil_append->BK,length_nil->BM,mem_filter->BN,getElem?_map->BP,nodup_cons->BQ,pairwise_cons->BV,mem_map_of_mem->BW,getElem?_eq_getElem->BY,length_singleton->CA,range->CK,length_eq_zero_iff->CO,length_reverse->CQ,getElem?_append_left->CT,getElem?_append_right->DB,cons_append->DC,length_filter_le->DL,map_map->DU,drop_eq_getElem_cons->EA,mem_append_right->EC,map_nil->EE,mem_cons_self->EG,mem_range->EL,filterMap_cons->EN,length_take->EY,all_eq_true->EZ,mem_cons_of_mem->FF,getElem?_set_ne->FG,replicate_succ->FO,drop_eq_nil_of_le->FV,pairwise_append->GG,mem_of_getElem?->GH,flatten_cons->GI,pairwise_singleton->GO,getElem?_cons_zero->GP,length->GU,ext_getElem?->HH,nodup_iff_pairwise_ne->HQ,getD_eq_getElem?_getD->HR,getElem?_replicate->IE,reverse_cons->IK,pairwise_map->IL,getElem?_set_self->IM,drop_zero->IN,getElem?_eq_none->IV,mem_reverse->IW,map_reverse->IX,length_drop->IY,reverse_append->JM,filter_eq_self->JN,zip_cons_cons->JQ,filter_append->JR,nodup_append->KB,any_map->KT,of_mem_zip->LA,length_set->LB,mem_iff_getElem?->LG,getElem?_reverse->LH,mem_append_left->LQ,mem_filterMap->MH,foldl->MI,not_mem_nil->MY,mem_flatten->MZ,any_eq_true->NA,forIn_cons->NK,dropLast_concat_getLast->NM,any_cons->OE,getElem?_cons_succ->OH,dropLast_eq_take->PD,reverse_reverse->PJ,mem_of_mem_take->PK,mem_of_mem_drop->PL,getElem?_mapIdx->PM
open PySem.PyData renaming eqv->l6,strOk->z0,str->BU,depthAll->CI,depth->CW,int->DZ,canLayAll0->EJ,tuple->EX,bool->GR,eqvAll->HX,list->IC,none->JW
open PySem.Heap renaming get?_push_of_some->l8,lt_size->q9,get?_push_size->x5,get?_update_self->ET,SameBut->JO,get?_none_of_le->LR,get?_update_ne->MA,get?_update_other->OO
open Nat renaming le_trans->l9,le_refl->s0,lt_of_lt_of_le->y9,ne_of_lt->z8,min_le_right->DX,zero_le->ER,reduceSub->FY,reduceAdd->FZ,not_lt->GD,le_succ_of_le->GJ,lt_of_le_of_lt->HA,lt_irrefl->HD,ne_of_gt->IQ,le_succ->JE,min_le_left->LF,lt_succ_self->NI,mul_comm->OZ,le_of_lt->PB
open Bool renaming and_eq_true->x3,false_ne_true->z6,eq_iff_iff->CZ,not_eq_true'->DQ,false_eq_true->FC,or_false->KH,not_true->MG,or_eq_true->NN,true_and->OF
open Option.some renaming inj->BS,injEq->OD
open PyProof.Rows renaming slot_tuple_getitem->BZ,callWith_type1->EB,AllBare->KW,subscriptTail->KZ,IsTup->LP,slicePart_none->MM,joinParts_cons->MN,entry_tuple_getitem->MR,slot_tuple_getitem->ND,args_tuple_getitem->NF,Subscript_->NG,StrsAre->OL
open PySem.Builtin.Str renaming strSliceIndices->CG,occurrences->HZ
open PySem.Value renaming ref->CU,bool->EF,none->EU,type->IU,notImplemented->LM,str->MS,int->OC
open PySem.Builtin.Slice renaming slicePlaces->CY,sliceAdjust->FP,sliceApplied->GW,sliceFields->ML
open PySem.Builtin.Tuple renaming tupleExact->DK,tupleItemsOf->GV,tupleCompareSizes->LJ,tupleHashOf->MK
open PySem.F renaming plainAttrs_list->DP,type_list_append->JT,slot_list_append->JU,args_tuple_add_2->JV,entry_tuple_add->KA,slot_tuple_add->KO,excBase_ValueError->NH,plainAttrs_dict->NT,attr_ValueError->NU,plainAttrs_str->NY
open PySem.Str renaming join->EH,ofString->FE,empty->GQ
open PySem.Challenge renaming pw_staymark_k20_marks->EQ
open Array renaming getElem?_eq_getElem->ES,length_toList->HW,all_eq_true'->JP,getElem?_toList->LC,toList->OJ,toArray_toList->PH
open PySem.Calls renaming spliced_cons->EV,spliced_nil->HE,evalArgs_plain->HN,callWith_builtin->IG,Constant_str->ME,Name_function_global->NS
open Option renaming map_eq_some_iff->FN,map_some->IA,bind_eq_some_iff->NZ
open False renaming elim->GA
open ForInStep renaming yield->GB
open PySem.Heap.SameBut renaming update->GF
open PySem.PassesOwn renaming never->GS
open PySem.NameKind renaming free->GT
open LawfulBEq renaming eq_of_beq->GY
open PySem.Obj renaming data_mapFields->GZ,mapDictKeys->LD,isFreed_of_fields->LO,isFreed_of_dict->MD,mapSeq->OA,mapFields->OG
open Classical renaming byContradiction->HI
open PySem.Builtin.List renaming listTooLong->HJ,listExtendWith->IT,listLengthHint->MF,listSameRef->MQ,listItems->NB
open PySem.Around renaming under_plainId->HK
open List.cons renaming injEq->HV
open Int renaming emod_lt_of_pos->JX,toNat_natCast->KG,emod_nonneg->LI,ediv_one->PF
open List.Pairwise renaming filter->KC
open PySem.Heap.IsSliceOf renaming new->KQ
open PySem.Builtin.Dict_items renaming ownsTuple->KU
open PySem.Code renaming quiet_builtin->MJ
open Sum renaming inr->MT,inl->MU
open PySem.SeqAt.ReadsAll renaming length->MV
open PySem.Builtin.Dict renaming updateFrom->MW,showsAll->NJ
open PySem.AutoSeq1 renaming sub_tuple_tuple->NO,idx_int->PN
open PySem.PyData.tuple renaming injEq->NV
open PySem.Heap.ExtBut renaming push->OI
def iq{c:Prop}{h:Decidable c}(k:c){α:Sort _}{t e:α}:ite c t e=t:=if_pos k
def ir{c:Prop}{h:Decidable c}(k:¬c){α:Sort _}{t e:α}:ite c t e=e:=if_neg k
noncomputable section
namespace L2
open PySem PySem.Spec PyProof.Rows
noncomputable def inClass(s:GC)(j:Nat):GC:=match s with
 |.ClassDef _ _ _ body _ _ _ _ _ _ _=>body.getD j (.Pass ⟨0,0,0,0⟩)
 |_=>.Pass ⟨0,0,0,0⟩
noncomputable def P7(s:GC):Arguments:=match s with
 |.FunctionDef _ a _ _ _ _ _ _ _ _=>a
 |_=>{posonlyargs:=[],args:=[],vararg:=none,kwonlyargs:=[],kw_defaults:=[],kwarg:=none,defaults:=[]}
noncomputable def B6(s:GC):List GC:=match s with
 |.FunctionDef _ _ b _ _ _ _ _ _ _=>b
 |_=>[]
noncomputable def A5(s:GC):Scope:=match s with
 |.FunctionDef _ _ _ _ _ _ sc _ _ _=>sc
 |_=>{kind:=.function,names:=[],isGenerator:=false,isCoroutine:=false}
end L2
namespace Sm
open PySem PySem.Spec PyProof.Rows L2
noncomputable def top(i:Nat):GC:=EQ.main.body.getD i (.Pass ⟨0,0,0,0⟩)
noncomputable def G9(P:LW)(x:Str)(t:Nat)(v:g9):CL:=⟨PyData.keyHash P x,.str x t,v⟩
def tQ(i:Nat):Str:=match top i with |.FunctionDef n _ _ _ _ _ _ _ _ _=>n |_=>""
def Q5(i:Nat)(m:g9)(c:Nat):Obj:=⟨.type "function",none,.func (CF (tQ i) (tQ i) (P7 (top i)) (B6 (top i)) (A5 (top i)) .none .none .none m none (.ref c) .none),#[]⟩
def Q6(i t:Nat)(l a:Int)(r:Nat)(u v w:g9)(n:Nat):Obj:=⟨.type "code",none,.fields #[.str (tQ i) t,.str (tQ i) (t+1),.str "/claim/cut.py" (t+2),.int l 0,.int a 0,.int 0 0,.int 0 0,.int 3 0,.ref r,.bool true,.int 181 0,.ref (r+1),.none,u,v,w,.int n 0,.int l 0,.str "/claim/cut.py" (n+1)],#[]⟩
def zI(P:LW):List CL:=[G9 P "__name__" 165 (.str "law_staymark_k20_marks" 434),G9 P "__doc__" 166 .none,G9 P "__package__" 167 .none,G9 P "__loader__" 168 (.builtin "__main__.__loader__#opaque"),G9 P "__spec__" 169 .none,G9 P "__annotations__" 170 (.ref 6),G9 P "__builtins__" 171 (.ref 4),G9 P "__file__" 173 (.str "/claim/cut.py" 172),G9 P "__cached__" 174 .none,G9 P "SIDES" 190 (.str "lr" 189),G9 P "signs_added" 197 (.ref 21)]
def zH(P:LW):List CL:=[G9 P "MarkError" 217 (.ref 31),G9 P "NoSign" 233 (.ref 44),G9 P "NoPlace" 249 (.ref 56),G9 P "NoName" 265 (.ref 68),G9 P "adds_behind" 276 (.ref 77),G9 P "signs_of" 282 (.ref 82),G9 P "undone_in" 291 (.ref 89),G9 P "dropped_in" 302 (.ref 96),G9 P "presence_in" 313 (.ref 103),G9 P "shown_in" 319 (.ref 108),G9 P "text_of" 325 (.ref 113)]
def zG(P:LW):List CL:=[G9 P "places_in" 338 (.ref 120),G9 P "anchored" 346 (.ref 127),G9 P "place_of" 355 (.ref 134),G9 P "anchor_at" 366 (.ref 141),G9 P "mark_deeds" 372 (.ref 146),G9 P "marks_of" 383 (.ref 153),G9 P "mark_named" 392 (.ref 160),G9 P "marked" 401 (.ref 167),G9 P "names_holding" 407 (.ref 172),G9 P "names_at" 415 (.ref 179),G9 P "drawn_at" 421 (.ref 184)]
def zF(P:LW):List CL:=[G9 P "drawn" 427 (.ref 189),G9 P "hand_marks" 433 (.ref 194),G9 P "_law_cell" 443 (.ref 201),G9 P "_law_drawn" 453 (.ref 208),G9 P "_law_names" 464 (.ref 215),G9 P "_law_words" 470 (.ref 220),G9 P "_law_signs" 476 (.ref 225),G9 P "_law_anchor" 486 (.ref 232),G9 P "_law_deed" 492 (.ref 237),G9 P "_law_book" 498 (.ref 242),G9 P "_law_order" 504 (.ref 247)]
def zE(P:LW):List CL:=[G9 P "_law_effects" 510 (.ref 252),G9 P "_law_there" 516 (.ref 257),G9 P "_law_text" 522 (.ref 262),G9 P "_law_place" 528 (.ref 267),G9 P "_law_last" 538 (.ref 274),G9 P "_law_marks" 551 (.ref 281),G9 P "_law_refused" 559 (.ref 288),G9 P "_law_told" 570 (.ref 295),G9 P "_law_drawn_text" 583 (.ref 302),G9 P "_law_hands" 589 (.ref 307),G9 P "law" 595 (.ref 312)]
def ownK(P:LW):i5:=
 (nat_lit 3,⟨.type "dict",none,.dict (zI P++zH P++zG P++zF P++zE P).toArray 55,#[]⟩) ::
 (nat_lit 20,Q6 2 191 3 1 15 (.ref 17) (.ref 18) (.ref 19) 195) ::
 (nat_lit 21,Q5 2 (.str "staymark.deeds" 187) 20) ::
 (nat_lit 30,⟨.type "dict",none,.dict #[G9 P "__module__" 207 (.str "staymark.errors" 198),G9 P "__firstlineno__" 211 (.int 6 210),G9 P "__static_attributes__" 212 (.ref 29),G9 P "__weakref__" 214 (.ref 32),G9 P "__doc__" 215 .none] 3,#[]⟩) ::
 (nat_lit 31,⟨.type "type",none,.cls {name:="MarkError",qualname:="MarkError",bases:=[.type "ValueError"],mro:=[.ref 31,.type "ValueError",.type "Exception",.type "BaseException",.type "object"],ns:=30,hasDict:=true,subclasses:=[.ref 44,.ref 56,.ref 68],abstract:=false,hasDel:=false},#[some (.ref 22),none,some (.str "MarkError" 200),some (.str "MarkError" 208),some (.builtin "ValueError.__new__"),some (.bool true)]⟩) ::
 (nat_lit 43,⟨.type "dict",none,.dict #[G9 P "__module__" 225 (.str "staymark.errors" 198),G9 P "__firstlineno__" 229 (.int 8 228),G9 P "__static_attributes__" 230 (.ref 42),G9 P "__doc__" 231 .none] 2,#[]⟩) ::
 (nat_lit 44,⟨.type "type",none,.cls {name:="NoSign",qualname:="NoSign",bases:=[.ref 31],mro:=[.ref 44,.ref 31,.type "ValueError",.type "Exception",.type "BaseException",.type "object"],ns:=43,hasDict:=true,subclasses:=[],abstract:=false,hasDel:=false},#[some (.ref 35),none,some (.str "NoSign" 218),some (.str "NoSign" 226),some (.builtin "ValueError.__new__"),some (.bool true)]⟩) ::
 (nat_lit 55,⟨.type "dict",none,.dict #[G9 P "__module__" 241 (.str "staymark.errors" 198),G9 P "__firstlineno__" 245 (.int 10 244),G9 P "__static_attributes__" 246 (.ref 54),G9 P "__doc__" 247 .none] 2,#[]⟩) ::
 (nat_lit 56,⟨.type "type",none,.cls {name:="NoPlace",qualname:="NoPlace",bases:=[.ref 31],mro:=[.ref 56,.ref 31,.type "ValueError",.type "Exception",.type "BaseException",.type "object"],ns:=55,hasDict:=true,subclasses:=[],abstract:=false,hasDel:=false},#[some (.ref 47),none,some (.str "NoPlace" 234),some (.str "NoPlace" 242),some (.builtin "ValueError.__new__"),some (.bool true)]⟩) ::
 (nat_lit 67,⟨.type "dict",none,.dict #[G9 P "__module__" 257 (.str "staymark.errors" 198),G9 P "__firstlineno__" 261 (.int 12 260),G9 P "__static_attributes__" 262 (.ref 66),G9 P "__doc__" 263 .none] 2,#[]⟩) ::
 (nat_lit 68,⟨.type "type",none,.cls {name:="NoName",qualname:="NoName",bases:=[.ref 31],mro:=[.ref 68,.ref 31,.type "ValueError",.type "Exception",.type "BaseException",.type "object"],ns:=67,hasDict:=true,subclasses:=[],abstract:=false,hasDel:=false},#[some (.ref 59),none,some (.str "NoName" 250),some (.str "NoName" 258),some (.builtin "ValueError.__new__"),some (.bool true)]⟩) ::
 (nat_lit 76,Q6 9 268 15 1 71 (.ref 73) (.ref 74) (.ref 75) 274) ::
 (nat_lit 77,Q5 9 (.str "staymark.orders" 266) 76) ::
 (nat_lit 81,Q6 10 277 21 1 78 .none .none (.ref 80) 280) ::
 (nat_lit 82,Q5 10 (.str "staymark.orders" 266) 81) ::
 (nat_lit 88,Q6 11 283 35 1 83 (.ref 85) (.ref 86) (.ref 87) 289) ::
 (nat_lit 89,Q5 11 (.str "staymark.orders" 266) 88) ::
 (nat_lit 95,Q6 12 292 41 2 90 (.ref 92) (.ref 93) (.ref 94) 300) ::
 (nat_lit 96,Q5 12 (.str "staymark.orders" 266) 95) ::
 (nat_lit 102,Q6 13 303 48 1 97 (.ref 99) (.ref 100) (.ref 101) 311) ::
 (nat_lit 103,Q5 13 (.str "staymark.orders" 266) 102) ::
 (nat_lit 107,Q6 14 314 55 1 104 .none .none (.ref 106) 317) ::
 (nat_lit 108,Q5 14 (.str "staymark.orders" 266) 107) ::
 (nat_lit 112,Q6 15 320 57 1 109 .none .none (.ref 111) 323) ::
 (nat_lit 113,Q5 15 (.str "staymark.orders" 266) 112) ::
 (nat_lit 119,Q6 17 328 60 1 114 (.ref 116) (.ref 117) (.ref 118) 336) ::
 (nat_lit 120,Q5 17 (.str "staymark.marks" 326) 119) ::
 (nat_lit 126,Q6 18 339 70 2 121 (.ref 123) (.ref 124) (.ref 125) 344) ::
 (nat_lit 127,Q5 18 (.str "staymark.marks" 326) 126) ::
 (nat_lit 133,Q6 19 347 72 2 128 (.ref 130) (.ref 131) (.ref 132) 353) ::
 (nat_lit 134,Q5 19 (.str "staymark.marks" 326) 133) ::
 (nat_lit 140,Q6 20 356 77 3 135 (.ref 137) (.ref 138) (.ref 139) 364) ::
 (nat_lit 141,Q5 20 (.str "staymark.marks" 326) 140) ::
 (nat_lit 145,Q6 21 367 85 1 142 .none .none (.ref 144) 370) ::
 (nat_lit 146,Q5 21 (.str "staymark.marks" 326) 145) ::
 (nat_lit 152,Q6 22 373 92 1 147 (.ref 149) (.ref 150) (.ref 151) 381) ::
 (nat_lit 153,Q5 22 (.str "staymark.marks" 326) 152) ::
 (nat_lit 159,Q6 23 384 99 2 154 (.ref 156) (.ref 157) (.ref 158) 390) ::
 (nat_lit 160,Q5 23 (.str "staymark.marks" 326) 159) ::
 (nat_lit 166,Q6 24 393 104 2 161 (.ref 163) (.ref 164) (.ref 165) 399) ::
 (nat_lit 167,Q5 24 (.str "staymark.marks" 326) 166) ::
 (nat_lit 171,Q6 25 402 107 3 168 .none .none (.ref 170) 405) ::
 (nat_lit 172,Q5 25 (.str "staymark.marks" 326) 171) ::
 (nat_lit 178,Q6 26 408 109 2 173 (.ref 175) (.ref 176) (.ref 177) 413) ::
 (nat_lit 179,Q5 26 (.str "staymark.marks" 326) 178) ::
 (nat_lit 183,Q6 27 416 113 2 180 .none .none (.ref 182) 419) ::
 (nat_lit 184,Q5 27 (.str "staymark.marks" 326) 183) ::
 (nat_lit 188,Q6 28 422 118 1 185 .none .none (.ref 187) 425) ::
 (nat_lit 189,Q5 28 (.str "staymark.marks" 326) 188) ::
 (nat_lit 193,Q6 29 428 122 1 190 .none .none (.ref 192) 431) ::
 (nat_lit 194,Q5 29 (.str "staymark.marks" 326) 193) ::
 (nat_lit 200,Q6 31 436 128 2 195 (.ref 197) (.ref 198) (.ref 199) 441) ::
 (nat_lit 201,Q5 31 (.str "law_staymark_k20_marks" 434) 200) ::
 (nat_lit 207,Q6 32 444 132 3 202 (.ref 204) (.ref 205) (.ref 206) 451) ::
 (nat_lit 208,Q5 32 (.str "law_staymark_k20_marks" 434) 207) ::
 (nat_lit 214,Q6 33 454 136 2 209 (.ref 211) (.ref 212) (.ref 213) 462) ::
 (nat_lit 215,Q5 33 (.str "law_staymark_k20_marks" 434) 214) ::
 (nat_lit 219,Q6 34 465 142 2 216 .none .none (.ref 218) 468) ::
 (nat_lit 220,Q5 34 (.str "law_staymark_k20_marks" 434) 219) ::
 (nat_lit 224,Q6 35 471 144 1 221 .none .none (.ref 223) 474) ::
 (nat_lit 225,Q5 35 (.str "law_staymark_k20_marks" 434) 224) ::
 (nat_lit 231,Q6 36 477 150 3 226 (.ref 228) (.ref 229) (.ref 230) 484) ::
 (nat_lit 232,Q5 36 (.str "law_staymark_k20_marks" 434) 231) ::
 (nat_lit 236,Q6 37 487 153 5 233 .none .none (.ref 235) 490) ::
 (nat_lit 237,Q5 37 (.str "law_staymark_k20_marks" 434) 236) ::
 (nat_lit 241,Q6 38 493 168 4 238 .none .none (.ref 240) 496) ::
 (nat_lit 242,Q5 38 (.str "law_staymark_k20_marks" 434) 241) ::
 (nat_lit 246,Q6 39 499 180 1 243 .none .none (.ref 245) 502) ::
 (nat_lit 247,Q5 39 (.str "law_staymark_k20_marks" 434) 246) ::
 (nat_lit 251,Q6 40 505 187 1 248 .none .none (.ref 250) 508) ::
 (nat_lit 252,Q5 40 (.str "law_staymark_k20_marks" 434) 251) ::
 (nat_lit 256,Q6 41 511 193 1 253 .none .none (.ref 255) 514) ::
 (nat_lit 257,Q5 41 (.str "law_staymark_k20_marks" 434) 256) ::
 (nat_lit 261,Q6 42 517 200 2 258 .none .none (.ref 260) 520) ::
 (nat_lit 262,Q5 42 (.str "law_staymark_k20_marks" 434) 261) ::
 (nat_lit 266,Q6 43 523 203 3 263 .none .none (.ref 265) 526) ::
 (nat_lit 267,Q5 43 (.str "law_staymark_k20_marks" 434) 266) ::
 (nat_lit 273,Q6 44 529 208 1 268 (.ref 270) (.ref 271) (.ref 272) 536) ::
 (nat_lit 274,Q5 44 (.str "law_staymark_k20_marks" 434) 273) ::
 (nat_lit 280,Q6 45 539 215 1 275 (.ref 277) (.ref 278) (.ref 279) 549) ::
 (nat_lit 281,Q5 45 (.str "law_staymark_k20_marks" 434) 280) ::
 (nat_lit 287,Q6 46 552 225 1 282 (.ref 284) (.ref 285) (.ref 286) 557) ::
 (nat_lit 288,Q5 46 (.str "law_staymark_k20_marks" 434) 287) ::
 (nat_lit 294,Q6 47 560 230 4 289 (.ref 291) (.ref 292) (.ref 293) 568) ::
 (nat_lit 295,Q5 47 (.str "law_staymark_k20_marks" 434) 294) ::
 (nat_lit 301,Q6 48 571 239 2 296 (.ref 298) (.ref 299) (.ref 300) 581) ::
 (nat_lit 302,Q5 48 (.str "law_staymark_k20_marks" 434) 301) ::
 (nat_lit 306,Q6 49 584 250 1 303 .none .none (.ref 305) 587) ::
 (nat_lit 307,Q5 49 (.str "law_staymark_k20_marks" 434) 306) ::
 (nat_lit 311,Q6 50 590 258 1 308 .none .none (.ref 310) 593) ::
 (nat_lit 312,Q5 50 (.str "law_staymark_k20_marks" 434) 311)::[]
def owV:o9:={EQ with main:={EQ.main with body:=[top 50]}}
noncomputable def owN:List Str:=(["__name__","SIDES","signs_added","MarkError","NoSign","NoPlace","NoName","adds_behind","signs_of","undone_in","dropped_in","presence_in"]:List Str)++(["shown_in","text_of","places_in","anchored","place_of","anchor_at","mark_deeds","marks_of","mark_named","marked","names_holding","names_at"]:List Str)++(["drawn_at","drawn","hand_marks","_law_cell","_law_drawn","_law_names","_law_words","_law_signs","_law_anchor","_law_deed","_law_book","_law_order"]:List Str)++(["_law_effects","_law_there","_law_text","_law_place","_law_last","_law_marks","_law_refused","_law_told","_law_drawn_text","_law_hands"]:List Str)
set_option maxHeartbeats 0 in
def owL:PySem.W.LeftO EQ owV owN (λs=>PySem.W.xlAt owV [] s&&PySem.W.recOk (PySem.W.RowW.records (PySem.W.OpenRow.toRowW (PySem.W.OpenLaw.row PySem.Challenge.rw_staymark_k20_marks))) s) (PySem.W.Hook.obs (PySem.W.kHook ownK [3,20,21,30,31,43,44,55,56,67,68,76,77,81,82,88,89,95,96,102,103,107,108,112,113,119,120,126,127,133,134,140,141,145,146,152,153,159,160,166,167,171,172,178,179,183,184,188,189,193,194,200,201,207,208,214,215,219,220,224,225,231,232,236,237,241,242,246,247,251,252,256,257,261,262,266,267,273,274,280,281,287,288,294,295,301,302,306,307,311,312] (λ_=>by kernel_rfl))) (PySem.W.Hook.val (PySem.W.kHook ownK [3,20,21,30,31,43,44,55,56,67,68,76,77,81,82,88,89,95,96,102,103,107,108,112,113,119,120,126,127,133,134,140,141,145,146,152,153,159,160,166,167,171,172,178,179,183,184,188,189,193,194,200,201,207,208,214,215,219,220,224,225,231,232,236,237,241,242,246,247,251,252,256,257,261,262,266,267,273,274,280,281,287,288,294,295,301,302,306,307,311,312] (λ_=>by kernel_rfl))) 9000:=by
 intro w
 kernel_rfl
end Sm
namespace L2
open PySem PySem.Spec PyProof.Rows
noncomputable abbrev Key:=Sum Int Str
def xC:Key->g9->Bool
 |.inl k,v=>Value.isInt k v
 |.inr x,v=>Value.isStrOf x v
def keyH(w:x8):Key->Int
 |.inl k=>hashInt k
 |.inr x=>hashStr w x
def P4:∀{k:Key} {v:g9},xC k v=true->(∃i t,k=MU i/\v=OC i t)\/(∃x t,k=MT x/\v=MS x t)
 |.inl i,v,h=>by
  obtain⟨t,e⟩:=Value.isInt_shape (k:=i) (v:=v) h;exact .inl ⟨i,t,rfl,e⟩
 |.inr x,v,h=>by
  obtain⟨t,e⟩:=Value.isStrOf_shape (x:=x) (v:=v) h;exact .inr ⟨x,t,rfl,e⟩
def AC(a b:Int):decide ((MU a:Key)=MU b)=(a==b):=by
 by_cases e:a=b
 .subst e;simp
 .have h:¬(MU a:Key)=MU b:=λq=>e (Sum.inl.inj q)
  rw[decide_eq_false h];exact(beq_eq_false_iff_ne.mpr e).symm
def zZ(a b:Str):decide ((MT a:Key)=MT b)=decide (a=b):=by
 by_cases e:a=b
 .subst e;simp
 .have h:¬(MT a:Key)=MT b:=λq=>e (Sum.inr.inj q)
  rw[decide_eq_false h,decide_eq_false e]
def AB(a:Int)(b:Str):decide ((MU a:Key)=MT b)=false:=decide_eq_false (λq=>nomatch q)
def AA(a:Str)(b:Int):decide ((MT a:Key)=MU b)=false:=decide_eq_false (λq=>nomatch q)
def Zk(prog:o9)(w:x8):PySem.KeyKind prog w Key where
 is:=xC
 hash:=keyH w
 inj:=λv a b ha hb=>by
  rcases P4 ha with⟨i,t,rfl,rfl⟩ |⟨x,t,rfl,rfl⟩
  .rcases P4 hb with⟨j,u,rfl,e⟩ |⟨y,u,rfl,e⟩
   .injection e with e1 _;rw[e1]
   .exact nomatch e
  .rcases P4 hb with⟨j,u,rfl,e⟩ |⟨y,u,rfl,e⟩
   .exact nomatch e
   .injection e with e1 _;rw[e1]
 byValue:=λk v h=>by
  rcases P4 h with⟨i,t,rfl,rfl⟩ |⟨x,t,rfl,rfl⟩ <;> rfl
 pyHash:=λhv h=>by
  rcases P4 hv with⟨i,t,rfl,rfl⟩ |⟨x,t,rfl,rfl⟩
  .exact wpAny_pyHash_int h
  .exact wpAny_pyHash_str h
 eqBool:=λhu hv h=>by
  rcases P4 hu with⟨i,t,rfl,rfl⟩ |⟨x,t,rfl,rfl⟩
  .rcases P4 hv with⟨j,u,rfl,rfl⟩ |⟨y,u,rfl,rfl⟩
   .rw[AC]at h;exact wpAny_eqBool_int h
   .rw[AB]at h;exact SeqAt.EqAt.int_str i t y u _ _ _ _ h
  .rcases P4 hv with⟨j,u,rfl,rfl⟩ |⟨y,u,rfl,rfl⟩
   .rw[AA]at h;exact SeqAt.EqAt.str_int x t j u _ _ _ _ h
   .rw[zZ]at h;exact wpAny_eqBool_str h
 «strs»:=λk x t v h=>by
  rcases P4 h with⟨i,u,rfl,e⟩ |⟨y,u,rfl,e⟩
  .exact nomatch e
  .injection e with e1 _
   subst e1;cases v <;> rfl
inductive V where
 |non |bl (b:Bool) |int (i:Int) |str (x:Str) |byt (b:Array UInt8) |flt (b:UInt64) |ref (a:i9) |ty (n:String)
 deriving DecidableEq
noncomputable def RelV:V->g9->Prop
 |.non,u=>u=EU
 |.bl b,u=>u=EF b
 |.int i,u=>∃t,u=OC i t
 |.str x,u=>∃t,u=MS x t
 |.byt b,u=>∃t,u=Value.bytes b t
 |.flt b,u=>∃t,u=Value.float b t
 |.ref a,u=>u=CU a
 |.ty n,u=>u=IU n
abbrev Vals:List V->List g9->Prop:=DJ RelV
theorem Vals.length{xs:List V}{us:List g9}(r:Vals xs us):xs.length=us.length:=Paired.length r
theorem Vals.get:∀{xs:List V} {us:List g9} {i:Nat} {x:V},Vals xs us->xs[i]?=some x->∃u,us[i]?=some u/\RelV x u
 |_,_,_,_,.nil,e=>by simp at e
 |_,_,0,_,.cons r _,e=>by simp at e;subst e;exact⟨_,rfl,r⟩
 |_,_,i+1,x,.cons _ t,e=>by
  obtain⟨u,h1,h2⟩:=Vals.get (i:=i) (x:=x) t (by simpa using e);exact⟨u,by simpa using h1,h2⟩
theorem Vals.append:∀{xs ys:List V} {us ws:List g9},Vals xs us->Vals ys ws->Vals (xs++ys) (us++ws)
 |_,_,_,_,.nil,s=>s
 |_,_,_,_,.cons r t,s=>.cons r (Vals.append t s)
theorem Vals.take:∀{xs:List V} {us:List g9} (n:Nat),Vals xs us->Vals (xs.take n) (us.take n)
 |_,_,0,_=>.nil
 |_,_,_+1,.nil=>.nil
 |_,_,n+1,.cons r t=>.cons r (Vals.take n t)
theorem Vals.drop:∀{xs:List V} {us:List g9} (n:Nat),Vals xs us->Vals (xs.drop n) (us.drop n)
 |_,_,0,r=>r
 |_,_,_+1,.nil=>.nil
 |_,_,n+1,.cons _ t=>Vals.drop n t
def RelO:Option V->Option g9->Prop
 |some v,some u=>RelV v u
 |none,none=>True
 |_,_=>False
def KV{κ:Type}:List (κ×V)->List (κ×g9)->Prop:=DJ λ(p:κ×V) (q:κ×g9)=>p.1=q.1/\RelV p.2 q.2
def kV:Key->V
 |.inl i=>.int i
 |.inr x=>.str x
inductive HO where
 |lst (xs:List V)
 |tup (xs:List V)
 |dK (kvs:List (Key×V)) |dT (kvs:List (List Key×V))
 |dN (kvs:List (f8×V))
 |set (S:Int->Bool) (n:Nat)
 |ins (C dx:i9) (fs:List (Str×V))
 |own (x:i9)
 |xd (fs:List (Str×V))
 |met (f x:i9)
 |rng (lo hi:Int)
 |frz (o:Obj) (u:HO)
 |tbl (ps:Array g9)
 |ext (φ:BL->Prop)
noncomputable abbrev Hp:=i9->Option HO
def upd(H:Hp)(a:i9)(o:HO):Hp:=λb=>if b=a then some o else H b
def C8{H:Hp}{a:i9}{o:HO}:upd H a o a=some o:=by unfold upd;rw[iq rfl]
def B7{H:Hp}{a b:i9}{o:HO}(h:b≠a):upd H a o b=H b:=by unfold upd;rw[ir h]
def Ye{H:Hp}{a:i9}{o u:HO}:upd (upd H a o) a u=upd H a u:=by
 funext b;unfold upd;split <;> rfl
def Ly{H:Hp}{a b:i9}{o u:HO}(h:H a=some o)(h':H b=some u)(d:o≠u):a≠b:=by
 intro e;subst e;rw[h]at h';exact d (BS h')
def D9{H:Hp}{a b:i9}{o:HO}(h:H a=some o)(h':H b=none):a≠b:=by
 intro e;subst e;rw[h]at h';cases h'
mutual
noncomputable def isK:f8->Bool
 |.int _=>true
 |.str _=>true
 |.tuple xs=>Kt xs
 |.none |.bool _ |.list _ |.dict _=>false
noncomputable def Kt:List f8->Bool
 |[]=>true
 |x::r=>isK x&&Kt r
end
mutual
noncomputable def cP(w:x8):f8->Int
 |.int i=>hashInt i
 |.str x=>hashStr w x
 |.tuple xs=>reduceHash (MK (Jh w xs))
 |.none |.bool _ |.list _ |.dict _=>0
noncomputable def Jh(w:x8):List f8->List Int
 |[]=>[]
 |x::r=>cP w x::Jh w r
end
def Y1(w:x8):f8->Int
 |.none=>0xFCA86420
 |d=>cP w d
def nkD(d:f8):Bool:=match d with
 |.none=>true
 |.str _=>true
 |.tuple xs=>Kt xs&&decide ((EX xs).depth<=8)
 |_=>false
mutual
noncomputable def KRep(H:Hp):f8->V->Prop
 |.none,v=>v=.non
 |.int i,v=>v=.int i
 |.str x,v=>v=.str x/\z0 x=true/\x.length<=sizeLine
 |.tuple ds,v=>∃b xs,v=.ref b/\H b=some (.tup xs)/\KRepL H ds xs
 |.bool _,_=>False
 |.list _,_=>False
 |.dict _,_=>False
noncomputable def KRepL(H:Hp):List f8->List V->Prop
 |[],xs=>xs=[]
 |d::ds,xs=>∃x r,xs=x::r/\KRep H d x/\KRepL H ds r
end
mutual
theorem KRep.mono{H H':Hp}(ht:∀b xs,H b=some (.tup xs)->H' b=some (.tup xs)):∀{d:f8} {v:V},KRep H d v->KRep H' d v
 |.none,_,r=>r
 |.int _,_,r=>r
 |.str _,_,r=>r
 |.tuple _,_,r=>by obtain⟨b,xs,e,q,l⟩:=r;exact⟨b,xs,e,ht _ _ q,KRepL.mono ht l⟩
 |.bool _,_,r=>r.elim
 |.list _,_,r=>r.elim
 |.dict _,_,r=>r.elim
theorem KRepL.mono{H H':Hp}(ht:∀b xs,H b=some (.tup xs)->H' b=some (.tup xs)):∀{ds:List f8} {xs:List V},KRepL H ds xs->KRepL H' ds xs
 |[],_,r=>r
 |_::_,_,r=>by obtain⟨x,t,e,q,l⟩:=r;exact⟨x,t,e,KRep.mono ht q,KRepL.mono ht l⟩
end
def V2(w:x8)(kvs:List (f8×V))(xs:List (g9×g9)):List CL:=List.zipWith (λp q=>⟨Y1 w p.1,q.1,q.2⟩) kvs xs
section
variable (P:o9)(w:x8)
noncomputable def ObjOk(H:Hp)(h:BL)(a:i9):HO->Prop
 |.lst xs=>xs.length<=sizeLine/\∃(its:List g9) (n:Nat),Vals xs its/\h.get? a=some {cls:=.type "list",data:=.seq its.toArray n}
 |.tup xs=>xs.length<=sizeLine/\∃its:List g9,Vals xs its/\LP h a its.toArray
 |.dK kvs=>kvs.length<=sizeLine/\(a==FX)=false/\∃vs,KV kvs vs/\h.DictOf (Zk P w) a vs
 | .dT kvs => kvs.length <= sizeLine /\ (a == FX) = false /\ ∃ xs : List (List Key×i9×g9),
  DJ (λ(p:List Key×V) (q:List Key×i9×g9)=>p.1=q.1/\H q.2.1=some (.tup (p.1.map kV))/\RelV p.2 q.2.2) kvs xs /\
  ∃o es ep,h.get? a=some o/\o.ExactDict/\o.data=.dict es ep/\es.toList=xs.map (entryOfKey (tupleKind (Zk P w)))/\(xs.map (·.1)).Nodup
 | .dN kvs => kvs.length <= sizeLine /\ (a == FX) = false /\ (kvs.map (·.1)).Nodup /\ (∀ p∈kvs,nkD p.1 = true) /\ ∃ xs : List (g9×g9),
  DJ (λ(p:f8×V) (q:g9×g9)=>(∃v,KRep H p.1 v/\RelV v q.1)/\RelV p.2 q.2) kvs xs/\∃ep,h.get? a=some {cls:=.type "dict",data:=.dict (V2 w kvs xs).toArray ep}
 |.set S n=>h.SetOf (intKind P w) a S n
 | .ins C dx fs => H dx = some (.own a) /\ fs.length <= 1000 /\ dx≠a /\ h.get? a = some (PySem.W.instObj C dx) /\
  ∃mA,h.Ns1 dx mA/\(∀f,RelO (fs.lookup f) (mA f))/\PySem.Within mA (fs.map (·.1))
 |.own _=>∃o,h.get? a=some o
 |.xd fs=>∃mA,h.Ns1 a mA/\∀f,RelO (fs.lookup f) (mA f)
 |.rng lo hi=>∃t u v,h.get? a=some {cls:=.type "range",data:=.fields #[.int lo t,.int hi u,.int 1 v]}
 |.frz o u=>h.get? a=some o/\ObjOk H h a u
 |.tbl ps=>h.get? a=some {cls:=.none,data:=.fields ps}
 |.met f x=>h.get? a=some (MC (.ref f) (.ref x))
 |.ext φ=>φ h/\(∃o,h.get? a=some o)/\∀h1 h2:BL,φ h1->(∀o,h1.get? a=some o->h2.get? a=some o)->φ h2
def HOk(H:Hp)(h:BL):Prop:=∀a o,H a=some o->ObjOk P w H h a o
end
section
variable {P:o9}{w:x8}{H H':Hp}{h h':BL}{a:i9}{o:HO}
theorem ObjOk.lt(x:ObjOk P w H h a o):a<h.objs.size:=by
 cases o with
 |lst xs=>obtain⟨_,_,_,_,e⟩:=x;exact q9 e
 |tup xs=>obtain⟨_,_,_,p⟩:=x;exact p.lt
 |dK kvs=>obtain⟨_,_,_,_,o,_,_,e,_⟩:=x;exact q9 e
 |dT kvs=>obtain⟨_,_,_,_,o,_,_,e,_⟩:=x;exact q9 e
 |dN kvs=>obtain⟨_,_,_,_,_,_,_,e⟩:=x;exact q9 e
 |set S n=>obtain⟨o,_,_,_,e,_⟩:=x;exact q9 e
 |ins C dx fs=>obtain⟨_,_,_,e,_⟩:=x;exact q9 e
 |own y=>obtain⟨_,e⟩:=x;exact q9 e
 |xd fs=>obtain⟨_,⟨_,_,_,e,_⟩,_⟩:=x;exact q9 e
 |rng lo hi=>obtain⟨_,_,_,e⟩:=x;exact q9 e
 |frz ob u=>obtain⟨e,_⟩:=x;exact q9 e
 |tbl ps=>exact q9 (show h.get? a=some _ from x)
 |met f y=>exact q9 (show h.get? a=some _ from x)
 |ext φ=>obtain⟨_,⟨_,e⟩,_⟩:=x;exact q9 e
theorem Paired.mapP{α β:Type}{F G:α->β->Prop}:∀{l₁:List α} {l₂:List β},DJ F l₁ l₂->(∀a b,F a b->G a b)->DJ G l₁ l₂
 |_,_,.nil,_=>.nil
 |_,_,.cons r t,f=>.cons (f _ _ r) (Paired.mapP t f)
def ObjOk.stay(x:ObjOk P w H h a o)(k:∀b u,(b=a\/H b=some (.own a))->h.get? b=some u->h'.get? b=some u)
 (ho:∀b,H b=some (.own a)->H' b=some (.own a)) (ht:∀b xs,H b=some (.tup xs)->H' b=some (.tup xs)):ObjOk P w H' h' a o:=by
 induction o with
 |lst xs=>obtain⟨z,its,n,r,e⟩:=x;exact⟨z,its,n,r,k _ _ (.inl rfl) e⟩
 |tup xs=>obtain⟨z,its,r,ob,e,c⟩:=x;exact⟨z,its,r,ob,k _ _ (.inl rfl) e,c⟩
 |dK kvs=>obtain⟨z,y,vs,r,ob,es,ep,e,c⟩:=x;exact⟨z,y,vs,r,ob,es,ep,k _ _ (.inl rfl) e,c⟩
 |dT kvs=>
  obtain⟨z,y,xs,r,ob,es,ep,e,c⟩:=x;exact⟨z,y,xs,Paired.mapP r λp q z=>⟨z.1,ht _ _ z.2.1,z.2.2⟩,ob,es,ep,k _ _ (.inl rfl) e,c⟩
 |dN kvs=>
  obtain⟨z,y,nd,nk,xs,r,ep,e⟩:=x;exact⟨z,y,nd,nk,xs,Paired.mapP r λp q hZ2=>by obtain⟨⟨v,z1,z2⟩,z3⟩:=hZ2;exact⟨⟨v,z1.mono ht,z2⟩,z3⟩,ep,k _ _ (.inl rfl) e⟩
 |set S n=>obtain⟨ob,es,ep,t,e,c⟩:=x;exact⟨ob,es,ep,t,k _ _ (.inl rfl) e,c⟩
 |ins C dx fs=>
  obtain⟨d,z,ne,e,mA,⟨od,es,ep,e2,c⟩,r⟩:=x;exact⟨ho _ d,z,ne,k _ _ (.inl rfl) e,mA,⟨od,es,ep,k _ _ (.inr d) e2,c⟩,r⟩
 |own y=>obtain⟨ob,e⟩:=x;exact⟨ob,k _ _ (.inl rfl) e⟩
 |xd fs=>obtain⟨mA,⟨od,es,ep,e,c⟩,r⟩:=x;exact⟨mA,⟨od,es,ep,k _ _ (.inl rfl) e,c⟩,r⟩
 |rng lo hi=>obtain⟨t,u,v,e⟩:=x;exact⟨t,u,v,k _ _ (.inl rfl) e⟩
 |frz ob u ih=>obtain⟨e,q⟩:=x;exact⟨k _ _ (.inl rfl) e,ih q⟩
 |tbl ps=>
  have e:h.get? a=some {cls:=.none,data:=.fields ps}:=x;show h'.get? a=some {cls:=.none,data:=.fields ps};exact k a _ (.inl rfl) e
 |met f y=>
  have e:h.get? a=some (MC (.ref f) (.ref y)):=x;show h'.get? a=some (MC (.ref f) (.ref y));exact k a _ (.inl rfl) e
 |ext φ=>obtain⟨p,⟨o,e⟩,st⟩:=x;exact⟨st _ _ p λo q=>k _ _ (.inl rfl) q,⟨o,k _ _ (.inl rfl) e⟩,st⟩
theorem HOk.lt(x:HOk P w H h)(e:H a=some o):a<h.objs.size:=(x a o e).lt
def HOk.fresh(x:HOk P w H h)(e:h.objs.size<=a):H a=none:=by
 cases q:H a with
 |none=>rfl
 |some u=>exact absurd (y9 (x.lt q) e) (HD _)
def HOk.kept(x:HOk P w H h)(k:∀b u,h.get? b=some u->h'.get? b=some u):HOk P w H h':=λa o e=>
 (x a o e).stay (λb u _ q=>k b u q) (λ_ q=>q) λ_ _ q=>q
def HOk.laid(x:HOk P w H h)(k:∀b u,h.get? b=some u->h'.get? b=some u)(hp:h.objs.size<=a)(new:ObjOk P w (upd H a o) h' a o):HOk P w (upd H a o) h':=λb u e=>by
 have hn:=x.fresh hp;by_cases hb:b=a
 .subst hb;rw[C8]at e;cases e;exact new
 .rw[B7 hb]at e
  exact(x b u e).stay (λc v _ q=>k c v q) (λc q=>by rw[B7 (D9 q hn)];exact q) λc xs q=>by rw[B7 (D9 q hn)];exact q
end
def Rd(H:Hp)(a:i9)(u:HO):Prop:=H a=some u\/∃o,H a=some (.frz o u)
def Rd.ok{P:o9}{w:x8}{H:Hp}{h:BL}{a:i9}{u:HO}(r:Rd H a u)(x:HOk P w H h):ObjOk P w H h a u:=by
 rcases r with r |⟨o,r⟩
 .exact x a u r
 .obtain⟨_,q⟩:=x a _ r
  exact q
noncomputable def Mut:Option HO->Prop
 |some (.lst _)=>True
 |some (.dK _)=>True
 |some (.dT _)=>True
 |some (.dN _)=>True
 |some (.set _ _)=>True
 |some (.ins _ _ _)=>True
 |some (.ext _)=>True
 |_=>False
section
variable {P:o9}{w:x8}{H:Hp}{h h':BL}{x e:i9}{o':HO}
def HOk.write(ok:HOk P w H h)(mu:Mut (H x))(he:e=x\/H e=some (.own x))(k:∀b u,b≠e->h.get? b=some u->h'.get? b=some u)(heo:∃u,h'.get? e=some u)
 (new:ObjOk P w (upd H x o') h' x o'):HOk P w (upd H x o') h':=λb u q=>by
 have nown:∀c y,H c=some (.own y)->c≠x:=λc y r z=>by subst z;rw[r]at mu;exact mu
 have ntup:∀c xs,H c=some (.tup xs)->c≠x:=λc xs r z=>by subst z;rw[r]at mu;exact mu
 by_cases hb:b=x
 .subst hb;rw[C8]at q;cases q;exact new
 .rw[B7 hb]at q
  by_cases hbe:b=e
  .have q' : H b = some (.own x):= by
    rcases he with z |z
    .exact absurd (hbe.trans z) hb
    .rw[hbe];exact z
   rw[q]at q';cases q';obtain⟨v,hv⟩:=heo;exact⟨v,by rw[hbe];exact hv⟩
  .refine(ok b u q).stay (λc v hc r=>k c v ?_ r) (λc r=>by rw[B7 (nown c b r)];exact r) λc xs r=>by rw[B7 (ntup c xs r)];exact r
   rcases hc with rfl |hc
   .exact hbe
   .rintro rfl
    rcases he with z |z
    .exact nown c b hc z
    .rw[hc]at z;cases z;exact hb rfl
end
structure Un(fs ex:List i9)(H H':Hp)(h h':BL):Prop where
 keep:∀b o,h.get? b=some o->H b=none->b∉fs->b∉ex->h'.get? b=some o
 slot:∀b o,h.get? b=some o->H b=none->b∈fs->b∉ex->∃sl,h'.get? b=some {o with slots:=sl}
 free:∀b o,h.get? b=some o->H b=none->b∉ex->H' b=none
 there:∀b o,h.get? b=some o->b∉ex->∃o',h'.get? b=some o'
 tups:∀b xs,H b=some (.tup xs)->H' b=some (.tup xs)
 frzs:∀b o u,H b=some (.frz o u)->H' b=some (.frz o u)
 tbls:∀b ps,H b=some (.tbl ps)->∃more,H' b=some (.tbl (ps++more))
section
variable {fs ex:List i9}{H H1:Hp}{h h1 h':BL}{a x e:i9}{o:HO}
def Un.any(u:Un fs ex H H1 h h1){b:i9}{ob:Obj}(q:h.get? b=some ob)(n:H b=none)(hx:b∉ex):∃sl,h1.get? b=some {ob with slots:=sl}:=by
 by_cases hb:b∈fs
 .exact u.slot b ob q n hb hx
 .exact⟨ob.slots,u.keep b ob q n hb hx⟩
def Un.kept(k:∀b u,h.get? b=some u->h'.get? b=some u):Un fs ex H H h h':=
 ⟨λb ob q _ _ _=>k b ob q,λb ob q _ _ _=>⟨ob.slots,k b ob q⟩,λ_ _ _ n _=>n,λb ob q _=>⟨ob,k b ob q⟩,λ_ _ q=>q,λ_ _ _ q=>q,λ_ ps q=>⟨#[],by rw[q];simp⟩⟩
def Un.refl:Un fs ex H H h h:=Un.kept λ_ _ q=>q
def Un.laid(k:∀b u,h.get? b=some u->h'.get? b=some u)(hp:h.objs.size<=a)(hn:H a=none):Un fs ex H (upd H a o) h h' where
 keep:=λb u q _ _ _=>k b u q
 slot:=λb u q _ _ _=>⟨u.slots,k b u q⟩
 free:=λb u q n _=>by rw[B7 (z8 (y9 (q9 q) hp))];exact n
 there:=λb u q _=>⟨u,k b u q⟩
 tups:=λb xs q=>by rw[B7 (D9 q hn)];exact q
 frzs:=λb u xs q=>by rw[B7 (D9 q hn)];exact q
 tbls:=λb ps q=>⟨#[],by rw[B7 (D9 q hn),q];simp⟩
def Un.write(mu:Mut (H x))(he:e=x\/H e=some (.own x))(k:∀b u,b≠e->h.get? b=some u->h'.get? b=some u)(heo:∃u,h'.get? e=some u):Un fs ex H (upd H x o) h h':=by
 have hx:∀b,H b=none->b≠x:=λb n z=>by subst z;rw[n]at mu;exact mu
 have hb:∀b,H b=none->b≠e:=λb n z=>by
  subst z;rcases he with r |r
  .exact hx b n r
  .rw[n]at r;cases r
 have hm:∀b u,H b=some u->¬Mut (some u)->b≠x:=λb u q nm z=>by subst z;rw[q]at mu;exact nm mu
 refine⟨λb u q n _ _=>k b u (hb b n) q,λb u q n _ _=>⟨u.slots,k b u (hb b n) q⟩,λb u q n _=>by rw[B7 (hx b n)];exact n,λb u q _=>?_,
  λb xs q=>by rw[B7 (hm b _ q λz=>z)];exact q,λb u xs q=>by rw[B7 (hm b _ q λz=>z)];exact q,λb ps q=>⟨#[],by rw[B7 (hm b _ q λz=>z),q];simp⟩⟩
 by_cases hbe:b=e
 .subst hbe;exact heo
 .exact⟨u,k b u hbe q⟩
end
def trk(h:BL)(H:Hp):List i9:=(CK h.objs.size).filter λa=>(H a).isSome
def Zs(h:BL)(H:Hp):BL:=JC h (trk h H)
def lR(h:BL)(H:Hp):(Zs h H).objs.size=h.objs.size:=PySem.W.hideAll_size _ _
def qN{h:BL}{H:Hp}{b:i9}{o:Obj}(e:h.get? b=some o)(n:H b=none):(Zs h H).get? b=some o:=
 LN _ e λhm=>by
  have q:(H b).isSome=true:=(BN.mp hm).2;rw[n]at q;simp at q
def uD{h:BL}{H:Hp}{b:i9}{o:Obj}(e:(Zs h H).get? b=some o):h.get? b=some o/\H b=none:=by
 have e':h.get? b=some o:=LU (trk h H) e;refine⟨e',?_⟩;cases q:H b with
 |none=>rfl
 |some x=>
  have hm:b∈trk h H:=BN.mpr ⟨EL.mpr (q9 e'),by simp[q]⟩;have z:(Zs h H).get? b=none:=HG (trk h H) hm;rw[z]at e;cases e
noncomputable def wI(g h:BL)(L:i9):List (i9×Obj):=(CK h.objs.size).filterMap λa=>if a=L\/(g.get? a).isSome=true then none else(h.get? a).map λo=>(a,o)
def T4(g h:BL)(L d:i9):List (i9×Obj):=(wI g h L).filter λp=>decide (p.1≠d)
structure Mod(K:i5)(mg:Str->Option g9)(base:BL):Prop where
 kin:K.In base
 glob:base.Ns DD mg
 blt:∃mb,base.Ns LS mb/\∀x:Str,x≠"__name__"->mb x=GN x
 nolimit:base.NoLimit
structure Cx where
 prog:o9
 w:x8
 K:i5
 mg:Str->Option g9
 base:BL
 A:BO
 N:List Str
 s₀:i6
 H₀:Hp
 env:Env
 outer:List Env
 stack:List Env
 ex:List i9
 fn:Str->Bool
 calm:Bool
 pn:List (i9×Obj)
 xe:g9->i6->Prop
noncomputable def frs(l:List Env):List i9:=l.filterMap (·.frame)
abbrev Cx.fs(X:Cx):List i9:=frs X.outer
noncomputable def Vis(sc:Scope)(x:Str):Prop:=sc.names.lookup x=some .local\/sc.names.lookup x=some .cell\/sc.names.lookup x=some .free
noncomputable def Loc(sc:Scope)(x:Str):Prop:=sc.names.lookup x=some .local\/sc.names.lookup x=some .cell
noncomputable def Look(env:Env)(h:BL)(m:Str->Option g9)(x:Str)(u:g9):Prop:=
 (env.kindOf x=some .local/\m x=some u)\/((env.kindOf x=some .cell\/env.kindOf x=some .free)/\∃c,env.cells.lookup x=some c/\h.IsCell c (some u))
structure Cx.Ok(X:Cx):Prop where
 mod:Mod X.K X.mg X.base
 kind:X.env.scope.kind=.function
 glob:X.env.globals=DD
 blt:X.env.builtins=LS
 above:X.s₀.heap.objs.size<=X.env.locals
 inj:∀x y c,X.env.cells.lookup x=some c->X.env.cells.lookup y=some c->x=y
 has:∀x,(X.env.kindOf x=some .cell\/X.env.kindOf x=some .free)->∃c,X.env.cells.lookup x=some c
 cab:∀x c,X.fn x=true->X.env.cells.lookup x=some c->X.s₀.heap.objs.size<=c
 hd:X.calm=true->X.A.handled=none
 frames:X.A.frames=some X.stack
 stk:X.stack=X.outer\/(X.stack=X.env::X.outer/\X.env.frame=some X.env.locals)
 exf:∀b∈X.ex,b≠X.env.locals/\∀x c,X.env.cells.lookup x=some c->c≠b
 bs:∀b o,X.base.get? b=some o->X.s₀.heap.get? b=some o/\X.H₀ b=none
 bsz:X.base.objs.size<=X.s₀.heap.objs.size
 noex:∀b o,X.base.get? b=some o->b∉X.ex
 exfs:∀b∈X.ex,b∉X.fs
 funs:X.s₀.heap.FunFrames X.base X.outer
 frf:∀b∈X.fs,X.H₀ b=none
structure Inv(X:Cx)(pins:List (i9×Obj))(σ:List (Option V))(H:Hp)(s:i6):Prop where
 ok:X.Ok
 os:s.os=X.s₀.os
 bare:KW s.gens
 base:Un X.fs X.ex X.H₀ H X.s₀.heap s.heap
 loc:∃m,s.heap.Ns X.env.locals m/\∀(i:Nat) (x:Str) (v:V),X.N[i]?=some x->σ[i]?=some (some v)->Vis X.env.scope x->∃u,RelV v u/\Look X.env s.heap m x u
 cell:∀x c,X.env.cells.lookup x=some c->∃v,s.heap.IsCell c v
 free:H X.env.locals=none
 freeC:∀x c,X.env.cells.lookup x=some c->H c=none
 pin:∀p∈X.pn++pins,s.heap.get? p.1=some p.2/\H p.1=none/\p.1≠X.env.locals/\p.1∉X.fs/\∀v,p.2.data≠.cell v
 hok:HOk X.prog X.w H s.heap
 len:σ.length=X.N.length
section
variable {X:Cx}{pins:List (i9×Obj)}{σ:List (Option V)}{H H':Hp}{s:i6}{h':BL}
def Cx.Ok.nofr(ok:X.Ok){b:i9}{o:Obj}(e:X.base.get? b=some o):b∉X.fs:=λhb=>by
 have:=(ok.funs.mem hb).1;rw[e]at this;cases this
theorem Inv.bs(I:Inv X pins σ H s):∀b o,X.base.get? b=some o->s.heap.get? b=some o/\H b=none:=λb o e=>
 ⟨I.base.keep b o (I.ok.bs b o e).1 (I.ok.bs b o e).2 (I.ok.nofr e) (I.ok.noex b o e),I.base.free b o (I.ok.bs b o e).1 (I.ok.bs b o e).2 (I.ok.noex b o e)⟩
def Inv.bk(I:Inv X pins σ H s):∀b o,X.base.get? b=some o->s.heap.get? b=some o:=λb o e=>(I.bs b o e).1
theorem Inv.mod(I:Inv X pins σ H s):Mod X.K X.mg X.base:=I.ok.mod
def Inv.kIn(I:Inv X pins σ H s):X.K.In s.heap:=I.ok.mod.kin.keeps I.bk
def Inv.fr(I:Inv X pins σ H s):∃m,Fr X.base X.env.locals s.heap m:=
 let ⟨m,hn,_⟩:=I.loc
 ⟨m,hn,I.bk,l9 I.ok.bsz I.ok.above⟩
theorem Inv.lt(I:Inv X pins σ H s):X.env.locals<s.heap.objs.size:=let ⟨_,hn,_⟩:=I.loc;hn.lt
def Inv.sz(I:Inv X pins σ H s):X.s₀.heap.objs.size<=s.heap.objs.size:=l9 I.ok.above (PB I.lt)
def Inv.nofs(I:Inv X pins σ H s){a:i9}(h:s.heap.objs.size<=a):a∉X.fs:=λhb=>by
 obtain⟨_,o,ho,_⟩:=I.ok.funs.mem hb;exact absurd (y9 (q9 ho) (l9 I.sz h)) (HD _)
def Inv.cne(I:Inv X pins σ H s):∀x c,X.env.cells.lookup x=some c->c≠X.env.locals:=λx c e z=>by
 obtain⟨v,o,ho,hd⟩:=I.cell x c e;obtain⟨m,⟨o',es,ep,ho',hd',_⟩,_⟩:=I.loc;rw[z,ho']at ho;cases ho;rw[hd']at hd;cases hd
theorem Inv.funs(I:Inv X pins σ H s):s.heap.FunFrames X.base X.outer:=by
 have all:∀(l:List Env),(∀b∈frs l,b∈X.fs)->X.s₀.heap.FunFrames X.base l->s.heap.FunFrames X.base l:=by
  intro l;induction l with
  |nil=>intro _ _;trivial
  |cons env r ih=>
   intro hs hl;obtain⟨hk,⟨L,o,hf,hn,ho,hd⟩,hr⟩:=hl;have hL:L∈X.fs:=hs L (by unfold frs;rw[EN,hf];exact EG);obtain⟨sl,e⟩:=I.base.slot L o ho (I.ok.frf L hL) hL λz=>I.ok.exfs L z hL;exact⟨hk,⟨L,_,hf,hn,e,hd⟩,ih (λb hb=>hs b (by unfold frs;rw[EN,hf];exact FF _ hb)) hr⟩
 exact all X.outer (λ_ hb=>hb) I.ok.funs
theorem Inv.stack(I:Inv X pins σ H s):s.heap.FunFrames X.base X.stack:=by
 rcases I.ok.stk with e |⟨e,hf⟩
 .rw[e];exact I.funs
 .rw[e]
  obtain⟨m,hn,_⟩:=I.loc;refine .cons (by rw[I.ok.kind];decide) hf hn ?_ I.funs;exact LR (l9 I.ok.bsz I.ok.above)
def Inv.stkSub(I:Inv X pins σ H s):∀b∈frs X.stack,b∈X.env.locals::X.fs:=λb hb=>by
 rcases I.ok.stk with e |⟨e,hf⟩
 .rw[e]at hb;exact FF _ hb
 .rw[e]at hb
  unfold frs at hb;rw[EN,hf]at hb;exact hb
def Inv.stkFree(I:Inv X pins σ H s):∀b∈frs X.stack,H b=none:=λb hb=>by
 rcases j9.mp (I.stkSub b hb)with e |hb
 .rw[e];exact I.free
 .obtain⟨_,o,ho,_⟩:=I.ok.funs.mem hb
  exact I.base.free b o ho (I.ok.frf b hb) λz=>I.ok.exfs b z hb
def Inv.step{g':Array GenState}{t':Nat}{d':Drawn}{ch:List i9}(I:Inv X pins σ H s)
 (hch:∀b∈ch,(b∈X.ex\/X.s₀.heap.objs.size<=b)/\b≠X.env.locals/\(∀x c,X.env.cells.lookup x=some c->c≠b)/\∀p∈X.pn++pins,p.1≠b)
 (keep:∀b o,b≠X.env.locals->b∉X.fs->b∉ch->s.heap.get? b=some o->H b=none->h'.get? b=some o)
 (slot:∀b o,b≠X.env.locals->b∈X.fs->b∉ch->s.heap.get? b=some o->H b=none->∃sl,h'.get? b=some {o with slots:=sl}) (free:∀b o,b∉ch->s.heap.get? b=some o->H b=none->H' b=none)
 (there:∀b o,b∉ch->s.heap.get? b=some o->∃o',h'.get? b=some o')
 (tups:∀b xs,H b=some (.tup xs)->H' b=some (.tup xs)) (frzs:∀b o u,H b=some (.frz o u)->H' b=some (.frz o u)) (tbls:∀b ps,H b=some (.tbl ps)->∃more,H' b=some (.tbl (ps++more)))
 (ns:∀m,s.heap.Ns X.env.locals m->h'.Ns X.env.locals m) (hok:HOk X.prog X.w H' h') (hg:KW g'):
 Inv X pins σ H' {s with heap:=h',gens:=g',drawn:=d',toks:=t'}:=by
 have neL:∀b o,X.s₀.heap.get? b=some o->b≠X.env.locals:=λb o e=>z8 (y9 (q9 e) I.ok.above);have neC:∀b o,X.s₀.heap.get? b=some o->b∉X.ex->b∉ch:=λb o e hx hb=>by
  rcases (hch b hb).1 with z |z
  .exact hx z
  .exact absurd (y9 (q9 e) z) (HD _)
 have cellK:∀x c,X.env.cells.lookup x=some c->∀v,s.heap.IsCell c v->h'.IsCell c v:=λx c e v hZ4=>by
  obtain⟨o,ho,hd⟩:=hZ4;have nch:c∉ch:=λz=>(hch c z).2.2.1 x c e rfl;by_cases hc:c∈X.fs
  .obtain⟨sl,q⟩:=slot c o (I.cne x c e) hc nch ho (I.freeC x c e)
   exact⟨_,q,hd⟩
  .exact⟨o,keep c o (I.cne x c e) hc nch ho (I.freeC x c e),hd⟩
 refine⟨I.ok,I.os,hg,⟨λb o e n hb hx=>?_,λb o e n hb hx=>?_,λb o e n hx=>?_,λb o e hx=>?_,λb xs e=>tups b xs (I.base.tups b xs e),λb o xs e=>frzs b o xs (I.base.frzs b o xs e),λb ps e=>?_⟩,?_,λx c e=>?_,?_,λx c e=>?_,λp hp=>?_,hok,I.len⟩
 .exact keep b o (neL b o e) hb (neC b o e hx) (I.base.keep b o e n hb hx) (I.base.free b o e n hx)
 .obtain⟨sl,e1⟩:=I.base.slot b o e n hb hx
  obtain⟨sl',e2⟩:=slot b _ (neL b o e) hb (neC b o e hx) e1 (I.base.free b o e n hx);exact⟨sl',e2⟩
 .obtain⟨o',e1⟩:=I.base.there b o e hx
  exact free b o' (neC b o e hx) e1 (I.base.free b o e n hx)
 .obtain⟨o',e1⟩:=I.base.there b o e hx
  exact there b o' (neC b o e hx) e1
 .obtain⟨m1,e1⟩:=I.base.tbls b ps e
  obtain⟨m2,e2⟩:=tbls b _ e1;exact⟨m1++m2,by rw[e2,Array.append_assoc]⟩
 .obtain⟨m,hn,hl⟩:=I.loc
  refine⟨m,ns m hn,λi x v e1 e2 e3=>?_⟩;obtain⟨u,r,l⟩:=hl i x v e1 e2 e3;refine⟨u,r,?_⟩;rcases l with l |⟨k,c,e,z⟩
  .exact .inl l
  .exact .inr ⟨k,c,e,cellK x c e _ z⟩
 .obtain⟨v,z⟩:=I.cell x c e
  exact⟨v,cellK x c e v z⟩
 .obtain⟨m,⟨o,_,_,ho,_⟩,_⟩:=I.loc
  exact free _ o (λz=>(hch _ z).2.1 rfl) ho I.free
 .obtain⟨v,o,ho,hd⟩:=I.cell x c e
  exact free c o (λz=>(hch c z).2.2.1 x c e rfl) ho (I.freeC x c e)
 .obtain⟨e,n,ne,nf,d⟩:=I.pin p hp
  have nch:p.1∉ch:=λz=>(hch p.1 z).2.2.2 p hp rfl;exact⟨keep p.1 p.2 ne nf nch e n,free p.1 p.2 nch e n,ne,nf,d⟩
def Inv.un{t':Nat}(I:Inv X pins σ H s)(u:Un X.fs [] H H' s.heap h')(hok:HOk X.prog X.w H' h'):Inv X pins σ H' {s with heap:=h',toks:=t'}:=by
 obtain⟨m,⟨o,es,ep,ho,r⟩,_⟩:=id I.loc;obtain⟨sl,hL⟩:=u.any ho I.free (by simp);exact I.step (g':=s.gens) (d':=s.drawn) (ch:=[]) (λ_ z=>nomatch z) (λb o _ hb _ e n=>u.keep b o e n hb (by simp)) (λb o _ hb _ e n=>u.slot b o e n hb (by simp)) (λb o _ e n=>u.free b o e n (by simp)) (λb o _ e=>u.there b o e (by simp)) u.tups u.frzs u.tbls (λm' hm=>by
  obtain⟨o',es',ep',ho',r'⟩:=hm;rw[ho]at ho';cases ho';exact⟨_,es',ep',hL,r'⟩) hok I.bare
def Inv.call{g':Array GenState}{t':Nat}{d':Drawn}{ch:List i9}(I:Inv X pins σ H s)(u:Un (frs X.stack) ch H H' s.heap h')(hok:HOk X.prog X.w H' h')(hg:KW g')
 (hch:∀b∈ch,(b∈X.ex\/X.s₀.heap.objs.size<=b)/\b≠X.env.locals/\(∀x c,X.env.cells.lookup x=some c->c≠b)/\∀p∈X.pn++pins,p.1≠b):
 Inv X pins σ H' {s with heap:=h',gens:=g',drawn:=d',toks:=t'}:=by
 obtain⟨m,⟨o,es,ep,ho,r⟩,_⟩:=id I.loc;obtain⟨sl,hL⟩:=u.any ho I.free λz=>(hch _ z).2.1 rfl;exact I.step (ch:=ch) hch (λb o hL hb hc e n=>u.keep b o e n (λz=>(j9.mp (I.stkSub b z)).elim hL hb) hc) (λb o _ _ hc e n=>u.any e n hc) (λb o hc e n=>u.free b o e n hc) (λb o hc e=>u.there b o e hc) u.tups u.frzs u.tbls (λm' hm=>by
  obtain⟨o',es',ep',ho',r'⟩:=hm;rw[ho]at ho';cases ho';exact⟨_,es',ep',hL,r'⟩) hok hg
def Inv.turned{t':Nat}{it:i9}(I:Inv X pins σ H s)(k:∀b o,b≠it->s.heap.get? b=some o->h'.get? b=some o)(hn:H it=none)(hL:it≠X.env.locals)
 (h1:it∈X.ex\/X.s₀.heap.objs.size<=it) (h2:∀x c,X.env.cells.lookup x=some c->c≠it) (h3:∀p∈X.pn++pins,p.1≠it):Inv X pins σ H {s with heap:=h',toks:=t'}:=by
 have nit:∀b u,H b=some u->b≠it:=λb u e z=>by rw[z,hn]at e;cases e
 refine I.step (g':=s.gens) (d':=s.drawn) (ch:=[it]) (λb hb=>?_) (λb o _ _ hc e _=>k b o (λz=>hc (by simp[z])) e) (λb o _ _ hc e _=>⟨o.slots,k b o (λz=>hc (by simp[z])) e⟩) (λ_ _ _ _ n=>n)
  (λb o hc e=>⟨o,k b o (λz=>hc (by simp[z])) e⟩) (λ_ _ e=>e) (λ_ _ _ e=>e) (λb ps e=>⟨#[],by rw[e];simp⟩) (λm hm=>?_) (λb u e=>?_) I.bare
 .have e:b=it:=by simpa using hb
  subst e;exact⟨h1,hL,h2,h3⟩
 .obtain⟨o,es,ep,ho,r⟩:=hm
  exact⟨o,es,ep,k _ o (Ne.symm hL) ho,r⟩
 .refine(I.hok b u e).stay (λc v hc q=>k c v ?_ q) (λ_ q=>q) λ_ _ q=>q
  rcases hc with z |z
  .rw[z];exact nit b u e
  .exact nit c _ z
def Inv.tok(I:Inv X pins σ H s)(t:Nat):Inv X pins σ H {s with toks:=t}:=I.un (h':=s.heap) (t':=t) Un.refl I.hok
theorem Inv.kept{t':Nat}(I:Inv X pins σ H s)(k:∀b u,s.heap.get? b=some u->h'.get? b=some u):Inv X pins σ H {s with heap:=h',toks:=t'}:=I.un (Un.kept k) (I.hok.kept k)
theorem Inv.laid{a:i9}{o:HO}{t':Nat}(I:Inv X pins σ H s)(k:∀b u,s.heap.get? b=some u->h'.get? b=some u)(hp:s.heap.objs.size<=a)(new:ObjOk X.prog X.w (upd H a o) h' a o):
 Inv X pins σ (upd H a o) {s with heap:=h',toks:=t'}:=I.un (Un.laid k hp (I.hok.fresh hp)) (I.hok.laid k hp new)
theorem Inv.write{x e:i9}{o:HO}{t':Nat}(I:Inv X pins σ H s)(mu:Mut (H x))(he:e=x\/H e=some (.own x))(k:∀b u,b≠e->s.heap.get? b=some u->h'.get? b=some u)(heo:∃u,h'.get? e=some u)
 (new:ObjOk X.prog X.w (upd H x o) h' x o):Inv X pins σ (upd H x o) {s with heap:=h',toks:=t'}:=I.un (Un.write mu he k heo) (I.hok.write mu he k heo new)
def Inv.weak{σ':List (Option V)}(I:Inv X pins σ H s)(hl:σ'.length=σ.length)(w:∀(i:Nat) v,σ'[i]?=some (some v)->σ[i]?=some (some v)):Inv X pins σ' H s:=
 ⟨I.ok,I.os,I.bare,I.base,let ⟨m,hn,hl'⟩:=I.loc;⟨m,hn,λi x v e1 e2 e3=>hl' i x v e1 (w i v e2) e3⟩,I.cell,I.free,I.freeC,I.pin,I.hok,hl.trans I.len⟩
def Inv.pins_of{pins':List (i9×Obj)}(I:Inv X pins σ H s)(h:∀p∈pins',s.heap.get? p.1=some p.2/\H p.1=none/\p.1≠X.env.locals/\p.1∉X.fs/\∀v,p.2.data≠.cell v):Inv X pins' σ H s:=
 ⟨I.ok,I.os,I.bare,I.base,I.loc,I.cell,I.free,I.freeC,λp hp=>(m6.mp hp).elim (λz=>I.pin p (LQ _ z)) (h p),I.hok,I.len⟩
def bY{N:List Str}(hN:N.Nodup){i j:Nat}{x:Str}(a:N[i]?=some x)(b:N[j]?=some x):i=j:=by
 obtain⟨h1,e1⟩:=x4.mp a;obtain⟨h2,e2⟩:=x4.mp b;exact(List.getElem_inj hN).mp (e1.trans e2.symm)
def Wp{M:NR}{A:BO}{E:g9->i6->Prop}{i:Nat}{x:Str}{v:V}{u:g9}{Q:Unit->i6->Prop}(I:Inv X pins σ H s)(hN:X.N.Nodup)(hi:X.N[i]?=some x)(hx:Loc X.env.scope x)(r:RelV v u)
 (h:∀s',Inv X pins (σ.set i (some v)) H s'->(∃a,JO a s.heap s'.heap/\(a=X.env.locals\/X.env.cells.lookup x=some a))->Q () s') (hf:X.fn x=true\/X.env.scope.names.lookup x=some .local:=by first |exact .inl rfl |exact .inr rfl |assumption):wpAny M A (storeName X.env x u) Q E s:=by
 obtain⟨m,hn,hl⟩:=id I.loc;have hcls:(X.env.scope.kind==.class||(X.env.scope.kind==.module&&X.env.locals != X.env.globals))=false:=by rw[I.ok.kind];rfl
 have hiσ:i<σ.length:=by rw[I.len];exact(x4.mp hi).1
 have cne:=I.cne;have tracked:∀{a:i9} {h':BL},(∃o,s.heap.get? a=some o/\H a=none)->JO a s.heap h'->HOk X.prog X.w H h':=λ{a h'} ha hs b ob e=>by
  obtain⟨_,_,hfree⟩:=ha;refine(I.hok b ob e).stay (λc w' hc q=>(hs.2 c ?_).trans q) (λ_ q=>q) λ_ _ q=>q;rintro rfl;rcases hc with rfl |hc
  .rw[hfree]at e;cases e
  .rw[hfree]at hc;cases hc
 rcases hx with hk |hk
 .refine wpAny_storeName_local hk hn (λh' hn' hs=>?_) hcls
  obtain⟨oL,_,_,hoL,_⟩:=id hn;refine h _ ⟨I.ok,I.os,I.bare,⟨λb o e n hb hx=>?_,λb o e n hb hx=>?_,I.base.free,λb o e hx=>?_,I.base.tups,I.base.frzs,I.base.tbls⟩,⟨_,hn',λj y v' e1 e2 e3=>?_⟩,λy c e=>?_,I.free,I.freeC,λp hp=>?_,tracked ⟨oL,hoL,I.free⟩ hs,by simpa using I.len⟩ ⟨_,hs,.inl rfl⟩
  .exact(hs.2 b (z8 (y9 (q9 e) I.ok.above))).trans (I.base.keep b o e n hb hx)
  .obtain⟨sl,e1⟩:=I.base.slot b o e n hb hx
   exact⟨sl,(hs.2 b (z8 (y9 (q9 e) I.ok.above))).trans e1⟩
  .obtain⟨o',e1⟩:=I.base.there b o e hx
   exact⟨o',(hs.2 b (z8 (y9 (q9 e) I.ok.above))).trans e1⟩
  .by_cases hj:j=i
   .subst hj
    rw[hi]at e1;cases e1;rw[IM hiσ]at e2;cases e2;exact⟨u,r,.inl ⟨hk,by simp⟩⟩
   .rw[FG (Ne.symm hj)]at e2
    obtain⟨u',r',q⟩:=hl j y v' e1 e2 e3;refine⟨u',r',?_⟩;rcases q with⟨k,e⟩ |⟨k,c,e,z⟩
    .refine .inl ⟨k,?_⟩
     have:y≠x:=λe=>hj (bY hN e1 (e▸hi));simp[this,e]
    .exact .inr ⟨k,c,e,z.sameBut hs (cne y c e)⟩
  .obtain⟨w',z⟩:=I.cell y c e
   exact⟨w',z.sameBut hs (cne y c e)⟩
  .obtain⟨e,n,ne,nf,d⟩:=I.pin p hp
   exact⟨(hs.2 p.1 ne).trans e,n,ne,nf,d⟩
 .have hfn : X.fn x = true:= by
   rcases hf with z |z
   .exact z
   .rw[z]at hk;cases hk
  obtain⟨c,hc⟩:=I.ok.has x (.inl hk);obtain⟨w',z⟩:=I.cell x c hc;refine wpAny_storeName_cell I.ok.kind hk hc z (λh' hc' hs=>?_);obtain⟨oc,hoc,hocd⟩:=id z;refine h {s with heap:=h'} ⟨I.ok,I.os,I.bare,⟨λb o e n hb hx=>?_,λb o e n hb hx=>?_,I.base.free,λb o e hx=>?_,I.base.tups,I.base.frzs,I.base.tbls⟩,⟨m,hn.sameBut hs (Ne.symm (cne x c hc)),λj y v' e1 e2 e3=>?_⟩,λy c' e=>?_,I.free,I.freeC,λp hp=>?_,tracked ⟨oc,hoc,I.freeC x c hc⟩ hs,by simpa using I.len⟩ ⟨c,hs,.inr hc⟩
  .exact(hs.2 b (z8 (y9 (q9 e) (I.ok.cab x c hfn hc)))).trans (I.base.keep b o e n hb hx)
  .obtain⟨sl,e1⟩:=I.base.slot b o e n hb hx
   exact⟨sl,(hs.2 b (z8 (y9 (q9 e) (I.ok.cab x c hfn hc)))).trans e1⟩
  .obtain⟨o',e1⟩:=I.base.there b o e hx
   exact⟨o',(hs.2 b (z8 (y9 (q9 e) (I.ok.cab x c hfn hc)))).trans e1⟩
  .by_cases hj:j=i
   .subst hj
    rw[hi]at e1;cases e1;rw[IM hiσ]at e2;cases e2;exact⟨u,r,.inr ⟨.inl hk,c,hc,hc'⟩⟩
   .rw[FG (Ne.symm hj)]at e2
    obtain⟨u',r',q⟩:=hl j y v' e1 e2 e3;refine⟨u',r',?_⟩;rcases q with q |⟨k,c',e,z'⟩
    .exact .inl q
    .refine .inr ⟨k,c',e,z'.sameBut hs ?_⟩
     rintro rfl;exact hj (bY hN e1 (I.ok.inj _ _ _ e hc▸hi))
  .by_cases hcc:c'=c
   .subst hcc;exact⟨_,hc'⟩
   .obtain⟨w2,z2⟩:=I.cell y c' e
    exact⟨w2,z2.sameBut hs hcc⟩
  .obtain⟨e,n,ne,nf,d⟩:=I.pin p hp
   refine⟨(hs.2 p.1 ?_).trans e,n,ne,nf,d⟩;intro q;rw[q,hoc]at e;have q':oc=p.2:=BS e;exact d w' (by rw[<-q'];exact hocd)
def Rg{M:NR}{A:BO}{E:g9->i6->Prop}{i:Nat}{x:Str}{v:V}{u:g9}{Q:Unit->i6->Prop}(I:Inv X pins σ H s)(hN:X.N.Nodup)(hi:X.N[i]?=some x)(hx:Loc X.env.scope x)(r:RelV v u)
 (h:∀s',Inv X pins (σ.set i (some v)) H s'->Q () s') (hf:X.fn x=true\/X.env.scope.names.lookup x=some .local:=by first |exact .inl rfl |exact .inr rfl |assumption):wpAny M A (storeName X.env x u) Q E s:=
 Wp I hN hi hx r (λs' I' _=>h s' I') hf
def Inv.call'{s':i6}{ch:List i9}(I:Inv X pins σ H s)(ho:s'.os=s.os)(u:Un (frs X.stack) ch H H' s.heap s'.heap)(hok:HOk X.prog X.w H' s'.heap)(hg:KW s'.gens)
 (hch:∀b∈ch,(b∈X.ex\/X.s₀.heap.objs.size<=b)/\b≠X.env.locals/\(∀x c,X.env.cells.lookup x=some c->c≠b)/\∀p∈X.pn++pins,p.1≠b):Inv X pins σ H' s':=by
 obtain⟨h',g',d',t',o'⟩:=s';have e:o'=s.os:=ho;subst e;exact I.call (g':=g') (t':=t') (d':=d') u hok hg hch
end
abbrev XK:=g9->Option i9->Hp->Prop
noncomputable abbrev St:=List (Option V)
abbrev VK:=V->Hp->Prop
abbrev TE:=St->Hp->VK->Prop
abbrev TT:=St->Hp->(Bool->Hp->Prop)->Prop
abbrev TA:=St->Hp->(List V->Hp->Prop)->Prop
structure Ends where
 nx:St->Hp->Prop
 rt:VK
 bk:St->Hp->Prop:=λ_ _=>False
 ct:St->Hp->Prop:=λ_ _=>False
abbrev TS:=Ends->St->Hp->Prop
def EP(X:Cx)(pins:List (i9×Obj))(σ:St)(Q:VK)(u:g9)(s':i6):Prop:=∃v H',Inv X pins σ H' s'/\RelV v u/\Q v H'
def TP(X:Cx)(pins:List (i9×Obj))(σ:St)(Q:Bool->Hp->Prop)(b:Bool)(s':i6):Prop:=∃H',Inv X pins σ H' s'/\Q b H'
def AP(X:Cx)(pins:List (i9×Obj))(σ:St)(Q:List V->Hp->Prop)(us:List g9)(s':i6):Prop:=∃vs H',Inv X pins σ H' s'/\Vals vs us/\Q vs H'
def SP(X:Cx)(pins:List (i9×Obj))(D:Ends)(f:Flow)(s':i6):Prop:=
 match f with
 |.next=>∃σ' H',Inv X pins σ' H' s'/\D.nx σ' H'
 |.brk=>∃σ' H',Inv X pins σ' H' s'/\D.bk σ' H'
 |.cont=>∃σ' H',Inv X pins σ' H' s'/\D.ct σ' H'
 |.ret u=>∃v σ' H',Inv X pins σ' H' s'/\RelV v u/\D.rt v H'
def PE(X:Cx)(e:Expr)(t:TE):Prop:=
 ∀(pins:List (i9×Obj)) (s:i6) (σ:St) (H:Hp) (Q:VK),Inv X pins σ H s->t σ H Q->wpAny (u7 X.prog X.w) X.A (eval e X.env) (EP X pins σ Q) X.xe s
def PT(X:Cx)(e:Expr)(t:TT):Prop:=
 ∀(pins:List (i9×Obj)) (s:i6) (σ:St) (H:Hp) (Q:Bool->Hp->Prop),Inv X pins σ H s->t σ H Q->wpAny (u7 X.prog X.w) X.A (isTrue e X.env (eval e X.env)) (TP X pins σ Q) X.xe s
def PW(X:Cx)(e:Expr)(t:TT):Prop:=
 ∀(whole:Sem g9) (pins:List (i9×Obj)) (s:i6) (σ:St) (H:Hp) (Q:Bool->Hp->Prop),Inv X pins σ H s->t σ H Q->wpAny (u7 X.prog X.w) X.A (isTrue e X.env whole) (TP X pins σ Q) X.xe s
def PW.pt{X:Cx}{e:Expr}{t:TT}(h:PW X e t):PT X e t:=h _
def PA(X:Cx)(es:List Expr)(t:TA):Prop:=
 ∀(pos:Pos) (pins:List (i9×Obj)) (s:i6) (σ:St) (H:Hp) (Q:List V->Hp->Prop),Inv X pins σ H s->t σ H Q->wpAny (u7 X.prog X.w) X.A (spliced (CD pos (i8 es X.env))) (AP X pins σ Q) X.xe s
def PS(X:Cx)(st:GC)(t:TS):Prop:=
 ∀(pins:List (i9×Obj)) (s:i6) (σ:St) (H:Hp) (D:Ends),Inv X pins σ H s->t D σ H->wpAny (u7 X.prog X.w) X.A (exec st X.env) (SP X pins D) X.xe s
def PSs(X:Cx)(st:List GC)(t:TS):Prop:=
 ∀(pins:List (i9×Obj)) (s:i6) (σ:St) (H:Hp) (D:Ends),Inv X pins σ H s->t D σ H->wpAny (u7 X.prog X.w) X.A (execs st X.env) (SP X pins D) X.xe s
def thn{α:Type}{t:Sem α}{Q Q':α->i6->Prop}{M:NR}{A:BO}{E:g9->i6->Prop}{s:i6}(h:wpAny M A t Q E s)(hQ:∀a s,Q a s->Q' a s):wpAny M A t Q' E s:=DG h hQ λ_ _ x=>x
section
variable {X:Cx}
def Us(i:Nat):TE:=λσ H Q=>∃v,σ[i]?=some (some v)/\Q v H
def tC(v:V):TE:=λ_ H Q=>Q v H
def Ko{i:Nat}{x:Str}{pos:Pos}(hN:X.N[i]?=some x)(hv:Vis X.env.scope x)(hd:(x==("__debug__" : Str))=false:=by decide)(hcd:(x==("__classdict__" : Str))=false:=by decide):PE X (.Name x pos) (Us i):=by
 intro pins s σ H Q I h;obtain⟨v,e,h⟩:=h;obtain⟨m,hn,hl⟩:=I.loc;obtain⟨u,r,l⟩:=hl i x v hN e hv;have fin:EP X pins σ Q u s:=⟨v,H,I,r,h⟩;rcases l with⟨hk,hm⟩ |⟨hk,c,hc,hcell⟩
 .exact wpAny_Name (wpAny_loadName_local I.ok.kind hk hn hm fin) hd
 .rcases hk with hk |hk
  .exact wpAny_Name (wpAny_loadName_cell I.ok.kind hk hc hcell fin) hd
  .exact wpAny_Name (wpAny_loadName_free I.ok.kind hk hc hcell fin hcd) hd
def Kp{i j pos}:PE X (.Constant (.int i) j pos) (tC (.int i)):=λ_ _ _ H _ I h=>wpAny_Constant_int ⟨.int i,H,I.tok _,⟨_,rfl⟩,h⟩
def oX{b j pos}:PE X (.Constant (.bool b) j pos) (tC (.bl b)):=λ_ _ _ H _ I h=>Constant_bool ⟨.bl b,H,I,rfl,h⟩
def yY{j pos}:PE X (.Constant .none j pos) (tC .non):=λ_ _ _ H _ I h=>Constant_none ⟨.non,H,I,rfl,h⟩
def Ze{x j pos}:PE X (.Constant (.str x) j pos) (tC (.str x)):=λ_ _ _ H _ I h=>ME ⟨.str x,H,I.tok _,⟨_,rfl⟩,h⟩
noncomputable def Gl(X:Cx)(x:Str):Prop:=X.env.kindOf x=some .globalImplicit
def Dv{E:g9->i6->Prop}{pins:List (i9×Obj)}{s:i6}{σ:St}{H:Hp}{x:Str}{u:g9}{pos:Pos}{Q:g9->i6->Prop}(I:Inv X pins σ H s)(hg:Gl X x)(hm:X.mg x=some u)(h:Q u s)
 (hd:(x==("__debug__" : Str))=false:=by decide):wpAny (u7 X.prog X.w) X.A (eval (.Name x pos) X.env) Q E s:=
 NS I.ok.kind hg (Calls.loadGlobal_global (by rw[I.ok.glob];exact I.mod.glob.keeps I.bk) hm h) hd
def Ij{E:g9->i6->Prop}{pins:List (i9×Obj)}{s:i6}{σ:St}{H:Hp}{x:Str}{u:g9}{pos:Pos}{Q:g9->i6->Prop}(I:Inv X pins σ H s)(hg:Gl X x)(hm:X.mg x=none)(hv:GN x=some u)(h:Q u s)
 (hn:x≠"__name__":=by decide) (hd:(x==("__debug__" : Str))=false:=by decide):wpAny (u7 X.prog X.w) X.A (eval (.Name x pos) X.env) Q E s:=by
 obtain⟨mb,h1,h2⟩:=I.mod.blt;exact NS I.ok.kind hg (Calls.loadGlobal_builtin (by rw[I.ok.glob];exact I.mod.glob.keeps I.bk) hm (by rw[I.ok.blt];exact h1.keeps I.bk) ((h2 x hn).trans hv) h) hd
def Zf{x:Str}{v:V}{u:g9}{pos:Pos}(hg:Gl X x)(hm:X.mg x=some u)(r:RelV v u)(hd:(x==("__debug__" : Str))=false:=by decide):PE X (.Name x pos) (tC v):=
 λ_ _ _ H _ I h=>Dv I hg hm ⟨v,H,I,r,h⟩ hd
def tP{x:Str}{v:V}{u:g9}{pos:Pos}(hg:Gl X x)(hm:X.mg x=none)(hv:GN x=some u)(r:RelV v u)(hn:x≠"__name__":=by decide)(hd:(x==("__debug__" : Str))=false:=by decide):PE X (.Name x pos) (tC v):=
 λ_ _ _ H _ I h=>Ij I hg hm hv ⟨v,H,I,r,h⟩ hn hd
variable {a b:Expr}{ta tb:TE}{pos:Pos}
def PC(X:Cx)(op:FA)(a b:Expr)(t:TE):Prop:=
 ∀(pins:List (i9×Obj)) (s:i6) (σ:St) (H:Hp) (Q:VK),Inv X pins σ H s->t σ H Q ->
  wpAny (u7 X.prog X.w) X.A (eval a X.env) (λv s₁=>wpAny (u7 X.prog X.w) X.A (eval b X.env) (λu s₂=>wpAny (u7 X.prog X.w) X.A (CH op v u) (EP X pins σ Q) X.xe s₂) X.xe s₁) X.xe s
def bZ(b:Expr){op:FA}(h:op≠.In)(h2:op≠.NotIn):behindInMarks op b=false:=by
 have e1:(op==CmpOp.In)=false:=by cases op <;> first |rfl |exact absurd rfl h
 have e2:(op==CmpOp.NotIn)=false:=by cases op <;> first |rfl |exact absurd rfl h2
 cases b <;> simp[behindInMarks,e1,e2]
def tIsN(ta:TE):TE:=λσ H Q=>ta σ H λx H1=>Q (.bl (decide (x=.non))) H1
def RelV.none_iff{x:V}{v:g9}(r:RelV x v):(v==EU)=decide (x=.non):=by
 cases x with
 |non=>cases r;rfl
 |bl _=>cases r;rfl
 |int _=>obtain⟨t,rfl⟩:=r;rfl
 |str _=>obtain⟨t,rfl⟩:=r;rfl
 |byt _=>obtain⟨t,rfl⟩:=r;rfl
 |flt _=>obtain⟨t,rfl⟩:=r;rfl
 |ref _=>cases r;rfl
 |ty _=>cases r;rfl
def zD{j pos'}(ha:PE X a ta):PC X .Is a (.Constant .none j pos') (tIsN ta):=by
 intro pins s σ H Q I h;refine thn (ha pins s σ H _ I h) λv s1 hZ2=>?_;obtain⟨x,H1,I1,r1,q1⟩:=hZ2;exact Constant_none (is_none_gen ⟨.bl _,H1,I1,by rw[r1.none_iff];rfl,q1⟩)
def tB(t:TE):TT:=λσ H Q=>t σ H λx H1=>∃c,x=.bl c/\Q c H1
def zA{op:FA}{t:TE}(h:PC X op a b t)(h1:behindInMarks op b=false:=by first |exact bZ _ (by decide) (by decide) |rfl):PE X (.Compare a [op] [b] pos) t:=λpins s σ H Q I hw=>wpAny_Compare1 (h pins s σ H Q I hw) h1
def oJ{op:FA}{t:TE}(h:PC X op a b t)(h1:behindInMarks op b=false:=by first |exact bZ _ (by decide) (by decide) |rfl):PT X (.Compare a [op] [b] pos) (tB t):=by
 intro pins s σ H Q I hw;refine wpAny_isTrue_Compare1 (thn (h pins s σ H _ I hw) λv s1 h1=>thn h1 λu s2 h2=>thn h2 λc s3 hY1=>?_) h1;obtain⟨x,H1,I1,r1,q1⟩:=hY1;obtain⟨d,rfl,q⟩:=q1;cases r1;exact ED ⟨H1,I1,q⟩
def yW{e:Expr}{t:TE}(h:PE X e t)(he:∀whole,isTrue e X.env whole=(do let v <-whole;standAt e.pos;holding [v] (truthy v)):=by intro _;rfl):PT X e (tB t):=by
 intro pins s σ H Q I hw;refine isTrue_plain (thn (h pins s σ H _ I hw) λv s1 hY2=>?_) (he _);obtain⟨x,H1,I1,r1,q1⟩:=hY2;obtain⟨d,rfl,q⟩:=q1;cases r1;exact ED ⟨H1,I1,q⟩
variable {tA tB':TT}{T4:List Expr}
def tAnd(t u:TT):TT:=λσ H Q=>t σ H λc H1=>if c=true then u σ H1 Q else Q false H1
def tOr(t u:TT):TT:=λσ H Q=>t σ H λc H1=>if c=true then Q true H1 else u σ H1 Q
def tNot(t:TT):TT:=λσ H Q=>t σ H λc H1=>Q (!c) H1
def sW(ha:PT X a tA):PW X (.BoolOp .And [a] pos) tA:=by
 intro wh pins s σ H Q I h;refine isTrue_and (thn (ha pins s σ H Q I h) λc s1 e=>?_);cases c with
 |true=>exact isTrue_and_nil e
 |false=>exact e
def oF(ha:PT X a tA):PW X (.BoolOp .Or [a] pos) tA:=by
 intro wh pins s σ H Q I h;refine isTrue_or (thn (ha pins s σ H Q I h) λc s1 e=>?_);cases c with
 |false=>exact isTrue_or_nil e
 |true=>exact e
def yV(ha:PT X a tA)(hb:PW X (.BoolOp .And (b::T4) pos) tB'):PW X (.BoolOp .And (a::b::T4) pos) (tAnd tA tB'):=by
 intro wh pins s σ H Q I h;refine isTrue_and (thn (ha pins s σ H _ I h) λc s1 hZ2=>?_);obtain⟨H1,I1,q1⟩:=hZ2;cases c with
 |true=>exact hb wh pins s1 σ H1 Q I1 q1
 |false=>exact⟨H1,I1,q1⟩
def wT(ha:PT X a tA)(hb:PW X (.BoolOp .Or (b::T4) pos) tB'):PW X (.BoolOp .Or (a::b::T4) pos) (tOr tA tB'):=by
 intro wh pins s σ H Q I h;refine isTrue_or (thn (ha pins s σ H _ I h) λc s1 hZ2=>?_);obtain⟨H1,I1,q1⟩:=hZ2;cases c with
 |true=>exact⟨H1,I1,q1⟩
 |false=>exact hb wh pins s1 σ H1 Q I1 q1
def oI(ha:PT X a tA):PT X (.UnaryOp .Not a pos) (tNot tA):=by
 intro pins s σ H Q I h;exact isTrue_not (ha pins s σ H (λc H1=>Q (!c) H1) I h)
def tAndV(ta tb:TE):TE:=λσ H Q=>ta σ H λx H1=>∃c,x=.bl c/\if c=true then tb σ H1 Q else Q (.bl false) H1
def yX{op}{t:TE}(h:PE X a t):PE X (.BoolOp op [a] pos) t:=λpins s σ H Q I hw=>BoolOp_one (h pins s σ H Q I hw)
def zC(ha:PE X a ta)(hb:PE X (.BoolOp .And (b::T4) pos) tb):PE X (.BoolOp .And (a::b::T4) pos) (tAndV ta tb):=by
 intro pins s σ H Q I h;refine BoolOp_and (thn (ha pins s σ H _ I h) λv s1 hZ2=>?_);obtain⟨x,H1,I1,r1,q1⟩:=hZ2;obtain⟨c,rfl,q1⟩:=q1;cases r1;refine ED ?_;cases c with
 |true=>exact hb pins s1 σ H1 Q I1 q1
 |false=>exact⟨.bl false,H1,I1,rfl,q1⟩
def tIf(t:TT)(ta tb:TE):TE:=λσ H Q=>t σ H λc H1=>if c=true then ta σ H1 Q else tb σ H1 Q
def oS{c:Expr}(hc:PT X c tA)(ha:PE X a ta)(hb:PE X b tb):PE X (.IfExp c a b pos) (tIf tA ta tb):=by
 intro pins s σ H Q I h;refine wpAny_IfExp (thn (hc pins s σ H _ I h) λd s1 hZ2=>?_);obtain⟨H1,I1,q1⟩:=hZ2;cases d with
 |true=>exact ha pins s1 σ H1 Q I1 q1
 |false=>exact hb pins s1 σ H1 Q I1 q1
end
def SqL(K:i5)(H:Hp)(a:i9)(xs:List V):Prop:=
 Rd H a (.lst xs) \/
  ∃(o:Obj) (its:Array g9) (n:Nat),K.lookup a=some o/\o.cls=.type "list"/\o.dict=none/\o.data=.seq its n/\its.size<=sizeLine/\Vals xs its.toList
def SqT(K:i5)(H:Hp)(a:i9)(xs:List V):Prop:=
 Rd H a (.tup xs) \/
  ∃(o:Obj) (its:Array g9) (n:Nat),K.lookup a=some o/\o.cls=.type "tuple"/\o.data=.seq its n/\its.size<=sizeLine/\Vals xs its.toList
noncomputable def absV:g9->Option V
 |.none=>some .non
 |.bool b=>some (.bl b)
 |.int i _=>some (.int i)
 |.str x _=>some (.str x)
 |.bytes b _=>some (.byt b)
 |.float b _=>some (.flt b)
 |.ref a=>some (.ref a)
 |.type n=>some (.ty n)
 |_=>none
def RelV.abs{x:V}{u:g9}(r:RelV x u):absV u=some x:=by
 cases x with
 |non=>cases r;rfl
 |bl _=>cases r;rfl
 |int _=>obtain⟨t,rfl⟩:=r;rfl
 |str _=>obtain⟨t,rfl⟩:=r;rfl
 |byt _=>obtain⟨t,rfl⟩:=r;rfl
 |flt _=>obtain⟨t,rfl⟩:=r;rfl
 |ref _=>cases r;rfl
 |ty _=>cases r;rfl
def RelV.inj{x y:V}{u:g9}(r:RelV x u)(q:RelV y u):x=y:=BS (r.abs.symm.trans q.abs)
theorem Vals.inj{xs:List V}:∀{ys:List V} {us:List g9},Vals xs us->Vals ys us->xs=ys:=by
 induction xs with
 |nil=>intro ys us h q;cases h;cases q;rfl
 |cons x xs ih=>intro ys us h q;cases h with |cons r t=>cases q with |cons r' t'=>rw[r.inj r',ih t t']
section
variable {X:Cx}{pins:List (i9×Obj)}{σ:St}{H:Hp}{s:i6}{a:i9}{xs ys:List V}
def Inv.list(I:Inv X pins σ H s)(h:SqL X.K H a xs):∃its:List g9,Vals xs its/\PlainL s.heap a its.toArray/\xs.length<=sizeLine:=by
 rcases h with h |⟨o,its,n,hk,hc,hd,hs,hz,r⟩
 .obtain⟨z,its,n,r,e⟩:=h.ok I.hok
  exact⟨its,r,⟨_,n,e,rfl,rfl,rfl⟩,z⟩
 .refine⟨its.toList,r,⟨o,n,I.kIn a o hk,hc,hd,by simpa using hs⟩,?_⟩
  have e:=r.length;simp only[HW]at e;lia
def Inv.tuple(I:Inv X pins σ H s)(h:SqT X.K H a xs):∃its:List g9,Vals xs its/\LP s.heap a its.toArray/\xs.length<=sizeLine:=by
 rcases h with h |⟨o,its,n,hk,hc,hs,hz,r⟩
 .obtain⟨z,its,r,p⟩:=h.ok I.hok
  exact⟨its,r,p,z⟩
 .refine⟨its.toList,r,⟨o,I.kIn a o hk,hc,n,by simpa using hs⟩,?_⟩
  have e:=r.length;simp only[HW]at e;lia
def Inv.list_inj(I:Inv X pins σ H s)(h:SqL X.K H a xs)(h':SqL X.K H a ys):xs=ys:=by
 obtain⟨its,r,⟨o,n,e,_,_,d⟩,_⟩:=I.list h;obtain⟨its',r',⟨o',n',e',_,_,d'⟩,_⟩:=I.list h';rw[e]at e';cases e';rw[d]at d';injection d' with d1 _
 have:its=its':=by simpa using congrArg OJ d1
 subst this;exact r.inj r'
def Inv.tuple_inj(I:Inv X pins σ H s)(h:SqT X.K H a xs)(h':SqT X.K H a ys):xs=ys:=by
 obtain⟨its,r,⟨o,e,_,n,d⟩,_⟩:=I.tuple h;obtain⟨its',r',⟨o',e',_,n',d'⟩,_⟩:=I.tuple h';rw[e]at e';cases e';rw[d]at d';injection d' with d1 _
 have:its=its':=by simpa using congrArg OJ d1
 subst this;exact r.inj r'
end
noncomputable abbrev Cx.wish(X:Cx)(E:g9->i6->Prop):Cx:={X with xe:=E}
abbrev Cx.nox(X:Cx):Cx:=X.wish λ_ _=>False
theorem Cx.Ok.wish{X:Cx}(ok:X.Ok)(E:g9->i6->Prop):(X.wish E).Ok:=
 ⟨ok.mod,ok.kind,ok.glob,ok.blt,ok.above,ok.inj,ok.has,ok.cab,ok.hd,ok.frames,ok.stk,ok.exf,ok.bs,ok.bsz,ok.noex,ok.exfs,ok.funs,ok.frf⟩
def Cx.Ok.unwish{X:Cx}{E:g9->i6->Prop}(ok:(X.wish E).Ok):X.Ok:=
 ⟨ok.mod,ok.kind,ok.glob,ok.blt,ok.above,ok.inj,ok.has,ok.cab,ok.hd,ok.frames,ok.stk,ok.exf,ok.bs,ok.bsz,ok.noex,ok.exfs,ok.funs,ok.frf⟩
section
variable {X:Cx}{pins:List (i9×Obj)}{σ:St}{H:Hp}{s:i6}{E:g9->i6->Prop}
theorem Inv.wish(I:Inv X pins σ H s)(E:g9->i6->Prop):Inv (X.wish E) pins σ H s:=⟨I.ok.wish E,I.os,I.bare,I.base,I.loc,I.cell,I.free,I.freeC,I.pin,I.hok,I.len⟩
theorem Inv.unwish(I:Inv (X.wish E) pins σ H s):Inv X pins σ H s:=⟨I.ok.unwish,I.os,I.bare,I.base,I.loc,I.cell,I.free,I.freeC,I.pin,I.hok,I.len⟩
theorem SP.unwish{D:Ends}{f:Flow}{s':i6}(h:SP (X.wish E) pins D f s'):SP X pins D f s':=by
 cases f with
 |next=>obtain⟨σ',H',I,q⟩:=h;exact⟨σ',H',I.unwish,q⟩
 |brk=>obtain⟨σ',H',I,q⟩:=h;exact⟨σ',H',I.unwish,q⟩
 |cont=>obtain⟨σ',H',I,q⟩:=h;exact⟨σ',H',I.unwish,q⟩
 |ret u=>obtain⟨v,σ',H',I,r,q⟩:=h;exact⟨v,σ',H',I.unwish,r,q⟩
theorem PSs.nox{st:List GC}{t:TS}(h:PSs X.nox st t):PSs X st t:=λpins s σ H D I hw=>
 DG (h pins s σ H D (I.wish _) hw) (λ_ _ q=>q.unwish) λ_ _ z=>GA z
end
section
variable {X:Cx}{st:GC}{T4:List GC}{t u:TS}{e:Expr}{te:TE}{pos:Pos}
def tNext:TS:=λD σ H=>D.nx σ H
def tSeq(t u:TS):TS:=λD σ H=>t {D with nx:=u D} σ H
def Zb:PSs X [] tNext:=λ_ _ σ H _ I h=>IH ⟨σ,H,I,h⟩
def Lu(h1:PS X st t)(h2:PSs X T4 u):PSs X (st::T4) (tSeq t u):=by
 intro pins s σ H D I h;refine GE (thn (h1 pins s σ H {D with nx:=u D} I h) λf s1 q=>?_);cases f with
 |next=>
  obtain⟨σ',H',I',q⟩:=q;exact h2 pins s1 σ' H' D I' q
 |ret v=>exact q
 |brk=>exact q
 |cont=>exact q
def Gd(h1:PS X st t):PSs X [st] t:=by
 intro pins s σ H D I h;refine GE (thn (h1 pins s σ H D I h) λf s1 q=>?_);cases f with
 |next=>exact IH q
 |ret v=>exact q
 |brk=>exact q
 |cont=>exact q
def Inv.quiet{pins:List (i9×Obj)}{σ:St}{H:Hp}{s:i6}(I:Inv X pins σ H s):interactive X.env=false:=by simp[interactive,I.ok.kind]
def tDrop(te:TE):TS:=λD σ H=>te σ H λ_ H1=>D.nx σ H1
def Qg(he:PE X e te)(hs:FT e none pos.line X.env=pure false:=by rfl):PS X (.Expr e pos) (tDrop te):=by
 intro pins s σ H D I h;exact wpAny_Expr_any (thn (he pins s σ H _ I h) λv s1 hZ2=>by obtain⟨x,H1,I1,r1,q1⟩:=hZ2;exact⟨σ,H1,I1,q1⟩) I.quiet hs
def tRet(te:TE):TS:=λD σ H=>te σ H D.rt
def Zc(he:PE X e te):PS X (.Return (some e) pos) (tRet te):=by
 intro pins s σ H D I h;exact JA (thn (he pins s σ H _ I h) λv s1 hZ2=>by obtain⟨x,H1,I1,r1,q1⟩:=hZ2;exact⟨x,σ,H1,I1,r1,q1⟩)
def tIfS(c:TT)(t u:TS):TS:=λD σ H=>c σ H λb H1=>if b=true then t D σ H1 else u D σ H1
def oM{c:Expr}{a b:List GC}{tc:TT}(hc:PT X c tc)(ha:PSs X a t)(hb:PSs X b u):PS X (.If c a b pos) (tIfS tc t u):=by
 intro pins s σ H D I h;refine wpAny_If (thn (hc pins s σ H _ I h) λd s1 hZ2=>?_);obtain⟨H1,I1,q1⟩:=hZ2;cases d with
 |true=>exact ha pins s1 σ H1 D I1 q1
 |false=>exact hb pins s1 σ H1 D I1 q1
end
abbrev TG:=V->St->Hp->(St->Hp->Prop)->Prop
abbrev TGs:=List V->St->Hp->(St->Hp->Prop)->Prop
def PG(X:Cx)(target:Expr)(t:TG):Prop:=
 ∀(pins:List (i9×Obj)) (s:i6) (σ:St) (H:Hp) (v:V) (u:g9) (Q:St->Hp->Prop),Inv X pins σ H s->RelV v u->t v σ H Q ->
  wpAny (u7 X.prog X.w) X.A (assign target X.env u) (λ_ s'=>∃σ' H',Inv X pins σ' H' s'/\Q σ' H') X.xe s
def PGs(X:Cx)(ts:List Expr)(t:TGs):Prop:=
 ∀(pins:List (i9×Obj)) (s:i6) (σ:St) (H:Hp) (vs:List V) (us:List g9) (Q:St->Hp->Prop),Inv X pins σ H s->Vals vs us->t vs σ H Q ->
  wpAny (u7 X.prog X.w) X.A (assignInOrder ((NE ts X.env).map (·.2)) us) (λ_ s'=>∃σ' H',Inv X pins σ' H' s'/\Q σ' H') X.xe s
section
variable {X:Cx}{pos:Pos}
def O1(i:Nat):TG:=λv σ H Q=>Q (σ.set i (some v)) H
def O8{i:Nat}{x:Str}(hN:X.N.Nodup)(hi:X.N[i]?=some x)(hx:Loc X.env.scope x)(hf:X.fn x=true\/X.env.scope.names.lookup x=some .local:=by first |exact .inl rfl |exact .inr rfl |assumption):PG X (.Name x pos) (O1 i):=by
 intro pins s σ H v u Q I r h;exact wpAny_assign_Name (Rg I hN hi hx r (λs' I'=>⟨_,H,I',h⟩) hf)
def fV:TGs:=λvs σ H Q=>vs=[]/\Q σ H
def Ax(t:TG)(u:TGs):TGs:=λvs σ H Q=>∃v r,vs=v::r/\t v σ H λσ' H'=>u r σ' H' Q
def Qi:PGs X [] fV:=by
 intro pins s σ H vs us Q I r h;obtain⟨e,h⟩:=h;subst e;cases r;exact assignInOrder_nil ⟨σ,H,I,h⟩
def U9{e:Expr}{es:List Expr}{t:TG}{u:TGs}(h1:PG X e t)(h2:PGs X es u)
 (hs:(NE (e::es) X.env).map (·.2)=assign e X.env::(NE es X.env).map (·.2):=by rfl):PGs X (e::es) (Ax t u):=by
 intro pins s σ H vs us Q I r h;obtain⟨v,vr,e1,h⟩:=h;subst e1;cases r with
 |cons r rr=>
  rw[hs];refine assignInOrder_cons (thn (h1 pins s σ H _ _ _ I r h) λ_ s1 hZ2=>?_);obtain⟨σ1,H1,I1,q1⟩:=hZ2;exact h2 pins s1 σ1 H1 _ _ Q I1 rr q1
def fU(K:i5)(n:Nat)(t:TGs):TG:=λv σ H Q=>∃a xs,v=.ref a/\SqT K H a xs/\xs.length=n/\t xs σ H Q
def Zd{es:List Expr}{k:Nat}{t:TGs}{n:Nat}(hc:X.calm=true)(h:PGs X es t)
 (hn:(NE es X.env).length=n:=by rfl) (hst:(NE es X.env).findIdx? (·.1)=none:=by rfl):PG X (.Tuple es k pos) (fU X.K n t):=by
 intro pins s σ H v u Q I r hw;obtain⟨a,xs,e1,hq,hl,hw⟩:=hw;subst e1;cases r;obtain⟨its,rv,ht,hz⟩:=I.tuple hq;refine assign_Tuple_tuple (I.ok.hd hc) ht (by simp[hn,<-hl,rv.length]) hst λh' hx=>?_;have I1:Inv X pins σ H {s with heap:=h'}:=I.kept (t':=s.toks) λb o e=>hx b o (z8 (q9 e)) e;exact h pins _ σ H xs _ Q I1 (by simpa using rv) hw
def tAsg(te:TE)(g:TG):TS:=λD σ H=>te σ H λx H1=>g x σ H1 D.nx
def Mv{i:Nat}{x:Str}{e:Expr}{te:TE}{pos':Pos}(hN:X.N.Nodup)(hi:X.N[i]?=some x)(hx:Loc X.env.scope x)(he:PE X e te)(hs:FT e (some (.Name x pos')) pos.line X.env=pure false:=by rfl)(hf:X.fn x=true\/X.env.scope.names.lookup x=some .local:=by first |exact .inl rfl |exact .inr rfl |assumption):
 PS X (.Assign [.Name x pos'] e pos) (tAsg te (O1 i)):=by
 intro pins s σ H D I h;refine wpAny_Assign_Name (thn (he pins s σ H _ I h) λv s1 hY4=>?_) hs;obtain⟨y,H1,I1,r1,q1⟩:=hY4;exact Rg I1 hN hi hx r1 (λs2 I2=>⟨_,H1,I2,q1⟩) hf
end
section
variable {X:Cx}{pos:Pos}
def xY(c:TT)(tb:TS):TS:=λD σ H=>∃W:Nat->St->Hp->Prop,(∃m,W m σ H)/\∀m σ H,W m σ H ->
 c σ H λb H1=>if b=true then ∃N:St->Hp->Prop,(∀σ' H',N σ' H'->∃m',m'<m/\W m' σ' H')/\tb {D with nx:=N,ct:=N,bk:=D.nx} σ H1 else D.nx σ H1
def oK{c:Expr}{body:List GC}{tc:TT}{tb:TS}(hp:PassesOwn (u7 X.prog X.w) X.A X.env X.xe)(hc:PT X c tc)(hb:PSs X body tb):PS X (.While c body [] pos) (xY tc tb):=by
 intro pins s σ H D I h;obtain⟨W,⟨m0,w0⟩,turn⟩:=h;refine wpAny_While (codeAny_whileLoop (λn s'=>∃σ' H',Inv X pins σ' H' s'/\W n σ' H') ?_ m0 ⟨σ,H,I,w0⟩);rintro n s1 ⟨σ1,H1,I1,w1⟩;refine HL hp (thn (hc pins s1 σ1 H1 _ I1 (turn n σ1 H1 w1)) λb s2 hZ2=>?_);obtain⟨H2,I2,q2⟩:=hZ2;cases b with
 |true=>
  obtain⟨N,hN,q2⟩:=q2;rw[iq rfl];refine HL hp (thn (hb pins s2 σ1 H2 _ I2 q2) λf s3 q3=>?_);cases f with
  |next=>
   obtain⟨σ3,H3,I3,n3⟩:=q3;obtain⟨m',hm,w3⟩:=hN σ3 H3 n3;exact⟨m',hm,σ3,H3,I3,w3⟩
  |cont=>
   obtain⟨σ3,H3,I3,n3⟩:=q3;obtain⟨m',hm,w3⟩:=hN σ3 H3 n3;exact⟨m',hm,σ3,H3,I3,w3⟩
  |brk=>exact q3
  |ret v=>exact q3
 |false=>
  rw[ir z6];exact IH ⟨σ1,H2,I2,q2⟩
end
structure It where
 go:Nat->Hp->Prop
 yld:Nat->Hp->V->Hp->Prop
 stop:Nat->Hp->Prop
def Nw(X:Cx)(pins:List (i9×Obj))(H:Hp)(b:i9):Prop:=
 H b=none/\b≠X.env.locals/\b∉X.fs/\(b∈X.ex\/X.s₀.heap.objs.size<=b)/\(∀x c,X.env.cells.lookup x=some c->c≠b)/\∀p∈X.pn++pins,p.1≠b
def Inv.fpOk{X:Cx}{pins:List (i9×Obj)}{σ:St}{H H':Hp}{s:i6}{b:i9}(I:Inv X pins σ H s)(hb:s.heap.objs.size<=b)(hn:H' b=none):Nw X pins H' b:=by
 refine⟨hn,IQ (y9 I.lt hb),I.nofs hb,.inr (l9 I.sz hb),λx c e z=>?_,λp hp z=>?_⟩
 .obtain⟨v,q⟩:=I.cell x c e
  exact absurd (y9 q.lt (by rw[z];exact hb)) (HD _)
 .exact absurd (y9 (q9 (I.pin p hp).1) (by rw[z];exact hb)) (HD _)
structure Turn(P:o9)(w:x8)(K:i5)(tg:Expr)(J:It)(fp:List i9)(it:i9)(tn:Nat->BL->Prop):Prop where
 mem:it∈fp
 obj:∀i h,tn i h->∀b∈fp,∃o,h.get? b=some o/\∀v,o.data≠.cell v
 keep:∀i h h',tn i h->(∀b∈fp,∀o,h.get? b=some o->h'.get? b=some o)->tn i h'
 item:∀(X:Cx),X.prog=P->X.w=w->X.K=K->X.calm=true->∀(i:Nat) (pins:List (i9×Obj)) (s:i6) (σ:St) (H:Hp) (E:g9->i6->Prop),Inv X pins σ H s->(∀b∈fp,Nw X pins H b)->tn i s.heap->J.go i H ->
  wpAny (u7 P w) X.A (KL (.ref it)) (λr s1=>∃u,r=some u /\
   wpAny (u7 P w) X.A (LZ tg (.ref it) u) (λ_ s2=>∃x H',Inv X pins σ H' s2/\RelV x u/\J.yld i H x H'/\tn (i+1) s2.heap/\∀b∈fp,H' b=none) E s1) E s
 done:∀(X:Cx),X.prog=P->X.w=w->X.K=K->X.calm=true->∀(i:Nat) (pins:List (i9×Obj)) (s:i6) (σ:St) (H:Hp) (E:g9->i6->Prop),Inv X pins σ H s->(∀b∈fp,Nw X pins H b)->tn i s.heap->J.stop i H ->
  wpAny (u7 P w) X.A (KL (.ref it)) (λr s1=>r=none/\Inv X pins σ H s1) E s
 self:∀(A:BO) (i:Nat) (s:i6) (Q:g9->i6->Prop) (E:g9->i6->Prop),tn i s.heap->Q (.ref it) s->wpAny (u7 P w) A (pyIter (.ref it)) Q E s
abbrev TI:=St->Hp->(It->Hp->Prop)->Prop
def PIE(X:Cx)(pins:List (i9×Obj))(σ:St)(tg:Expr)(R:It->Hp->Prop)(itv:g9)(s2:i6):Prop:=
 ∃(it:i9) (fp:List i9) (tn:Nat->BL->Prop) (J:It) (H':Hp),itv=.ref it/\Inv X pins σ H' s2/\Turn X.prog X.w X.K tg J fp it tn/\tn 0 s2.heap/\(∀b∈fp,Nw X pins H' b)/\R J H'
def PI(X:Cx)(tg iter:Expr)(wi:TI):Prop:=
 ∀(pins:List (i9×Obj)) (s:i6) (σ:St) (H:Hp) (R:It->Hp->Prop),Inv X pins σ H s->wi σ H R ->
  wpAny (u7 X.prog X.w) X.A (eval iter X.env) (λv s1=>wpAny (u7 X.prog X.w) X.A (pyIter v) (PIE X pins σ tg R) X.xe s1) X.xe s
def Xk{M:NR}{A:BO}{E:g9->i6->Prop}{s:i6}{tg:Expr}{it:i9}{u:g9}{o:Obj}{n:String}{vs:Array g9}{Q:Unit->i6->Prop}(ho:s.heap.get? it=some o)(hc:o.cls=.type n)(hd:o.data=.fields vs)
 (hn:["enumerate","zip","dict_itemiterator","dict_reverseitemiterator","odict_iterator","itertools.zip_longest","itertools.pairwise"].contains n=false) (hQ:Q () s):wpAny M A (LZ tg (.ref it) u) Q E s:=by
 unfold LZ;cases tg <;> first
  |exact i0 hQ
  | (cases u <;> first
   |exact i0 hQ
   | (refine f9 (wpAny_load ho ?_)
      rw[hc,hd];show wpAny M A (if (["enumerate","zip","dict_itemiterator","dict_reverseitemiterator","odict_iterator","itertools.zip_longest","itertools.pairwise"].contains n&&vs[0]?== some (HF _))=true then _ else _) Q E s;rw[ir (by intro h;rw[hn,Bool.false_and]at h;cases h)];exact i0 hQ))
def Itl(K:i5)(a:i9):It:=
 ⟨λi H=>∃xs x,SqL K H a xs/\xs[i]?=some x,λi H x H'=>H'=H/\∀xs,SqL K H a xs->xs[i]?=some x,λi H=>∃xs,SqL K H a xs/\xs.length<=i⟩
def Itt(K:i5)(a:i9):It:=
 ⟨λi H=>∃xs x,SqT K H a xs/\xs[i]?=some x,λi H x H'=>H'=H/\∀xs,SqT K H a xs->xs[i]?=some x,λi H=>∃xs,SqT K H a xs/\xs.length<=i⟩
noncomputable def Itr(lo:Int)(n:Nat):It:=⟨λi _=>i<n,λi H x H'=>H'=H/\x=.int (lo+i),λi _=>n<=i⟩
def jW{P:o9}{w:x8}{K:i5}{tg:Expr}(a it:i9):Turn P w K tg (Itl K a) [it] it (λi h=>h.IsListIter it a i) where
 mem:=by simp
 obj:=λi h st b hb=>by
  have e:b=it:=by simpa using hb
  subst e;obtain⟨o,e,c,d⟩:=st;exact⟨o,e,λv z=>by rw[d]at z;cases z⟩
 keep:=λi h h' st k=>st.at λo e=>k it (by simp) o e
 item:=by
  intro X hP hw hK hc i pins s σ H E I hf st hg;subst hP hw hK;obtain⟨xs,x,hq,hx⟩:=hg;obtain⟨its,rv,p,hz⟩:=I.list hq;obtain⟨u,hu,ru⟩:=rv.get hx;obtain⟨f0,f1,f2,f3,f4,f5⟩:=hf it (by simp);refine wpAny_pyNext_list_item st p.isList (x:=u) (by simpa using hu) λh' st' sb=>?_;have I1:Inv X pins σ H {s with heap:=h'}:=I.turned (t':=s.toks) (λb o hb e=>(sb.2 b hb).trans e) f0 f1 f3 f4 f5;obtain⟨o,e,c,d⟩:=id st';exact⟨u,rfl,Xk (s:={s with heap:=h'}) e c d (by decide) ⟨x,H,I1,ru,⟨rfl,λys hy=>by rw[I.list_inj hy hq];exact hx⟩,st',λb hb=>(hf b hb).1⟩⟩
 done:=by
  intro X hP hw hK hc i pins s σ H E I hf st hg;subst hP hw hK;obtain⟨xs,hq,hx⟩:=hg;obtain⟨its,rv,p,hz⟩:=I.list hq;obtain⟨f0,f1,f2,f3,f4,f5⟩:=hf it (by simp);have hl:=rv.length;exact wpAny_pyNext_list_end (I.ok.hd hc) st p.isList (by simp;lia) λh' eb=>⟨rfl,I.turned (t':=s.toks) (λb o hb e=>eb b o hb e) f0 f1 f3 f4 f5⟩
 self:=λ_ _ _ _ _ st h=>wpAny_pyIter_listiter st h
def eI{P:o9}{w:x8}{K:i5}{tg:Expr}(a it:i9):Turn P w K tg (Itt K a) [it] it (λi h=>h.IsTupleIter it a i) where
 mem:=by simp
 obj:=λi h st b hb=>by
  have e:b=it:=by simpa using hb
  subst e;obtain⟨o,e,c,d⟩:=st;exact⟨o,e,λv z=>by rw[d]at z;cases z⟩
 keep:=λi h h' st k=>st.at λo e=>k it (by simp) o e
 item:=by
  intro X hP hw hK hc i pins s σ H E I hf st hg;subst hP hw hK;obtain⟨xs,x,hq,hx⟩:=hg;obtain⟨its,rv,p,hz⟩:=I.tuple hq;obtain⟨u,hu,ru⟩:=rv.get hx;obtain⟨f0,f1,f2,f3,f4,f5⟩:=hf it (by simp);refine wpAny_pyNext_tuple_item st (show s.heap.IsTuple a its.toArray from p) (x:=u) (by simpa using hu) λh' st' sb=>?_;have I1:Inv X pins σ H {s with heap:=h'}:=I.turned (t':=s.toks) (λb o hb e=>(sb.2 b hb).trans e) f0 f1 f3 f4 f5;obtain⟨o,e,c,d⟩:=id st';exact⟨u,rfl,Xk (s:={s with heap:=h'}) e c d (by decide) ⟨x,H,I1,ru,⟨rfl,λys hy=>by rw[I.tuple_inj hy hq];exact hx⟩,st',λb hb=>(hf b hb).1⟩⟩
 done:=by
  intro X hP hw hK hc i pins s σ H E I hf st hg;subst hP hw hK;obtain⟨xs,hq,hx⟩:=hg;obtain⟨its,rv,p,hz⟩:=I.tuple hq;obtain⟨f0,f1,f2,f3,f4,f5⟩:=hf it (by simp);have hl:=rv.length;exact wpAny_pyNext_tuple_end (I.ok.hd hc) st (show s.heap.IsTuple a its.toArray from p) (by simp;lia) λh' eb=>⟨rfl,I.turned (t':=s.toks) (λb o hb e=>eb b o hb e) f0 f1 f3 f4 f5⟩
 self:=λ_ _ _ _ _ st h=>wpAny_pyIter_tupleiter st h
def eJ{P:o9}{w:x8}{K:i5}{tg:Expr}(it:i9)(lo:Int)(n:Nat):Turn P w K tg (Itr lo n) [it] it (λi h=>IsRangeIter h it (lo+(i:Nat)*1) ((n:Int)-(i:Nat)) 1) where
 mem:=by simp
 obj:=λi h st b hb=>by
  have e:b=it:=by simpa using hb
  subst e;exact⟨_,st,λv z=>by
   have z':Data.fields _=Data.cell v:=z;cases z'⟩
 keep:=λi h h' st k=>k it (by simp) _ st
 item:=by
  intro X hP hw hK hc i pins s σ H E I hf st hg;subst hP hw hK;obtain⟨f0,f1,f2,f3,f4,f5⟩:=hf it (by simp);have W:=Walks.range (prog:=X.prog) (w:=X.w) (I.ok.hd hc) it lo 1 n;refine W.item i s _ _ hg st λv h' tk hv st' kk=>?_;obtain⟨t,rfl⟩:=hv;have I1:Inv X pins σ H {s with heap:=h',toks:=tk}:=I.turned (λb o hb e=>kk b o (by simpa using hb) e) f0 f1 f3 f4 f5;refine⟨_,rfl,Xk (s:={s with heap:=h',toks:=tk}) (n:="range_iterator") st' rfl rfl (by decide) ⟨.int (lo+i),H,I1,⟨t,?_⟩,⟨rfl,rfl⟩,st',λb hb=>(hf b hb).1⟩⟩;rw[Int.mul_one]
 done:=by
  intro X hP hw hK hc i pins s σ H E I hf st hg;subst hP hw hK;obtain⟨f0,f1,f2,f3,f4,f5⟩:=hf it (by simp);exact wpAny_pyNext_range_end (I.ok.hd hc) st (by have:n<=i:=hg;lia) λh' eb=>⟨rfl,I.turned (t':=s.toks) (λb o hb e=>eb b o hb e) f0 f1 f3 f4 f5⟩
 self:=λ_ _ _ _ _ st h=>wpAny_pyIter_rangeiter st h
section
variable {X:Cx}{tg:Expr}
def oE{pins:List (i9×Obj)}{σ:St}{H:Hp}{s:i6}{R:It->Hp->Prop}{E:g9->i6->Prop}{lo hi:Int}{t u v:Tok}{tk:Nat}(I:Inv X pins σ H s)(h1 : -(2 ^ 62)<=lo)(h2:lo<2 ^ 62)(h3 : -(2 ^ 62)<=hi)(h4:hi<2 ^ 62)
 (q:R (Itr lo (hi-lo).toNat) H):wpAny (u7 X.prog X.w) X.A (pyIter (.ref s.heap.objs.size)) (PIE X pins σ tg R) E {s with heap:=s.heap.push {cls:=.type "range",data:=.fields #[.int lo t,.int hi u,.int 1 v]},toks:=tk}:=by
 refine wpAny_pyIter_range (IsRange.new ..) (small_one h1 h2 h3 h4) ?_;have I1:Inv X pins σ H {s with heap:=s.heap.push {cls:=.type "range",data:=.fields #[.int lo t,.int hi u,.int 1 v]},toks:=tk}:=I.kept λb o e=>l8 _ e;refine⟨(s.heap.push {cls:=.type "range",data:=.fields #[.int lo t,.int hi u,.int 1 v]}).objs.size,[(s.heap.push {cls:=.type "range",data:=.fields #[.int lo t,.int hi u,.int 1 v]}).objs.size],_,_,H,rfl,
  I1.kept (t':=tk) λb o e=>l8 _ e,eJ _ lo (hi-lo).toNat,?_,λb hb=>?_,q⟩
 .have e1:lo+((0:Nat):Int)*1=lo:=by simp
  have e2:(((hi-lo).toNat:Nat):Int)-((0:Nat):Int)=Builtin.Range.rangeSize lo hi 1:=by rw[rangeSize_one];split <;> lia
  show IsRangeIter _ _ (lo+((0:Nat):Int)*1) ((((hi-lo).toNat:Nat):Int)-((0:Nat):Int)) 1;rw[e1,e2];exact x5 _ rfl
 .have e:b=(s.heap.push {cls:=.type "range",data:=.fields #[.int lo t,.int hi u,.int 1 v]}).objs.size:=by simpa using hb
  subst e;exact I1.fpOk (s0 _) (I1.hok.fresh (s0 _))
def iRng1(ta:TA):TI:=λσ H R=>ta σ H λvs H1=>∃j:Int,vs=[.int j]/\-(2 ^ 62)<=j/\j<2 ^ 62/\R (Itr 0 j.toNat) H1
def kS{a:Expr}{ta:TA}{p pos:Pos}(hg:Gl X "range")(hm:X.mg "range"=none)(ha:PA X [a] ta)(hs:i8 [a] X.env=[(false,eval a X.env)]:=by rfl):PI X tg (.Call (.Name "range" p) [a] [] pos) (iRng1 ta):=by
 intro pins s σ H R I h;refine Call_ (Ij I hg hm boot_range (EB (thn (ha pos pins s σ H _ I h) λus s1 hY6=>?_) hs rfl));obtain⟨vs,H1,I1,r1,q1⟩:=hY6;obtain⟨j,e,q1,q2,q⟩:=q1;subst e;cases r1 with
 |cons r rr=>
  cases rr;obtain⟨t,rfl⟩:=r;exact call_range_1 (oE I1 (by lia) (by lia) q1 q2 (by simpa using q))
def tFor(wi:TI)(g:TG)(tb:TS):TS:=λD σ H=>wi σ H λJ H1=>∃W:Nat->Nat->St->Hp->Prop,(∃m,W 0 m σ H1)/\∀i m σ H,W i m σ H ->
 (J.stop i H/\D.nx σ H)\/(J.go i H/\∃N:St->Hp->Prop,(∀σ' H',N σ' H'->∃m',m'<m/\W (i+1) m' σ' H')/\∀x H',J.yld i H x H'->g x σ H' λσ2 H2=>tb {D with nx:=N,ct:=N,bk:=D.nx} σ2 H2)
noncomputable def Ss(fp:List i9)(h:BL):List (i9×Obj):=fp.filterMap λb=>(h.get? b).map λo=>(b,o)
def Kr{fp:List i9}{h:BL}{b:i9}{o:Obj}(hb:b∈fp)(e:h.get? b=some o):(b,o)∈Ss fp h:=MH.mpr ⟨b,hb,by rw[e];rfl⟩
def kU{fp:List i9}{h:BL}{p:i9×Obj}(hp:p∈Ss fp h):p.1∈fp/\h.get? p.1=some p.2:=by
 obtain⟨b,hb,e⟩:=MH.mp hp;cases q:h.get? b with
 |none=>rw[q]at e;cases e
 |some o=>
  rw[q]at e;have e':(b,o)=p:=BS e;subst e';exact⟨hb,q⟩
def Inv.pinned{pins:List (i9×Obj)}{σ:St}{H:Hp}{s:i6}{fp:List i9}(I:Inv X pins σ H s)(hf:∀b∈fp,Nw X pins H b)(ho:∀b∈fp,∃o,s.heap.get? b=some o/\∀v,o.data≠.cell v):Inv X (pins++Ss fp s.heap) σ H s:=
 I.pins_of λp hp=>(m6.mp hp).elim (λz=>I.pin p (EC _ z)) λz=>by
  obtain⟨hb,e⟩:=kU z;obtain⟨f0,f1,f2,_⟩:=hf p.1 hb;obtain⟨o,e',d⟩:=ho p.1 hb;rw[e]at e';cases e';exact⟨e,f0,f1,f2,d⟩
def Inv.unpinned{pins pl:List (i9×Obj)}{σ:St}{H:Hp}{s:i6}(I:Inv X (pins++pl) σ H s):Inv X pins σ H s:=I.pins_of λp hp=>I.pin p (EC _ (LQ _ hp))
def fE{iter:Expr}{body:List GC}{wi:TI}{g:TG}{tb:TS}{pos:Pos}(hp:PassesOwn (u7 X.prog X.w) X.A X.env X.xe)(hc:X.calm=true)(hi:PI X tg iter wi)(hg:PG X tg g)(hb:PSs X body tb)
 (hs:∀x,CB iter X.env x=pure x:=by intro _;rfl):PS X (.For tg iter body [] pos) (tFor wi g tb):=by
 intro pins s σ H D I h;refine wpAny_For (thn (hi pins s σ H _ I h) λv s1 h1=>thn h1 λitv s2 h2=>?_) hs;obtain⟨it,fp,tn,J,H2,e,I2,T,st2,f2,W,⟨m0,w0⟩,turn⟩:=h2;subst e;have stat:∀{H':Hp},(∀b∈fp,H' b=none)->∀b∈fp,Nw X pins H' b:=λhn b hb=>⟨hn b hb,(f2 b hb).2⟩;refine codeAny_forLoop_any (λn s'=>∃i σ' H',Inv X pins σ' H' s'/\tn i s'.heap/\(∀b∈fp,H' b=none)/\W i n σ' H') ?_ m0 ⟨0,σ,H2,I2,st2,λb hb=>(f2 b hb).1,w0⟩;rintro n s3 ⟨i,σ3,H3,I3,st3,fr3,w3⟩;rcases turn i n σ3 H3 w3 with⟨stop,qn⟩ |⟨go,N,hN,step⟩
 .refine HL hp (thn (T.done X rfl rfl rfl hc i pins s3 σ3 H3 X.xe I3 (stat fr3) st3 stop) λr s4 hZ2=>?_)
  obtain⟨hr,I4⟩:=hZ2;subst hr;exact IH ⟨σ3,H3,I4,qn⟩
 .refine HL hp (thn (T.item X rfl rfl rfl hc i pins s3 σ3 H3 X.xe I3 (stat fr3) st3 go) λr s4 hZ2=>?_)
  obtain⟨u,hr,h4⟩:=hZ2;subst hr;refine HL hp (thn h4 λ_ s5 hZ2=>?_);obtain⟨x,H5,I5,r5,y5,st5,fr5⟩:=hZ2;have I5':=I5.pinned (stat fr5) (T.obj _ _ st5);refine HL hp (thn (hg _ s5 σ3 H5 x u _ I5' r5 (step x H5 y5)) λ_ s6 hZ2=>?_);obtain⟨σ6,H6,I6,q6⟩:=hZ2;refine HL hp (thn (hb _ s6 σ6 H6 _ I6 q6) λf s7 q7=>?_);have again:∀{σ7:St} {H7:Hp},Inv X (pins++Ss fp s5.heap) σ7 H7 s7->N σ7 H7->∃m,m<n/\∃i σ' H',Inv X pins σ' H' s7/\tn i s7.heap/\(∀b∈fp,H' b=none)/\W i m σ' H':=λ{σ7 H7} I7 n7=>by
   obtain⟨m',hm,w7⟩:=hN σ7 H7 n7;refine⟨m',hm,i+1,σ7,H7,I7.unpinned,T.keep _ _ _ st5 λb hb o e=>(I7.pin (b,o) (EC _ (EC _ (Kr hb e)))).1,λb hb=>?_,w7⟩;obtain⟨o,e,d⟩:=T.obj _ _ st5 b hb;exact(I7.pin (b,o) (EC _ (EC _ (Kr hb e)))).2.1
  cases f with
  |next=>obtain⟨σ7,H7,I7,n7⟩:=q7;exact again I7 n7
  |cont=>obtain⟨σ7,H7,I7,n7⟩:=q7;exact again I7 n7
  |brk=>obtain⟨σ7,H7,I7,q7⟩:=q7;exact⟨σ7,H7,I7.unpinned,q7⟩
  |ret v=>obtain⟨x7,σ7,H7,I7,r7,q7⟩:=q7;exact⟨x7,σ7,H7,I7.unpinned,r7,q7⟩
end
abbrev R2:=V->V->Hp->VK->Prop
def OpR(X:Cx)(f:g9->g9->Sem g9)(r:R2):Prop:=
 ∀(pins:List (i9×Obj)) (s:i6) (σ:St) (H:Hp) (x y:V) (v u:g9) (Q:VK),Inv X pins σ H s->RelV x v->RelV y u->r x y H Q ->
  wpAny (u7 X.prog X.w) X.A (f v u) (EP X pins σ Q) X.xe s
def UnR(X:Cx)(f:g9->Sem g9)(r:V->Hp->VK->Prop):Prop:=
 ∀(pins:List (i9×Obj)) (s:i6) (σ:St) (H:Hp) (x:V) (v:g9) (Q:VK),Inv X pins σ H s->RelV x v->r x H Q ->
  wpAny (u7 X.prog X.w) X.A (f v) (EP X pins σ Q) X.xe s
def Bb(X:Cx)(f:g9)(r:List V->Hp->VK->Prop):Prop:=
 ∀(pins:List (i9×Obj)) (s:i6) (σ:St) (H:Hp) (xs:List V) (us:List g9) (Q:VK),Inv X pins σ H s->Vals xs us->r xs H Q ->
  wpAny (u7 X.prog X.w) X.A (call f us) (EP X pins σ Q) X.xe s
def TruR(X:Cx)(r:V->Hp->(Bool->Hp->Prop)->Prop):Prop:=
 ∀(pins:List (i9×Obj)) (s:i6) (σ:St) (H:Hp) (x:V) (v:g9) (Q:Bool->Hp->Prop),Inv X pins σ H s->RelV x v->r x H Q ->
  wpAny (u7 X.prog X.w) X.A (truthy v) (TP X pins σ Q) X.xe s
def tOp(r:R2)(ta tb:TE):TE:=λσ H Q=>ta σ H λx H1=>tb σ H1 λy H2=>r x y H2 Q
def tUn(r:V->Hp->VK->Prop)(ta:TE):TE:=λσ H Q=>ta σ H λx H1=>r x H1 Q
def rI(C:Int->Int->Prop)(g:Int->Int->V):R2:=λx y H Q=>∃i j,x=.int i/\y=.int j/\C i j/\Q (g i j) H
def rI0(g:Int->Int->V):R2:=λx y H Q=>∃i j,x=.int i/\y=.int j/\Q (g i j) H
def rU(g:Int->V):V->Hp->VK->Prop:=λx H Q=>∃i,x=.int i/\Q (g i) H
section
variable {X:Cx}{a b:Expr}{ta tb:TE}{pos:Pos}
def BA(ha:PE X a ta)(hb:PE X b tb){pins:List (i9×Obj)}{s:i6}{σ:St}{H:Hp}{R:V->V->Hp->Prop}(I:Inv X pins σ H s)
 (h:ta σ H λx H1=>tb σ H1 λy H2=>R x y H2) {Q:g9->i6->Prop} {f:g9->g9->Sem g9}
 (hf:∀v u s2 x y H2,Inv X pins σ H2 s2->RelV x v->RelV y u->R x y H2->wpAny (u7 X.prog X.w) X.A (f v u) Q X.xe s2):
 wpAny (u7 X.prog X.w) X.A (eval a X.env) (λv s₁=>wpAny (u7 X.prog X.w) X.A (eval b X.env) (λu s₂=>wpAny (u7 X.prog X.w) X.A (f v u) Q X.xe s₂) X.xe s₁) X.xe s:=by
 refine thn (ha pins s σ H _ I h) λv s1 hZ2=>?_;obtain⟨x,H1,I1,r1,q1⟩:=hZ2;refine thn (hb pins s1 σ H1 _ I1 q1) λu s2 hZ2=>?_;obtain⟨y,H2,I2,r2,q2⟩:=hZ2;exact hf v u s2 x y H2 I2 r1 r2 q2
def wW{op:Operator}{r:R2}(ho:OpR X (LL op) r)(ha:PE X a ta)(hb:PE X b tb):PE X (.BinOp a op b pos) (tOp r ta tb):=by
 intro pins s σ H Q I h;exact wpAny_BinOp (BA ha hb I h λv u s2 x y H2 I2 rx ry q=>ho pins s2 σ H2 x y v u Q I2 rx ry q)
def iF{op:UnaryOp}{r:V->Hp->VK->Prop}(ho:UnR X (unaryOp op) r)(ha:PE X a ta):PE X (.UnaryOp op a pos) (tUn r ta):=by
 intro pins s σ H Q I h;exact UnaryOp_ (thn (ha pins s σ H _ I h) λv s1 hZ2=>by obtain⟨x,H1,I1,r1,q1⟩:=hZ2;exact ho pins s1 σ H1 x v Q I1 r1 q1)
def opI{f:g9->g9->Sem g9}{C:Int->Int->Prop}{g:Int->Int->Int}
 (rule:∀(i j:Int) (t u:Tok) (s:i6) (Q:g9->i6->Prop) (E:g9->i6->Prop),C i j->Q (.int (g i j) s.toks) {s with toks:=s.toks+1}->wpAny (u7 X.prog X.w) X.A (f (.int i t) (.int j u)) Q E s):
 OpR X f (rI C λi j=>.int (g i j)):=by
 intro pins s σ H x y v u Q I rx ry h;obtain⟨i,j,rfl,rfl,hc,q⟩:=h;obtain⟨t,rfl⟩:=rx;obtain⟨t',rfl⟩:=ry;exact rule i j t t' s _ _ hc ⟨.int (g i j),H,I.tok _,⟨_,rfl⟩,q⟩
def opI0{f:g9->g9->Sem g9}{g:Int->Int->Int}
 (rule:∀(i j:Int) (t u:Tok) (s:i6) (Q:g9->i6->Prop) (E:g9->i6->Prop),Q (.int (g i j) s.toks) {s with toks:=s.toks+1}->wpAny (u7 X.prog X.w) X.A (f (.int i t) (.int j u)) Q E s):
 OpR X f (rI0 λi j=>.int (g i j)):=by
 intro pins s σ H x y v u Q I rx ry h;obtain⟨i,j,rfl,rfl,q⟩:=h;obtain⟨t,rfl⟩:=rx;obtain⟨t',rfl⟩:=ry;exact rule i j t t' s _ _ ⟨.int (g i j),H,I.tok _,⟨_,rfl⟩,q⟩
noncomputable def CDiv(i j:Int):Prop:=0<j/\j<1073741824
noncomputable def CMul(i j:Int):Prop:=(-(2 ^ 64)<i/\i<2 ^ 64)\/(-(2 ^ 64)<j/\j<2 ^ 64)
def CMul.ok{i j:Int}(h:CMul i j):IntMulOk i j:=by
 rcases h with⟨h1,h2⟩ |⟨h1,h2⟩
 .exact .of_left (intBits_le_64 h1 h2)
 .exact .of_right (intBits_le_64 h1 h2)
def pA:OpR X (LL .Sub) (rI0 λi j=>.int (i-j)):=opI0 λ_ _ _ _ _ _ _ q=>sub_int q
def tU:OpR X (LL .FloorDiv) (rI CDiv λi j=>.int (i/j)):=opI λi j _ _ _ _ _ hc q=>by
 have h1:(0:Int)<j:=hc.1;have h2:j<1073741824:=hc.2;exact floordiv_int (by lia) (by rw[Int.fdiv_eq_ediv_of_nonneg i (by lia)];exact q) (.inl (PyProof.noPylong_small (by lia)))
def zK:OpR X (LL .Mod) (rI (λ_ j=>0<j) λi j=>.int (i%j)):=opI λi j _ _ _ _ _ hc q=>by
 have h1:(0:Int)<j:=hc;exact mod_int' (by lia) (by rw[Int.fmod_eq_emod_of_nonneg i (by lia)];exact q)
def unI{f:g9->Sem g9}{g:Int->Int}
 (rule:∀(i:Int) (t:Tok) (s:i6) (Q:g9->i6->Prop) (E:g9->i6->Prop),Q (.int (g i) s.toks) {s with toks:=s.toks+1}->wpAny (u7 X.prog X.w) X.A (f (.int i t)) Q E s):
 UnR X f (rU λi=>.int (g i)):=by
 intro pins s σ H x v Q I rx h;obtain⟨i,rfl,q⟩:=h;obtain⟨t,rfl⟩:=rx;exact rule i t s _ _ ⟨.int (g i),H,I.tok _,⟨_,rfl⟩,q⟩
def Yf:UnR X (unaryOp .USub) (rU λi=>.int (-i)):=unI λ_ _ _ _ _ q=>neg_int q
end
noncomputable def scal:V->V->Bool
 |.non,.non=>true |.non,.int _=>true |.int _,.non=>true |.non,.bl _=>true |.bl _,.non=>true |.non,.str _=>true |.str _,.non=>true
 |.int _,.int _=>true |.bl _,.bl _=>true |.str _,.str _=>true |.byt _,.byt _=>true
 |.int _,.str _=>true |.str _,.int _=>true |.bl _,.str _=>true |.str _,.bl _=>true
 |_,_=>false
def rEq:R2:=λx y H Q=>scal x y=true/\Q (.bl (decide (x=y))) H
def rNe:R2:=λx y H Q=>scal x y=true/\Q (.bl (!decide (x=y))) H
def Zx{i j:Int}:decide (V.int i=V.int j)=(i==j):=by
 rw[CZ];simp
def qZ{i j:Bool}:decide (V.bl i=V.bl j)=(i==j):=by
 rw[CZ];simp
def iY{i j:Str}:decide (V.str i=V.str j)=(i==j):=by
 rw[CZ];simp
def iZ{i j:Array UInt8}:decide (V.byt i=V.byt j)=(i.toList==j.toList):=by
 rw[CZ];cases i;cases j;simp
section
variable {X:Cx}{a b c:Expr}{ta tb tc:TE}{pos:Pos}
def L4{pins:List (i9×Obj)}{σ:St}{H:Hp}{s:i6}{Q:VK}{k k':Bool}(I:Inv X pins σ H s)(q:Q (.bl k) H)(e:k=k'):EP X pins σ Q (.bool k') s:=by
 subst e;exact⟨.bl k,H,I,rfl,q⟩
def op_eq:OpR X (CH .Eq) rEq:=by
 intro pins s σ H x y v u Q I rx ry h;obtain⟨hs,q⟩:=h;cases x with
 |non=>
  cases rx;cases y with
  |non=>cases ry;exact PySem.EqNone.eq_none_none (L4 I q (by simp))
  |bl j=>cases ry;exact PySem.EqNone.eq_none_bool (L4 I q (by simp))
  |int j=>obtain⟨t',rfl⟩:=ry;exact PySem.EqNone.eq_none_int (L4 I q (by simp))
  |str j=>obtain⟨t',rfl⟩:=ry;exact PySem.EqNone.eq_none_str (L4 I q (by simp))
  |_=>exact absurd (show false=true from hs) z6
 |bl i=>
  cases rx;cases y with
  |non=>cases ry;exact PySem.EqNone.eq_bool_none (L4 I q (by simp))
  |bl j=>cases ry;exact eq_bool (L4 I q qZ)
  |str j=>obtain⟨t',rfl⟩:=ry;exact PySem.EqMixed.eq_bool_str (L4 I q (by simp))
  |_=>exact absurd (show false=true from hs) z6
 |int i=>
  obtain⟨t,rfl⟩:=rx;cases y with
  |non=>cases ry;exact PySem.EqNone.eq_int_none (L4 I q (by simp))
  |int j=>obtain⟨t',rfl⟩:=ry;exact eq_int (L4 I q Zx)
  |str j=>obtain⟨t',rfl⟩:=ry;exact PySem.EqMixed.eq_int_str (L4 I q (by simp))
  |_=>exact absurd (show false=true from hs) z6
 |str i=>
  obtain⟨t,rfl⟩:=rx;cases y with
  |non=>cases ry;exact PySem.EqNone.eq_str_none (L4 I q (by simp))
  |bl j=>cases ry;exact PySem.EqMixed.eq_str_bool (L4 I q (by simp))
  |int j=>obtain⟨t',rfl⟩:=ry;exact PySem.EqMixed.eq_str_int (L4 I q (by simp))
  |str j=>obtain⟨t',rfl⟩:=ry;exact eq_str (L4 I q iY)
  |_=>exact absurd (show false=true from hs) z6
 |byt i=>
  obtain⟨t,rfl⟩:=rx;cases y with
  |byt j=>obtain⟨t',rfl⟩:=ry;exact PySem.W.eq_bytes (L4 I q iZ)
  |_=>exact absurd (show false=true from hs) z6
 |_=>cases y <;> exact absurd (show false=true from hs) z6
def op_ne:OpR X (CH .NotEq) rNe:=by
 intro pins s σ H x y v u Q I rx ry h;obtain⟨hs,q⟩:=h;cases x with
 |non=>
  cases rx;cases y with
  |non=>cases ry;exact PySem.EqNone.ne_none_none (L4 I q (by simp))
  |bl j=>cases ry;exact PySem.EqNone.ne_none_bool (L4 I q (by simp))
  |int j=>obtain⟨t',rfl⟩:=ry;exact PySem.EqNone.ne_none_int (L4 I q (by simp))
  |str j=>obtain⟨t',rfl⟩:=ry;exact PySem.EqNone.ne_none_str (L4 I q (by simp))
  |_=>exact absurd (show false=true from hs) z6
 |bl i=>
  cases rx;cases y with
  |non=>cases ry;exact PySem.EqNone.ne_bool_none (L4 I q (by simp))
  |bl j=>cases ry;exact ne_bool (L4 I q (congrArg not qZ))
  |str j=>obtain⟨t',rfl⟩:=ry;exact PySem.EqMixed.ne_bool_str (L4 I q (by simp))
  |_=>exact absurd (show false=true from hs) z6
 |int i=>
  obtain⟨t,rfl⟩:=rx;cases y with
  |non=>cases ry;exact PySem.EqNone.ne_int_none (L4 I q (by simp))
  |int j=>obtain⟨t',rfl⟩:=ry;exact ne_int (L4 I q (congrArg not Zx))
  |str j=>obtain⟨t',rfl⟩:=ry;exact PySem.EqMixed.ne_int_str (L4 I q (by simp))
  |_=>exact absurd (show false=true from hs) z6
 |str i=>
  obtain⟨t,rfl⟩:=rx;cases y with
  |non=>cases ry;exact PySem.EqNone.ne_str_none (L4 I q (by simp))
  |bl j=>cases ry;exact PySem.EqMixed.ne_str_bool (L4 I q (by simp))
  |int j=>obtain⟨t',rfl⟩:=ry;exact PySem.EqMixed.ne_str_int (L4 I q (by simp))
  |str j=>obtain⟨t',rfl⟩:=ry;exact ne_str (L4 I q (congrArg not iY))
  |_=>exact absurd (show false=true from hs) z6
 |byt i=>
  obtain⟨t,rfl⟩:=rx;cases y with
  |byt j=>obtain⟨t',rfl⟩:=ry;exact PySem.W.ne_bytes (L4 I q (congrArg not iZ))
  |_=>exact absurd (show false=true from hs) z6
 |_=>cases y <;> exact absurd (show false=true from hs) z6
def Ih(b:Expr){op:FA}(h:op≠.In:=by decide)(h2:op≠.NotIn:=by decide):behindInMarks op b=false:=by
 have e1:(op==CmpOp.In)=false:=by cases op <;> first |rfl |exact absurd rfl h
 have e2:(op==CmpOp.NotIn)=false:=by cases op <;> first |rfl |exact absurd rfl h2
 cases b <;> simp[behindInMarks,e1,e2]
def tM{op:FA}{r:R2}(ho:OpR X (CH op) r)(ha:PE X a ta)(hb:PE X b tb)(hm:behindInMarks op b=false):PE X (.Compare a [op] [b] pos) (tOp r ta tb):=by
 intro pins s σ H Q I h;exact wpAny_Compare1 (BA ha hb I h λv u s2 x y H2 I2 rx ry q=>ho pins s2 σ H2 x y v u Q I2 rx ry q) hm
def wN(t:TE):TT:=λσ H Q=>t σ H λx H'=>∃k,x=.bl k/\Q k H'
def Za{op:FA}{r:R2}(ho:OpR X (CH op) r)(ha:PE X a ta)(hb:PE X b tb)(hm:behindInMarks op b=false):PT X (.Compare a [op] [b] pos) (wN (tOp r ta tb)):=by
 intro pins s σ H Q I h;refine wpAny_isTrue_Compare1 (thn (ha pins s σ H _ I h) λv s1 hY8=>?_) hm;obtain⟨x,H1,I1,r1,q1⟩:=hY8;refine thn (hb pins s1 σ H1 _ I1 q1) λu s2 hY9=>?_;obtain⟨y,H2,I2,r2,q2⟩:=hY9;refine thn (ho pins s2 σ H2 x y v u _ I2 r1 r2 q2) λc s3 hY10=>?_;obtain⟨z,H3,I3,r3,k,e,q3⟩:=hY10;subst e;cases r3;exact ED ⟨H3,I3,q3⟩
def nE(r r':R2)(ta tb tc:TE):TE:=λσ H Q=>ta σ H λx H1=>tb σ H1 λy H2=>r x y H2 λz H3=>∃k,z=.bl k /\
 (if k=true then tc σ H3 λw' H4=>r' y w' H4 Q else Q (.bl false) H3)
def oW{op op':FA}{r r':R2}(ho:OpR X (CH op) r)(ho':OpR X (CH op') r')(ha:PE X a ta)(hb:PE X b tb)(hc:PE X c tc)
 (hm:KD [op,op'] [b,c]=false:=by with_unfolding_all rfl):PE X (.Compare a [op,op'] [b,c] pos) (nE r r' ta tb tc):=by
 intro pins s σ H Q I h;refine Compare_chain (thn (ha pins s σ H _ I h) λv s1 hY11=>?_) hm;obtain⟨x,H1,I1,r1,q1⟩:=hY11;refine chain_link (thn (hb pins s1 σ H1 _ I1 q1) λu s2 hY12=>?_);obtain⟨y,H2,I2,r2,q2⟩:=hY12;refine thn (ho pins s2 σ H2 x y v u _ I2 r1 r2 q2) λd s3 hY13=>?_;obtain⟨z,H3,I3,r3,k,e,q3⟩:=hY13;subst e;cases r3;refine ED ?_;cases k with
 |false=>exact ite_ff ⟨.bl false,H3,I3,rfl,q3⟩
 |true=>exact ite_tt (chain_last (thn (hc pins s3 σ H3 _ I3 q3) λw' s4 hZ2=>by obtain⟨z',H4,I4,r4,q4⟩:=hZ2;exact ho' pins s4 σ H4 y z' u w' Q I4 r2 r4 q4))
def bO{op op':FA}{r r':R2}(ho:OpR X (CH op) r)(ho':OpR X (CH op') r')(ha:PE X a ta)(hb:PE X b tb)(hc:PE X c tc)
 (hm:KD [op,op'] [b,c]=false:=by with_unfolding_all rfl):PT X (.Compare a [op,op'] [b,c] pos) (wN (nE r r' ta tb tc)):=by
 intro pins s σ H Q I h;refine isTrue_chain (thn (ha pins s σ H _ I h) λv s1 hY14=>?_) hm;obtain⟨x,H1,I1,r1,q1⟩:=hY14;refine test_link (thn (hb pins s1 σ H1 _ I1 q1) λu s2 hY15=>?_);obtain⟨y,H2,I2,r2,q2⟩:=hY15;refine thn (ho pins s2 σ H2 x y v u _ I2 r1 r2 q2) λd s3 hY16=>?_;obtain⟨z,H3,I3,r3,k,e,q3⟩:=hY16;subst e;cases r3;refine ED ?_;cases k with
 |false=>
  obtain⟨k',e',q'⟩:=q3;cases e';exact ite_ff ⟨H3,I3,q'⟩
 |true=>
  refine ite_tt (test_last (thn (hc pins s3 σ H3 _ I3 q3) λw' s4 hY17=>?_));obtain⟨z',H4,I4,r4,q4⟩:=hY17;refine thn (ho' pins s4 σ H4 y z' u w' _ I4 r2 r4 q4) λd' s5 hZ2=>?_;obtain⟨z2,H5,I5,r5,k2,e2,q5⟩:=hZ2;subst e2;cases r5;exact ED ⟨H5,I5,q5⟩
def BF(K:i5)(x:V)(H:Hp)(k:Bool):Prop:=
 match x with
 |.non=>k=false
 |.bl b=>k=b
 |.int i=>k=(i != 0)
 |.str y=>y.length<=sizeLine/\k=((y.length:Int) != 0)
 |.byt y=>y.size<=sizeLine/\k=((y.size:Int) != 0)
 |.ref p=>(∃xs,SqL K H p xs/\k=!xs.isEmpty)\/(∃xs,SqT K H p xs/\k=!xs.isEmpty)\/∃kvs,H p=some (.dK kvs)/\k=!kvs.isEmpty
 |_=>False
def fP{κ:Type}{kvs:List (κ×V)}{vs:List (κ×g9)}(r:KV kvs vs):(!vs.isEmpty)=!kvs.isEmpty:=by
 cases r <;> rfl
def Tf{xs:List V}{its:List g9}(r:Vals xs its):(!its.toArray.isEmpty)=!xs.isEmpty:=by
 cases r <;> simp
def Ii:(sizeLine:Nat)<2 ^ 63:=by rw[KS];decide
def xQ:TruR X (λx H Q=>∃k,BF X.K x H k/\Q k H):=by
 intro pins s σ H x v Q I rx h;obtain⟨k,e,q⟩:=h;have hl:=Ii;have hs:sizeLine=16777216:=KS;cases x with
 |non=>
  cases rx;have e':k=false:=e;subst e';exact truthy_none ⟨H,I,q⟩
 |bl b=>
  cases rx;have e':k=b:=e;subst e';exact ED ⟨H,I,q⟩
 |int i=>
  obtain⟨t,rfl⟩:=rx;have e':k=(i != 0):=e;subst e';exact PySem.P.truthy_int ⟨H,I,q⟩
 |str y=>
  obtain⟨t,rfl⟩:=rx;obtain⟨hy,e'⟩:y.length<=sizeLine/\k=((y.length:Int) != 0):=e;subst e';exact PySem.P.truthy_str (by lia) ⟨H,I.tok _,q⟩
 |byt y=>
  obtain⟨t,rfl⟩:=rx;obtain⟨hy,e'⟩:y.size<=sizeLine/\k=((y.size:Int) != 0):=e;subst e';exact PySem.W.truthy_bytes (by lia) ⟨H,I.tok _,q⟩
 |ref p=>
  cases rx;have e':(∃xs,SqL X.K H p xs/\k=!xs.isEmpty)\/(∃xs,SqT X.K H p xs/\k=!xs.isEmpty)\/∃kvs,H p=some (.dK kvs)/\k=!kvs.isEmpty:=e;rcases e' with⟨xs,hx,e'⟩ |⟨xs,hx,e'⟩ |⟨kvs,hx,e'⟩
  .subst e'
   obtain⟨its,r,pl,hz⟩:=I.list hx;have hlen:=r.length;exact wpAny_truthy_list pl.isList (by simp only[m8];lia) ⟨H,I.tok _,by rw[Tf r];exact q⟩
  .subst e'
   obtain⟨its,r,pl,hz⟩:=I.tuple hx;have hlen:=r.length;exact truthy_tuple pl (by simp only[m8];lia) ⟨H,I.tok _,by rw[Tf r];exact q⟩
  .subst e'
   obtain⟨hz,hS,vs,r,m⟩:kvs.length<=sizeLine/\(p==FX)=false/\∃vs,KV kvs vs/\s.heap.DictOf (Zk X.prog X.w) p vs:=I.hok p _ hx;have hlen:kvs.length=vs.length:=Paired.length r;exact wpAny_truthy_dict hS m (by lia) ⟨H,I.tok _,by rw[fP r];exact q⟩
 |_=>exact(show False from e).elim
def bN(ha:PE X a ta)(he:∀whole,isTrue a X.env whole=(do let v <-whole;standAt a.pos;holding [v] (truthy v))):
 PT X a (λσ H Q=>ta σ H λx H'=>∃k,BF X.K x H' k/\Q k H'):=by
 intro pins s σ H Q I h;exact isTrue_plain (thn (ha pins s σ H _ I h) λv s1 hZ2=>by obtain⟨x,H1,I1,r1,q1⟩:=hZ2;exact xQ pins s1 σ H1 x v Q I1 r1 q1) (he _)
def Wj{x:V}{us:List g9}(r:Vals [x] us):∃u,us=[u]/\RelV x u:=by
 cases r with
 |cons r1 r2=>cases r2;exact⟨_,rfl,r1⟩
def vals2{x y:V}{us:List g9}(r:Vals [x,y] us):∃u w',us=[u,w']/\RelV x u/\RelV y w':=by
 cases r with
 |cons r1 r2=>
  cases r2 with
  |cons r3 r4=>cases r4;exact⟨_,_,rfl,r1,r3⟩
def mG(hc:X.calm=true):Bb X (.builtin "max") (λxs H Q=>∃i j,xs=[.int i,.int j]/\Q (.int (if j>i then j else i)) H):=by
 intro pins s σ H xs us Q I r h;obtain⟨i,j,rfl,q⟩:=h;obtain⟨u,w',rfl,⟨t,rfl⟩,⟨t',rfl⟩⟩:=vals2 r;refine max_two_ints (I.ok.hd hc) λh' tk k=>⟨_,H,I.kept k,?_,q⟩;by_cases hj:j>i
 .rw[iq hj,iq hj];exact⟨_,rfl⟩
 .rw[ir hj,ir hj];exact⟨_,rfl⟩
def Xo:Bb X (.type "int") (λxs H Q=>(∃i,xs=[.int i]/\Q (.int i) H)\/∃k,xs=[.bl k]/\Q (.int (if k then 1 else 0)) H):=by
 intro pins s σ H xs us Q I r h;rcases h with⟨i,rfl,q⟩ |⟨k,rfl,q⟩
 .obtain⟨u,rfl,t,rfl⟩:=Wj r
  exact call_int_int ⟨.int i,H,I,⟨_,rfl⟩,q⟩
 .obtain⟨u,rfl,r1⟩:=Wj r
  cases r1;exact call_int_bool ⟨.int (if k then 1 else 0),H,I.tok _,⟨_,rfl⟩,q⟩
def LenV(K:i5)(x:V)(H:Hp)(n:Nat):Prop:=
 match x with
 |.str y=>y.length<=sizeLine/\n=y.length
 |.byt y=>y.size<=sizeLine/\n=y.size
 |.ref p=>(∃xs,SqL K H p xs/\n=xs.length)\/∃xs,SqT K H p xs/\n=xs.length
 |_=>False
def Ty:Bb X (.builtin "len") (λxs H Q=>∃x n,xs=[x]/\LenV X.K x H n/\Q (.int n) H):=by
 intro pins s σ H xs us Q I r h;obtain⟨x,n,rfl,e,q⟩:=h;obtain⟨u,rfl,rx⟩:=Wj r;have hl:=Ii;have hs:sizeLine=16777216:=KS;cases x with
 |str y=>
  obtain⟨t,rfl⟩:=rx;obtain⟨hy,e'⟩:y.length<=sizeLine/\n=y.length:=e;subst e';exact len_str (by lia) ⟨.int _,H,I.tok _,⟨_,rfl⟩,q⟩
 |byt y=>
  obtain⟨t,rfl⟩:=rx;obtain⟨hy,e'⟩:y.size<=sizeLine/\n=y.size:=e;subst e';exact PySem.W.len_bytes (by lia) ⟨.int _,H,I.tok _,⟨_,rfl⟩,q⟩
 |ref p=>
  cases rx;have e':(∃xs,SqL X.K H p xs/\n=xs.length)\/∃xs,SqT X.K H p xs/\n=xs.length:=e;rcases e' with⟨xs,hx,e'⟩ |⟨xs,hx,e'⟩
  .subst e'
   obtain⟨its,r',pl,hz⟩:=I.list hx;have hlen:=r'.length;exact Calls.call_len_list pl.isList (by simp only[m8];lia) ⟨.int xs.length,H,I.tok _,⟨_,by simp only[m8];rw[hlen]⟩,q⟩
  .subst e'
   obtain⟨its,r',pl,hz⟩:=I.tuple hx;have hlen:=r'.length;exact len_tuple pl (by simp only[m8];lia) ⟨.int xs.length,H,I.tok _,⟨_,by simp only[m8];rw[hlen]⟩,q⟩
 |_=>exact(show False from e).elim
end
structure Cls(K:i5)(C:i9):Prop where
 pg:PySem.W.plainGet K C GQ=true
 hd:PySem.W.hasDictIn K C=true
 po:PySem.W.plainOver K C=true
 sa:PySem.W.findIn K (.ref C) "__setattr__"=some (some (.builtin "object.__setattr__"))
noncomputable def Uk(K:i5)(C:i9)(f:Str):Prop:=PySem.W.findIn K (.ref C) f=some none
structure Room(k:Nat)(A:BO):Prop where
 hd:A.handled=none
 dp:A.depth+3*k+5<OU
 un:A.units+16*k+200<EO
 gd:A.guards=some []
def Room.mono{j k:Nat}{A:BO}(r:Room k A)(h:j<=k):Room j A:=⟨r.hd,by have:=r.dp;lia,by have:=r.un;lia,r.gd⟩
theorem Room.deeper{k:Nat}{A:BO}(r:Room (k+1) A)(env:Env):Room k (A.deeper env):=
 ⟨r.hd,by have:=r.dp;show A.depth+1+3*k+5<_;lia,by have:=r.un;show A.units+3+16*k+200<_;lia,r.gd⟩
theorem Room.depth{k:Nat}{A:BO}(r:Room k A):A.depth<OU:=by have:=r.dp;lia
theorem Room.units{k:Nat}{A:BO}(r:Room k A):A.units+64<EO:=by have:=r.un;lia
def sD:TA:=λ_ H Q=>Q [] H
def Qv(ta:TE)(tr:TA):TA:=λσ H Q=>ta σ H λx H1=>tr σ H1 λxs H2=>Q (x::xs) H2
section
variable {X:Cx}{e:Expr}{es:List Expr}{te:TE}{t:TA}{pos:Pos}
def N0:PA X [] sD:=λ_ _ _ _ H Q I h=>HE ⟨[],H,I,.nil,h⟩
def E8(ha:PE X e te)(hr:PA X es t)(hs:i8 (e::es) X.env=(false,eval e X.env)::i8 es X.env:=by rfl):PA X (e::es) (Qv te t):=by
 intro pos pins s σ H Q I h;rw[hs];show wpAny _ _ (spliced ((false,eval e X.env)::CD pos (i8 es X.env))) _ _ s;refine EV (thn (ha pins s σ H _ I h) λu s1 hZ2=>?_);obtain⟨x,H1,I1,r1,q1⟩:=hZ2;exact thn (hr pos pins s1 σ H1 _ I1 q1) λus s2 hZ2=>by obtain⟨xs,H2,I2,r2,q2⟩:=hZ2;exact⟨x::xs,H2,I2,.cons r1 r2,q2⟩
def tTup(t:TA):TE:=λσ H Q=>t σ H λxs H1=>xs.length<=sizeLine/\∀p,H1 p=none->Q (.ref p) (upd H1 p (.tup xs))
def tLst(t:TA):TE:=λσ H Q=>t σ H λxs H1=>xs.length<=sizeLine/\∀p,H1 p=none->Q (.ref p) (upd H1 p (.lst xs))
def fG{x1}(h:PA X es t):PE X (.Tuple es x1 pos) (tTup t):=by
 intro pins s σ H Q I hq;refine wpAny_Tuple_spliced (thn (h pos pins s σ H _ I hq) λus s1 hY22=>?_);obtain⟨xs,H1,I1,r,z,q⟩:=hY22;refine⟨by rw[<-r.length];exact z,?_⟩;have hf:H1 s1.heap.objs.size=none:=I1.hok.fresh (s0 _);refine⟨.ref s1.heap.objs.size,upd H1 s1.heap.objs.size (.tup xs),I1.laid (t':=s1.toks) (λb u e=>l8 _ e) (s0 _) ?_,rfl,q _ hf⟩;exact⟨z,us,r,⟨_,x5 _ rfl,rfl,_,rfl⟩⟩
def Sv(h:PA X es t):PE X (.List es pos) (tLst t):=by
 intro pins s σ H Q I hq;refine wpAny_List_spliced (thn (h pos pins s σ H _ I hq) λus s1 hY23=>?_);obtain⟨xs,H1,I1,r,z,q⟩:=hY23;refine⟨by rw[<-r.length];exact z,?_⟩;have hf:H1 s1.heap.objs.size=none:=I1.hok.fresh (s0 _);refine⟨.ref s1.heap.objs.size,upd H1 s1.heap.objs.size (.lst xs),I1.laid (t':=s1.toks) (λb u e=>l8 _ e) (s0 _) ?_,rfl,q _ hf⟩;exact⟨z,us,0,r,x5 _ rfl⟩
end
abbrev Sp:=List V->Hp->VK->XK->Prop
abbrev CXT:=List Env->Hp->i6->XK->g9->i6->Prop
structure Env0(P:o9)(w:x8)(K:i5)(mg:Str->Option g9)(base:BL)(A:BO)(outer:List Env)(s:i6)(H:Hp):Prop where
 frames:A.frames=some outer
 mod:Mod K mg base
 bs:∀b o,base.get? b=some o->s.heap.get? b=some o/\H b=none
 bsz:base.objs.size<=s.heap.objs.size
 funs:s.heap.FunFrames base outer
 frf:∀b∈frs outer,H b=none
 hok:HOk P w H s.heap
 bare:KW s.gens
def CE(outer:List Env)(P:o9)(w:x8)(H:Hp)(s:i6)(Q:VK)(u:g9)(s':i6):Prop:=
 ∃v H',s'.os=s.os/\KW s'.gens/\Un (frs outer) [] H H' s.heap s'.heap/\HOk P w H' s'.heap/\RelV v u/\Q v H'
def CR(CX:CXT)(outer:List Env)(P:o9)(w:x8)(H:Hp)(s:i6)(Q:VK)(E:XK)(r:Result)(s':i6):Prop:=
 match r with
 |.ok (.ret u)=>CE outer P w H s Q u s'
 |.ok _=>False
 |.error e=>CX outer H s E e s'
structure FnOk(P:o9)(w:x8)(K:i5)(mg:Str->Option g9)(base:BL)(CX:CXT)(k:Nat)(f:i9)(fd:IB)(ps:List Str)(sp:Sp):Prop where
 len:∀vs H Q E,sp vs H Q E->vs.length=ps.length
 run:∀(A:BO) (outer:List Env) (s:i6) (H:Hp) (args:Args) (us:List g9) (vs:List V) (Q:VK) (E:XK),Room k A->Env0 P w K mg base A outer s H->OQ s fd args (ps.zip us)->Vals vs us->sp vs H Q E ->
  IJ (u7 P w) A (.call (.ref f) args) (CR CX outer P w H s Q E) s
section
variable {X:Cx}{pins:List (i9×Obj)}{σ:St}{H:Hp}{s s':i6}
def Inv.env0(I:Inv X pins σ H s):Env0 X.prog X.w X.K X.mg X.base X.A X.stack s H:=
 ⟨I.ok.frames,I.ok.mod,I.bs,l9 I.ok.bsz I.sz,I.stack,I.stkFree,I.hok,I.bare⟩
def Inv.after{Q:VK}{u:g9}(I:Inv X pins σ H s)(h:CE X.stack X.prog X.w H s Q u s'):EP X pins σ Q u s':=by
 obtain⟨v,H',os,bare,un,hok,r,q⟩:=h;obtain⟨hh,g,d,t,os'⟩:=s';obtain rfl:os'=s.os:=os;exact⟨v,H',I.call (h':=hh) (g':=g) (d':=d) (t':=t) (ch:=[]) un hok bare (λb z=>absurd z (by simp)),r,q⟩
end
def tCall(sp:Sp)(dvs:List V)(E:XK)(t:TA):TE:=λσ H Q=>t σ H λvs H1=>sp (vs++dvs) H1 Q E
noncomputable def Binds(K:i5)(fd:IB)(ps:List Str)(ds:List g9):Prop:=
 ∀(s:i6) (us:List g9),K.In s.heap->(us++ds).length=ps.length->OQ s fd ⟨us,[]⟩ (ps.zip (us++ds))
def Binds.all{K:i5}{fd:IB}{ps:List Str}(h:∀us:List g9,us.length=ps.length->LK fd ⟨us,[]⟩=pure (ps.zip us)):Binds K fd ps []:=λs us _ hl=>by
 rw[u8]at hl ⊢;exact .of_eq (h us hl)
def aG(CX:CXT)(X:Cx)(E:XK):Prop:=∀(pins:List (i9×Obj)) (σ:St) (H:Hp) (s:i6) (e:g9) (s':i6),Inv X pins σ H s->CX X.stack H s E e s'->X.xe e s'
section
variable {X:Cx}{CX:CXT}{k:Nat}{f:i9}{fd:IB}{ps:List Str}{sp:Sp}{dvs:List V}{ds:List g9}{E:XK}{x:Str}{p pos:Pos}{e:Expr}{es:List Expr}{t:TA}
def yM{pins:List (i9×Obj)}{σ:St}{H:Hp}{s:i6}{Q:VK}{us:List g9}{vs:List V}(F:FnOk X.prog X.w X.K X.mg X.base CX k f fd ps sp)(hr:Room k X.A)(hb:Binds X.K fd ps ds)(hd:Vals dvs ds)(hx:aG CX X E)
 (I:Inv X pins σ H s) (r:Vals vs us) (h:sp (vs++dvs) H Q E):wpAny (u7 X.prog X.w) X.A (call (.ref f) us) (EP X pins σ Q) X.xe s:=by
 have r2:Vals (vs++dvs) (us++ds):=r.append hd;have hl:(us++ds).length=ps.length:=by rw[<-r2.length];exact F.len _ _ _ _ h
 refine NC (JZ (F.run X.A X.stack s H ⟨us,[]⟩ (us++ds) (vs++dvs) Q E hr I.env0 (hb s us I.kIn hl) r2 h) λr s' hq=>?_);cases r with
 |error e=>exact hx pins σ H s e s' I hq
 |ok fl=>
  cases fl with
  |ret u=>exact I.after hq
  |next=>exact GA hq
  |brk=>exact GA hq
  |cont=>exact GA hq
def Dr(F:FnOk X.prog X.w X.K X.mg X.base CX k f fd ps sp)(hr:Room k X.A)(hg:Gl X x)(hm:X.mg x=some (.ref f))(hk:BR X.K (.ref f)=true)(hb:Binds X.K fd ps ds)(hd:Vals dvs ds)(hx:aG CX X E)
 (ha:PA X (e::es) t) (hdb:(x==("__debug__" : Str))=false:=by decide) (he:i8 (e::es) X.env=(false,eval e X.env)::i8 es X.env:=by rfl) (hpl:(CD pos (i8 es X.env)).any (·.1)=false:=by rfl):
 PE X (.Call (.Name x p) (e::es) [] pos) (tCall sp dvs E t):=by
 intro pins s σ H Q I h;refine DV (Dv I hg hm ?_ hdb);refine LV (h₀:=X.base) I.ok.mod.kin hk (thn (ha pos pins s σ H _ I h) λus s1 hY24=>?_) he hpl;obtain⟨vs,H1,I1,r,q⟩:=hY24;refine⟨I1.kIn,?_⟩;exact yM F hr hb hd hx I1 r q
end
structure FnScope(N P:List Str)(sc:Scope):Prop where
 kind:sc.kind=.function
 co:sc.isCoroutine=false
 gen:sc.isGenerator=false
 nd:N.Nodup
 pre:N.take P.length=P
 par:∀x∈P,sc.names.lookup x=some .local\/sc.names.lookup x=some .cell
 nofree:∀y∈sc.names,y.2≠.free
theorem Xt{kindOf:Str->Option KP}{x:Str}:∀{binds:List (Str×g9)} {m:Str->Option g9},(∀v,(x,v)∉binds)->bindL kindOf binds m x=m x
 |[],_,_=>rfl
 | (n,v)::r,m,h=>by
   unfold bindL;rw[Xt λw hw=>h w (FF _ hw)];split
   .have:x≠n:=by rintro rfl;exact h v EG
    simp[this]
   .rfl
theorem Xv{kindOf:Str->Option KP}{x:Str}:∀{binds:List (Str×g9)} {m:Str->Option g9},(∀v,(x,v)∉binds)->bindC kindOf binds m x=m x
 |[],_,_=>rfl
 | (n,v)::r,m,h=>by
   unfold bindC;rw[Xv λw hw=>h w (FF _ hw)];split
   .rfl
   .have:x≠n:=by rintro rfl;exact h v EG
    simp[this]
theorem Xu{kindOf:Str->Option KP}{x:Str}{v:g9}:∀{P:List Str} {vs:List g9} {i:Nat} {m:Str->Option g9},P.Nodup->P[i]?=some x->vs[i]?=some v->kindOf x=some .local ->
 bindL kindOf (P.zip vs) m x=some v
 |[],_,_,_,_,h,_,_=>by simp at h
 |_::_,[],_,_,_,_,h,_=>by simp at h
 |p::P,w::vs,0,m,nd,h1,h2,hk=>by
  simp at h1 h2;subst h1;subst h2;show bindL kindOf ((p,w)::P.zip vs) m p=_;unfold bindL;rw[Xt λv hv=>(BQ.mp nd).1 (LA hv).1,iq hk];simp
 |p::P,w::vs,i+1,m,nd,h1,h2,hk=>by
  show bindL kindOf ((p,w)::P.zip vs) m x=_;unfold bindL;exact Xu (i:=i) (BQ.mp nd).2 (by simpa using h1) (by simpa using h2) hk
theorem Xw{kindOf:Str->Option KP}{x:Str}{v:g9}:∀{P:List Str} {vs:List g9} {i:Nat} {m:Str->Option g9},P.Nodup->P[i]?=some x->vs[i]?=some v->kindOf x≠some .local ->
 bindC kindOf (P.zip vs) m x=some v
 |[],_,_,_,_,h,_,_=>by simp at h
 |_::_,[],_,_,_,_,h,_=>by simp at h
 |p::P,w::vs,0,m,nd,h1,h2,hk=>by
  simp at h1 h2;subst h1;subst h2;show bindC kindOf ((p,w)::P.zip vs) m p=_;unfold bindC;rw[Xv λv hv=>(BQ.mp nd).1 (LA hv).1,ir hk];simp
 |p::P,w::vs,i+1,m,nd,h1,h2,hk=>by
  show bindC kindOf ((p,w)::P.zip vs) m x=_;unfold bindC;exact Xw (i:=i) (BQ.mp nd).2 (by simpa using h1) (by simpa using h2) hk
def Aq(N:List Str)(vs:List V):St:=vs.map some++u6 (N.length-vs.length) none
def Zz(CX:CXT)(P:o9)(w:x8)(K:i5)(mg:Str->Option g9)(base:BL)(N:List Str)(qual:Str)(scope:Scope)(f:i9)(cd:g9)(A:BO)(outer:List Env)(s:i6)(H:Hp)(E:XK):Cx where
 prog:=P
 w:=w
 K:=K
 mg:=mg
 base:=base
 A:=A.deeper (envOfC qual scope s.heap.objs.size f cd)
 N:=N
 s₀:=s
 H₀:=H
 env:=envOfC qual scope s.heap.objs.size f cd
 outer:=outer
 stack:=envOfC qual scope s.heap.objs.size f cd::outer
 ex:=[]
 calm:=true
 fn:=λ_=>true
 pn:=[]
 xe:=λe s'=>wpAny (u7 P w) (A.deeper (envOfC qual scope s.heap.objs.size f cd)) (leaving (envOfC qual scope s.heap.objs.size f cd) e) (λ_ s''=>CX outer H s E e s'') (λe' s''=>CX outer H s E e' s'') s'
def dP{sc:Scope}{n:Nat}{x:Str}(h:sc.names.lookup x=some .cell):∃c,(cellsFrom n sc.names []).lookup x=some c:=by
 have q:=KN sc.names n [] (.inl h);exact Option.isSome_iff_exists.mp q
def Xe{CX:CXT}{P:o9}{w:x8}{K:i5}{mg:Str->Option g9}{base:BL}{N ps:List Str}{qual:Str}{scope:Scope}{f:i9}{cd:g9}{A:BO}{outer:List Env}{s s1:i6}{H:Hp}{E:XK}{us:List g9}{vs:List V}
 (S:FnScope N ps scope) (hd:A.handled=none) (e0:Env0 P w K mg base A outer s H) (hl:vs.length=ps.length) (r:Vals vs us)
 (x:InCallC s s.heap.objs.size (bindL (envOfC qual scope s.heap.objs.size f cd).kindOf (ps.zip us) λ_=>none) (cellsFrom (s.heap.objs.size+1) scope.names []) (bindC (envOfC qual scope s.heap.objs.size f cd).kindOf (ps.zip us) λ_=>none) s1):
 Inv (Zz CX P w K mg base N qual scope f cd A outer s H E) [] (Aq N vs) H s1:=by
 have hpl:ps.length<=N.length:=by have:=congrArg GU S.pre;rw[EY]at this;lia
 obtain⟨h1,tk,rfl,hk⟩:=x.done;have noA:∀b:i9,b∉(Zz CX P w K mg base N qual scope f cd A outer s H E).ex:=λb z=>absurd (show b∈([]:List i9) from z) (by simp);refine⟨⟨e0.mod,S.kind,rfl,rfl,s0 _,λy z c h1 h2=>?_,λy hy=>?_,λy c _ h=>?_,λ_=>hd,Around.frames_deeper e0.frames,.inr ⟨rfl,rfl⟩,λb z=>absurd z (noA b),e0.bs,e0.bsz,λb _ _=>noA b,λb z=>absurd z (noA b),e0.funs,e0.frf⟩,
  rfl,e0.bare,Un.kept hk,⟨_,x.toInCall.ns,λi y v h1 h2 h3=>?_⟩,λy c h=>⟨_,x.cell y c h⟩,e0.hok.fresh (s0 _),λy c h=>?_,λp hp=>absurd (show p∈([]:List (i9×Obj)) from hp) (by simp),e0.hok.kept hk,?_⟩
 .exact name_of_addr x.apart (GK h1) (GK h2)
 .have hy:scope.names.lookup y=some .cell\/scope.names.lookup y=some .free:=hy
  rcases hy with hy |hy
  .exact dP hy
  .exact absurd rfl (S.nofree _ (GK hy))
 .exact PB (x.above y c (GK h))
 .have hi : i<vs.length:= by
   unfold Aq at h2;by_cases hi:i<vs.length
   .exact hi
   .rw[DB (by simpa using hi)]at h2
    rw[IE]at h2;split at h2 <;> cases h2
  have ha:vs[i]?=some v:=by
   unfold Aq at h2;rw[CT (by simpa using hi),BP]at h2;cases e:vs[i]? with
   |none=>rw[e]at h2;cases h2
   |some a=>rw[e]at h2;cases h2;rfl
  obtain⟨u,hu,rv⟩:=r.get ha;have hp:ps[i]?=some y:=by
   rw[<-S.pre,List.getElem?_take_of_lt (by lia)];exact h1
  have ndP:ps.Nodup:=by rw[<-S.pre];exact S.nd.sublist (List.take_sublist _ _)
  refine⟨u,rv,?_⟩;rcases S.par y (GH hp)with k |k
  .exact .inl ⟨k,Xu ndP hp hu k⟩
  .obtain⟨c,e⟩:=dP (n:=s.heap.objs.size+1) k
   refine .inr ⟨.inl k,c,e,?_⟩;have q:=x.cell y c e;rw[Xw ndP hp hu (by show scope.names.lookup y≠_;rw[k];decide)]at q;exact q
 .exact e0.hok.fresh (PB (x.above y c (GK h)))
 .unfold Aq
  show _=N.length;rw[k7,i7,List.length_replicate];lia
def xG{CX:CXT}{P:o9}{w:x8}{K:i5}{mg:Str->Option g9}{base:BL}{k:Nat}{f:i9}{name qual:Str}{params:Arguments}{body:List GC}{scope:Scope}{dV kV doc pm cdv ct oc:g9}{an od:Option i9}
 {osl:Array (Option g9)} {N ps:List Str} {sp:Sp} (lk:K.lookup f=some ⟨oc,od,.func (CF name qual params body scope dV kV doc pm an cdv ct),osl⟩) (hcd:FD K cdv qual=true) (S:FnScope N ps scope)
 (len:∀vs H Q E,sp vs H Q E->vs.length=ps.length)
 (hbody:∀(A:BO) (outer:List Env) (s:i6) (H:Hp) (vs:List V) (Q:VK) (E:XK),Room k (A.deeper (envOfC qual scope s.heap.objs.size f cdv))->sp vs H Q E ->
  ∃t,PSs (Zz CX P w K mg base N qual scope f cdv A outer s H E) body t/\t {nx:=λ_ H'=>Q .non H',rt:=Q} (Aq N vs) H):
 FnOk P w K mg base CX (k+1) f (CF name qual params body scope dV kV doc pm an cdv ct) ps sp:=by
 refine⟨len,λA outer s H args us vs Q E hr e0 hb r hsp=>?_⟩;have hl:=len _ _ _ _ hsp;have KX:K.In s.heap:=e0.mod.kin.keeps λb o e=>(e0.bs b o e).1;have lim:s.heap.NoLimit:=e0.mod.nolimit.keeps λb o e=>(e0.bs b o e).1;have hkind:∀y∈ps.zip us,scope.names.lookup y.1=some .local\/(scope.names.lookup y.1=some .cell/\((cellsFrom (s.heap.objs.size+1) scope.names []).lookup y.1).isSome=true):=λhZ0 hy=>by
  obtain⟨n,v⟩:=hZ0;rcases S.par n (LA hy).1 with q |q
  .exact .inl q
  .exact .inr ⟨q,KN _ _ _ (.inl q)⟩
 refine codeAny_call_function hr.depth (KX _ _ lk) rfl S.co S.gen rfl (OY KX hcd) (hb _ _ _ _ ?_);refine OR S.kind hkind λenv he s1 x=>?_;subst he;refine⟨lim.keeps x.toInCall.keep,codeAny_func ?_⟩;obtain⟨t,ht,hq⟩:=hbody A outer s H vs Q E (hr.deeper _) hsp;have I:Inv (Zz CX P w K mg base N qual scope f cdv A outer s H E) [] (Aq N vs) H s1:=Xe S hr.hd e0 hl r x;refine DG (ht [] s1 (Aq N vs) H _ I hq) (λfl s' hs=>?_) λe s' hs=>hs;have fin:∀{σ':St} {H':Hp} {v:V} {u:g9},Inv (Zz CX P w K mg base N qual scope f cdv A outer s H E) [] σ' H' s'->RelV v u->Q v H'->CE outer P w H s Q u s':=
  λ{σ' H' v u} J rv q=>⟨v,H',J.os,J.bare,J.base,J.hok,rv,q⟩
 cases fl with
 |ret u=>
  obtain⟨v,σ',H',J,rv,q⟩:=hs;exact fin J rv q
 |next=>
  obtain⟨σ',H',J,q⟩:=hs;exact fin (v:=V.non) (u:=EU) J rfl q
 |brk=>
  obtain⟨_,_,_,q⟩:=hs;exact GA q
 |cont=>
  obtain⟨_,_,_,q⟩:=hs;exact GA q
section
variable {X:Cx}{x:Str}{p pos:Pos}{e:Expr}{es:List Expr}{t:TA}{id T:String}{r:List V->Hp->VK->Prop}
def tCB(r:List V->Hp->VK->Prop)(t:TA):TE:=λσ H Q=>t σ H λvs H1=>r vs H1 Q
def Lw(hc:Bb X (.builtin id) r)(hg:Gl X x)(hm:X.mg x=none)(hv:GN x=some (.builtin id))(ha:PA X (e::es) t)(hn:x≠"__name__":=by decide)(hdb:(x==("__debug__" : Str))=false:=by decide)
 (he:i8 (e::es) X.env=(false,eval e X.env)::i8 es X.env:=by rfl) (hpl:(CD pos (i8 es X.env)).any (·.1)=false:=by rfl):PE X (.Call (.Name x p) (e::es) [] pos) (tCB r t):=by
 intro pins s σ H Q I h;refine DV (Ij I hg hm hv ?_ hn hdb);exact PyProof.Rows.callWith_builtin1 (thn (ha pos pins s σ H _ I h) λus s1 hZ2=>by obtain⟨vs,H1,I1,r1,q1⟩:=hZ2;exact hc pins s1 σ H1 vs us Q I1 r1 q1) he hpl
def Wx(hc:Bb X (.type T) r)(hg:Gl X x)(hm:X.mg x=none)(hv:GN x=some (.type T))(ha:PA X (e::es) t)(hn:x≠"__name__":=by decide)(hdb:(x==("__debug__" : Str))=false:=by decide)
 (he:i8 (e::es) X.env=(false,eval e X.env)::i8 es X.env:=by rfl) (hpl:(CD pos (i8 es X.env)).any (·.1)=false:=by rfl):PE X (.Call (.Name x p) (e::es) [] pos) (tCB r t):=by
 intro pins s σ H Q I h;refine DV (Ij I hg hm hv ?_ hn hdb);exact EB (thn (ha pos pins s σ H _ I h) λus s1 hZ2=>by obtain⟨vs,H1,I1,r1,q1⟩:=hZ2;exact hc pins s1 σ H1 vs us Q I1 r1 q1) he hpl
end
end L2
namespace HT
open PySem PyProof.Rows
section
variable {prog:o9}{w:x8}{A:BO}{E:g9->i6->Prop}{s:i6}
def cat_tup{t b:i9}{vs ws:List g9}{Q:g9->i6->Prop}(ht:LP s.heap t vs.toArray)(hb:LP s.heap b ws.toArray)(hv:vs≠[])
 (h1:ws=[]->Q (.ref t) s) (h2:ws≠[]->Q (.ref s.heap.objs.size) {s with heap:=s.heap.push {cls:=.type "tuple",data:=.seq (vs++ws).toArray}})
 (hsz:vs.length+ws.length<=sizeLine):wpAny (u7 prog w) A (LL .Add (.ref t) (.ref b)) Q E s:=by
 obtain⟨⟨cls,dd,data,sl⟩,ho,hc,n,hd⟩:=id ht;obtain⟨⟨cls2,dd2,data2,sl2⟩,ho2,hc2,n2,hd2⟩:=id hb;simp only at hc hd hc2 hd2;subst hc hd hc2 hd2;have e:vs.toArray++ws.toArray=(vs++ws).toArray:=by simp
 by_cases hw:ws=[]
 .exact concat_meets ⟨_,ho,rfl⟩ ⟨_,ho2,rfl⟩ NW seq_tuple_add KO KA (JV _ _)
   (tuple_addW1 t b vs.toArray ws.toArray n n2 dd dd2 sl sl2 (by simpa using hv) (by simp[hw])) ⟨ho,ho2,h1 hw⟩
 .refine concat_meets ⟨_,ho,rfl⟩ ⟨_,ho2,rfl⟩ NW seq_tuple_add KO KA (JV _ _)
   (tuple_addW2 t b vs.toArray ws.toArray n n2 dd dd2 sl sl2 (by simpa using hv) (by simpa using hw) (by rw[m8,m8];exact hsz)) ⟨ho,ho2,?_⟩
  rw[e];exact h2 hw
noncomputable def sIx(n d:Nat):Option Int->Nat
 |none=>d
 |some v=>if v<0 then(v+(n:Int)).toNat else min v.toNat n
def sIx_none(n d:Nat):sIx n d none=d:=rfl
def sIx_nat(n d k:Nat):sIx n d (some (k:Int))=min k n:=by
 show(if (k:Int)<0 then((k:Int)+(n:Int)).toNat else min (k:Int).toNat n)=min k n;rw[ir (by lia),KG]
def yJ(n d:Nat)(hd:d<=n)(o:Option Int):sIx n d o<=n:=by
 cases o with
 |none=>exact hd
 |some v=>
  show(if v<0 then(v+(n:Int)).toNat else min v.toNat n)<=n;by_cases hv:v<0
  .rw[iq hv];lia
  .rw[ir hv];exact DX _ _
def jJ(v:Int)(n d:Nat):(if v<0 then max (v+(n:Int)) 0 else min v (n:Int))=((sIx n d (some v):Nat):Int):=by
 show(if v<0 then max (v+(n:Int)) 0 else min v (n:Int))=(((if v<0 then(v+(n:Int)).toNat else min v.toNat n):Nat):Int);by_cases hv:v<0
 .simp only[iq hv];lia
 .simp only[ir hv];lia
def gT(lo hi:Option Int)(n:Nat):FP lo hi 1 (n:Int)=(((sIx n 0 lo:Nat):Int),((sIx n n hi:Nat):Int)):=by
 have h1:¬((1:Int)<0):=by lia
 unfold FP;simp only[h1,if_false];refine Prod.ext ?_ ?_
 .cases lo with
  |none=>rfl
  |some v=>exact jJ v n 0
 .cases hi with
  |none=>rfl
  |some v=>exact jJ v n n
def fF(i j:Nat):CY (i:Int) (j:Int) 1=j-i:=by
 unfold CY;have h1:(1:Int)>0:=by lia
 simp only[h1,if_true,PF];split <;> lia
def Rz{v:g9}{o:Option Int}{Q:Option Int->i6->Prop}(p:LX v o)(h:Q o s):wpAny (u7 prog w) A (Builtin.Slice.slicePartIndex v) Q E s:=by
 cases p with
 |none=>exact MM h
 |int i t=>exact slicePart_int h
def sliceApplied_gen{sl:i9}{vl vu:g9}{lo hi:Option Int}{n:Nat}{Q:Int×Int×Nat->i6->Prop}(hs:s.heap.IsSliceOf sl vl vu .none)(pl:LX vl lo)(pu:LX vu hi)
 (h:Q (((sIx n 0 lo:Nat):Int),1,sIx n n hi-sIx n 0 lo) s):wpAny (u7 prog w) A (GW (.ref sl) (pure (n:Int))) Q E s:=by
 obtain⟨os,hos,hcs,hds⟩:=id hs;unfold GW ML;refine f9 (f9 (GL hos hds (x:=vl) rfl (f9 (GL hos hds (x:=vu) rfl (f9 (GL hos hds (x:=.none) rfl (i0 ?_)))))));refine f9 (MM ?_);show wpAny _ _ (if ((1:Int)==0)=true then _ else _) _ _ s;rw[ir (by decide)];refine f9 (Rz pl (f9 (Rz pu (f9 (i0 ?_)))));show wpAny _ _ (match FP lo hi 1 (n:Int)with | (lo,hi)=>pure (lo,(1:Int),CY lo hi 1)) _ _ s
 rw[gT lo hi n];show wpAny _ _ (pure (((sIx n 0 lo:Nat):Int),(1:Int),CY ((sIx n 0 lo:Nat):Int) ((sIx n n hi:Nat):Int) 1)) _ _ s;rw[fF];exact i0 h
def oQ(xs:Array g9)(i k:Nat):((CK k).filterMap λ(m:Nat)=>xs[((i:Int)+(m:Int)*1).toNat]?).toArray=((xs.toList.drop i).take k).toArray:=by
 have e:(λ(m:Nat)=>xs[((i:Int)+(m:Int)*1).toNat]?)=λm=>xs[i+m]?:=by
  funext m
  have:((i:Int)+(m:Int)*1).toNat=i+m:=by lia
  rw[this]
 rw[e];have:=pick_run xs i k;rw[List.filterMap_map]at this;have e2:((λx=>xs[x]?)∘λx=>i+x)=λm=>xs[i+m]?:=rfl;rw[e2]at this;rw[this]
def getItem_tuple_cut{t sl:i9}{items:Array g9}{vl vu:g9}{lo hi:Option Int}{Q:g9->i6->Prop}(ht:LP s.heap t items)(hs:s.heap.IsSliceOf sl vl vu .none)(pl:LX vl lo)(pu:LX vu hi)
 (hw:¬(sIx items.size 0 lo=0/\sIx items.size items.size hi=items.size))
 (h:Q (.ref s.heap.objs.size) {s with heap:=s.heap.push {cls:=.type "tuple",data:=.seq ((items.toList.drop (sIx items.size 0 lo)).take (sIx items.size items.size hi-sIx items.size 0 lo)).toArray}})
 (hsz:items.size<=sizeLine):wpAny (u7 prog w) A (JB (.ref t) (.ref sl)) Q E s:=by
 have htake:sizeOk (.seq ((items.toList.drop (sIx items.size 0 lo)).take (sIx items.size items.size hi-sIx items.size 0 lo)).toArray):=by
  show((items.toList.drop (sIx items.size 0 lo)).take (sIx items.size items.size hi-sIx items.size 0 lo)).toArray.size<=sizeLine;rw[m8,EY,IY,HW];omega
 have hj:sIx items.size items.size hi<=items.size:=yJ _ _ (s0 _) hi;obtain⟨os,hos,hcs,hds⟩:=id hs;have hTs:s.TypeIs (.ref sl) "slice":=⟨os,hos,hcs⟩;unfold JB;try with_reducible refine CJ ?_
 first |refine f9 (i0 ?_) |skip
 refine f9 (IZ ht.typeIs (by decide) ?_);refine f9 (DH (name:=FE "__getitem__") ht.typeIs BZ
  (DR BZ ht.typeIs MR ?_ (NF _ _)))
 show wpAny _ _ (GV (.ref t)>>=_) _ _ s;refine f9 (tupleItemsOf_ ht ?_);refine f9 (JY hTs ?_);rw[iq (by decide)];refine f9 (sliceApplied_gen hs pl pu ?_);have hno:¬((((sIx items.size 0 lo:Nat):Int)==0&&(1:Int)==1&&(sIx items.size items.size hi-sIx items.size 0 lo)==items.size)=true):=by
  intro q;rw[x3,x3]at q;have q1:((sIx items.size 0 lo:Nat):Int)=0:=GY q.1.1;have q2:sIx items.size items.size hi-sIx items.size 0 lo=items.size:=GY q.2;exact hw ⟨by omega,by omega⟩
 show wpAny _ _ (if (((sIx items.size 0 lo:Nat):Int)==0&&(1:Int)==1&&(sIx items.size items.size hi-sIx items.size 0 lo)==items.size)=true then _ else _) _ _ s;rw[ir hno,oQ];first
  |exact f9 (m:=DK _) (BX (i0 ⟨_,rfl,i0 h⟩) htake)
  |exact f9 (m:=DK _) (BX (f9 (i0 (i0 ⟨_,rfl,i0 h⟩))) htake)
  |exact f9 (f9 (m:=DK _) (BX (i0 (i0 ⟨_,rfl,i0 h⟩)) htake))
  |exact f9 (f9 (m:=DK _) (BX (i0 ⟨_,rfl,i0 h⟩) htake))
end
end HT
namespace L2
open PySem PySem.Spec PyProof.Rows
abbrev TO:=St->Hp->(Option Int->Hp->Prop)->Prop
def PO(X:Cx)(e:Option Expr)(t:TO):Prop:=
 ∀(pins:List (i9×Obj)) (s:i6) (σ:St) (H:Hp) (Q:Option Int->Hp->Prop),Inv X pins σ H s->t σ H Q ->
  wpAny (u7 X.prog X.w) X.A (evalPart e X.env) (λu s'=>∃o H',Inv X pins σ H' s'/\LX u o/\Q o H') X.xe s
def sC:TO:=λ_ H Q=>Q none H
def tPart(t:TE):TO:=λσ H Q=>t σ H λx H1=>∃i,x=.int i/\Q (some i) H1
section
variable {X:Cx}{e:Expr}{te:TE}{lo hi:Option Expr}{tl th:TO}{pos p2:Pos}
def tK:PO X none sC:=by
 intro pins s σ H Q I h;rw[MX];exact i0 ⟨none,H,I,.none,h⟩
def tJ(h:PE X e te):PO X (some e) (tPart te):=by
 intro pins s σ H Q I hw;rw[evalPart_some];refine thn (h pins s σ H _ I hw) λu s1 hZ2=>?_;obtain⟨x,H1,I1,r1,q1⟩:=hZ2;obtain⟨i,rfl,q⟩:=q1;obtain⟨t,rfl⟩:=r1;exact⟨some i,H1,I1,.int i t,q⟩
def SlR(X:Cx)(r:V->Option Int->Option Int->Hp->VK->Prop):Prop:=
 ∀(pins:List (i9×Obj)) (s:i6) (σ:St) (H:Hp) (x:V) (v vl vu:g9) (lo hi:Option Int) (sl:i9) (Q:VK),Inv X pins σ H s->RelV x v->s.heap.IsSliceOf sl vl vu .none->LX vl lo->LX vu hi->r x lo hi H Q ->
  ∃T id,KJ (.type T) "__getitem__"=pure (some (.builtin id))/\s.TypeIs v T/\wpAny (u7 X.prog X.w) X.A (JB v (.ref sl)) (EP X pins σ Q) X.xe s
def tSl(r:V->Option Int->Option Int->Hp->VK->Prop)(te:TE)(tl th:TO):TE:=λσ H Q=>te σ H λx H1=>tl σ H1 λl H2=>th σ H2 λu H3=>r x l u H3 Q
def bS{r:V->Option Int->Option Int->Hp->VK->Prop}(hr:SlR X r)(he:PE X e te)(hl:PO X lo tl)(hu:PO X hi th):PE X (.Subscript e (.Slice lo hi none p2) pos) (tSl r te tl th):=by
 intro pins s σ H Q I h;refine NG (thn (he pins s σ H _ I h) λv s1 hZ2=>?_);obtain⟨x,H1,I1,r1,q1⟩:=hZ2;refine wpAny_Slice (thn (hl pins s1 σ H1 _ I1 q1) λvl s2 hY32=>?_);obtain⟨l,H2,I2,pl,q2⟩:=hY32;refine thn (hu pins s2 σ H2 _ I2 q2) λvu s3 hZ2=>?_;obtain⟨u,H3,I3,pu,q3⟩:=hZ2;rw[MX];refine i0 ?_;have I4:Inv X pins σ H3 {s3 with heap:=s3.heap.push {cls:=.type "slice",data:=.fields #[vl,vu,.none]}}:=I3.kept (t':=s3.toks) λb ob q=>l8 _ q;obtain⟨T,id,hT,ht,hg⟩:=hr pins {s3 with heap:=s3.heap.push {cls:=.type "slice",data:=.fields #[vl,vu,.none]}} σ H3 x v vl vu l u s3.heap.objs.size Q I4 r1 (KQ ..) pl pu q3
 show wpAny (u7 X.prog X.w) X.A (KZ e (.Slice lo hi none p2) v (.ref s3.heap.objs.size)) (EP X pins σ Q) X.xe {s3 with heap:=s3.heap.push {cls:=.type "slice",data:=.fields #[vl,vu,.none]}};exact tail_any (ops:=[.ref s3.heap.objs.size,v]) ht hT hg (by with_unfolding_all rfl)
def mE(xs:List V)(lo hi:Option Int):List V:=(xs.drop (HT.sIx xs.length 0 lo)).take (HT.sIx xs.length xs.length hi-HT.sIx xs.length 0 lo)
def Ip(xs:List V)(lo hi:Option Int):(mE xs lo hi).length<=xs.length:=by
 unfold mE;rw[EY,IY];lia
end
noncomputable def ixN(n:Nat)(i:Int):Option Nat:=if 0<=i then(if i<n then some i.toNat else none) else if-(n:Int)<=i then some (i+n).toNat else none
def atI{α:Type}(xs:List α)(i:Int):Option α:=(ixN xs.length i).bind λj=>xs[j]?
def uY{n:Nat}{i:Int}{j:Nat}(h:ixN n i=some j):seqIndex? i n=some j/\j<n/\-(n:Int)<=i/\i<n:=by
 unfold ixN at h;by_cases h0:0<=i
 .rw[iq h0]at h
  by_cases h1:i<n
  .rw[iq h1]at h
   have e:i.toNat=j:=BS h;exact⟨by rw[seqIndex_of h0 h1,e],by lia,by lia,h1⟩
  .rw[ir h1]at h;cases h
 .rw[ir h0]at h
  by_cases h1 : -(n:Int)<=i
  .rw[iq h1]at h
   have e:(i+n).toNat=j:=BS h;exact⟨by rw[seqIndex_neg (by lia) h1,e],by lia,h1,by lia⟩
  .rw[ir h1]at h;cases h
def Qo{α:Type}{xs:List α}{i:Int}{v:α}(h:atI xs i=some v):∃j,seqIndex? i xs.length=some j/\xs[j]?=some v/\j<xs.length/\-(xs.length:Int)<=i/\i<xs.length:=by
 unfold atI at h;cases e:ixN xs.length i with
 |none=>rw[e]at h;cases h
 |some j=>
  rw[e]at h;obtain⟨h1,h2,h3,h4⟩:=uY e;exact⟨j,h1,h,h2,h3,h4⟩
noncomputable def jR(b:Expr):Prop:=∀o i,OB b false o i=operate [o,i] (JB o i)
def IxR(X:Cx)(r:R2):Prop:=
 ∀(value slice:Expr) (pins:List (i9×Obj)) (s:i6) (σ:St) (H:Hp) (x y:V) (v u:g9) (Q:VK),Inv X pins σ H s->RelV x v->RelV y u->r x y H Q ->
  OB slice false v u=operate [v,u] (JB v u)->wpAny (u7 X.prog X.w) X.A (KZ value slice v u) (EP X pins σ Q) X.xe s
def MtR(X:Cx)(id:String)(r:V->List V->Hp->VK->Prop):Prop:=
 ∀(pins:List (i9×Obj)) (s:i6) (σ:St) (H:Hp) (x:V) (xs:List V) (v:g9) (us:List g9) (Q:VK),Inv X pins σ H s->RelV x v->Vals xs us->r x xs H Q ->
  wpAny (u7 X.prog X.w) X.A (call (.builtin id) (v::us)) (EP X pins σ Q) X.xe s
section
variable {X:Cx}{a b:Expr}{ta tb:TE}{pos:Pos}
def IxR.or{r r':R2}(h:IxR X r)(h':IxR X r'):IxR X (λx y H Q=>r x y H Q\/r' x y H Q):=by
 intro value slice pins s σ H x y v u Q I rx ry q hs;rcases q with q |q
 .exact h value slice pins s σ H x y v u Q I rx ry q hs
 .exact h' value slice pins s σ H x y v u Q I rx ry q hs
def wX{r:R2}(hr:IxR X r)(ha:PE X a ta)(hb:PE X b tb)(hs:jR b):PE X (.Subscript a b pos) (tOp r ta tb):=by
 intro pins s σ H Q I h;exact NG (BA ha hb I h λv u s2 x y H2 I2 rx ry q=>hr a b pins s2 σ H2 x y v u Q I2 rx ry q (hs _ _))
def rIxL(K:i5):R2:=λx y H Q=>∃p xs i v,x=.ref p/\y=.int i/\SqL K H p xs/\atI xs i=some v/\Q v H
def rIxT(K:i5):R2:=λx y H Q=>∃p xs i v,x=.ref p/\y=.int i/\SqT K H p xs/\atI xs i=some v/\Q v H
def rIxS:R2:=λx y H Q=>∃z i c,x=.str z/\y=.int i/\z.length<=sizeLine/\atI z.cps.toList i=some c/\Q (.str ⟨#[c]⟩) H
def iR:IxR X (rIxL X.K):=by
 intro value slice pins s σ H x y v u Q I rx ry h hs;obtain⟨p,xs,i,z,rfl,rfl,hq,he,q⟩:=h;cases rx;obtain⟨t,rfl⟩:=ry;obtain⟨its,r,pl,hz⟩:=I.list hq;obtain⟨j,h1,h2,h3,h4,h5⟩:=Qo he;obtain⟨w,ew,rw'⟩:=r.get h2;have hl:=r.length;have hn:=Ii;have fin:EP X pins σ Q w s:=⟨z,H,I,rw',q⟩;by_cases h0:0<=i
 .have hj : i.toNat = j:= by
   rw[seqIndex_of h0 h5]at h1;exact BS h1
  exact item_listR pl.isList h0 (by lia) (by rw[hj];simpa using ew) fin hs
 .have hj : (i+(its.toArray.size : Int)).toNat = j:= by
   rw[seqIndex_neg (by lia) h4]at h1;rw[m8,<-hl];exact BS h1
  exact subscriptTail_builtinR (x:=w) pl.isList.typeIs KR.lookup
   (wpAny_getItem_list_neg (Q:=λr s'=>r=w/\EP X pins σ Q r s') pl.isList (by lia) (by rw[m8] <;> lia) (by lia) (by rw[hj];simpa using ew) ⟨rfl,fin⟩) hs
def AE:IxR X (rIxT X.K):=by
 intro value slice pins s σ H x y v u Q I rx ry h hs;obtain⟨p,xs,i,z,rfl,rfl,hq,he,q⟩:=h;cases rx;obtain⟨t,rfl⟩:=ry;obtain⟨its,r,pl,hz⟩:=I.tuple hq;obtain⟨j,h1,h2,h3,h4,h5⟩:=Qo he;obtain⟨w,ew,rw'⟩:=r.get h2;have hl:=r.length;have hn:=Ii;have fin:EP X pins σ Q w s:=⟨z,H,I,rw',q⟩;exact subscriptTail_builtinR (x:=w) pl.typeIs ND.lookup
  (getItem_tuple (j:=j) (Q:=λr s'=>r=w/\EP X pins σ Q r s') pl (by lia) (by lia) (by rw[m8,<-hl];exact h1) (by simpa using ew) ⟨rfl,fin⟩) hs
def AF:IxR X rIxS:=by
 intro value slice pins s σ H x y v u Q I rx ry h hs;obtain⟨z,i,c,rfl,rfl,hz,he,q⟩:=h;obtain⟨t,rfl⟩:=rx;obtain⟨t',rfl⟩:=ry;obtain⟨j,h1,h2,h3,h4,h5⟩:=Qo he;have hl:z.cps.toList.length=z.length:=by simp[Str.length]
 rw[hl]at h1 h4 h5;have hn:=Ii;exact tail_any (typeIs_str s z t) slot_str_getitem.lookup (getItem_str (c:=c) (by
  have e1:decide (i < -(2 ^ 63:Int))=false:=decide_eq_false (by lia);have e2:decide (i≥2 ^ 63)=false:=decide_eq_false (by lia);rw[e1,e2,KH]) (by rw[h1];simpa using h2) ⟨.str ⟨#[c]⟩,H,I.tok _,⟨_,rfl⟩,q⟩) hs
def rIx(K:i5):R2:=λx y H Q=>rIxL K x y H Q\/rIxT K x y H Q\/rIxS x y H Q
def AG:IxR X (rIx X.K):=iR.or (AE.or AF)
def Yj(lo hi:Option Int)(n:Nat):(IR lo hi none n).1=((HT.sIx n 0 lo:Nat):Int)/\(IR lo hi none n).2.1=((HT.sIx n n hi:Nat):Int)/\(IR lo hi none n).2.2=1:=by
 refine⟨?_,?_,rfl⟩
 .cases lo with
  |none=>simp[IR,HT.sIx]
  |some i=>
   simp only[IR,HT.sIx,Option.getD_none,show(1:Int)>0 by decide,if_true];by_cases h:i<0
   .simp only[h,if_true] <;> lia
   .simp only[h,if_false] <;> lia
 .cases hi with
  |none=>simp[IR,HT.sIx]
  |some i=>
   simp only[IR,HT.sIx,Option.getD_none,show(1:Int)>0 by decide,if_true];by_cases h:i<0
   .simp only[h,if_true] <;> lia
   .simp only[h,if_false] <;> lia
def Jz(its:List g9)(lo hi:Option Int):slicePick its.toArray lo hi none=((its.drop (HT.sIx its.length 0 lo)).take (HT.sIx its.length its.length hi-HT.sIx its.length 0 lo)).toArray:=by
 obtain⟨h1,h2,h3⟩:=Yj lo hi its.toArray.size;unfold slicePick;rw[h1,h2,h3];simp only[sliceRange_one,pick_run,m8] <;> rfl
def rSlL(K:i5):V->Option Int->Option Int->Hp->VK->Prop:=λx lo hi H Q=>∃a xs,x=.ref a/\SqL K H a xs/\∀p,H p=none->Q (.ref p) (upd H p (.lst (mE xs lo hi)))
def sl_list:SlR X (rSlL X.K):=by
 intro pins s σ H x v vl vu lo hi sl Q I rx hs pl pu h;obtain⟨a,xs,rfl,hx,q⟩:=h;cases rx;obtain⟨its,r,ht,hz⟩:=I.list hx;have hlen:=r.length;refine⟨"list",_,KR.lookup,ht.isList.typeIs,?_⟩;refine KY ht.isList hs pl pu .none (by simp) ?_ (by rw[m8] <;> lia)
 rw[Jz,<-hlen];refine⟨.ref s.heap.objs.size,_,I.laid (t':=s.toks) (o:=.lst (mE xs lo hi)) (λb ob q=>l8 _ q) (s0 _) ?_,rfl,q _ (I.hok.fresh (s0 _))⟩;exact⟨l9 (Ip xs lo hi) hz,_,0,(r.drop (HT.sIx xs.length 0 lo)).take (HT.sIx xs.length xs.length hi-HT.sIx xs.length 0 lo),x5 _ rfl⟩
def Mg:Bb X (.type "list") (λxs H Q=>∃p ys,xs=[.ref p]/\(SqL X.K H p ys\/SqT X.K H p ys)/\∀l,H l=none->Q (.ref l) (upd H l (.lst ys))):=by
 intro pins s σ H xs us Q I r h;obtain ⟨p,ys,rfl,hq,q⟩:=h;obtain ⟨u,rfl,rx⟩:=Wj r;cases rx;have fin : ∀ (its : List g9),Vals ys its -> ys.length <= sizeLine -> ∀ (h' : BL) (c' : Nat),(∀ b o',s.heap.get? b = some o' -> h'.get? b = some o') ->
  h'.get? s.heap.objs.size=some {cls:=.type "list",dict:=none,data:=.seq its.toArray c',slots:=#[]}->EP X pins σ Q (.ref s.heap.objs.size) {s with heap:=h'}:=λits r' hz h' c' kp e=>
  ⟨.ref s.heap.objs.size,_,I.laid (t':=s.toks) kp (s0 _) (show ObjOk X.prog X.w _ h' _ (.lst ys) from ⟨hz,its,c',r',e⟩),rfl,q _ (I.hok.fresh (s0 _))⟩
 rcases hq with hq |hq
 .obtain⟨its,r',pl,hz⟩:=I.list hq
  have hlen:=r'.length;obtain⟨o,ho,hc,n,hd⟩:=pl.isList;exact call_list_seq p (.inl rfl) ho hc hd (λh' c' kp e=>fin its r' hz h' c' kp e) (by simp only[m8] <;> lia)
 .obtain⟨its,r',pl,hz⟩:=I.tuple hq
  have hlen:=r'.length;obtain⟨o,ho,hc,n,hd⟩:=pl;exact call_list_seq p (.inr rfl) ho hc hd (λh' c' kp e=>fin its r' hz h' c' kp e) (by simp only[m8] <;> lia)
def Ki:Bb X (.type "tuple") (λxs H Q=>∃p ys,xs=[.ref p]/\((SqL X.K H p ys/\∀l,H l=none->Q (.ref l) (upd H l (.tup ys)))\/(SqT X.K H p ys/\Q (.ref p) H))):=by
 intro pins s σ H xs us Q I r h;obtain⟨p,ys,rfl,h⟩:=h;obtain⟨u,rfl,rx⟩:=Wj r;cases rx;rcases h with⟨hq,q⟩ |⟨hq,q⟩
 .obtain⟨its,r',pl,hz⟩:=I.list hq
  have hlen:=r'.length;refine call_tuple_list pl.isList (λh' kp=>?_) (by simp only[m8] <;> lia)
  have I1:Inv X pins σ H {s with heap:=h'}:=I.kept (t':=s.toks) kp;have I2:Inv X pins σ (upd H h'.objs.size (.tup ys)) {s with heap:=h'.push {cls:=.type "tuple",data:=.seq its.toArray}}:=
   I1.laid (t':=s.toks) (λb o e=>l8 _ e) (s0 _) (show ObjOk X.prog X.w _ _ _ (.tup ys) from ⟨hz,its,r',IsTup.new _ _⟩)
  exact⟨.ref h'.objs.size,_,I2,rfl,q _ (I1.hok.fresh (s0 _))⟩
 .obtain⟨its,r',pl,hz⟩:=I.tuple hq
  exact call_tuple_same pl ⟨.ref p,H,I,rfl,q⟩
def tyV(K:i5)(T:String)(x:V)(H:Hp):Prop:=match x with
 |.str _=>T="str"
 |.int _=>T="int"
 | .ref p => (T = "list" /\ ∃ xs,SqL K H p xs) \/ (T = "tuple" /\ ∃ o,K.lookup p = some o /\ o.cls = .type "tuple" /\ o.dict = none) \/
  (T="dict"/\((∃kvs,H p=some (.dK kvs))\/∃kvs,H p=some (.dT kvs)))\/(T="set"/\∃S n,H p=some (.set S n))
 |_=>False
def mW{pins:List (i9×Obj)}{σ:St}{H:Hp}{s:i6}{T:String}{x:V}{v:g9}(I:Inv X pins σ H s)(r:RelV x v)(ty:tyV X.K T x H):
 s.TypeIs v T/\∀a,v=.ref a->∃ob,s.heap.get? a=some ob/\ob.dict=none:=by
 cases x with
 |str z=>
  obtain⟨t,rfl⟩:=r;cases (show T="str" from ty);exact⟨typeIs_str s z t,λ_ e=>nomatch e⟩
 |int i=>
  obtain⟨t,rfl⟩:=r;cases (show T="int" from ty);exact⟨typeIs_int s i t,λ_ e=>nomatch e⟩
 |ref p=>
  cases r;rcases ty with⟨rfl,xs,hq⟩ |⟨rfl,o,hk,hc,hd⟩ |⟨rfl,hk⟩ |⟨rfl,S,n,hk⟩
  .obtain⟨its,_,pl,_⟩:=I.list hq
   refine⟨pl.isList.typeIs,λa e=>?_⟩;cases e;obtain⟨o,n,e,c,hd,_⟩:=pl;exact⟨o,e,hd⟩
  .refine⟨⟨o,I.kIn p o hk,hc⟩,λa e=>?_⟩
   cases e;exact⟨o,I.kIn _ o hk,hd⟩
  .have z : ∃ o,s.heap.get? p = some o /\ o.ExactDict:= by
    rcases hk with⟨kvs,hk⟩ |⟨kvs,hk⟩
    .obtain⟨_,_,_,_,o,_,_,e,ex,_⟩:=I.hok p _ hk
     exact⟨o,e,ex⟩
    .obtain⟨_,_,_,_,o,_,_,e,ex,_⟩:=I.hok p _ hk
     exact⟨o,e,ex⟩
   obtain⟨o,e,ex⟩:=z;refine⟨⟨o,e,ex.1⟩,λa e2=>?_⟩;cases e2;exact⟨o,e,ex.2.1⟩
  .obtain⟨o,_,_,_,e,ex,_⟩:=I.hok p _ hk
   refine⟨⟨o,e,ex.1⟩,λa e2=>?_⟩;cases e2;exact⟨o,e,ex.2.1⟩
 |_=>exact GA ty
def tBM0(K:i5)(T:String)(r:V->List V->Hp->VK->Prop)(to:TE):TE:=λσ H Q=>to σ H λx H1=>tyV K T x H1/\r x [] H1 Q
def tBM(K:i5)(T:String)(r:V->List V->Hp->VK->Prop)(to:TE)(t:TA):TE:=λσ H Q=>to σ H λx H1=>tyV K T x H1/\t σ H1 λxs H2=>r x xs H2 Q
variable {o e:Expr}{es:List Expr}{to:TE}{t:TA}{name:Str}{apos cpos:Pos}{T id:String}{r:V->List V->Hp->VK->Prop}
def zB(pa:PlainAttrs T)(slot:Slot T name id)(hty:typeOf (.builtin id)=pure (.type "method_descriptor"))(hm:MtR X id r)(ho:PE X o to)
 (hbase:FK o name X.env (eval o X.env)=eval o X.env:=by rfl) (hline:(apos.endLine==cpos.line)=true:=by rfl):PE X (.Call (.Attribute o name apos) [] [] cpos) (tBM0 X.K T r to):=by
 intro pins s σ H Q I h;refine wpAny_Call_method0_late hbase hline (thn (ho pins s σ H _ I h) λv s1 hZ2=>?_);obtain⟨x,H1,I1,r1,ty,q1⟩:=hZ2;obtain⟨h1,h2⟩:=mW I1 r1 ty;exact⟨T,id,pa,slot,hty,h1,h2,IG rfl (PySem.evalArgs_none (hm pins s1 σ H1 x [] v [] Q I1 r1 .nil q1))⟩
def Lx(pa:PlainAttrs T)(slot:Slot T name id)(hty:typeOf (.builtin id)=pure (.type "method_descriptor"))(hm:MtR X id r)(ho:PE X o to)(ha:PA X (e::es) t)
 (hbase:FK o name X.env (eval o X.env)=eval o X.env:=by rfl)
 (hfew:((CD cpos (i8 (e::es) X.env)).all (λx=>!x.1)&&(HY cpos (FL [] X.env)).all (λx=>x.1.isSome)
  && decide ((e::es).length+([]:List GX).length+(if ([]:List GX).isEmpty then 0 else 1)<30))=true:=by rfl)
 (hline:(apos.endLine==cpos.line)=true:=by rfl) (hs:i8 (e::es) X.env=(false,eval e X.env)::i8 es X.env:=by rfl) (hplain:(CD cpos (i8 es X.env)).any (·.1)=false:=by rfl):
 PE X (.Call (.Attribute o name apos) (e::es) [] cpos) (tBM X.K T r to t):=by
 intro pins s σ H Q I h;refine wpAny_Call_method_late hbase hfew hline rfl (thn (ho pins s σ H _ I h) λv s1 hZ2=>?_);obtain⟨x,H1,I1,r1,ty,q1⟩:=hZ2;obtain⟨h1,h2⟩:=mW I1 r1 ty;refine⟨T,id,pa,slot,hty,h1,h2,?_⟩;have hA:=ha cpos pins s1 σ H1 _ I1 q1;rw[hs]at hA ⊢;refine IG (by show(false||(CD cpos (i8 es X.env)).any (·.1))=false;rw[hplain] <;> rfl) (HN ?_)
 exact thn hA λus s2 hZ2=>by obtain⟨vs,H2,I2,r2,q2⟩:=hZ2;exact hm pins s2 σ H2 x vs v us Q I2 r1 r2 q2
end
def MtM(X:Cx)(id:String)(r:V->List V->Hp->VK->Prop):Prop:=
 ∀(pins:List (i9×Obj)) (s:i6) (σ:St) (H:Hp) (x:V) (xs:List V) (v:g9) (us:List g9) (Q:VK),Inv X pins σ H s->RelV x v->Vals xs us->r x xs H Q ->
  wpAny (u7 X.prog X.w) X.A (call (.builtin id) (v::us)) (EP X pins σ Q) X.xe s
def Vals.zero{us:List g9}(h:Vals [] us):us=[]:=by cases h;rfl
def Vals.uncons{x:V}{xs:List V}{us:List g9}(h:Vals (x::xs) us):∃u r,us=u::r/\RelV x u/\Vals xs r:=by cases h with |cons a t=>exact⟨_,_,rfl,a,t⟩
def Vals.one{x:V}{us:List g9}(h:Vals [x] us):∃u,us=[u]/\RelV x u:=by
 obtain⟨u,r,rfl,a,t⟩:=h.uncons;exact⟨u,by rw[t.zero],a⟩
theorem Vals.dropLast{xs:List V}{us:List g9}(h:Vals xs us):Vals xs.dropLast us.dropLast:=by
 induction h with
 |nil=>exact .nil
 |cons r t ih=>
  cases t with
  |nil=>exact .nil
  |cons q t'=>exact .cons r ih
theorem Vals.reverse{xs:List V}{us:List g9}(h:Vals xs us):Vals xs.reverse us.reverse:=by
 induction h with
 |nil=>exact .nil
 |cons r t ih=>rw[IK,IK];exact Vals.append ih (.cons r .nil)
def Vals.rep{xs:List V}{us:List g9}(h:Vals xs us):∀k:Nat,Vals (u6 k xs).flatten (u6 k us).flatten:=by
 intro iN;induction iN with
 |zero=>skip;exact .nil
 |succ k ih=>
  skip
  rw[FO,FO,GI,GI];exact Vals.append h (ih)
def fY{α:Type}(l:List α):l.eraseIdx (l.length-1)=l.dropLast:=by
 induction l with
 |nil=>rfl
 |cons a r ih=>
  cases r with
  |nil=>rfl
  |cons b r=>
   have e:(a::b::r).length-1=((b::r).length-1)+1:=by
    have h1:(a::b::r).length=r.length+2:=rfl;have h2:(b::r).length=r.length+1:=rfl;lia
   rw[e,List.eraseIdx_cons_succ,ih];all_goals rfl
def lU(its:List g9):∀(k:Nat) (acc:List g9),
 MI (λx1 x2=>x1++x2) acc.toArray (u6 k its.toArray)=(acc++(u6 k its).flatten).toArray:=by
 intro iN;induction iN with
 |zero=>intro acc;simp
 |succ k ih=>
  intro acc;have e:acc.toArray++its.toArray=(acc++its).toArray:=by simp
  have e2:(acc++its)++(u6 k its).flatten=acc++(u6 (k+1) its).flatten:=by
   rw[FO,GI,x6]
  rw[<-e2,<-ih (acc++its),<-e,FO,List.foldl_cons]
section
variable {X:Cx}{pins:List (i9×Obj)}{σ:St}{H:Hp}{s:i6}{l:i9}{xs ys:List V}
def Inv.lset{its its':List g9}{n:Nat}{f:Array g9->Array g9}{t':Nat}(I:Inv X pins σ H s)(hH:H l=some (.lst xs))
 (e:s.heap.get? l=some {cls:=.type "list",data:=.seq its.toArray n}) (hf:f its.toArray=its'.toArray) (hv:Vals ys its') (hz:ys.length<=sizeLine):
 Inv X pins σ (upd H l (.lst ys)) {s with heap:=s.heap.update l (OA f),toks:=t'}:=by
 have q:=PySem.IsL.update e f;rw[hf]at q;refine I.write (x:=l) (e:=l) (by rw[hH];exact trivial) (.inl rfl) (λb' u hb hu=>(OO s.heap (OA f) (Ne.symm hb)).trans hu) ⟨_,q⟩ ?_;exact⟨hz,its',_,hv,q⟩
def Inv.lnew{its:List g9}{t':Nat}(I:Inv X pins σ H s)(hv:Vals ys its)(hz:ys.length<=sizeLine):
 Inv X pins σ (upd H s.heap.objs.size (.lst ys)) {s with heap:=s.heap.push {cls:=.type "list",data:=.seq its.toArray},toks:=t'}:=
 I.laid (λ_ _ q=>l8 _ q) (s0 _) ⟨hz,its,0,hv,x5 _ rfl⟩
theorem Inv.fresh(I:Inv X pins σ H s):H s.heap.objs.size=none:=I.hok.fresh (s0 _)
def Inv.lstM(I:Inv X pins σ H s)(hH:H l=some (.lst xs)):xs.length<=sizeLine/\∃(its:List g9) (n:Nat),Vals xs its/\xs.length=its.length/\s.heap.get? l=some {cls:=.type "list",data:=.seq its.toArray n}:=by
 obtain⟨z,its,n,r,e⟩:=I.hok l _ hH;exact⟨z,its,n,r,r.length,e⟩
def bX{n:Nat}(h:n<=sizeLine):HJ n=false:=by
 unfold HJ;exact decide_eq_false (by lia)
end
section
variable {X:Cx}
def sV:V->List V->Hp->VK->Prop:=λx vs H Q=>∃l xs y,x=.ref l/\vs=[y]/\H l=some (.lst xs)/\xs.length<sizeLine/\Q .non (upd H l (.lst (xs++[y])))
def Jg:MtM X "list.append" sV:=by
 intro pins s σ H x vs v us Q I rx rv h;obtain⟨l,xs,y,rfl,rfl,hH,hz,q⟩:=h;cases rx;obtain⟨u,rfl,ru⟩:=rv.one;obtain⟨z,its,n,r,hl,e⟩:=I.lstM hH;refine JJ F.slot_list_append ⟨_,e,rfl⟩ F.entry_list_append (F.args_list_append_2 _ _) (PySem.list_append l its.toArray n u (by rw[m8];lia)) ⟨e,?_⟩;refine⟨.non,_,I.lset (its':=its++[u]) hH e (by simp) (r.append (.cons ru .nil)) ?_,rfl,q⟩;rw[k7,CA];lia
def sT:V->List V->Hp->VK->Prop:=λx vs H Q=>∃l b xs zs,x=.ref l/\vs=[.ref b]/\H l=some (.lst xs)/\H b=some (.lst zs)/\xs.length+zs.length<=sizeLine/\Q .non (upd H l (.lst (xs++zs)))
def kZ:MtM X "list.extend" sT:=by
 intro pins s σ H x vs v us Q I rx rv h;obtain⟨l,b,xs,zs,rfl,rfl,hH,hB,hz,q⟩:=h;cases rx;obtain⟨u,rfl,ru⟩:=rv.one;cases ru;obtain⟨z,its,n,r,hl,e⟩:=I.lstM hH;obtain⟨z2,its2,n2,r2,hl2,e2⟩:=I.lstM hB;have hsz:its.toArray.size+its2.toArray.size<=sizeLine:=by rw[m8,m8];lia
 have hlong:¬(!its.toArray.isEmpty&&HJ (its.toArray.size+its2.toArray.size))=true:=by
  rw[bX hsz,Bool.and_false];exact z6
 refine JJ F.slot_list_extend ⟨_,e,rfl⟩ F.entry_list_extend (F.args_list_extend_2 _ _)
  (AutoSeq1.list_extend_list_list_0 l its.toArray n b its2.toArray n2 hlong (by rw[m8];lia) (by lia)) ⟨e,e2,?_⟩
 refine⟨.non,_,I.lset (its':=its++its2) hH e (by simp) (r.append r2) ?_,rfl,q⟩;rw[k7];lia
def rPop:V->List V->Hp->VK->Prop:=λx vs H Q=>∃l xs y,x=.ref l/\vs=[]/\H l=some (.lst xs)/\xs[xs.length-1]?=some y/\Q y (upd H l (.lst xs.dropLast))
def zV:MtM X "list.pop" rPop:=by
 intro pins s σ H x vs v us Q I rx rv h;obtain⟨l,xs,y,rfl,rfl,hH,hy,q⟩:=h;cases rx;have hus:=rv.zero;subst hus;obtain⟨z,its,n,r,hl,e⟩:=I.lstM hH;obtain⟨u,hu,ru⟩:=r.get hy;have hy':its.toArray[its.toArray.size-1]?=some u:=by
  show its.toArray[its.length-1]?=some u;rw[<-LC,<-hl];exact hu
 refine JJ F.slot_list_pop ⟨_,e,rfl⟩ F.entry_list_pop (F.args_list_pop_1 _) (MeetsSeq.list_pop_last l its.toArray n u hy' (by rw[m8];lia)) ⟨e,?_⟩;refine⟨y,_,I.lset (its':=its.dropLast) hH e ?_ r.dropLast ?_,ru,q⟩
 .show its.toArray.eraseIdxIfInBounds (its.toArray.size-1)=its.dropLast.toArray
  rw[m8,List.eraseIdxIfInBounds_toArray,fY]
 .rw[List.length_dropLast]
  lia
def iQ{α:Type}(xs:List α)(k:Nat):(u6 k xs).flatten.length=k*xs.length:=by
 induction k with
 |zero=>simp
 |succ k ih=>rw[FO,GI,k7,ih,Nat.succ_mul,Nat.add_comm]
end
end L2
namespace Att
open PySem PySem.W PySem.Calls PyProof.Rows
def Pk{P:LW}{h:BL}:∀(ns:List Int) (vs:List g9),WellAll P h vs (ns.map WData.int)->IntsAre vs ns:=by
 intro ns;induction ns with
 |nil=>
  intro vs w;rw[EE]at w;cases w;exact .nil
 |cons n ns ih=>
  intro vs w;rw[k6]at w;cases w with
  |cons a b=>
   cases a;exact .cons _ _ (ih _ b)
def kI{l:OpenLaw}{n:Nat}(hn:l.most=some n){P:LW}{h:BL}{args:List WData}{vals:List g9}
 (hpre:l.row.toRowW.claim.pre args=true) (hwl:WellAll P h vals args):
 ∃a vs ns,vals=[CU a]/\args=[WData.list (ns.map WData.int)]/\h.get? a=some {cls:=.type "list",data:=.seq vs.toArray}/\IntsAre vs ns/\ns.length<=n:=by
 have hsh:WShape.hasAll [] args [.list .int]=true:=(pre_splitW hpre).1;have hc:l.pre.holds [] {args:=args}=true:=(pre_splitW hpre).2;obtain⟨d,r,rfl,h1,h2⟩:=hasAllW_cons hsh;obtain rfl:=hasAllW_nil h2;obtain⟨xs,rfl,h3⟩:=hasW_list h1;obtain⟨ns,rfl⟩:=items_int h3;have hlen:ns.length<=n:=by
  unfold OpenLaw.pre at hc;have h4:(WTm.not (.lt (.lit (.int (n:Int))) (.len (.arg 0)))).holds [] {args:=[.list (ns.map .int)]}=true:=by
   have h4:=(holds_andW hc).1;rw[hn]at h4;exact h4
  have h5:=condW_of h4 (w_not (w_lt w_lit (w_len_list (w_arg rfl))));rw[i7]at h5;refine Nat.le_of_not_lt λq=>?_;have q':(n:Int)<((ns.length:Nat):Int):=by lia
  first
   | (rw[decide_eq_true q']at h5;exact absurd h5 (by decide))
   | (simp at h5;lia)
 cases hwl with
 |cons w1 w2=>
  cases w2;cases w1 with
  |list ho hall=>exact⟨_,_,ns,rfl,rfl,ho,Pk ns _ hall,hlen⟩
def kQ(l:OpenLaw)(args:List WData):l.row.toRowW.claim.post args (.bool true) args=true:=
 postW_of (r:=l.row.toRowW) (X:=(true==true))
  (show WShape.has [] (.bool true) .bool=true by first |rfl |decide |simp[WShape.has,WShape.arms,WShape.armsAll])
  (show(WTm.eq .res (.lit (.bool true))).value [] {args:=args,res:=some (.bool true),after:=args}=some (.bool (true==true)) from w_eq_bool (w_res rfl) w_lit) rfl
def attach_call{l:OpenLaw}{n:Nat}{q:o9}{loose:List Str}{XP:(Str->Option g9)->BL->Prop}{YP:x8->BL->Prop}{d:DefRec}
 (hn:l.most=some n) (hdf:d.params.defaults=[])
 (call:∀(w:x8) (s₀ s₁:i6) (mg mb:Str->Option g9) (fa:i9) (o:Obj) (pm cd doc:g9) (a:i9) (vs:List g9) (ns:List Int),
  Ground q loose [] XP w s₀ mg mb s₁.heap->YP w s₁.heap ->
  s₁.heap.get? fa=some o->o.data=.func (docDef d.name d.params d.body d.scope pm cd doc)->s₁.heap.CodeRec cd d.name->mg d.name=some (.ref fa) ->
  s₁.heap.get? a=some {cls:=.type "list",data:=.seq vs.toArray}->IntsAre vs ns->ns.length<=n->s₁.gens=#[] ->
  IJ (u7 l.prog w) NP (.call (.ref fa) ⟨[.ref a],[]⟩) (λr s'=>r=.ok (.ret (.bool true))/\OldK s₁.heap s'.heap/\s'.os=s₁.os/\KW s'.gens) s₁):
 WalkO q loose XP YP l.row.toRowW d [] (λf vs=>PySem.call f vs):=by
 intro w s₀ s₁ mg mb G Y fa o pm cd doc dV kV ho hd hcd hD hmg hg args vals as hpre hlay hrd hwl hlo;obtain rfl:dV=.none:=Dflts.none hD hdf;obtain rfl:kV=.none:=Dflts.noKw hD;obtain⟨a,vs,ns,rfl,rfl,hobj,hints,hlen⟩:=kI hn hpre hwl;refine enter_call (JZ (call w s₀ s₁ mg mb fa o pm cd doc a vs ns G Y ho (fd_plain hd) hcd hmg hobj hints hlen hg) λr s' hq=>?_);obtain⟨rfl,h2,h3,h4⟩:=hq;exact⟨.inl ⟨.bool true,.bool true,[],rfl,λ_=>rfl,.bool true,kQ l _,λ_=>⟨List.Pairwise.nil,λ_ hm=>(nomatch hm)⟩⟩,h2,h3,h4⟩
end Att
namespace L2
open PySem PySem.Spec PyProof.Rows
theorem Wi:∀{vs:List g9} {ns:List Int},IntsAre vs ns->Vals (ns.map V.int) vs
 |_,_,.nil=>.nil
 |_,_,.cons n t h=>.cons ⟨t,rfl⟩ (Wi h)
def BH(H:Hp):Prop:=∀b,H b=none\/∃o xs,H b=some (.frz o (.lst xs))
def qC{P:o9}{w:x8}{K:i5}{mg mb:Str->Option g9}{CX:CXT}{k:Nat}{fa a:i9}{fd:IB}{x:Str}{sp:Sp}{s₁:i6}{vs:List g9}{ns:List Int}
 (KX:K.In s₁.heap) (hns:s₁.heap.Ns DD mg) (hb:s₁.heap.Ns LS mb) (hbb:∀x:Str,x≠"__name__"->mb x=GN x) (hlim:s₁.heap.NoLimit) (hg:s₁.gens=#[])
 (ha:s₁.heap.get? a=some {cls:=.type "list",data:=.seq vs.toArray}) (hi:IntsAre vs ns) (hl:ns.length<=sizeLine) (hr:Room k NP)
 (F:∀base:BL,K.In base->base.Ns DD mg->FnOk P w K mg base CX k fa fd [x] sp) (hbind:∀(s:i6) (u:g9),OQ s fd ⟨[u],[]⟩ [(x,u)])
 (hsp:∀H:Hp,BH H->SqL K H a (ns.map V.int)->sp [.ref a] H (λv _=>v=.bl true) λ_ _ _=>False)
 (hCX:∀H e s',CX [] H s₁ (λ_ _ _=>False) e s'->False):
 IJ (u7 P w) NP (.call (.ref fa) ⟨[.ref a],[]⟩) (λr s'=>r=.ok (.ret (.bool true))/\OldK s₁.heap s'.heap/\s'.os=s₁.os/\KW s'.gens) s₁:=by
 have rv:=Wi hi;have lenV:=hi.length;have core : ∀ H : Hp,BH H -> SqL K H a (ns.map V.int) -> HOk P w H s₁.heap -> (∀ b,H b≠none -> b = a) -> (H a≠none -> K.lookup a = none) ->
  IJ (u7 P w) NP (.call (.ref fa) ⟨[.ref a],[]⟩) (λr s'=>r=.ok (.ret (.bool true))/\OldK s₁.heap s'.heap/\s'.os=s₁.os/\KW s'.gens) s₁:=by
  intro H hO hS hok hA hK;have base_of:∀{b:i9} {o:Obj},s₁.heap.get? b=some o->H b=none->(Zs s₁.heap H).get? b=some o:=λe n=>qN e n;have noA:∀{b:i9} {o:Obj} {es:Array CL} {ep:Nat},s₁.heap.get? b=some o->o.data=.dict es ep->H b=none:=λ{b o es ep} e d=>by
   cases q:H b with
   |none=>rfl
   |some u=>
    have e':b=a:=hA b (by rw[q];simp);subst e';rw[ha]at e;cases e;have d':Data.seq vs.toArray _=Data.dict es ep:=d;cases d'
  have nsK:∀{b:i9} {m:Str->Option g9},s₁.heap.Ns b m->(Zs s₁.heap H).Ns b m:=λ{b m} ⟨o,es,ep,e,d,r⟩=>⟨o,es,ep,base_of e (noA e d),d,r⟩;have hKb:K.In (Zs s₁.heap H):=λb o e=>base_of (KX b o e) (by
   cases q:H b with
   |none=>rfl
   |some u=>
    have e':b=a:=hA b (by rw[q];simp);subst e';rw[hK (by rw[q];simp)]at e;cases e)
  have hM:Mod K mg (Zs s₁.heap H):=⟨hKb,nsK hns,⟨mb,nsK hb,hbb⟩,let ⟨mc,h1,h2⟩:=hlim;⟨mc,nsK h1,h2⟩⟩;have e0:Env0 P w K mg (Zs s₁.heap H) NP [] s₁ H:=⟨rfl,hM,λb o e=>uD e,Nat.le_of_eq (lR _ _),trivial,λb hb=>absurd (show b∈([]:List i9) from hb) (by simp),hok,.of_eq hg⟩;refine JZ ((F _ hKb (nsK hns)).run NP [] s₁ H ⟨[.ref a],[]⟩ [.ref a] [.ref a] _ _ hr e0 (hbind s₁ (.ref a)) (.cons rfl .nil) (hsp H hO hS)) λr s' h=>?_;cases r with
  |error e=>exact(hCX H e s' h).elim
  |ok fl=>
   cases fl with
   |next=>exact GA h
   |brk=>exact GA h
   |cont=>exact GA h
   |ret u=>
    obtain⟨v,H',os,bare,un,hok',r',q⟩:=h;have q':v=.bl true:=q;subst q';obtain rfl:u=EF true:=r';refine⟨rfl,OldK.of_keep λb o e=>?_,os,bare⟩;cases q:H b with
    |none=>exact un.keep b o e q (by intro z;exact absurd (show b∈([]:List i9) from z) (by simp)) (by simp)
    |some u=>
     rcases hO b with z |⟨ob,xs,z⟩
     .rw[q]at z;cases z
     .have z2:=un.frzs b ob _ z
      obtain⟨e1,_⟩:=hok b _ z;obtain⟨e2,_⟩:=hok' b _ z2;rw[e]at e1;cases e1;exact e2
 cases hk:K.lookup a with
 |some o=>
  have e:=KX a o hk;rw[ha]at e;cases e;refine core (λ_=>none) (λ_=>.inl rfl) (.inr ⟨_,vs.toArray,_,hk,rfl,rfl,rfl,by rw[m8,lenV];exact hl,by simpa using rv⟩) (λb u z=>by have z':(none:Option HO)=some u:=z;cases z') (λb z=>absurd rfl z) λz=>absurd rfl z
 |none=>
  refine core (λb=>if b=a then some (.frz {cls:=.type "list",data:=.seq vs.toArray} (.lst (ns.map V.int))) else none) (λb=>?_) (.inl (.inr ⟨{cls:=.type "list",data:=.seq vs.toArray},iq rfl⟩)) (λb u z=>?_) (λb z=>?_) λ_=>hk
  .by_cases hb:b=a
   .exact .inr ⟨_,_,iq hb⟩
   .exact .inl (ir hb)
  .by_cases hb:b=a
   .have z':=(iq hb).symm.trans z
    cases z';subst hb;exact⟨ha,by rw[i7];exact hl,vs,_,rv,ha⟩
   .have z':=(ir hb).symm.trans z
    cases z'
  .by_cases hb:b=a
   .exact hb
   .exact absurd (ir hb) z
def rW{l:PySem.W.OpenLaw}{n k:Nat}{q:o9}{loose:List Str}{XP:(Str->Option g9)->BL->Prop}{YP:x8->BL->Prop}{d:DefRec}{K:LW->i5}{CX:x8->CXT}{sp:x8->Sp}{x:Str}
 (hn:l.most=some n) (hn2:n<=sizeLine) (hdf:d.params.defaults=[]) (hr:Room k NP)
 (hY:∀(w:x8) (h:BL),YP w h->(K w.params).In h)
 (F:∀(w:x8) (mg:Str->Option g9) (fa:i9) (h:BL),(K w.params).In h->h.Ns DD mg->mg d.name=some (.ref fa) ->
  ∃fd:IB,(∀(s:i6) (u:g9),OQ s fd ⟨[u],[]⟩ [(x,u)]) /\
   ∀base:BL,(K w.params).In base->base.Ns DD mg->FnOk l.prog w (K w.params) mg base (CX w) k fa fd [x] (sp w))
 (hsp:∀(w:x8) (H:Hp) (a:i9) (ns:List Int),ns.length<=n->BH H->SqL (K w.params) H a (ns.map V.int)->sp w [.ref a] H (λv _=>v=.bl true) λ_ _ _=>False)
 (hCX:∀(w:x8) (H:Hp) (s:i6) (e:g9) (s':i6),CX w [] H s (λ_ _ _=>False) e s'->False):
 PySem.W.WalkO q loose XP YP l.row.toRowW d [] (λf vs=>PySem.call f vs):=by
 refine Att.attach_call hn hdf λw s₀ s₁ mg mb fa o pm cd doc a vs ns G Y ho hd hcd hmg hobj hints hlen hg=>?_;have KX:=hY w _ Y;obtain⟨fd,hb,hF⟩:=F w mg fa _ KX G.T.g hmg;exact qC KX G.T.g G.T.b G.T.builtins G.T.nolimit hg hobj hints (l9 hlen hn2) hr hF hb (λH hO hS=>hsp w H a ns hlen hO hS) λH e s'=>hCX w H s₁ e s'
abbrev CX0:CXT:=λ_ _ _ _ _ _=>False
abbrev E0:XK:=λ_ _ _=>False
def Sw{X:Cx}:aG CX0 X E0:=λ_ _ _ _ _ _ _ h=>h.elim
structure Fun(K:i5)(x qual:Str)(st:GC)(f:i9)(fd:IB):Prop where
 ex:∃(oc:g9) (od:Option i9) (kV doc pm:g9) (an:Option i9) (cdv ct:g9) (osl:Array (Option g9)),
  fd=CF x qual (P7 st) (B6 st) (A5 st) .none kV doc pm an cdv ct/\K.lookup f=some ⟨oc,od,.func fd,osl⟩/\FD K cdv qual=true
 kp:BR K (.ref f)=true
section
variable {P:o9}{w:x8}{K:i5}{mg:Str->Option g9}{base:BL}
def Fun.ok{x qual:Str}{st:GC}{f:i9}{fd:IB}{N ps:List Str}{k:Nat}{sp:Sp}(F:Fun K x qual st f fd)(S:FnScope N ps (A5 st))(len:∀vs H Q E,sp vs H Q E->vs.length=ps.length)
 (hbody:∀(cdv:g9) (A:BO) (outer:List Env) (s:i6) (H:Hp) (vs:List V) (Q:VK) (E:XK),Room k (A.deeper (envOfC qual (A5 st) s.heap.objs.size f cdv))->sp vs H Q E ->
  ∃t,PSs (Zz CX0 P w K mg base N qual (A5 st) f cdv A outer s H E).nox (B6 st) t/\t {nx:=λ_ H'=>Q .non H',rt:=Q} (Aq N vs) H):FnOk P w K mg base CX0 (k+1) f fd ps sp:=by
 obtain⟨oc,od,kV,doc,pm,an,cdv,ct,osl,rfl,lk,hcd⟩:=F.ex;refine xG lk hcd S len λA outer s H vs Q E hr hsp=>?_;obtain⟨t,h,q⟩:=hbody cdv A outer s H vs Q E hr hsp;exact⟨t,h.nox,q⟩
def Fun.binds{x qual:Str}{st:GC}{f:i9}{fd:IB}{ps:List Str}(F:Fun K x qual st f fd)
 (h:∀(kV doc pm:g9) (an:Option i9) (cdv ct:g9) (us:List g9),us.length=ps.length->LK (CF x qual (P7 st) (B6 st) (A5 st) .none kV doc pm an cdv ct) ⟨us,[]⟩=pure (ps.zip us)):Binds K fd ps []:=by
 obtain⟨oc,od,kV,doc,pm,an,cdv,ct,osl,rfl,lk,hcd⟩:=F.ex;exact .all (h kV doc pm an cdv ct)
def qQ{x qual:Str}{st:GC}{f:i9}{oc:g9}{od an:Option i9}{osl:Array (Option g9)}{kV doc pm cdv ct:g9}(l:K.lookup f=some ⟨oc,od,.func (CF x qual (P7 st) (B6 st) (A5 st) .none kV doc pm an cdv ct),osl⟩)
 (c:FD K cdv qual=true) (k:BR K (.ref f)=true):Fun K x qual st f (CF x qual (P7 st) (B6 st) (A5 st) .none kV doc pm an cdv ct):=⟨⟨oc,od,kV,doc,pm,an,cdv,ct,osl,rfl,l,c⟩,k⟩
end
def Same(H H':Hp):Prop:=∀b o,H b=some o->H' b=some o
def Same.refl(H:Hp):Same H H:=λ_ _ h=>h
def Same.trans{H H1 H2:Hp}(a:Same H H1)(b:Same H1 H2):Same H H2:=λc o h=>b c o (a c o h)
def Same.free{H H':Hp}(e:Same H H'){l:i9}(h:H' l=Option.none):H l=Option.none:=by
 cases q:H l with
 |none=>rfl
 |some o=>
  rw[e l o q]at h;cases h
end L2
section
namespace Sm
open PySem PySem.Spec PyProof.Rows L2
noncomputable abbrev St:=L2.St
section
variable {prog:o9}{w:x8}{A:BO}{R:Result->i6->Prop}{s:i6}
def aA{elt target iter:Expr}{ifs:List Expr}{scope:Scope}{pos:Pos}{it acc:g9}{env:Env}(I:Nat->i6->Prop)
 (turn:∀n s,I n s->wpAny (u7 prog w) A (KL it) (λr s₁=>match r with
  |none=>R (.ok .next) s₁
  | some v => wpAny (u7 prog w) A (LZ target it v) (λ_ s₁' => wpAny (u7 prog w) A (assign target env v) (λ_ s₂ =>
   wpAny (u7 prog w) A (forIn ifs true λc r=>if r=true then do let ok <-isTrue c env (eval c env);pure (GB ok) else pure (GB r)) (λok s₃=>
    if ok=true then wpAny (u7 prog w) A (eval elt env) (λx s₄=>
     wpAny (u7 prog w) A (call (.builtin "list.append") [acc,x]) (λ_ s₅=>∃m,m<n/\I m s₅) (λ_ _=>False) s₄) (λ_ _=>False) s₃
    else ∃m,m<n/\I m s₃) (λ_ _=>False) s₂) (λ_ _=>False) s₁') (λ_ _=>False) s₁) (λ_ _=>False) s)
 (n:Nat) (h:I n s):IJ (u7 prog w) A (.compLoop (.ListComp elt [⟨target,iter,ifs,0⟩] scope pos) 0 it acc env) R s:=by
 refine codeAny_loop rfl I (λn s hI=>?_) n h;show wpAny _ A ((compTurn (.ListComp elt [⟨target,iter,ifs,0⟩] scope pos) 0 it acc env).onRaise (λx=>do noteFrame x env;theTreesLotGoes x)) _ _ s;refine wpAny_noted ?_;rw[compTurn_list];refine f9 (wpAny_standAt (f9 (DG (turn n s hI) (λr s₁ h₁=>?_) λ_ _ h'=>h'.elim)));cases r with
 |none=>exact i0 h₁
 |some v=>
  refine f9 (DG h₁ (λ_ s₁' h₁'=>?_) λ_ _ h'=>h'.elim);refine f9 (DG h₁' (λ_ s₂ h₂=>f9 (DG h₂ (λok s₃ h₃=>?_) λ_ _ h'=>h'.elim)) λ_ _ h'=>h'.elim);cases ok with
  |false=>exact i0 ⟨rfl,h₃⟩
  |true=>
   exact f9 (f9 (DG h₃ (λx s₄ h₄=>f9 (DG h₄ (λ_ s₅ h₅=>i0 (i0 ⟨rfl,h₅⟩)) λ_ _ h'=>h'.elim)) λ_ _ h'=>h'.elim))
end
def eA(X:Cx)(s₃:i6)(H₃:Hp)(scope:Scope)(cl:List (Str×i9))(N':List Str)(fp:List i9):Cx:=
 {X with N:=N',s₀:=s₃,H₀:=H₃,env:=compEnvC scope cl s₃.heap.objs.size X.env,outer:=X.stack,stack:=X.stack,ex:=fp,fn:=λ_=>false,pn:=[],xe:=λ_ _=>False}
structure Blk(X X':Cx)(N':List Str)(sc':Scope):Prop where
 prog:X'.prog=X.prog
 w:X'.w=X.w
 K:X'.K=X.K
 mg:X'.mg=X.mg
 base:X'.base=X.base
 A:X'.A=X.A
 calm:X'.calm=X.calm
 N:X'.N=N'
 sc:X'.env.scope=sc'
 xe:X'.xe=λ_ _=>False
structure Clos(X:Cx)(scope:Scope)(cl:List (Str×i9)):Prop where
 clo:closureFor scope X.env=pure cl
 sub:∀x c,cl.lookup x=some c->X.env.cells.lookup x=some c
 has:∀x,(FU scope X.env).names.lookup x=some .cell\/(FU scope X.env).names.lookup x=some .free->∃c,cl.lookup x=some c
section
variable {X:Cx}{pins:List (i9×Obj)}{σ:St}{H:Hp}{s₃:i6}
def AZ{scope:Scope}{cl:List (Str×i9)}{N':List Str}{fp:List i9}(I:Inv X pins σ H s₃)(hk:scope.kind=.function)(C:Clos X scope cl)(hfp:∀b∈fp,Nw X pins H b)(hlt:∀b∈fp,b<s₃.heap.objs.size):
 (eA X s₃ H scope cl N' fp).Ok where
 mod:=I.ok.mod
 kind:=hk
 glob:=I.ok.glob
 blt:=I.ok.blt
 above:=s0 _
 inj:=λx y c h1 h2=>I.ok.inj x y c (C.sub x c h1) (C.sub y c h2)
 has:=λx h=>C.has x h
 cab:=λx c h=>nomatch h
 hd:=I.ok.hd
 frames:=I.ok.frames
 stk:=.inl rfl
 exf:=λb hb=>⟨z8 (hlt b hb),λx c h=>(hfp b hb).2.2.2.2.1 x c (C.sub x c h)⟩
 bs:=λb o e=>I.bs b o e
 bsz:=l9 I.ok.bsz I.sz
 noex:=λb o e hb=>by
  rcases (hfp b hb).2.2.2.1 with z |z
  .exact I.ok.noex b o e z
  .exact absurd (y9 (q9 e) (l9 I.ok.bsz z)) (HD _)
 exfs:=λb hb z=>by
  rcases j9.mp (I.stkSub b z)with q |q
  .exact(hfp b hb).2.1 q
  .exact(hfp b hb).2.2.1 q
 funs:=I.stack
 frf:=I.stkFree
def Hm(σ:St)(cap:List Nat):St:=cap.map λj=>σ[j]?.join
def wG{scope:Scope}{cl:List (Str×i9)}{xs:List Str}{cap:List Nat}{capN:List Str}{fp:List i9}{h₁:BL}{tk:Nat}(I:Inv X pins σ H s₃)(hk:scope.kind=.function)(C:Clos X scope cl)(hfp:∀b∈fp,Nw X pins H b)(hlt:∀b∈fp,b<s₃.heap.objs.size)
 (hcap:cap.map (λj=>X.N[j]?)=capN.map some) (hcl:∀x∈capN,(FU scope X.env).names.lookup x=some .cell\/(FU scope X.env).names.lookup x=some .free)
 (hvis:∀x∈capN,X.env.scope.names.lookup x=some .cell\/X.env.scope.names.lookup x=some .free) {m:Str->Option g9}
 (hns:h₁.Ns s₃.heap.objs.size m) (old:∀b o,s₃.heap.get? b=some o->h₁.get? b=some o):
 Inv (eA X s₃ H scope cl (xs++capN) fp) [] (xs.map (λ_=>none)++Hm σ cap) H {s₃ with heap:=h₁,toks:=tk}:=by
 have hlen:cap.length=capN.length:=by simpa using congrArg GU hcap
 refine⟨AZ I hk C hfp hlt,rfl,I.bare,Un.kept old,⟨m,hns,λi x v e1 e2 e3=>?_⟩,λx c e=>?_,I.hok.fresh (s0 _),λx c e=>I.freeC x c (C.sub x c e),λp hp=>absurd (show p∈([]:List (i9×Obj)) from hp) (by simp),I.hok.kept old,?_⟩
 .have e1':(xs++capN)[i]?=some x:=e1
  by_cases hi:i<xs.length
  .grind
  .rw[DB (by simp_all)]at e2
   rw[DB (by lia)]at e1';rw[i7]at e2;generalize i-xs.length=j at e1' e2;unfold Hm at e2;rw[BP]at e2;have hc:(cap.map (λj=>X.N[j]?))[j]?=some (some x):=by simp_all
   rw[BP]at hc;cases q:cap[j]? with
   |none=>simp_all
   |some k=>
    rw[q]at e2 hc;simp only[IA]at e2 hc;have hc':X.N[k]?=some x:=BS hc;have hs:σ[k]?=some (some v):=by
     grind
    have hx:x∈capN:=GH e1';obtain⟨m',hm',hl'⟩:=I.loc;obtain⟨u,r,l⟩:=hl' k x v hc' hs (by rcases hvis x hx with z |z;exact .inr (.inl z);exact .inr (.inr z));refine⟨u,r,.inr ⟨hcl x hx,?_⟩⟩;obtain⟨c,hcc⟩:=C.has x (hcl x hx);refine⟨c,hcc,?_⟩;rcases l with⟨z,_⟩ |⟨_,c',e',z⟩
    .have z':X.env.scope.names.lookup x=some .local:=z
     grind
    .rw[C.sub x c hcc]at e';cases e'
     obtain⟨o,ho,hd⟩:=z;exact⟨o,old _ _ ho,hd⟩
 .obtain⟨v,o,ho,hd⟩:=I.cell x c (C.sub x c e)
  exact⟨v,o,old _ _ ho,hd⟩
 .show(xs.map (λ_=>none)++Hm σ cap).length=(xs++capN).length
  unfold Hm
  simp_all
end
def Wk(σ1 σ2:St):Prop:=σ1.length=σ2.length/\∀(i:Nat) v,σ1[i]?=some (some v)->σ2[i]?=some (some v)
def gV(wi:TI)(σb:St->St)(g:TG)(tt:TT)(te:TE):TE:=λσ H Q=>wi σ H λJ H1=>∀D,H1 D=none->∃W:Nat->Nat->Hp->Prop,(∃m,W 0 m (upd H1 D (.lst [])))/\∀i m H,W i m H ->
 (J.stop i H/\Q (.ref D) H)\/(J.go i H/\∃N:Hp->Prop,(∀H',N H'->∃m',m'<m/\W (i+1) m' H')/\∀x H',J.yld i H x H'->g x (σb σ) H' λσ2 H2=>Wk (σb σ) σ2/\tt σ2 H2 λb H3=>
  if b=true then te σ2 H3 λy H4=>∃acc,H4 D=some (.lst acc)/\acc.length<sizeLine/\N (upd H4 D (.lst (acc++[y]))) else N H3)
def PTs(X:Cx)(ifs:List Expr)(t:TT):Prop:=
 ∀(pins:List (i9×Obj)) (s:i6) (σ:St) (H:Hp) (Q:Bool->Hp->Prop),Inv X pins σ H s->t σ H Q ->
  wpAny (u7 X.prog X.w) X.A (forIn ifs true λc r=>if r=true then do let ok <-isTrue c X.env (eval c X.env);pure (GB ok) else pure (GB r)) (TP X pins σ Q) X.xe s
def tG{X:Cx}:PTs X [] (λ_ H Q=>Q true H):=λ_ _ _ H _ I h=>wpAny_tests_nil ⟨H,I,h⟩
def sZ{X:Cx}{c:Expr}{t:TT}(h:PT X c t):PTs X [c] t:=λpins s σ H Q I q=>wpAny_tests_one (h pins s σ H Q I q)
structure CompFacts(X:Cx)(scope:Scope)(xs capN:List Str)(cap:List Nat):Prop where
 kind:scope.kind=.function
 nocell:∀y∈scope.names,y.2≠.cell
 names:∀y∈scope.names,y.2=.local->scope.names.lookup y.1=some .local
 clos:∃cl,Clos X scope cl
 hcap:cap.map (λj=>X.N[j]?)=capN.map some
 hcl:∀x∈capN,(FU scope X.env).names.lookup x=some .cell\/(FU scope X.env).names.lookup x=some .free
 hvis:∀x∈capN,X.env.scope.names.lookup x=some .cell\/X.env.scope.names.lookup x=some .free
section
variable {X:Cx}{tg elt iter:Expr}{ifs:List Expr}{scope:Scope}{pos:Pos}{wi:TI}{g:TG}{tt:TT}{te:TE}{xs capN:List Str}{cap:List Nat}
def dJ{use:Option (g9->Sem Unit)}{Q:g9->i6->Prop}{QQ:VK}(hc:X.calm=true)(F:CompFacts X scope xs capN cap)(hi:PI X tg iter wi)
 (hg:∀X',Blk X X' (xs++capN) (FU scope X.env)->PG X' tg g) (ht:∀X',Blk X X' (xs++capN) (FU scope X.env)->PTs X' ifs tt) (he:∀X',Blk X X' (xs++capN) (FU scope X.env)->PE X' elt te)
 (hs:∀x,CB iter X.env x=pure x)
 {pins:List (i9×Obj)} {s:i6} {σ:St} {H:Hp} (I:Inv X pins σ H s) (h:gV wi (λσ=>xs.map (λ_=>none)++Hm σ cap) g tt te σ H QQ) {ps:Pos}
 (fin:∀(s':i6) (H':Hp) (D C:i9) (m:Str->Option g9),Inv X pins σ H' s'->s'.heap.Ns C m->(H' C=none/\X.s₀.heap.objs.size<=C/\C≠X.env.locals/\(∀x c,X.env.cells.lookup x=some c->c≠C)/\∀p∈X.pn++pins,p.1≠C) ->
  QQ (.ref D) H'->compPost (u7 X.prog X.w) X.A X.xe use Q (.ref D) C (.ok .next) s'):
 wpAny (u7 X.prog X.w) X.A (comprehension (.ListComp elt [⟨tg,iter,ifs,0⟩] scope pos) scope X.env ps (newList []) false (eval iter X.env) use) Q X.xe s:=by
 obtain⟨cl,C⟩:=F.clos;refine wpAny_comprehension_free rfl hs C.clo F.kind F.names (thn (hi pins s σ H _ I h) λv s1 h1=>thn h1 λitv s2 h2=>?_);obtain⟨it,fp,tn,J,H2,e,I2,T,st2,f2,h3⟩:=h2;subst e;refine BX ?_;obtain⟨W,⟨m0,w0⟩,turn⟩:=h3 s2.heap.objs.size I2.fresh;have I3:Inv X pins σ (upd H2 s2.heap.objs.size (.lst [])) {s2 with heap:=s2.heap.push {cls:=.type "list",dict:=none,data:=.seq ([]:List g9).toArray}}:=I2.lnew (t':=s2.toks) .nil (ER _);generalize hH3:upd H2 s2.heap.objs.size (HO.lst [])=H3 at I3 w0;generalize hs3:({s2 with heap:=s2.heap.push {cls:=.type "list",dict:=none,data:=.seq ([]:List g9).toArray}}:i6)=s3 at I3
 have hD3:H3 s2.heap.objs.size=some (.lst []):=by rw[<-hH3];exact C8
 have kp3:∀b o,s2.heap.get? b=some o->s3.heap.get? b=some o:=λb o e=>by rw[<-hs3];exact l8 _ e
 have hDlt:s2.heap.objs.size<s3.heap.objs.size:=by rw[<-hs3];show _<(s2.heap.push _).objs.size;rw[Heap.size_push];exact NI _
 have flt:∀b∈fp,b<s2.heap.objs.size:=λb hb=>by
  obtain⟨o,e,_⟩:=T.obj 0 _ st2 b hb;exact q9 e
 have flt3:∀b∈fp,b<s3.heap.objs.size:=λb hb=>Nat.lt_trans (flt b hb) hDlt;have f3:∀b∈fp,Nw X pins H3 b:=λb hb=>⟨by rw[<-hH3,B7 (z8 (flt b hb))];exact(f2 b hb).1,(f2 b hb).2⟩;have st3:tn 0 s3.heap:=T.keep 0 _ _ st2 λb hb o e=>kp3 b o e;show wpAny _ _ (newFunctionEnv scope X.env.globals cl [] X.env.qual none .none (some X.env)) _ _ s3;refine wpAny_newFunctionEnv F.nocell (by intro y hy;simp at hy) (λh₁ hns₁ hsb₁=>?_) F.kind;have old:∀b o,s3.heap.get? b=some o->h₁.get? b=some o:=λb o e=>hsb₁.extBut b o (z8 (q9 e)) (l8 _ e);have B:Blk X (eA X s3 H3 scope cl (xs++capN) fp) (xs++capN) (FU scope X.env):=⟨rfl,rfl,rfl,rfl,rfl,rfl,rfl,rfl,rfl,rfl⟩
 have J0:Inv (eA X s3 H3 scope cl (xs++capN) fp) [] (xs.map (λ_=>none)++Hm σ cap) H3 {s3 with heap:=h₁,toks:=s3.toks+([]:List (Str×g9)).length}:=
  wG I3 F.kind C f3 flt3 F.hcap F.hcl F.hvis hns₁ old
 have st4:tn 0 h₁:=T.keep 0 _ _ st3 λb hb o e=>old b o e;have hg':=hg _ B;have ht':=ht _ B;have he':=he _ B;generalize hX':eA X s3 H3 scope cl (xs++capN) fp=X' at B J0 hg' ht' he';have hex:X'.ex=fp:=by rw[<-hX'];rfl
 have hloc:X'.env.locals=s3.heap.objs.size:=by rw[<-hX'];rfl
 have henv:X'.env=compEnvC scope cl s3.heap.objs.size X.env:=by rw[<-hX'];rfl
 have hpn:X'.pn=[]:=by rw[<-hX'];rfl
 have hxe:X'.xe=λ_ _=>False:=by rw[<-hX'];rfl
 have hH0:X'.H₀=H3:=by rw[<-hX'];rfl
 have hs0:X'.s₀=s3:=by rw[<-hX'];rfl
 have hfs:X'.fs=frs X.stack:=by rw[<-hX'];rfl
 have hP:X'.prog=X.prog:=B.prog;have hw:X'.w=X.w:=B.w;have hA:X'.A=X.A:=B.A;have nfs:∀b∈fp,b∉X'.fs:=λb hb z=>J0.ok.exfs b (by rw[hex];exact hb) z;have stat:∀{pn':List (i9×Obj)} {H':Hp},(∀b∈fp,H' b=none)->(∀p∈pn',p.1∉fp)->∀b∈fp,Nw X' pn' H' b:=λ{pn' H'} hn hp b hb=>
  ⟨hn b hb,by rw[hloc];exact z8 (flt3 b hb),nfs b hb,.inl (by rw[hex];exact hb),λx c e=>(J0.ok.exf b (by rw[hex];exact hb)).2 x c e,λp hp' z=>by
   rw[hpn,BK]at hp';exact hp p hp' (z▸hb)⟩
 have loop : ∀ s₀' : i6,Inv X' [] (xs.map (λ_ => none) ++ Hm σ cap) H3 s₀' -> tn 0 s₀'.heap ->
  IJ (u7 X.prog X.w) X.A (.compLoop (.ListComp elt [⟨tg,iter,ifs,0⟩] scope pos) 0 (.ref it) (.ref s2.heap.objs.size) X'.env) (compPost (u7 X.prog X.w) X.A X.xe use Q (.ref s2.heap.objs.size) s3.heap.objs.size) s₀':=by
  intro s₀' J1 st5;refine aA (λn s'=>∃i H',Inv X' [] (xs.map (λ_=>none)++Hm σ cap) H' s'/\tn i s'.heap/\(∀b∈fp,H' b=none)/\W i n H') ?_ m0 ⟨0,H3,J1,st5,λb hb=>(f3 b hb).1,w0⟩;rintro n s4 ⟨i,H4,J4,st4,fr4,w4⟩;rcases turn i n H4 w4 with⟨stop,qn⟩ |⟨go,N,hN,step⟩
  .have hd:=T.done X' B.prog B.w B.K (B.calm.trans hc) i [] s4 _ H4 (λ_ _=>False) J4 (stat fr4 (by simp)) st4 stop
   rw[hA]at hd;refine thn hd λr s5 hZ2=>?_;obtain⟨hr,J5⟩:=hZ2;subst hr;have un:Un (frs X.stack) fp H3 H4 s3.heap s5.heap:=by
    have:=J5.base;rw[hfs,hex,hH0,hs0]at this;exact this
   have ho:s5.os=s3.os:=by rw[J5.os,hs0]
   have hok5:HOk X.prog X.w H4 s5.heap:=by have:=J5.hok;rw[hP,hw]at this;exact this
   have I5:Inv X pins σ H4 s5:=I3.call' ho un hok5 J5.bare λb hb=>⟨(f3 b hb).2.2.2.1,(f3 b hb).2.1,(f3 b hb).2.2.2.2.1,(f3 b hb).2.2.2.2.2⟩;obtain⟨m5,hm5,_⟩:=J5.loc;rw[hloc]at hm5;refine fin s5 H4 _ s3.heap.objs.size m5 I5 hm5 ⟨by have:=J5.free;rw[hloc]at this;exact this,I3.sz,IQ I3.lt,λx c e z=>?_,λp hp z=>?_⟩ qn
   .obtain⟨v,q⟩:=I3.cell x c e
    exact absurd q.lt (by rw[z];exact HD _)
   .exact absurd (q9 (I3.pin p hp).1) (by rw[z];exact HD _)
  .have hd:=T.item X' B.prog B.w B.K (B.calm.trans hc) i [] s4 _ H4 (λ_ _=>False) J4 (stat fr4 (by simp)) st4 go
   rw[hA]at hd;refine thn hd λr s5 hZ2=>?_;obtain⟨u,hr,h5⟩:=hZ2;subst hr;refine thn h5 λ_ s6 hZ2=>?_;obtain⟨x,H6,J6,r6,y6,st6,fr6⟩:=hZ2;have J6':=J6.pinned (stat fr6 (by simp)) (T.obj _ _ st6);rw[BK]at J6';have hgx:=hg' _ s6 _ H6 x u _ J6' r6 (step x H6 y6);rw[hP,hw,hA,hxe]at hgx;refine thn hgx λ_ s7 hZ2=>?_;obtain⟨σ7,H7,J7,wk7,q7⟩:=hZ2;have htx:=ht' _ s7 σ7 H7 _ J7 q7;rw[hP,hw,hA,hxe]at htx;refine thn htx λok s8 hZ2=>?_;obtain⟨H8,J8,q8⟩:=hZ2;have again:∀{H9:Hp} {s9:i6},Inv X' (Ss fp s6.heap) σ7 H9 s9->N H9->(∃m,m<n/\∃i H',Inv X' [] (xs.map (λ_=>none)++Hm σ cap) H' s9/\tn i s9.heap/\(∀b∈fp,H' b=none)/\W i m H'):=λ{H9 s9} J9 n9=>by
    obtain⟨m',hm,w9⟩:=hN H9 n9;have pin9:∀b∈fp,∀o,s6.heap.get? b=some o->s9.heap.get? b=some o/\H9 b=none:=λb hb o e=>by
     have:=J9.pin (b,o) (EC _ (Kr hb e));exact⟨this.1,this.2.1⟩
    refine⟨m',hm,i+1,H9,(J9.weak wk7.1 wk7.2).pins_of (λp hp=>nomatch hp),T.keep _ _ _ st6 λb hb o e=>(pin9 b hb o e).1,λb hb=>?_,w9⟩;obtain⟨o,e,d⟩:=T.obj _ _ st6 b hb;exact(pin9 b hb o e).2
   cases ok with
   |false=>
    rw[ir (by decide)]at q8 ⊢;exact again J8 q8
   |true=>
    rw[iq rfl]at q8 ⊢;have hex:=he' _ s8 σ7 H8 _ J8 q8;rw[hP,hw,hA,hxe]at hex;refine thn hex λy s9 hZ2=>?_;obtain⟨x9,H9,J9,r9,acc,ha,hz,n9⟩:=hZ2;have hap:=Jg (X:=X') _ s9 σ7 H9 (.ref s2.heap.objs.size) [x9] (.ref s2.heap.objs.size) [y] (λ_ H'=>N H') J9 rfl (.cons r9 .nil) ⟨_,acc,x9,rfl,rfl,ha,hz,n9⟩;rw[hP,hw,hA,hxe]at hap;exact thn hap λ_ s10 hZ2=>by obtain⟨_,H10,J10,_,n10⟩:=hZ2;exact again J10 n10
 have e0:({(newEnv scope s3.heap.objs.size X.env.globals cl X.env.qual none .none (some X.env) LS:Env)with scope:=FU scope X.env}:Env)=X'.env:=by rw[henv];rfl
 have e1:(newEnv scope s3.heap.objs.size X.env.globals cl X.env.qual none .none (some X.env) LS:Env).locals=s3.heap.objs.size:=rfl;show IJ _ _ (.compStart _ 0 (.ref it) (.ref s2.heap.objs.size) ({(newEnv scope s3.heap.objs.size X.env.globals cl X.env.qual none .none (some X.env) LS:Env)with scope:=FU scope X.env}:Env)) (compPost _ _ _ _ _ _ s3.heap.objs.size) _;rw[e0];exact codeAny_compStart_list (loop _ J0 st4) (T.self _ 0 _ _ _ st4 (loop _ J0 st4))
def iG(hc:X.calm=true)(F:X.Ok->CompFacts X scope xs capN cap)(hi:PI X tg iter wi)
 (hg:∀X',Blk X X' (xs++capN) (FU scope X.env)->PG X' tg g) (ht:∀X',Blk X X' (xs++capN) (FU scope X.env)->PTs X' ifs tt) (he:∀X',Blk X X' (xs++capN) (FU scope X.env)->PE X' elt te)
 (hs:∀x,CB iter X.env x=pure x:=by intro _;rfl):PE X (.ListComp elt [⟨tg,iter,ifs,0⟩] scope pos) (gV wi (λσ=>xs.map (λ_=>none)++Hm σ cap) g tt te):=by
 intro pins s σ H Q I h;rw[eval_ListComp];refine dJ (use:=none) hc (F I.ok) hi hg ht he hs I h λs' H' D C m I' hm hZ7 q=>?_;obtain⟨c1,c2,c3,c4,c5⟩:=hZ7;refine⟨m,hm,λh' sb=>?_⟩;exact⟨.ref D,H',I'.turned (t':=s'.toks) (λb o hb e=>(sb.2 b hb).trans e) c1 c3 (.inr c2) c4 c5,rfl,q⟩
def Ge{i:Nat}{y:Str}{py spos:Pos}(hc:X.calm=true)(F:X.Ok->CompFacts X scope xs capN cap)(hi:PI X tg iter wi)
 (hg:∀X',Blk X X' (xs++capN) (FU scope X.env)->PG X' tg g) (ht:∀X',Blk X X' (xs++capN) (FU scope X.env)->PTs X' ifs tt) (he:∀X',Blk X X' (xs++capN) (FU scope X.env)->PE X' elt te)
 (hN:X.N.Nodup) (hy:X.N[i]?=some y) (hl:X.env.scope.names.lookup y=some .local) (hsw:FT (.ListComp elt [⟨tg,iter,ifs,0⟩] scope pos) (some (.Name y py)) spos.line X.env=pure true)
 (hs:∀x,CB iter X.env x=pure x:=by intro _;rfl):PS X (.Assign [.Name y py] (.ListComp elt [⟨tg,iter,ifs,0⟩] scope pos) spos) (tAsg (gV wi (λσ=>xs.map (λ_=>none)++Hm σ cap) g tt te) (O1 i)):=by
 intro pins s σ H D0 I h;rw[exec_Assign_Name_used _ _ _ _ hsw];refine f9 (wpAny_standAt (f9 ?_));show wpAny _ _ (do let _ <-comprehension (.ListComp elt [⟨tg,iter,ifs,0⟩] scope pos) scope X.env _ (newList []) false (eval iter X.env) (some (assign (.Name y py) X.env))) _ _ s;refine f9 (DG (dJ (use:=some (assign (.Name y py) X.env)) (Q:=λ_ s'=>SP X pins D0 .next s') hc (F I.ok) hi hg ht he hs I h λs' H' D C m I' hm hY33 q=>?_) (λ_ s' hq=>i0 (i0 hq)) λ_ _ e=>e);obtain⟨c1,c2,c3,c4,c5⟩:=hY33;show wpAny _ _ (assign (.Name y py) X.env (.ref D)) _ _ s'
 refine wpAny_assign_Name (Wp I' hN hy (.inl hl) (v:=.ref D) rfl (λs'' I'' hY34=>?_) (.inr hl));obtain⟨a,sa,ea⟩:=hY34;have haC:a≠C:=by
  grind
 refine⟨m,hm.sameBut sa (Ne.symm haC),λh' sb=>?_⟩;exact⟨_,H',I''.turned (t':=s''.toks) (λb o hb e=>(sb.2 b hb).trans e) c1 c3 (.inr c2) c4 c5,q⟩
end
end Sm
end
section
namespace L2
open PySem PySem.Spec PyProof.Rows
section
variable {X:Cx}{pins:List (i9×Obj)}{σ:St}{H:Hp}{s:i6}
def Inv.big(I:Inv X pins σ H s):FX<s.heap.objs.size:=by
 have h:DD<s.heap.objs.size:=(I.mod.glob.keeps I.bk).lt;exact Nat.lt_trans (by decide) h
end
noncomputable def BI(i:Expr):Prop:=∀ov iv,OB i false ov iv=operate [ov,iv] (JB ov iv)
def sF{prog:o9}{w:x8}{A:BO}{E:g9->i6->Prop}{s:i6}{env:Env}{value slice:Expr}{pos:Pos}{T id:String}{Q:g9->i6->Prop}
 (hl:KJ (.type T) "__getitem__"=pure (some (.builtin id))) (hs:BI slice)
 (h:wpAny (u7 prog w) A (eval value env) (λo s₁=>wpAny (u7 prog w) A (eval slice env) (λi s₂=>s₂.TypeIs o T/\wpAny (u7 prog w) A (JB o i) Q E s₂) E s₁) E s):
 wpAny (u7 prog w) A (eval (.Subscript value slice pos) env) Q E s:=by
 refine NG (DG h (λo s₁ h₁=>DG h₁ (λi s₂ h₂=>?_) λ_ _ x=>x) λ_ _ x=>x);obtain⟨hT,h₂⟩:=h₂;unfold KZ;refine f9 ?_;rw[getitemInPython_of_ne hT.not_modules];refine f9 (EW hT hl ?_);have fin:wpAny (u7 prog w) A (OB slice false o i) (λr s₃=>wpAny (u7 prog w) A (letTemporaryGo value o r>>=λ_=>pure r) Q E s₃) E s₂:=by
  rw[hs o i];exact wpAny_operating (DG h₂ (λr s₃ h₃=>f9 (wpAny_letTemporaryGo (i0 h₃))) λ_ _ x=>x)
 first
  |exact i0 (f9 fin)
  |exact f9 (i0 (f9 fin))
  |exact f9 fin
def qW{P:o9}{w:x8}{H:Hp}(h:BL)(hb:FX<h.objs.size):ObjOk P w H (h.push {cls:=.type "dict",data:=.dict #[]}) h.objs.size (.dT []):=
 ⟨ER _,beq_eq_false_iff_ne.mpr (Ne.symm (z8 hb)),[],.nil,_,#[],0,x5 _ rfl,⟨rfl,rfl,rfl⟩,rfl,rfl,List.nodup_nil⟩
def yB:TE:=λ_ H Q=>∀p,H p=none->Q (.ref p) (upd H p (.dT []))
section
variable {X:Cx}{pos:Pos}
def oU:PE X (.Dict [] [] pos) yB:=λpins s σ H Q I h=>
 wpAny_Dict_empty ⟨.ref s.heap.objs.size,_,I.laid (a:=s.heap.objs.size) (o:=.dT []) (t':=s.toks) (λ_ _ q=>l8 _ q) (s0 _) (qW s.heap I.big),rfl,h _ (I.hok.fresh (s0 _))⟩
end
structure M2(X:Cx)(o:Expr)(m:Str)(apos:Pos)(e f:Expr)(cpos:Pos):Prop where
 base:FK o m X.env (eval o X.env)=eval o X.env
 few:((CD cpos (i8 [e,f] X.env)).all (λx=>!x.1)&&(HY cpos (FL [] X.env)).all (λx=>x.1.isSome)
  && decide (([e,f]:List Expr).length+([]:List GX).length+(if ([]:List GX).isEmpty then 0 else 1)<30))=true
 line:(apos.endLine==cpos.line)=true
 trees:CD cpos (i8 [e,f] X.env)=[(false,eval e X.env),(false,eval f X.env)]
end L2
end
section
namespace Sm
open PySem PySem.Spec PyProof.Rows L2
inductive Res(α:Type) where
 |ok (a:α)
 |exc (c:Str)
 |no
noncomputable def Res.bind{α β:Type}:Res α->(α->Res β)->Res β
 |.ok a,k=>k a
 |.exc c,_=>.exc c
 |.no,_=>.no
noncomputable def ofO{α:Type}:Option α->Res α
 |some a=>.ok a
 |none=>.no
inductive Sl where
 |un
 |sh (d:f8)
 |ow (d:f8)
 |fd (kvs:List (f8×f8))
noncomputable abbrev Dn:=List Sl
mutual
noncomputable def Rep(G:Hp):f8->V->Prop
 |.none,v=>v=.non
 |.bool b,v=>v=.bl b
 |.int i,v=>v=.int i
 |.str x,v=>v=.str x/\z0 x=true/\x.length<=sizeLine
 |.list ds,v=>∃a xs,v=.ref a/\Rd G a (.lst xs)/\RepL G ds xs
 |.tuple ds,v=>∃a xs,v=.ref a/\G a=some (.tup xs)/\RepL G ds xs
 |.dict _,_=>False
noncomputable def RepL(G:Hp):List f8->List V->Prop
 |[],xs=>xs=[]
 |d::ds,xs=>∃x r,xs=x::r/\Rep G d x/\RepL G ds r
end
def Rd.mono{G G':Hp}(h:Same G G'){a:i9}{u:HO}(r:Rd G a u):Rd G' a u:=by
 rcases r with r |⟨o,r⟩
 .exact .inl (h _ _ r)
 .exact .inr ⟨o,h _ _ r⟩
mutual
theorem Rep.mono{G G':Hp}(h:Same G G'):∀{d:f8} {v:V},Rep G d v->Rep G' d v
 |.none,_,r=>r
 |.bool _,_,r=>r
 |.int _,_,r=>r
 |.str _,_,r=>r
 |.list _,_,r=>by obtain⟨a,xs,e,q,l⟩:=r;exact⟨a,xs,e,Rd.mono h q,RepL.mono h l⟩
 |.tuple _,_,r=>by obtain⟨a,xs,e,q,l⟩:=r;exact⟨a,xs,e,h _ _ q,RepL.mono h l⟩
 |.dict _,_,r=>r.elim
theorem RepL.mono{G G':Hp}(h:Same G G'):∀{ds:List f8} {xs:List V},RepL G ds xs->RepL G' ds xs
 |[],_,r=>r
 |_::_,_,r=>by obtain⟨x,t,e,q,l⟩:=r;exact⟨x,t,e,Rep.mono h q,RepL.mono h l⟩
end
mutual
theorem Rep.lay{G:Hp}:∀{d:f8} {v:V},Rep G d v->d.canLay0=true
 |.none,_,r=>rfl
 |.bool _,_,r=>rfl
 |.int _,_,r=>rfl
 |.str _,_,r=>r.2.1
 |.list _,_,r=>by obtain⟨a,xs,e,q,l⟩:=r;exact RepL.lay l
 |.tuple _,_,r=>by obtain⟨a,xs,e,q,l⟩:=r;exact RepL.lay l
 |.dict _,_,r=>r.elim
theorem RepL.lay{G:Hp}:∀{ds:List f8} {xs:List V},RepL G ds xs->EJ ds=true
 |[],_,r=>rfl
 |_::_,_,r=>by
  obtain⟨x,t,e,q,l⟩:=r;rw[EJ,Rep.lay q,RepL.lay l];rfl
end
section
variable {G:Hp}
def RepL.nil:RepL G [] []:=rfl
def RepL.cons{d:f8}{ds:List f8}{x:V}{xs:List V}(h:Rep G d x)(t:RepL G ds xs):RepL G (d::ds) (x::xs):=⟨x,xs,rfl,h,t⟩
theorem RepL.length:∀{ds:List f8} {xs:List V},RepL G ds xs->ds.length=xs.length:=by
 intro iN;induction iN with
 |nil=>intro _ r;cases (show _=_ from r);rfl
 |cons d ds ih=>intro _ r;obtain⟨x,t,rfl,q,l⟩:=r;simp[ih l]
theorem RepL.get:∀{ds:List f8} {xs:List V} {i:Nat} {d:f8},RepL G ds xs->ds[i]?=some d->∃x,xs[i]?=some x/\Rep G d x
 |[],_,_,_,_,e=>by simp at e
 |d::ds,_,0,_,r,e=>by obtain⟨x,t,rfl,q,l⟩:=r;simp_all
 |d::ds,_,i+1,_,r,e=>by
  obtain⟨x,t,rfl,q,l⟩:=r;obtain⟨y,h1,h2⟩:=RepL.get (i:=i) l (by simpa using e)
  simp_all
def RepL.append:∀{ds es:List f8} {xs ys:List V},RepL G ds xs->RepL G es ys->RepL G (ds++es) (xs++ys):=by
 intro iN;induction iN with
 |nil=>intro _ _ _ r q;cases (show _=_ from r);exact q
 |cons d ds ih=>intro _ _ _ r q;obtain⟨x,t,rfl,h,l⟩:=r;exact RepL.cons h (ih l q)
theorem RepL.drop:∀(n:Nat) {ds:List f8} {xs:List V},RepL G ds xs->RepL G (ds.drop n) (xs.drop n)
 |0,_,_,r=>r
 |_+1,[],_,r=>by cases (show _=_ from r);exact rfl
 |n+1,d::ds,_,r=>by obtain⟨x,t,rfl,h,l⟩:=r;exact RepL.drop n l
theorem RepL.take:∀(n:Nat) {ds:List f8} {xs:List V},RepL G ds xs->RepL G (ds.take n) (xs.take n)
 |0,_,_,r=>rfl
 |_+1,[],_,r=>by cases (show _=_ from r);exact rfl
 |n+1,d::ds,_,r=>by obtain⟨x,t,rfl,h,l⟩:=r;exact RepL.cons h (RepL.take n l)
theorem RepL.reverse{ds:List f8}{xs:List V}(r:RepL G ds xs):RepL G ds.reverse xs.reverse:=by
 induction ds generalizing xs with
 |nil=>cases (show _=_ from r);exact rfl
 |cons d ds ih=>
  obtain⟨x,t,rfl,h,l⟩:=r;rw[IK,IK];exact RepL.append (ih l) (RepL.cons h RepL.nil)
def RepL.rep{ds:List f8}{xs:List V}(r:RepL G ds xs):∀k:Nat,RepL G (u6 k ds).flatten (u6 k xs).flatten:=by
 intro iN;induction iN with
 |zero=>rfl
 |succ k ih=>
  skip
  rw[FO,FO,GI,GI];exact RepL.append r (ih)
def RepL.ints(ns:List Int):RepL G (ns.map DZ) (ns.map V.int):=by
 induction ns with
 |nil=>exact rfl
 |cons n ns ih=>exact RepL.cons rfl ih
theorem RepL.dropLast{ds:List f8}{xs:List V}(r:RepL G ds xs):RepL G ds.dropLast xs.dropLast:=by
 rw[PD,PD,r.length];exact RepL.take _ r
end
structure Grow(G H G' H':Hp):Prop where
 g:Same G G'
 h:Same H H'
 gh:Same G' H'
 fr:∀b o,G' b=some o->G b=some o\/H b=none\/∃xs,o=HO.tup xs
theorem Grow.refl{G H:Hp}(h:Same G H):Grow G H G H:=⟨Same.refl _,Same.refl _,h,λ_ _ e=>.inl e⟩
theorem Grow.trans{G H G1 H1 G2 H2:Hp}(a:Grow G H G1 H1)(b:Grow G1 H1 G2 H2):Grow G H G2 H2:=
 ⟨a.g.trans b.g,a.h.trans b.h,b.gh,λc o e=>by
  rcases b.fr c o e with q |q |q
  .exact a.fr c o q
  .exact .inr (.inl (a.h.free q))
  simp_all⟩
theorem Same.upd{H:Hp}{p:i9}{o:HO}(h:H p=none):Same H (upd H p o):=λb u e=>by
 rw[B7 (D9 e h)];exact e
def Grow.new{G H:Hp}{p:i9}{o:HO}(s:Same G H)(h:H p=none):Grow G H (upd G p o) (upd H p o):=by
 have hg:G p=none:=s.free h;refine⟨Same.upd hg,Same.upd h,λb u e=>?_,λb u e=>?_⟩
 .by_cases hb:b=p
  .subst hb;rw[C8]at e ⊢;exact e
  .rw[B7 hb]at e ⊢;exact s _ _ e
 .by_cases hb:b=p
  .lia
  .rw[B7 hb]at e;exact .inl e
def Grow.own{G H:Hp}{p:i9}{o:HO}(s:Same G H)(h:H p=none):Grow G H G (upd H p o):=
 ⟨Same.refl _,Same.upd h,s.trans (Same.upd h),λ_ _ e=>.inl e⟩
def AD:Key->f8
 |.inl i=>.int i
 |.inr x=>.str x
def xB(kk:List (Key×V)):List (List Key×V):=kk.map λp=>([p.1],p.2)
def OwnK(G H:Hp)(a:i9):List f8->Prop
 |[.dict kvs]=>∃kk:List (Key×V),H a=some (.dK kk)/\kvs.map (·.1)=(xB kk).map (λp=>EX (p.1.map AD))/\RepL G (kvs.map (·.2)) ((xB kk).map (·.2))
 |[.dict kvs,.none]=>∃kk:List (f8×V),H a=some (.dN kk)/\kvs.map (·.1)=kk.map (·.1)/\RepL G (kvs.map (·.2)) (kk.map (·.2))
 |_=>False
def OwnK.keep{G G' H H':Hp}{a:i9}{xs:List f8}(g:Same G G')(e:∀o,H a=some o->H' a=some o)(h:OwnK G H a xs):OwnK G' H' a xs:=by
 unfold OwnK at h ⊢;split at h
 .obtain⟨kk,h1,h2,h3⟩:=h
  exact⟨kk,e _ h1,h2,h3.mono g⟩
 .obtain⟨kk,h1,h2,h3⟩:=h
  exact⟨kk,e _ h1,h2,h3.mono g⟩
 lia
def OwnK.is{G H:Hp}{a:i9}{xs:List f8}(h:OwnK G H a xs):∃o,H a=.some o:=by
 unfold OwnK at h
 grind
def OwnOk(G H:Hp)(a:i9):f8->Prop
 |.list ds=>∃xs,H a=some (.lst xs)/\RepL G ds xs
 |.dict kvs=>∃kk:List (List Key×V),H a=some (.dT kk)/\kvs.map (·.1)=kk.map (λp=>EX (p.1.map AD))/\RepL G (kvs.map (·.2)) (kk.map (·.2))
 |.tuple xs=>OwnK G H a xs
 |_=>False
def BJ(G:Hp)(o:Option V)(c x:Int)(fs:List f8):Prop:=∃(dx:i9) (v0 v1 v2 v3 v4:V),o=some (.ref x.toNat)/\G x.toNat=some (.ins c.toNat dx [("letter",v0),("book",v1),("waiting",v2),("done",v3),("undos",v4)])/\RepL G fs ([v0,v1,v2].take fs.length)
def FdOk(G:Hp)(o:Option V)(kvs:List (f8×f8)):Prop:=match kvs with
 | (.dict [],.int c)::(.int x,.none)::r=>BJ G o c x (r.map (·.2))
 | (.dict [],.none)::r=>∃a,∃kk:List (f8×V),o=some (.ref a)/\Rd G a (.dN kk)/\r.map (·.1)=kk.map (·.1)/\RepL G (r.map (·.2)) (kk.map (·.2))
 |_=>∃a ob,∃kk:List (List Key×V),o=some (.ref a)/\G a=some (.frz ob (.dT kk))/\kvs.map (·.1)=kk.map (λp=>EX (p.1.map AD))/\RepL G (kvs.map (·.2)) (kk.map (·.2))
theorem FdOk.mono{G G':Hp}{o:Option V}{kvs:List (f8×f8)}(g:Same G G')(h:FdOk G o kvs):FdOk G' o kvs:=by
 unfold FdOk at h ⊢;split at h
 .obtain⟨dx,v0,v1,v2,v3,v4,h1,h2,h3⟩:=h
  exact⟨dx,v0,v1,v2,v3,v4,h1,g _ _ h2,h3.mono g⟩
 .obtain⟨a,kk,h1,h2,h3,h4⟩:=h
  exact⟨a,kk,h1,Rd.mono g h2,h3,h4.mono g⟩
 .obtain⟨a,ob,kk,h1,h2,h3,h4⟩:=h
  exact⟨a,ob,kk,h1,g _ _ h2,h3,h4.mono g⟩
def SlOk(G H:Hp)(o:Option V):Sl->Prop
 |.un=>True
 |.sh d=>∃v,o=some v/\Rep G d v
 |.ow d=>∃a,o=some (.ref a)/\G a=none/\OwnOk G H a d
 |.fd kvs=>FdOk G o kvs
structure SR(G H:Hp)(σ:St)(δ:Dn):Prop where
 sub:Same G H
 len:σ.length=δ.length
 sl:∀(i:Nat) (s:Sl),δ[i]?=some s->SlOk G H (σ[i]?.join) s
 ap:∀(i j:Nat) (a:i9) (d e:f8),δ[i]?=some (.ow d)->δ[j]?=some (.ow e)->σ[i]?.join=some (.ref a)->σ[j]?.join=some (.ref a)->i=j
theorem OwnOk.some{G H:Hp}{a:i9}{d:f8}(h:OwnOk G H a d):∃o,H a=some o:=by
 cases d with
 |list ds=>obtain⟨xs,e,_⟩:=h;simp_all
 |dict kvs=>obtain⟨xs,e,_⟩:=h;simp_all
 |tuple xs=>exact OwnK.is h
 |_=>exact(show False from h).elim
def OwnOk.grow{G H G' H':Hp}(g:Grow G H G' H'){a:i9}{d:f8}(h:OwnOk G H a d):OwnOk G' H' a d:=by
 cases d with
 |list ds=>obtain⟨xs,e,r⟩:=h;exact⟨xs,g.h _ _ e,r.mono g.g⟩
 |dict kvs=>obtain⟨xs,e,k,r⟩:=h;exact⟨xs,g.h _ _ e,k,r.mono g.g⟩
 |tuple xs=>exact OwnK.keep g.g (λo e=>g.h _ _ e) h
 |_=>exact(show False from h).elim
def OwnOk.noTup{G H:Hp}{a:i9}{d:f8}(h:OwnOk G H a d){xs:List V}(e:H a=.some (HO.tup xs)):False:=by
 cases d with
 |list ds=>obtain⟨_,z,_⟩:=h;lia
 |dict kvs=>obtain⟨_,z,_⟩:=h;lia
 |tuple ys=>
  have h':OwnK G H a ys:=h;unfold OwnK at h';lia
 |_=>exact(show False from h).elim
theorem SlOk.grow{G H G' H':Hp}(g:Grow G H G' H'){o:Option V}{s:Sl}(h:SlOk G H o s):SlOk G' H' o s:=by
 cases s with
 |un=>trivial
 |sh d=>obtain⟨v,e,r⟩:=h;exact⟨v,e,r.mono g.g⟩
 |fd kvs=>exact FdOk.mono g.g h
 |ow d=>
  obtain⟨a,e,n,r⟩:=h;refine⟨a,e,?_,r.grow g⟩;cases q:G' a with
  |none=>rfl
  |some u=>
   obtain⟨o',eo⟩:=r.some;rcases g.fr a u q with z |z |⟨xs,rfl⟩
   .lia
   .lia
   .exact((r.grow g).noTup (g.gh _ _ q)).elim
theorem SR.grow{G H G' H':Hp}{σ:St}{δ:Dn}(S:SR G H σ δ)(g:Grow G H G' H'):SR G' H' σ δ:=
 ⟨g.gh,S.len,λi s e=>(S.sl i s e).grow g,S.ap⟩
abbrev EK:=Str->Hp->Prop
def Aft(E:EK)(G H:Hp)(r:Res f8)(Q:VK):Prop:=match r with
 |.ok d=>∀v G' H',Grow G H G' H'->Rep G' d v->Q v H'
 |.exc c=>∀G' H',Grow G H G' H'->E c H'
 |.no=>False
def tD(E:EK)(f:Dn->Res f8):TE:=λσ H Q=>∃G δ,SR G H σ δ/\Aft E G H (f δ) Q
abbrev DE(X:Cx)(E:EK)(e:Expr)(f:Dn->Res f8):Prop:=PE X e (tD E f)
def Aft.grow{E:EK}{G H G' H':Hp}{r:Res f8}{Q:VK}(g:Grow G H G' H')(a:Aft E G H r Q):Aft E G' H' r Q:=by
 cases r with
 |ok d=>exact λv G2 H2 g2 q=>a v G2 H2 (g.trans g2) q
 |exc c=>exact λG2 H2 g2=>a G2 H2 (g.trans g2)
 |no=>exact a
def PE.imp{X:Cx}{e:Expr}{t t':TE}(h:PE X e t)(i:∀σ H Q,t' σ H Q->t σ H Q):PE X e t':=λpins s σ H Q I q=>h pins s σ H Q I (i _ _ _ q)
def K0{E:EK}{G H:Hp}{σ:St}{δ:Dn}{f:Dn->Res f8}{k:f8->Res f8}{Q R:VK}(S:SR G H σ δ)(a:Aft E G H ((f δ).bind k) Q)
 (h:∀d v G1 H1,Grow G H G1 H1->Rep G1 d v->SR G1 H1 σ δ->Aft E G1 H1 (k d) Q->R v H1):tD E f σ H R:=by
 refine⟨G,δ,S,?_⟩;cases e:f δ with
 |ok d=>
  rw[e]at a;exact λv G' H' g r=>h d v G' H' g r (S.grow g) (Aft.grow g a)
 |exc c=>rw[e]at a;exact a
 |no=>rw[e]at a;exact a
section
variable {X:Cx}{E:EK}{pos:Pos}
def vC(d:f8):Dn->Res f8:=λ_=>.ok d
def A0(i:Nat):Dn->Res f8:=λδ=>match δ[i]? with
 |some (.sh d)=>.ok d
 |_=>.no
def A8{i:Int}{j:Nat}:DE X E (.Constant (.int i) j pos) (vC (.int i)):=PE.imp Kp λσ H Q hZ3=>by obtain⟨G,δ,S,a⟩:=hZ3;exact a _ G H (Grow.refl S.sub) rfl
def Kx{b:Bool}{j:Nat}:DE X E (.Constant (.bool b) j pos) (vC (.bool b)):=PE.imp oX λσ H Q hZ3=>by obtain⟨G,δ,S,a⟩:=hZ3;exact a _ G H (Grow.refl S.sub) rfl
def Aj{j:Nat}:DE X E (.Constant .none j pos) (vC .none):=PE.imp yY λσ H Q hZ3=>by obtain⟨G,δ,S,a⟩:=hZ3;exact a _ G H (Grow.refl S.sub) rfl
def F9{x:Str}{j:Nat}(h:z0 x=true:=by decide+kernel)(hl:x.length<=sizeLine:=by decide+kernel):DE X E (.Constant (.str x) j pos) (vC (.str x)):=
 PE.imp Ze λσ H Q hZ3=>by obtain⟨G,δ,S,a⟩:=hZ3;exact a _ G H (Grow.refl S.sub) ⟨rfl,h,hl⟩
def rA{i:Nat}{x:Str}(hN:X.N[i]?=some x)(hv:Vis X.env.scope x)(hd:(x==("__debug__" : Str))=false)(hcd:(x==("__classdict__" : Str))=false):DE X E (.Name x pos) (A0 i):=
 PE.imp (Ko hN hv hd hcd) λσ H Q hZ3=>by
  obtain⟨G,δ,S,a⟩:=hZ3;unfold A0 at a;split at a
  .rename_i d e
   obtain⟨v,e1,r⟩:=S.sl i _ e;refine⟨v,?_,a _ G H (Grow.refl S.sub) r⟩
   grind
  .exact a.elim
def b2(f g:Dn->Res f8)(op:f8->f8->Option f8):Dn->Res f8:=λδ=>(f δ).bind λx=>(g δ).bind λy=>ofO (op x y)
def OpD(r:R2)(op:f8->f8->Option f8):Prop:=∀(G H:Hp) (x y:V) (a b d:f8) (Q:VK),Same G H->Rep G a x->Rep G b y->op a b=some d->(∀v G' H',Grow G H G' H'->Rep G' d v->Q v H')->r x y H Q
def nC{r:R2}{op:f8->f8->Option f8}{f g:Dn->Res f8}(ho:OpD r op){σ:St}{H:Hp}{Q:VK}(h:tD E (b2 f g op) σ H Q):tOp r (tD E f) (tD E g) σ H Q:=by
 obtain⟨G,δ,S,a⟩:=h;refine K0 S a λd1 v1 G1 H1 g1 r1 S1 a1=>?_;refine K0 S1 a1 λd2 v2 G2 H2 g2 r2 S2 a2=>?_;cases e:op d1 d2 with
 |none=>rw[e]at a2;exact a2.elim
 |some d=>rw[e]at a2;exact ho G2 H2 v1 v2 d1 d2 d Q S2.sub (r1.mono g2.g) r2 e a2
def dH{a b:Expr}{o:Operator}{r:R2}{op:f8->f8->Option f8}{f g:Dn->Res f8}(hr:OpR X (LL o) r)(ho:OpD r op)(ha:DE X E a f)(hb:DE X E b g):DE X E (.BinOp a o b pos) (b2 f g op):=
 PE.imp (wW hr ha hb) λ_ _ _ h=>nC ho h
def d_cmp{a b:Expr}{o:FA}{r:R2}{op:f8->f8->Option f8}{f g:Dn->Res f8}(hr:OpR X (CH o) r)(ho:OpD r op)(ha:DE X E a f)(hb:DE X E b g)(hm:behindInMarks o b=false):DE X E (.Compare a [o] [b] pos) (b2 f g op):=
 PE.imp (tM hr ha hb hm) λ_ _ _ h=>nC ho h
end
end Sm
end
section
namespace Sm
open PySem PySem.Spec PyProof.Rows L2
section
variable {X:Cx}{pins:List (i9×Obj)}{σ:St}{H G:Hp}{s:i6}
def X3(I:Inv X pins σ H s){a:i9}{xs:List V}(hG:Same G H)(r:Rd G a (.lst xs)):xs.length<=sizeLine/\∃(its:List g9) (n:Nat),Vals xs its/\s.heap.get? a=some {cls:=.type "list",data:=.seq its.toArray n}:=
 (Rd.ok (Rd.mono hG r) I.hok:ObjOk X.prog X.w H s.heap a (.lst xs))
def Kn(I:Inv X pins σ H s){a:i9}{xs:List V}(hG:Same G H)(r:G a=some (.tup xs)):xs.length<=sizeLine/\∃its:List g9,Vals xs its/\LP s.heap a its.toArray:=
 (I.hok a _ (hG _ _ r):ObjOk X.prog X.w H s.heap a (.tup xs))
mutual
theorem Rep.reads(I:Inv X pins σ H s)(hG:Same G H):∀{d:f8} {v:V} {u:g9},Rep G d v->RelV v u->∃as,Reads s.heap u d as
 |.none,_,_,r,q=>by cases (show _=_ from r);cases q;exact⟨_,.none⟩
 |.bool _,_,_,r,q=>by cases (show _=_ from r);cases q;exact⟨_,.bool _⟩
 |.int _,_,_,r,q=>by cases (show _=_ from r);obtain⟨t,rfl⟩:=q;exact⟨_,.int _ _⟩
 |.str _,_,_,r,q=>by cases r.1;obtain⟨t,rfl⟩:=q;exact⟨_,.str _ _⟩
 |.list _,_,_,r,q=>by
  obtain⟨a,xs,rfl,h,l⟩:=r;cases q;obtain⟨z,its,n,rv,e⟩:=X3 I hG h;obtain⟨as,ra⟩:=RepL.reads I hG l rv;exact⟨_,.list e rfl rfl (by simpa using ra)⟩
 |.tuple _,_,_,r,q=>by
  obtain⟨a,xs,rfl,h,l⟩:=r;cases q;obtain⟨z,its,rv,o,e,c,n,hd⟩:=Kn I hG h;obtain⟨as,ra⟩:=RepL.reads I hG l rv;exact⟨_,.tuple e c hd (by simpa using ra)⟩
 |.dict _,_,_,r,_=>r.elim
theorem RepL.reads(I:Inv X pins σ H s)(hG:Same G H):∀{ds:List f8} {xs:List V} {us:List g9},RepL G ds xs->Vals xs us->∃as,OX s.heap us ds as
 |[],_,_,r,q=>by cases (show _=_ from r);cases q;exact⟨_,.nil⟩
 |_::_,_,_,r,q=>by
  obtain⟨x,t,rfl,h,l⟩:=r;cases q with
  |cons q qs=>
   obtain⟨as,r1⟩:=Rep.reads I hG h q;obtain⟨bs,r2⟩:=RepL.reads I hG l qs;exact⟨_,.cons r1 r2⟩
end
end
noncomputable def dEq(a b:f8):Option f8:=if min a.depth b.depth<=64 then some (.bool (l6 a b)) else none
noncomputable def dNe(a b:f8):Option f8:=if min a.depth b.depth<=64 then some (.bool (!PyData.eqv a b)) else none
def sU(neg:Bool):R2:=λx y H Q=>∃G a b,Same G H/\Rep G a x/\Rep G b y/\min a.depth b.depth<=64/\Q (.bl (if neg then !PyData.eqv a b else l6 a b)) H
section
variable {X:Cx}
def My(hu:X.A.units+64<EO):OpR X (CH .Eq) (sU false):=by
 rintro pins s σ H x y v u Q I rx ry ⟨G,a,b,hG,ra,rb,hm,q⟩;obtain⟨as,r1⟩:=ra.reads I hG rx;obtain⟨bs,r2⟩:=rb.reads I hG ry;exact SeqAt.compareEq_reads r1 r2 ra.lay rb.lay (by lia) ⟨.bl _,H,I,rfl,q⟩
def zJ(hu:X.A.units+64<EO):OpR X (CH .NotEq) (sU true):=by
 rintro pins s σ H x y v u Q I rx ry ⟨G,a,b,hG,ra,rb,hm,q⟩;obtain⟨as,r1⟩:=ra.reads I hG rx;obtain⟨bs,r2⟩:=rb.reads I hG ry;exact SeqAt.compareNe_reads r1 r2 ra.lay rb.lay (by lia) ⟨.bl _,H,I,rfl,q⟩
def Mz:OpD (sU false) dEq:=by
 intro G H x y a b d Q hG ra rb e q;unfold dEq at e;split at e
 .rename_i h;cases e;exact⟨G,a,b,hG,ra,rb,h,q _ G H (Grow.refl hG) rfl⟩
 .cases e
def zM:OpD (sU true) dNe:=by
 intro G H x y a b d Q hG ra rb e q;unfold dNe at e;split at e
 .rename_i h;cases e;exact⟨G,a,b,hG,ra,rb,h,q _ G H (Grow.refl hG) rfl⟩
 .cases e
end
noncomputable def xD(x y:Str):Bool:=!(Builtin.Str.occurrences y x 0 y.length 1).isEmpty
def dIn(neg:Bool)(a b:f8):Option f8:=match b with
 |.list ds=>if min (CI ds) a.depth<=62 then some (.bool (if neg then !ds.any λy=>l6 y a else ds.any λy=>l6 y a)) else none
 |.tuple ds=>if min (CI ds) a.depth<=62 then some (.bool (if neg then !ds.any λy=>l6 y a else ds.any λy=>l6 y a)) else none
 |.str y=>match a with
  |.str x=>some (.bool (if neg then !xD x y else xD x y))
  |_=>none
 |_=>none
def yU(neg:Bool):R2:=λx y H Q=>∃G a b d,Same G H/\Rep G a x/\Rep G b y/\dIn neg a b=some (.bool d)/\Q (.bl d) H
section
variable {X:Cx}
def zL(hu:X.A.units+64<EO):OpR X (CH .In) (yU false):=by
 rintro pins s σ H x y v u Q I rx ry ⟨G,a,b,d,hG,ra,rb,e,q⟩;cases b with
 |list ds=>
  replace e:(if _ then _ else _)=some _:=e;split at e
  .rename_i h
   cases e;obtain⟨as,r1⟩:=ra.reads I hG rx;obtain⟨bs,r2⟩:=rb.reads I hG ry;exact SeqAt.in_list_reads r2 r1 rb.lay ra.lay (by lia) ⟨.bl _,H,I,rfl,q⟩
  .cases e
 |tuple ds=>
  replace e:(if _ then _ else _)=some _:=e;split at e
  .rename_i h
   cases e;obtain⟨as,r1⟩:=ra.reads I hG rx;obtain⟨bs,r2⟩:=rb.reads I hG ry;exact SeqAt.in_tuple_reads r2 r1 rb.lay ra.lay (by lia) ⟨.bl _,H,I,rfl,q⟩
  .cases e
 |str z=>
  cases a with
  |str z'=>
   cases e;cases ra.1;cases rb.1;obtain⟨t,rfl⟩:=rx;obtain⟨t',rfl⟩:=ry;exact in_str ⟨.bl _,H,I,rfl,q⟩
  |_=>cases e
 |_=>cases e
def kT(hu:X.A.units+64<EO):OpR X (CH .NotIn) (yU true):=by
 rintro pins s σ H x y v u Q I rx ry ⟨G,a,b,d,hG,ra,rb,e,q⟩;cases b with
 |list ds=>
  replace e:(if _ then _ else _)=some _:=e;split at e
  .rename_i h
   cases e;obtain⟨as,r1⟩:=ra.reads I hG rx;obtain⟨bs,r2⟩:=rb.reads I hG ry;exact SeqAt.notIn_list_reads r2 r1 rb.lay ra.lay (by lia) ⟨.bl _,H,I,rfl,q⟩
  .cases e
 |tuple ds=>
  replace e:(if _ then _ else _)=some _:=e;split at e
  .rename_i h
   cases e;obtain⟨as,r1⟩:=ra.reads I hG rx;obtain⟨bs,r2⟩:=rb.reads I hG ry;exact SeqAt.notIn_tuple_reads r2 r1 rb.lay ra.lay (by lia) ⟨.bl _,H,I,rfl,q⟩
  .cases e
 |str z=>
  cases a with
  |str z'=>
   cases e;cases ra.1;cases rb.1;obtain⟨t,rfl⟩:=rx;obtain⟨t',rfl⟩:=ry;exact notIn_str ⟨.bl _,H,I,rfl,q⟩
  |_=>cases e
 |_=>cases e
def Tu{neg:Bool}{a b d:f8}(e:dIn neg a b=some d):∃k,d=.bool k:=by
 cases b with
 |list ds=>replace e:(if _ then _ else _)=some _:=e;grind
 |tuple ds=>replace e:(if _ then _ else _)=some _:=e;grind
 |str z=>cases a with
  |str z'=>cases e;lia
  |_=>cases e
 |_=>cases e
def pB{neg:Bool}:OpD (yU neg) (dIn neg):=by
 intro G H x y a b d Q hG ra rb e q;obtain⟨k,rfl⟩:=Tu e;exact⟨G,a,b,k,hG,ra,rb,e,q _ G H (Grow.refl hG) rfl⟩
end
noncomputable def C7:f8->f8->Option f8
 |.int i,.int j=>some (.int (i+j))
 |.str x,.str y=>if x.length+y.length<=sizeLine then some (.str (x++y)) else none
 |.list xs,.list ys=>if xs.length+ys.length<=sizeLine then some (.list (xs++ys)) else none
 |.tuple xs,.tuple ys=>if xs.length+ys.length<=sizeLine then some (.tuple (xs++ys)) else none
 |_,_=>none
def wS:R2:=λx y H Q=>∃G a b d,Same G H/\Rep G a x/\Rep G b y/\C7 a b=some d/\∀v G' H',Grow G H G' H'->Rep G' d v->Q v H'
def Fq{x y:Str}(hx:z0 x=true)(hy:z0 y=true):z0 (x++y)=true:=by
 unfold z0 at *;show(x.cps++y.cps).all _=true
 simp_all
def Rc(x y:Str):(x++y).length=x.length+y.length:=by
 show(x.cps++y.cps).size=_;rw[Array.size_append];rfl
section
variable {X:Cx}
def Zu{pins:List (i9×Obj)}{σ:St}{H G:Hp}{s:i6}{Q:VK}{ds:List f8}{xs:List V}{its:List g9}{t':Nat}(I:Inv X pins σ H s)(hG:Same G H)(rv:Vals xs its)(rl:RepL G ds xs)(hz:xs.length<=sizeLine)
 (q:∀v G' H',Grow G H G' H'->Rep G' (.tuple ds) v->Q v H'):EP X pins σ Q (.ref s.heap.objs.size) {s with heap:=s.heap.push {cls:=.type "tuple",data:=.seq its.toArray},toks:=t'}:=by
 refine⟨.ref s.heap.objs.size,_,I.laid (t':=t') (o:=.tup xs) (λb ob q=>l8 _ q) (s0 _) ⟨hz,its,rv,IsTup.new _ _⟩,rfl,q _ (upd G s.heap.objs.size (.tup xs)) _ (Grow.new hG I.fresh) ⟨_,xs,rfl,C8,rl.mono (Same.upd (hG.free I.fresh))⟩⟩
def Qj{pins:List (i9×Obj)}{σ:St}{H G:Hp}{s:i6}{Q:VK}{ds:List f8}{xs:List V}{its:List g9}{t':Nat}(I:Inv X pins σ H s)(hG:Same G H)(rv:Vals xs its)(rl:RepL G ds xs)(hz:xs.length<=sizeLine)
 (q:∀v G' H',Grow G H G' H'->Rep G' (.list ds) v->Q v H'):EP X pins σ Q (.ref s.heap.objs.size) {s with heap:=s.heap.push {cls:=.type "list",data:=.seq its.toArray},toks:=t'}:=by
 refine⟨.ref s.heap.objs.size,_,I.lnew (t':=t') rv hz,rfl,q _ (upd G s.heap.objs.size (.lst xs)) _ (Grow.new hG I.fresh) ⟨_,xs,rfl,.inl C8,rl.mono (Same.upd (hG.free I.fresh))⟩⟩
def tW:OpR X (LL .Add) wS:=by
 rintro pins s σ H x y v u Q I rx ry ⟨G,a,b,d,hG,ra,rb,e,q⟩;cases a with
 |int i=>cases b with
  |int j=>
   cases e;cases (show _=_ from ra);cases (show _=_ from rb);obtain⟨t,rfl⟩:=rx;obtain⟨t',rfl⟩:=ry;exact add_int ⟨.int _,H,I.tok _,⟨_,rfl⟩,q _ G H (Grow.refl hG) rfl⟩
  |_=>cases e
 |str i=>cases b with
  |str j=>
   replace e:(if _ then _ else _)=some d:=e;split at e
   .rename_i hz
    cases e;obtain⟨e1,o1,_⟩:=ra;obtain⟨e2,o2,_⟩:=rb;cases e1;cases e2;obtain⟨t,rfl⟩:=rx;obtain⟨t',rfl⟩:=ry;exact add_str (λt' tk=>⟨.str (i++j),H,I.tok _,⟨_,rfl⟩,q _ G H (Grow.refl hG) ⟨rfl,Fq o1 o2,by rw[Rc];exact hz⟩⟩) hz
   .cases e
  |_=>cases e
 |list xs=>cases b with
  |list ys=>
   replace e:(if _ then _ else _)=some d:=e;split at e
   .rename_i hz
    cases e;obtain⟨l,vs,rfl,h1,l1⟩:=ra;obtain⟨l',ws,rfl,h2,l2⟩:=rb;cases rx;cases ry;obtain⟨z1,its1,n1,v1,e1⟩:=X3 I hG h1;obtain⟨z2,its2,n2,v2,e2⟩:=X3 I hG h2;have q1:=v1.length;have q2:=v2.length;have q3:=l1.length;have q4:=l2.length;refine PySem.P.add_list e1 e2 ?_ (by rw[m8,m8];lia);have ea:its1.toArray++its2.toArray=(its1++its2).toArray:=by simp
    rw[ea];exact Qj (t':=s.toks) I hG (v1.append v2) (l1.append l2) (by rw[k7];lia) q
   .cases e
  |_=>cases e
 |tuple xs=>cases b with
  |tuple ys=>
   replace e:(if _ then _ else _)=some d:=e;split at e
   .rename_i hz
    cases e;obtain⟨l,vs,rfl,h1,l1⟩:=ra;obtain⟨l',ws,rfl,h2,l2⟩:=rb;cases rx;cases ry;obtain⟨z1,its1,v1,p1⟩:=Kn I hG h1;obtain⟨z2,its2,v2,p2⟩:=Kn I hG h2;have q1:=v1.length;have q2:=v2.length;have q3:=l1.length;have q4:=l2.length;by_cases hx:its1=[]
    .subst hx
     obtain⟨⟨cls,dd,data,sl⟩,ho,hc,n,hd⟩:=id p1;obtain⟨⟨cls2,dd2,data2,sl2⟩,ho2,hc2,n2,hd2⟩:=id p2;simp only at hc hd hc2 hd2;subst hc hd hc2 hd2;refine concat_meets ⟨_,ho,rfl⟩ ⟨_,ho2,rfl⟩ NW seq_tuple_add KO KA (JV _ _)
      (tuple_addW0 l l' _ _ n n2 dd dd2 sl sl2 (by simp)) ⟨ho,ho2,?_⟩
     have hxs:xs=[]:=by
      have:xs.length=0:=by rw[q3,q1];rfl
      exact CO.mp this
     subst hxs;exact⟨.ref l',H,I,rfl,q _ G H (Grow.refl hG) ⟨l',ws,rfl,h2,l2⟩⟩
    .refine HT.cat_tup p1 p2 hx (λhy=>?_) (λhy=>?_) (by lia)
     .subst hy
      have hys:ys=[]:=by
       have:ys.length=0:=by rw[q4,q2];rfl
       exact CO.mp this
      subst hys;rw[u8]at q;exact⟨.ref l,H,I,rfl,q _ G H (Grow.refl hG) ⟨l,vs,rfl,h1,l1⟩⟩
     .exact Zu (t':=s.toks) I hG (v1.append v2) (l1.append l2) (by rw[k7];lia) q
   .cases e
  |_=>cases e
 |_=>cases e
def uA:OpD wS C7:=λG H x y a b d Q hG ra rb e q=>⟨G,a,b,d,hG,ra,rb,e,q⟩
noncomputable def rD:f8->f8->Option f8
 |.int i,.int j=>some (.int (i-j))
 |_,_=>none
noncomputable def Vy:f8->f8->Option f8
 |.int i,.int j=>if 0<j then some (.int (i%j)) else none
 |_,_=>none
noncomputable def Ob:f8->f8->Option f8
 |.int i,.int j=>if 0<j/\j<1073741824 then some (.int (i/j)) else none
 |_,_=>none
def Zg{r:R2}{op:f8->f8->Option f8}(h:∀a b d,op a b=some d->∃i j k,a=.int i/\b=.int j/\d=.int k/\∀H Q,Q (V.int k) H->r (.int i) (.int j) H Q):OpD r op:=by
 intro G H x y a b d Q hG ra rb e q;obtain⟨i,j,k,rfl,rfl,rfl,hr⟩:=h a b d e;cases (show _=_ from ra);cases (show _=_ from rb);exact hr H Q (q _ G H (Grow.refl hG) rfl)
def tX:OpD (rI0 λi j=>.int (i-j)) rD:=Zg λa b d e=>by
 unfold rD at e;split at e
 .cases e;exact⟨_,_,_,rfl,rfl,rfl,λH Q q=>⟨_,_,rfl,rfl,q⟩⟩
 .cases e
def tZ:OpD (rI (λ_ j=>0<j) λi j=>.int (i%j)) Vy:=Zg λa b d e=>by
 unfold Vy at e;split at e
 .split at e
  .rename_i h;cases e;exact⟨_,_,_,rfl,rfl,rfl,λH Q q=>⟨_,_,rfl,rfl,h,q⟩⟩
  .cases e
 .cases e
def pC:OpD (rI CDiv λi j=>.int (i/j)) Ob:=Zg λa b d e=>by
 unfold Ob at e;split at e
 .split at e
  .rename_i h;cases e;exact⟨_,_,_,rfl,rfl,rfl,λH Q q=>⟨_,_,rfl,rfl,h,q⟩⟩
  .cases e
 .cases e
end
open PySem.AutoSeq1 (wpAny_loadPart')
noncomputable def O2(n:Nat)(x:Str):Str:=⟨(u6 n x.cps).foldl (·++·) #[]⟩
def lV(l:List (Array Nat)):∀acc:Array Nat,(l.foldl (·++·) acc).toList=acc.toList++(l.map OJ).flatten:=by
 induction l with
 |nil=>intro acc;simp
 |cons a l ih=>intro acc;rw[List.foldl_cons,ih];simp
def Al(n:Nat)(x:Str):(O2 n x).cps.toList=(u6 n x.cps.toList).flatten:=by
 unfold O2;rw[lV];simp
def kB{x:Str}(h:z0 x=true)(n:Nat):z0 (O2 n x)=true:=by
 unfold z0 at *;rw[<-Array.all_toList,EZ]at *;rw[Al];intro c hc;obtain⟨l,hl,hc⟩:=MZ.mp hc;rw[List.eq_of_mem_replicate hl]at hc;exact h c hc
def Re(n:Nat)(x:Str):(O2 n x).length=n*x.length:=by
 show(O2 n x).cps.size=n*x.cps.size;rw[<-HW,Al,iQ,HW]
def aT(x:Str):O2 0 x=GQ:=rfl
def eM(x:Str):O2 1 x=x:=by
 have:(O2 1 x).cps=x.cps:=by
  apply Array.toList_inj.mp;rw[Al];simp
 cases x;cases h:O2 1 _;rw[h]at this;cases this;rfl
def eN{x:Str}(n:Nat)(h:x.length=0):O2 n x=x:=by
 have hx:x.cps=#[]:=Array.size_eq_zero_iff.mp h;have:(O2 n x).cps=x.cps:=by
  apply Array.toList_inj.mp;rw[Al,hx];simp
 cases x;cases h:O2 n _;rw[h]at this;cases this;rfl
def O6:f8->f8->Option f8
 |.int i,.int j=>if (-(2 ^ 64)<i/\i<2 ^ 64)\/(-(2 ^ 64)<j/\j<2 ^ 64) then some (.int (i*j)) else none
 |.str x,.int n=>if-(2 ^ 63)<=n/\n<2 ^ 63/\x.length*n.toNat<=sizeLine then some (.str (O2 n.toNat x)) else none
 |.list xs,.int n=>if-(2 ^ 63)<=n/\n<2 ^ 63/\xs.length*n.toNat<=sizeLine then some (.list (u6 n.toNat xs).flatten) else none
 |_,_=>none
def wR:R2:=λx y H Q=>∃G a b d,Same G H/\Rep G a x/\Rep G b y/\O6 a b=some d/\∀v G' H',Grow G H G' H'->Rep G' d v->Q v H'
def tY:OpD wR O6:=λG H x y a b d Q hG ra rb e q=>⟨G,a,b,d,hG,ra,rb,e,q⟩
def kW:fillsNumberSlot (.type "tuple") "mul"=pure false:=by
 unfold fillsNumberSlot;first |rfl |kernel_rfl |decide+kernel
def sS:seqRepeat? (.type "tuple")=pure (some (.builtin "tuple.__mul__")):=by
 unfold seqRepeat?;first |rfl |kernel_rfl
def qL(a:Int)(t:Tok)(l:i9)(items:Array g9)(n:Nat)(dd:Option i9)(sl:Array (Option g9)):
 Meets (EM.«int.__rmul__» ⟨[.int a t,.ref l],[]⟩) (λ_ R s=>s.heap.get? l=some {cls:=.type "tuple",dict:=dd,data:=.seq items n,slots:=sl}/\R (.ok (.ret LM)) s):=
 .of_wp λprog w A R s h=>by obtain⟨hp,g,d,tk,os⟩:=s;obtain⟨hl,h⟩:=h;wp_walk;exact⟨_,rfl,h⟩
def mZ(l:i9)(items:Array g9)(n:Nat)(x:Int)(u:Tok)(dd:Option i9)(sl:Array (Option g9))(h1:¬(decide (x < -(2 ^ 63:Int))||decide (x≥2 ^ 63))=true)(h2:¬(items.isEmpty||x==1)=true)(h3:¬(decide (x<=0)||items.isEmpty)=true)
 (h4:¬(items.size:Int)*x>(2 ^ 63-1)/8) (h5:¬Builtin.Tuple.tupleTooMany (items.size*x)=true) (h6:(MI (λx1 x2=>x1++x2) #[] (u6 x.toNat items)).size<=sizeLine):
 Meets (EM.«tuple.__mul__» ⟨[.ref l,.int x u],[]⟩) (λ_ R s=>s.heap.get? l=some {cls:=.type "tuple",dict:=dd,data:=.seq items n,slots:=sl}/\R (.ok (.ret (CU s.heap.objs.size))) {s with heap:=s.heap.push {cls:=IU "tuple",data:=Data.seq (MI (λx1 x2=>x1++x2) #[] (u6 x.toNat items))},toks:=s.toks}):=
 .of_wp λprog w A R s h=>by
  obtain⟨hp,g,d,tk,os⟩:=s;obtain⟨hl,h⟩:=h;have f1:=PN
  wp_walk using DY hl
  rw[ir h1]
  wp_walk using DY hl
  rw[ir h4]
  wp_walk using DY hl
  exact⟨_,rfl,h⟩
def mY(l:i9)(items:Array g9)(n:Nat)(x:Int)(u:Tok)(dd:Option i9)(sl:Array (Option g9))(h1:¬(decide (x < -(2 ^ 63:Int))||decide (x≥2 ^ 63))=true)(h2:(items.isEmpty||x==1)=true):
 Meets (EM.«tuple.__mul__» ⟨[.ref l,.int x u],[]⟩) (λ_ R s=>s.heap.get? l=some {cls:=.type "tuple",dict:=dd,data:=.seq items n,slots:=sl}/\R (.ok (.ret (.ref l))) s):=
 .of_wp λprog w A R s h=>by
  obtain⟨hp,g,d,tk,os⟩:=s;obtain⟨hl,h⟩:=h;have f1:=PN
  wp_walk using DY hl
  rw[ir h1]
  wp_walk using DY hl
  exact⟨_,rfl,h⟩
section
variable {X:Cx}
def tR:OpR X (LL .Mult) wR:=by
 rintro pins s σ H x y v u Q I rx ry ⟨G,a,b,d,hG,ra,rb,e,q⟩;have h63:=Ii;obtain⟨k,rfl⟩:∃k,b=.int k:=by unfold O6 at e;split at e <;> first |exact⟨_,rfl⟩ |cases e
 cases (show _=_ from rb);obtain⟨t',rfl⟩:=ry;cases a with
 |int i=>
  replace e:(if _ then _ else _)=some d:=e;split at e
  .rename_i hc
   cases e;cases (show _=_ from ra);obtain⟨t,rfl⟩:=rx;exact mul_int ⟨.int _,H,I.tok _,⟨_,rfl⟩,q _ G H (Grow.refl hG) rfl⟩ (CMul.ok hc)
  .cases e
 |str z=>
  replace e:(if _ then _ else _)=some d:=e;split at e
  .rename_i hc
   obtain⟨hc1,hc2,hc3⟩:=hc;cases e;obtain⟨e1,o1,l1⟩:=ra;cases e1;obtain⟨t,rfl⟩:=rx;have fin:∀tk,Q (.str (O2 k.toNat z)) H/\Inv X pins σ H {s with toks:=tk}:=λtk=>⟨q _ G H (Grow.refl hG) ⟨rfl,kB o1 _,by rw[Re,OZ];exact hc3⟩,I.tok _⟩;refine PySem.P.mul_str (by rw[decide_eq_false (by lia),decide_eq_false (by lia)];rfl) (λh1 _=>?_) (λh1 _=>?_) ?_
   .intro hgt
    have hk:(0:Int)<k:=by lia
    have h2:(2 ^ 63-1)/k+1<=(z.length:Int):=by lia
    have h3:(2 ^ 63-1:Int)<((2 ^ 63-1)/k+1)*k:=Int.lt_ediv_add_one_mul_self _ hk;have h4:((2 ^ 63-1)/k+1)*k<=(z.length:Int)*k:=Int.mul_le_mul_of_nonneg_right h2 (by lia);have h5:(z.length:Int)*k=((z.length*k.toNat:Nat):Int):=by
     rw[Int.natCast_mul,Int.toNat_of_nonneg (by lia)]
    lia
   .unfold Builtin.Str.tooLong
    exact decide_eq_false (by lia)
   .by_cases h1:k<1
    .rw[iq h1]
     have:k.toNat=0:=by lia
     rw[this,aT]at fin;exact⟨by decide,⟨.str _,H,(fin _).2,⟨_,rfl⟩,(fin 0).1⟩⟩
    .rw[ir h1]
     by_cases h2:(k==1||z.length==0)=true
     .rw[iq h2]
      rw[NN]at h2;have ez:O2 k.toNat z=z:=by
       rcases h2 with h2 |h2
       .have:k=1:=GY h2
        subst this;exact eM z
       .exact eN _ (GY h2)
      rw[ez]at fin;exact⟨.str _,H,I,⟨_,rfl⟩,(fin 0).1⟩
     .rw[ir h2]
      exact⟨by show(O2 k.toNat z).length<=_;rw[Re,OZ];exact hc3,⟨.str _,H,(fin _).2,⟨_,rfl⟩,(fin 0).1⟩⟩
  .cases e
 |list xs=>
  replace e:(if _ then _ else _)=some d:=e;split at e
  .rename_i hc
   obtain⟨hc1,hc2,hc3⟩:=hc;cases e;obtain⟨l,vs,rfl,h1,l1⟩:=ra;cases rx;have q3:=l1.length;obtain⟨z,its,n,r,e⟩:=X3 I hG h1;have hl:=r.length;have hlen:its.toArray.size*k.toNat<=sizeLine:=by rw[m8,<-hl,<-q3];exact hc3
   have hcap:¬its.toArray.size*k.toNat>(2 ^ 63-1)/8:=by
    have:(sizeLine:Nat)<=(2 ^ 63-1)/8:=by decide
    lia
   have hfit:¬(!Builtin.List.listFitsIndex k)=true:=by
    rw[fitsIndex_both hc1 hc2];exact z6
   have hlong:¬HJ (its.toArray.size*k.toNat)=true:=by
    rw[bX hlen];exact z6
   have hnew:MI (λx1 x2=>x1++x2) #[] (u6 (if its.toArray.isEmpty=true then 0 else k.toNat) its.toArray)=(u6 k.toNat its).flatten.toArray:=by
    have f0:∀m:Nat,MI (λx1 x2=>x1++x2) #[] (u6 m its.toArray)=(u6 m its).flatten.toArray:=λm=>by
     have:=lU its m [];rw[BK]at this;exact this
    rw[f0];cases its with
    |nil=>simp
    |cons a r'=>rw[ir (by simp)]
   refine wpAny_binaryOp_repeat_ref (T:="list") (U:="int") (by decide) ⟨_,e,rfl⟩ (λs'=>typeIs_int s' k t') noFill_list_mul F.fills_int_mul F.slot_int_rmul repeat_list F.slot_int_index.lookup
    (JJ F.slot_int_rmul (typeIs_int s k t') F.entry_int_rmul (F.args_int_rmul_2 _ _) (int___rmul___int_list k t' l its.toArray n)
     ⟨e,rfl,⟨_,e,rfl⟩,JJ F.slot_list_mul ⟨_,e,rfl⟩ F.entry_list_mul (F.args_list_mul_2 _ _) (AutoListH.list___mul___list_int_3 l its.toArray n k t' hfit hcap hlong) ⟨e,?_⟩⟩)
   rw[hnew];exact Qj (t':=s.toks) I hG (r.rep k.toNat) (l1.rep k.toNat) (by rw[iQ,OZ,<-q3];exact hc3) q
  .cases e
 |_=>cases e
end
end Sm
end
section
namespace Sm
open PySem PySem.Spec PyProof.Rows L2
open PySem.AutoSeq1 (wpAny_loadPart')
open PySem.MeetsSeq PySem.MeetsSeq2 PySem.MeetsSeq3
noncomputable def lQ:FA->Int->Int->Bool
 |.Lt,i,j=>decide (i<j)
 |.LtE,i,j=>decide (i<=j)
 |.Gt,i,j=>decide (j<i)
 |_,i,j=>decide (j<=i)
noncomputable def fC:FA->Str->Str->Bool
 |.Lt,x,y=>decide (x.cps.toList<y.cps.toList)
 |.LtE,x,y=>!decide (y.cps.toList<x.cps.toList)
 |.Gt,x,y=>decide (y.cps.toList<x.cps.toList)
 |_,x,y=>!decide (x.cps.toList<y.cps.toList)
noncomputable def eC:FA->Nat->Nat->Bool
 |.Lt,m,n=>decide (m<n)
 |.LtE,m,n=>decide (m<=n)
 |.Gt,m,n=>decide (m>n)
 |_,m,n=>decide (m≥n)
noncomputable def wY:FA->Bool
 |.Lt=>true |.LtE=>true |.Gt=>true |.GtE=>true |_=>false
mutual
noncomputable def Vz(op:FA):f8->f8->Option Bool
 |.int i,.int j=>some (lQ op i j)
 |.str x,.str y=>some (fC op x y)
 |.tuple xs,.tuple ys=>Jo op xs ys
 |_,_=>none
noncomputable def Jo(op:FA):List f8->List f8->Option Bool
 |[],ys=>some (eC op 0 ys.length)
 |x::xs,[]=>some (eC op (xs.length+1) 0)
 |x::xs,y::ys=>if l6 x y=true then Jo op xs ys else Vz op x y
end
noncomputable def rS(op:FA)(A:BO)(s:i6)(u v:g9)(k:Bool):Prop:=∀(prog:o9) (w:x8) (E:g9->i6->Prop) (Q:g9->i6->Prop),Q (.bool k) s->wpAny (u7 prog w) A (richCompare op u v) Q E s
def yR{op:FA}(h:wY op=true)(A:BO)(s:i6)(i j:Int)(t u:Tok):rS op A s (.int i t) (.int j u) (lQ op i j):=λprog w E Q q=>by
 cases op with
 |Lt=>exact(lt_int q:wpAny (u7 prog w) A (CH .Lt (.int i t) (.int j u)) Q E s)
 |LtE=>exact(le_int q:wpAny (u7 prog w) A (CH .LtE (.int i t) (.int j u)) Q E s)
 |Gt=>exact(gt_int q:wpAny (u7 prog w) A (CH .Gt (.int i t) (.int j u)) Q E s)
 |GtE=>exact(ge_int q:wpAny (u7 prog w) A (CH .GtE (.int i t) (.int j u)) Q E s)
 |_=>cases h
def yQ{op:FA}(h:wY op=true)(A:BO)(s:i6)(x y:Str)(t u:Tok):rS op A s (.str x t) (.str y u) (fC op x y):=λprog w E Q q=>by
 cases op with
 |Lt=>exact(PySem.P.lt_str q:wpAny (u7 prog w) A (CH .Lt (.str x t) (.str y u)) Q E s)
 |LtE=>exact(PySem.P.le_str (by simpa[fC] using q):wpAny (u7 prog w) A (CH .LtE (.str x t) (.str y u)) Q E s)
 |Gt=>exact(PySem.P.gt_str q:wpAny (u7 prog w) A (CH .Gt (.str x t) (.str y u)) Q E s)
 |GtE=>exact(PySem.P.ge_str (by simpa[fC] using q):wpAny (u7 prog w) A (CH .GtE (.str x t) (.str y u)) Q E s)
 |_=>cases h
def Eb(op:FA)(A:BO)(s:i6)(vs ws:List g9)(ds es:List f8):Prop:=
 ∀(i:Nat) (v w:g9) (d e:f8),vs[i]?=some v->ws[i]?=some w->ds[i]?=some d->es[i]?=some e->SeqAt.EqAt A s v w (l6 d e)/\∀k,Vz op d e=some k->rS op A s v w k
def Up(l b:i9)(items items2:Array g9)(n n2:Nat)(dd dd2:Option i9)(sl sl2:Array (Option g9))(ds es:List f8)(k:Bool)(hz1:items.toList.length=ds.length)(hz2:items2.toList.length=es.length)(hk:Jo .Lt ds es=some k):
 Meets (EM.«tuple.__lt__» ⟨[.ref l,.ref b],[]⟩)
  (λA R s=>s.heap.get? l=some {cls:=.type "tuple",dict:=dd,data:=.seq items n,slots:=sl}/\s.heap.get? b=some {cls:=.type "tuple",dict:=dd2,data:=.seq items2 n2,slots:=sl2} /\
   Eb .Lt A.in1 s items.toList items2.toList ds es/\R (.ok (.ret (.bool k))) s):=
 .of_wp λprog w A R s h=>by
  obtain⟨hp,g,d,tk,os⟩:=s;obtain⟨hl,hb,hI,h⟩:=h;have f2:=NO;have z1:items.size=ds.length:=by rw[<-hz1];simp
  have z2:items2.size=es.length:=by rw[<-hz2];simp
  wp_walk using DY hl,DY hb,JI _ (λT4 b s'=>b.1=none/\s'=⟨hp,g,d,tk,os⟩/\∃(vs ws:List g9) (ds' es':List f8),T4=vs.zip ws /\
   vs.length=ds'.length/\ws.length=es'.length/\ds'.length+items2.size=es'.length+items.size/\Eb .Lt A.in1 ⟨hp,g,d,tk,os⟩ vs ws ds' es'/\Jo .Lt ds' es'=some k) _
  case turn=>
   rintro⟨y,x⟩ T4 b s' ⟨hb',rfl,vs,ws,ds',es',hz,hv,hw,hlen,hI',hR⟩;cases vs with
   |nil=>rw[List.zip_nil_left]at hz;cases hz
   |cons v0 vs=>
    cases ws with
    |nil=>rw[List.zip_nil_right]at hz;cases hz
    |cons w0 ws=>
     cases ds' with
     |nil=>simp at hv
     |cons d0 ds'=>
      cases es' with
      |nil=>simp at hw
      |cons e0 es'=>
       rw[JQ]at hz;injection hz with hyx hrest
       injection hyx with hy hx
       subst hy hx;simp only[l7]at hlen hv hw;obtain⟨he,hc⟩:=hI' 0 y x d0 e0 rfl rfl rfl rfl;have hI2:Eb .Lt A.in1 ⟨hp,g,d,tk,os⟩ vs ws ds' es':=λi v w d e h1 h2 h3 h4=>hI' (i+1) v w d e (by simpa using h1) (by simpa using h2) (by simpa using h3) (by simpa using h4);rw[Jo]at hR;refine f9 (he prog w _ _ ?_);cases q:l6 d0 e0 with
       |true=>
        rw[q,iq rfl]at hR
        wp_walk
        exact⟨rfl,rfl,_,_,_,_,hrest,by lia,by lia,by lia,hI2,hR⟩
       |false=>
        rw[q,ir (by decide)]at hR;have hri:=hc k hR prog w
        wp_walk using hri
        exact⟨_,rfl,by simpa using h⟩
  case fin=>
   rintro⟨b1,b2⟩ s' ⟨hb',rfl,vs,ws,ds',es',hz,hv,hw,hlen,hI',hR⟩;simp only at hb';subst hb';have hv':k=decide (items.size<items2.size):=by
    cases ds' with
    |nil=>
     rw[Jo]at hR;have:=BS hR;rw[<-this];simp only[BM]at hlen;simp only[eC];exact decide_eq_decide.mpr (by lia)
    |cons d0 ds'=>
     cases es' with
     |nil=>
      rw[Jo]at hR;have:=BS hR;rw[<-this];simp only[BM,l7]at hlen;simp only[eC];exact decide_eq_decide.mpr (by lia)
     |cons e0 es'=>
      cases vs with
      |nil=>simp at hv
      |cons v0 vs=>
       cases ws with
       |nil=>simp at hw
       |cons w0 ws=>rw[JQ]at hz;cases hz
   rw[hv']at h
   wp_walk
   exact⟨_,rfl,by simpa[LJ] using h⟩
  case h=>
   exact⟨rfl,rfl,items.toList,items2.toList,ds,es,rfl,hz1,hz2,by lia,hI,hk⟩
def Uq(l b:i9)(items items2:Array g9)(n n2:Nat)(dd dd2:Option i9)(sl sl2:Array (Option g9))(ds es:List f8)(k:Bool)(hz1:items.toList.length=ds.length)(hz2:items2.toList.length=es.length)(hk:Jo .LtE ds es=some k):
 Meets (EM.«tuple.__le__» ⟨[.ref l,.ref b],[]⟩)
  (λA R s=>s.heap.get? l=some {cls:=.type "tuple",dict:=dd,data:=.seq items n,slots:=sl}/\s.heap.get? b=some {cls:=.type "tuple",dict:=dd2,data:=.seq items2 n2,slots:=sl2} /\
   Eb .LtE A.in1 s items.toList items2.toList ds es/\R (.ok (.ret (.bool k))) s):=
 .of_wp λprog w A R s h=>by
  obtain⟨hp,g,d,tk,os⟩:=s;obtain⟨hl,hb,hI,h⟩:=h;have f2:=NO;have z1:items.size=ds.length:=by rw[<-hz1];simp
  have z2:items2.size=es.length:=by rw[<-hz2];simp
  wp_walk using DY hl,DY hb,JI _ (λT4 b s'=>b.1=none/\s'=⟨hp,g,d,tk,os⟩/\∃(vs ws:List g9) (ds' es':List f8),T4=vs.zip ws /\
   vs.length=ds'.length/\ws.length=es'.length/\ds'.length+items2.size=es'.length+items.size/\Eb .LtE A.in1 ⟨hp,g,d,tk,os⟩ vs ws ds' es'/\Jo .LtE ds' es'=some k) _
  case turn=>
   rintro⟨y,x⟩ T4 b s' ⟨hb',rfl,vs,ws,ds',es',hz,hv,hw,hlen,hI',hR⟩;cases vs with
   |nil=>rw[List.zip_nil_left]at hz;cases hz
   |cons v0 vs=>
    cases ws with
    |nil=>rw[List.zip_nil_right]at hz;cases hz
    |cons w0 ws=>
     cases ds' with
     |nil=>simp at hv
     |cons d0 ds'=>
      cases es' with
      |nil=>simp at hw
      |cons e0 es'=>
       rw[JQ]at hz;injection hz with hyx hrest
       injection hyx with hy hx
       subst hy hx;simp only[l7]at hlen hv hw;obtain⟨he,hc⟩:=hI' 0 y x d0 e0 rfl rfl rfl rfl;have hI2:Eb .LtE A.in1 ⟨hp,g,d,tk,os⟩ vs ws ds' es':=λi v w d e h1 h2 h3 h4=>hI' (i+1) v w d e (by simpa using h1) (by simpa using h2) (by simpa using h3) (by simpa using h4);rw[Jo]at hR;refine f9 (he prog w _ _ ?_);cases q:l6 d0 e0 with
       |true=>
        rw[q,iq rfl]at hR
        wp_walk
        exact⟨rfl,rfl,_,_,_,_,hrest,by lia,by lia,by lia,hI2,hR⟩
       |false=>
        rw[q,ir (by decide)]at hR;have hri:=hc k hR prog w
        wp_walk using hri
        exact⟨_,rfl,by simpa using h⟩
  case fin=>
   rintro⟨b1,b2⟩ s' ⟨hb',rfl,vs,ws,ds',es',hz,hv,hw,hlen,hI',hR⟩;simp only at hb';subst hb';have hv':k=decide (items.size<=items2.size):=by
    cases ds' with
    |nil=>
     rw[Jo]at hR;have:=BS hR;rw[<-this];simp only[BM]at hlen;simp only[eC];exact decide_eq_decide.mpr (by lia)
    |cons d0 ds'=>
     cases es' with
     |nil=>
      rw[Jo]at hR;have:=BS hR;rw[<-this];simp only[BM,l7]at hlen;simp only[eC];exact decide_eq_decide.mpr (by lia)
     |cons e0 es'=>
      cases vs with
      |nil=>simp at hv
      |cons v0 vs=>
       cases ws with
       |nil=>simp at hw
       |cons w0 ws=>rw[JQ]at hz;cases hz
   rw[hv']at h
   wp_walk
   exact⟨_,rfl,by simpa[LJ] using h⟩
  case h=>
   exact⟨rfl,rfl,items.toList,items2.toList,ds,es,rfl,hz1,hz2,by lia,hI,hk⟩
def oD{op:FA}(ho:op=.Lt\/op=.LtE){A:BO}{s:i6}{l b:i9}{items items2:Array g9}{ds es:List f8}{k:Bool}(hl:LP s.heap l items)(hb:LP s.heap b items2)(hz1:items.toList.length=ds.length)(hz2:items2.toList.length=es.length)
 (hI:Eb op A.in1 s items.toList items2.toList ds es) (hk:Jo op ds es=some k) (hu:A.units<EO):rS op A s (.ref l) (.ref b) k:=λprog w E Q q=>by
 obtain⟨⟨cls,dd,data,sl⟩,ho1,hc,n,hd⟩:=id hl;obtain⟨⟨cls2,dd2,data2,sl2⟩,ho2,hc2,n2,hd2⟩:=id hb;simp only at hc hd hc2 hd2;subst hc hd hc2 hd2;rcases ho with rfl |rfl
 .exact richCompare_meets_room (op:= .Lt) ⟨_,ho1,rfl⟩ ⟨_,ho2,rfl⟩ PySem.F.slot_tuple_lt PySem.F.entry_tuple_lt (PySem.F.args_tuple_lt_2 _ _) (Up l b items items2 n n2 dd dd2 sl sl2 ds es k hz1 hz2 hk)
   ⟨ho1,ho2,hI,show EF k≠LM/\Q (.bool k) s from ⟨(λx=>nomatch x),q⟩⟩ hu
 .exact richCompare_meets_room (op:= .LtE) ⟨_,ho1,rfl⟩ ⟨_,ho2,rfl⟩ PySem.F.slot_tuple_le PySem.F.entry_tuple_le (PySem.F.args_tuple_le_2 _ _) (Uq l b items items2 n n2 dd dd2 sl sl2 ds es k hz1 hz2 hk)
   ⟨ho1,ho2,hI,show EF k≠LM/\Q (.bool k) s from ⟨(λx=>nomatch x),q⟩⟩ hu
def AX{op:FA}{i:Int}{b:f8}{k:Bool}(e:Vz op (.int i) b=some k):∃j,b=.int j/\k=lQ op i j:=by cases b <;> cases e;lia
def AW{op:FA}{i:Str}{b:f8}{k:Bool}(e:Vz op (.str i) b=some k):∃j,b=.str j/\k=fC op i j:=by cases b <;> cases e;lia
def AV{op:FA}{i:List f8}{b:f8}{k:Bool}(e:Vz op (.tuple i) b=some k):∃j,b=.tuple j/\Jo op i j=some k:=by cases b with |tuple j=>exact⟨j,rfl,e⟩ |_=>cases e
noncomputable def ordB:f8->Bool
 |.int _=>true |.str _=>true |.tuple _=>true |_=>false
def aC{op:FA}{a b:f8}{k:Bool}(h:ordB a=false)(e:Vz op a b=some k):False:=by cases a <;> first | (cases h;done) |cases e
mutual
theorem iB{op:FA}(ho:op=.Lt\/op=.LtE):∀(a b:f8) (A:BO) (s:i6) (u v:g9) (as bs:List i9) (k:Bool),Reads s.heap u a as->Reads s.heap v b bs->a.canLay0=true->b.canLay0=true->A.units+a.depth<EO->Vz op a b=some k->rS op A s u v k
 |.int i,b,A,s,_,_,_,_,k,ra,rb,_,_,_,e=>by
  obtain⟨j,rfl,rfl⟩:=AX e;cases ra;cases rb;exact yR (by rcases ho with rfl |rfl <;> rfl) A s i j _ _
 |.str x,b,A,s,_,_,_,_,k,ra,rb,_,_,_,e=>by
  obtain⟨j,rfl,rfl⟩:=AW e;cases ra;cases rb;exact yQ (by rcases ho with rfl |rfl <;> rfl) A s x j _ _
 |.tuple xs,b,A,s,_,_,_,_,k,ra,rb,ha,hb,hu,e=>by
  obtain⟨ys,rfl,e⟩:=AV e;cases ra with
  |tuple h1 h2 h3 h4=>
   cases rb with
   |tuple k1 k2 k3 k4=>
    have hu':A.units+(CI xs+1)<EO:=hu;refine oD ho ⟨_,h1,h2,_,h3⟩ ⟨_,k1,k2,_,k3⟩ (MV _ _ _ h4) (MV _ _ _ k4) ?_ e (by lia);exact bK ho xs ys A.in1 s _ _ _ _ h4 k4 ha hb (by show A.units+1+_<_;lia)
 |.none,b,_,_,_,_,_,_,_,_,_,_,_,_,e=>(aC (a:=.none) rfl e).elim
 |.bool c,b,_,_,_,_,_,_,_,_,_,_,_,_,e=>(aC (a:=.bool c) rfl e).elim
 |.list c,b,_,_,_,_,_,_,_,_,_,_,_,_,e=>(aC (a:=.list c) rfl e).elim
 |.dict c,b,_,_,_,_,_,_,_,_,_,_,_,_,e=>(aC (a:=.dict c) rfl e).elim
theorem bK{op:FA}(ho:op=.Lt\/op=.LtE):∀(xs ys:List f8) (A:BO) (s:i6) (vs ws:List g9) (as bs:List i9),OX s.heap vs xs as->OX s.heap ws ys bs->EJ xs=true->EJ ys=true->A.units+CI xs<EO->Eb op A s vs ws xs ys
 |[],_,_,_,_,_,_,_,_,_,_,_,_=>λi v w d e h1 h2 h3 h4=>by simp at h3
 |_::_,[],_,_,_,_,_,_,_,_,_,_,_=>λi v w d e h1 h2 h3 h4=>by simp at h4
 |x::xs,y::ys,A,s,_,_,_,_,ra,rb,ha,hb,hu=>by
  have ha':x.canLay0=true/\EJ xs=true:=by simpa[EJ] using ha
  have hb':y.canLay0=true/\EJ ys=true:=by simpa[EJ] using hb
  have hu':A.units+max x.depth (CI xs)<EO:=hu;cases ra with
  |cons r1 r2=>
   cases rb with
   |cons q1 q2=>
    intro i v w d e h1 h2 h3 h4;cases i with
    |zero=>
     simp at h1 h2 h3 h4;subst h1 h2 h3 h4;exact⟨SeqAt.eqAt_reads _ _ _ _ _ _ _ _ r1 q1 ha'.1 hb'.1 (by lia),λk hk=>iB ho _ _ A s _ _ _ _ k r1 q1 ha'.1 hb'.1 (by lia) hk⟩
    |succ i=>exact bK ho xs ys A s _ _ _ _ r2 q2 ha'.2 hb'.2 (by lia) i v w d e (by simpa using h1) (by simpa using h2) (by simpa using h3) (by simpa using h4)
end
def E6(op:FA)(a b:f8):Option f8:=if a.depth<=60 then(Vz op a b).map .bool else none
def bL(op:FA):R2:=λx y H Q=>∃G a b k,Same G H/\Rep G a x/\Rep G b y/\a.depth<=60/\Vz op a b=some k/\Q (.bl k) H
section
variable {X:Cx}
def Gg{op:FA}(ho:op=.Lt\/op=.LtE)(hu:X.A.units+64<EO):OpR X (CH op) (bL op):=by
 rintro pins s σ H x y v u Q I rx ry ⟨G,a,b,k,hG,ra,rb,hd,e,q⟩;obtain⟨as,r1⟩:=ra.reads I hG rx;obtain⟨bs,r2⟩:=rb.reads I hG ry;have:=iB ho a b X.A s v u as bs k r1 r2 ra.lay rb.lay (by lia) e X.prog X.w X.xe (EP X pins σ Q) ⟨.bl k,H,I,rfl,q⟩;rcases ho with rfl |rfl
 .exact this
 .exact this
def tV{op:FA}(ho:op=.Gt\/op=.GtE):OpR X (CH op) (λx y H Q=>∃i j,x=.int i/\y=.int j/\Q (.bl (lQ op i j)) H):=by
 rintro pins s σ H x y v u Q I rx ry ⟨i,j,e1,e2,q⟩;subst e1 e2;obtain⟨t,rfl⟩:=rx;obtain⟨t',rfl⟩:=ry;rcases ho with rfl |rfl
 .exact gt_int ⟨.bl _,H,I,rfl,q⟩
 .exact ge_int ⟨.bl _,H,I,rfl,q⟩
def Dt{op:FA}:OpD (bL op) (E6 op):=by
 intro G H x y a b d Q hG ra rb e q;unfold E6 at e;split at e
 .rename_i h
  cases e1:Vz op a b with
  |none=>simp_all
  |some k=>rw[e1]at e;cases e;exact⟨G,a,b,k,hG,ra,rb,h,e1,q _ G H (Grow.refl hG) rfl⟩
 .cases e
def Fg(op:FA):f8->f8->Option f8
 |.int i,.int j=>some (.bool (lQ op i j))
 |_,_=>none
def pD{op:FA}:OpD (λx y H Q=>∃i j,x=.int i/\y=.int j/\Q (.bl (lQ op i j)) H) (Fg op):=by
 intro G H x y a b d Q hG ra rb e q;cases a with
 |int i=>cases b with
  |int j=>cases e;cases (show _=_ from ra);cases (show _=_ from rb);exact⟨i,j,rfl,rfl,q _ G H (Grow.refl hG) rfl⟩
  |_=>cases e
 |_=>cases e
end
end Sm
end
section
namespace Sm
open PySem PySem.Spec PyProof.Rows L2
def Res.bind_assoc{α β γ:Type}(r:Res α)(f:α->Res β)(g:β->Res γ):(r.bind f).bind g=r.bind λx=>(f x).bind g:=by cases r <;> rfl
structure Cxt(P:o9)(w:x8)(K:i5)(mg:Str->Option g9)(base:BL)(X:Cx)(N:List Str)(sc:Scope)(k:Nat)(df:Bool):Prop where
 hP:X.prog=P
 hw:X.w=w
 hK:X.K=K
 hmg:X.mg=mg
 hb:X.base=base
 hN:X.N=N
 hs:X.env.scope=sc
 calm:X.calm=true
 room:Room k X.A
 fn:df=true->∀x,X.fn x=true
 own:PassesOwn (u7 X.prog X.w) X.A X.env X.xe
noncomputable def Fc(scope sc:Scope):Scope:=
 {scope with names:=scope.names.map λ(n,k)=>if (k==.free&&sc.kind==.function&&sc.names.lookup n==some .cell) then(n,.cell) else(n,k)}
def iA{X:Cx}{scope sc:Scope}(h:X.env.scope=sc):FU scope X.env=Fc scope sc:=by subst h;rfl
section
variable {P:o9}{w:x8}{K:i5}{mg:Str->Option g9}{base:BL}{X:Cx}{N:List Str}{sc:Scope}{k:Nat}{df:Bool}{E:EK}{pos:Pos}
def Cxt.blk(C:Cxt P w K mg base X N sc k df){X':Cx}{N':List Str}{scope:Scope}(B:Blk X X' N' (FU scope X.env)):Cxt P w K mg base X' N' (Fc scope sc) k false:=
 ⟨B.prog.trans C.hP,B.w.trans C.hw,B.K.trans C.hK,B.mg.trans C.hmg,B.base.trans C.hb,B.N,B.sc.trans (iA C.hs),B.calm.trans C.calm,by rw[B.A];exact C.room,(λh=>by cases h),by rw[B.xe];exact GS⟩
def Cxt.hu(C:Cxt P w K mg base X N sc k df):X.A.units+64<EO:=C.room.units
noncomputable def okVar(N:List Str)(sc:Scope)(i:Nat)(x:Str):Bool:=
 (N[i]?== some x)&&(match sc.names.lookup x with |some .local=>true |some .cell=>true |some .free=>true |_=>false)&&!(x==("__debug__" : Str))&&!(x==("__classdict__" : Str))
def A3(C:Cxt P w K mg base X N sc k df)(i:Nat){x:Str}(h:okVar N sc i x=true):DE X E (.Name x pos) (A0 i):=by
 unfold okVar at h;simp only[x3,DQ]at h;obtain⟨⟨⟨h1,h2⟩,h3⟩,h4⟩:=h;refine rA (by rw[C.hN];lia) ?_ h3 h4;rw[C.hs];unfold Vis;lia
noncomputable def okGl(sc:Scope)(x:Str):Bool:=(sc.names.lookup x==some .globalImplicit)&&!(x==("__debug__" : Str))&&!(x==("__name__" : Str))
def okGl.gl(C:Cxt P w K mg base X N sc k df){x:Str}(h:okGl sc x=true):Gl X x/\(x==("__debug__" : Str))=false/\x≠"__name__":=by
 unfold okGl at h;simp only[x3,DQ]at h;obtain⟨⟨h1,h2⟩,h3⟩:=h;refine⟨?_,h2,by lia⟩;unfold Gl;show X.env.scope.names.lookup x=_;rw[C.hs];lia
def vS(C:Cxt P w K mg base X N sc k df){x z:Str}(h:okGl sc x=true)(hm:∃t,mg x=some (.str z t))(hz:z0 z=true:=by decide+kernel)(hl:z.length<=sizeLine:=by decide+kernel):DE X E (.Name x pos) (vC (.str z)):=by
 obtain⟨t,hm⟩:=hm;obtain⟨h1,h2,h3⟩:=okGl.gl C h;exact PE.imp (Zf (v:=.str z) h1 (by rw[C.hmg];exact hm) ⟨t,rfl⟩ h2) λσ H Q hZ3=>by obtain⟨G,δ,S,a⟩:=hZ3;exact a _ G H (Grow.refl S.sub) ⟨rfl,hz,hl⟩
variable {a b c:Expr}{f g f':Dn->Res f8}
def D5(ha:DE X E a f)(hb:DE X E b g):DE X E (.BinOp a .Add b pos) (b2 f g C7):=dH tW uA ha hb
def d_sub(ha:DE X E a f)(hb:DE X E b g):DE X E (.BinOp a .Sub b pos) (b2 f g rD):=dH pA tX ha hb
def Bz(ha:DE X E a f)(hb:DE X E b g):DE X E (.BinOp a .Mult b pos) (b2 f g O6):=dH tR tY ha hb
def Xm(ha:DE X E a f)(hb:DE X E b g):DE X E (.BinOp a .Mod b pos) (b2 f g Vy):=dH zK tZ ha hb
def Zy(ha:DE X E a f)(hb:DE X E b g):DE X E (.BinOp a .FloorDiv b pos) (b2 f g Ob):=dH tU pC ha hb
def vT(C:Cxt P w K mg base X N sc k df)(ha:DE X E a f)(hb:DE X E b g):DE X E (.Compare a [.Eq] [b] pos) (b2 f g dEq):=d_cmp (My C.hu) Mz ha hb (Ih _)
def K6(f g f':Dn->Res f8)(op op':f8->f8->Option f8):Dn->Res f8:=λδ=>(f δ).bind λx=>(g δ).bind λy=>(ofO (op x y)).bind λz=>match z with
 |.bool true=>(f' δ).bind λu=>ofO (op' y u)
 |.bool false=>.ok (.bool false)
 |_=>.no
def Tr{o o':FA}{r r':R2}{op op':f8->f8->Option f8}(hr:OpR X (CH o) r)(ho:OpD r op)(hr':OpR X (CH o') r')(ho':OpD r' op')(ha:DE X E a f)(hb:DE X E b g)(hc:DE X E c f')
 (hm:KD [o,o'] [b,c]=false):DE X E (.Compare a [o,o'] [b,c] pos) (K6 f g f' op op'):=by
 refine PE.imp (oW hr hr' ha hb hc hm) λσ H Q hZ3=>?_;obtain⟨G,δ,S,aft⟩:=hZ3;refine K0 S aft λd1 v1 G1 H1 g1 r1 S1 a1=>?_;refine K0 S1 a1 λd2 v2 G2 H2 g2 r2 S2 a2=>?_;cases e:op d1 d2 with
 |none=>rw[e]at a2;exact a2.elim
 |some d=>
  rw[e]at a2;refine ho G2 H2 v1 v2 d1 d2 d _ S2.sub (r1.mono g2.g) r2 e λv G3 H3 g3 r3=>?_;cases d with
  |bool kk=>
   refine⟨kk,r3,?_⟩;have S3:=S2.grow g3;cases kk with
   |false=>rw[ir (by decide)];exact a2 _ G3 H3 g3 rfl
   |true=>
    rw[iq rfl];refine K0 S3 (Aft.grow g3 a2) λd4 v4 G4 H4 g4 r4 S4 a4=>?_;cases e':op' d2 d4 with
    |none=>rw[e']at a4;exact a4.elim
    |some d=>rw[e']at a4;exact ho' G4 H4 v2 v4 d2 d4 d Q S4.sub (r2.mono (g3.g.trans g4.g)) r4 e' a4
  |_=>exact(show False from a2).elim
noncomputable def Ni:f8->Bool
 |.none=>true
 |_=>false
def b1(f:Dn->Res f8)(op:f8->Option f8):Dn->Res f8:=λδ=>(f δ).bind λx=>ofO (op x)
theorem Rep.non{G:Hp}{d:f8}{v:V}(r:Rep G d v):decide (v=.non)=Ni d:=by
 cases d with
 |none=>cases (show _=_ from r);rfl
 |bool _=>cases (show _=_ from r);rfl
 |int _=>cases (show _=_ from r);rfl
 |str _=>cases r.1;rfl
 |list _=>obtain⟨a,xs,rfl,_⟩:=r;rfl
 |tuple _=>obtain⟨a,xs,rfl,_⟩:=r;rfl
 |dict _=>exact(show False from r).elim
noncomputable def gC:f8->Option f8
 |.int i=>some (.int (-i))
 |_=>none
def jA(ha:DE X E a f):DE X E (.UnaryOp .USub a pos) (b1 f gC):=by
 refine PE.imp (iF Yf ha) λσ H Q hZ3=>?_;obtain⟨G,δ,S,aft⟩:=hZ3;refine K0 S aft λd1 v1 G1 H1 g1 r1 S1 a1=>?_;cases d1 with
 |int i=>cases (show _=_ from r1);exact⟨i,rfl,a1 _ G1 H1 (Grow.refl S1.sub) rfl⟩
 |_=>exact(show False from a1).elim
def mU(f g:Dn->Res f8):Dn->Res f8:=λδ=>(f δ).bind λx=>match x with
 |.bool true=>g δ
 |.bool false=>.ok (.bool false)
 |_=>.no
variable {T4:List Expr}
def d_one{op:BoolOp}(ha:DE X E a f):DE X E (.BoolOp op [a] pos) f:=yX ha
def d_and(ha:DE X E a f)(hb:DE X E (.BoolOp .And (b::T4) pos) g):DE X E (.BoolOp .And (a::b::T4) pos) (mU f g):=by
 refine PE.imp (zC ha hb) λσ H Q hZ3=>?_;obtain⟨G,δ,S,aft⟩:=hZ3;refine K0 S aft λd1 v1 G1 H1 g1 r1 S1 a1=>?_;cases d1 with
 |bool kk=>
  refine⟨kk,r1,?_⟩;cases kk with
  |true=>rw[iq rfl];exact⟨G1,δ,S1,a1⟩
  |false=>rw[ir (by decide)];exact a1 _ G1 H1 (Grow.refl S1.sub) rfl
 |_=>exact(show False from a1).elim
def AftT(E:EK)(G H:Hp)(r:Res Bool)(Q:Bool->Hp->Prop):Prop:=match r with
 |.ok d=>∀G' H',Grow G H G' H'->Q d H'
 |.exc c=>∀G' H',Grow G H G' H'->E c H'
 |.no=>False
def tT(E:EK)(f:Dn->Res Bool):TT:=λσ H Q=>∃G δ,SR G H σ δ/\AftT E G H (f δ) Q
abbrev DT(X:Cx)(E:EK)(e:Expr)(f:Dn->Res Bool):Prop:=PT X e (tT E f)
abbrev DW(X:Cx)(E:EK)(e:Expr)(f:Dn->Res Bool):Prop:=PW X e (tT E f)
def AftT.grow{E:EK}{G H G' H':Hp}{r:Res Bool}{Q:Bool->Hp->Prop}(g:Grow G H G' H')(a:AftT E G H r Q):AftT E G' H' r Q:=by
 cases r with
 |ok d=>exact λG2 H2 g2=>a G2 H2 (g.trans g2)
 |exc c=>exact λG2 H2 g2=>a G2 H2 (g.trans g2)
 |no=>exact a
def PT.imp{X:Cx}{e:Expr}{t t':TT}(h:PT X e t)(i:∀σ H Q,t' σ H Q->t σ H Q):PT X e t':=λpins s σ H Q I q=>h pins s σ H Q I (i _ _ _ q)
def PW.imp{X:Cx}{e:Expr}{t t':TT}(h:PW X e t)(i:∀σ H Q,t' σ H Q->t σ H Q):PW X e t':=λwh pins s σ H Q I q=>h wh pins s σ H Q I (i _ _ _ q)
def U3{E:EK}{G H:Hp}{σ:St}{δ:Dn}{f:Dn->Res f8}{k:f8->Res Bool}{Q:Bool->Hp->Prop}{R:VK}(S:SR G H σ δ)(a:AftT E G H ((f δ).bind k) Q)
 (h:∀d v G1 H1,Grow G H G1 H1->Rep G1 d v->SR G1 H1 σ δ->AftT E G1 H1 (k d) Q->R v H1):tD E f σ H R:=by
 refine⟨G,δ,S,?_⟩;cases e:f δ with
 |ok d=>
  rw[e]at a;exact λv G' H' g r=>h d v G' H' g r (S.grow g) (AftT.grow g a)
 |exc c=>rw[e]at a;exact a
 |no=>rw[e]at a;exact a
def Lb{E:EK}{G H:Hp}{σ:St}{δ:Dn}{f:Dn->Res Bool}{k:Bool->Res Bool}{Q R:Bool->Hp->Prop}(S:SR G H σ δ)(a:AftT E G H ((f δ).bind k) Q)
 (h:∀d G1 H1,Grow G H G1 H1->SR G1 H1 σ δ->AftT E G1 H1 (k d) Q->R d H1):tT E f σ H R:=by
 refine⟨G,δ,S,?_⟩;cases e:f δ with
 |ok d=>
  rw[e]at a;exact λG' H' g=>h d G' H' g (S.grow g) (AftT.grow g a)
 |exc c=>rw[e]at a;exact a
 |no=>rw[e]at a;exact a
def gQ{E:EK}{G H:Hp}{σ:St}{δ:Dn}{f:Dn->Res Bool}{k:Bool->Res f8}{Q:VK}{R:Bool->Hp->Prop}(S:SR G H σ δ)(a:Aft E G H ((f δ).bind k) Q)
 (h:∀d G1 H1,Grow G H G1 H1->SR G1 H1 σ δ->Aft E G1 H1 (k d) Q->R d H1):tT E f σ H R:=by
 refine⟨G,δ,S,?_⟩;cases e:f δ with
 |ok d=>
  rw[e]at a;exact λG' H' g=>h d G' H' g (S.grow g) (Aft.grow g a)
 |exc c=>rw[e]at a;exact a
 |no=>rw[e]at a;exact a
noncomputable def Qs:f8->Option Bool
 |.none=>some false
 |.bool b=>some b
 |.int i=>some (i != 0)
 |.str x=>some (x.length != 0)
 |.list xs=>some (!xs.isEmpty)
 |.tuple xs=>some (!xs.isEmpty)
 |.dict _=>none
def C3(f:Dn->Res f8):Dn->Res Bool:=λδ=>(f δ).bind λd=>ofO (Qs d)
theorem RepL.isEmpty{G:Hp}{ds:List f8}{xs:List V}(r:RepL G ds xs):ds.isEmpty=xs.isEmpty:=by
 have:=r.length;cases ds <;> cases xs <;> simp at this ⊢
def Rep.truV{G H:Hp}(hG:Same G H){d:f8}{v:V}(r:Rep G d v){kk:Bool}(e:Qs d=some kk):BF K v H kk:=by
 cases d with
 |none=>cases (show _=_ from r);cases e;rfl
 |bool _=>cases (show _=_ from r);cases e;rfl
 |int _=>cases (show _=_ from r);cases e;rfl
 |str x=>
  cases r.1;cases e;refine⟨r.2.2,?_⟩;lia
 |list _=>obtain⟨a,xs,rfl,h1,l1⟩:=r;cases e;exact .inl ⟨xs,.inl (Rd.mono hG h1),by rw[l1.isEmpty]⟩
 |tuple _=>obtain⟨a,xs,rfl,h1,l1⟩:=r;cases e;exact .inr (.inl ⟨xs,.inl (.inl (hG _ _ h1)),by rw[l1.isEmpty]⟩)
 |dict _=>cases e
def wK(ha:DE X E a f)(he:∀whole,isTrue a X.env whole=(do let v <-whole;standAt a.pos;holding [v] (truthy v)):=by intro _;rfl):DT X E a (C3 f):=by
 refine PT.imp (bN ha he) λσ H Q hZ3=>?_;obtain⟨G,δ,S,aft⟩:=hZ3;refine U3 S aft λd1 v1 G1 H1 g1 r1 S1 a1=>?_;cases e:Qs d1 with
 |none=>rw[e]at a1;exact a1.elim
 |some kk=>rw[e]at a1;exact⟨kk,r1.truV S1.sub e,a1 G1 H1 (Grow.refl S1.sub)⟩
def Kj{o:FA}{r:R2}{op:f8->f8->Option f8}(hr:OpR X (CH o) r)(ho:OpD r op)(hbool:∀x y d,op x y=some d->∃kk,d=.bool kk)(ha:DE X E a f)(hb:DE X E b g)(hm:behindInMarks o b=false):
 DT X E (.Compare a [o] [b] pos) (C3 (b2 f g op)):=by
 refine PT.imp (Za hr ha hb hm) λσ H Q hZ3=>?_;obtain⟨G,δ,S,aft⟩:=hZ3;have aft':AftT E G H ((f δ).bind λx=>(g δ).bind λy=>(ofO (op x y)).bind λd=>ofO (Qs d)) Q:=by
  unfold C3 b2 at aft;simp only[Res.bind_assoc]at aft;exact aft
 refine U3 S aft' λd1 v1 G1 H1 g1 r1 S1 a1=>?_;refine U3 S1 a1 λd2 v2 G2 H2 g2 r2 S2 a2=>?_;cases e:op d1 d2 with
 |none=>rw[e]at a2;exact a2.elim
 |some d=>
  rw[e]at a2;obtain⟨kk,rfl⟩:=hbool _ _ _ e;exact ho G2 H2 v1 v2 d1 d2 _ _ S2.sub (r1.mono g2.g) r2 e λv G3 H3 g3 r3=>⟨kk,r3,a2 G3 H3 g3⟩
def wD(x y d:f8)(e:dEq x y=some d):∃kk,d=.bool kk:=by unfold dEq at e;grind
def wC(x y d:f8)(e:dNe x y=some d):∃kk,d=.bool kk:=by unfold dNe at e;grind
def Fh{op:FA}(x y d:f8)(e:E6 op x y=some d):∃kk,d=.bool kk:=by
 unfold E6 at e;split at e
 .obtain⟨kk,_,rfl⟩:=FN.mp e;lia
 .cases e
def mI{op:FA}(x y d:f8)(e:Fg op x y=some d):∃kk,d=.bool kk:=by
 unfold Fg at e;grind
def Ec(C:Cxt P w K mg base X N sc k df)(ha:DE X E a f)(hb:DE X E b g):DT X E (.Compare a [.Eq] [b] pos) (C3 (b2 f g dEq)):=Kj (My C.hu) Mz wD ha hb (Ih _)
def Qu(C:Cxt P w K mg base X N sc k df)(ha:DE X E a f)(hb:DE X E b g):DT X E (.Compare a [.NotEq] [b] pos) (C3 (b2 f g dNe)):=Kj (zJ C.hu) zM wC ha hb (Ih _)
def eL(C:Cxt P w K mg base X N sc k df)(ha:DE X E a f)(hb:DE X E b g):DT X E (.Compare a [.Lt] [b] pos) (C3 (b2 f g (E6 .Lt))):=Kj (Gg (.inl rfl) C.hu) Dt Fh ha hb (Ih _)
def xW(C:Cxt P w K mg base X N sc k df)(ha:DE X E a f)(hb:DE X E b g):DT X E (.Compare a [.LtE] [b] pos) (C3 (b2 f g (E6 .LtE))):=Kj (Gg (.inr rfl) C.hu) Dt Fh ha hb (Ih _)
def t_gt(C:Cxt P w K mg base X N sc k df)(ha:DE X E a f)(hb:DE X E b g):DT X E (.Compare a [.Gt] [b] pos) (C3 (b2 f g (Fg .Gt))):=Kj (tV (.inl rfl)) pD mI ha hb (Ih _)
def jZ(C:Cxt P w K mg base X N sc k df)(ha:DE X E a f)(hb:DE X E b g)(hm:behindInMarks .In b=false:=by with_unfolding_all rfl):DT X E (.Compare a [.In] [b] pos) (C3 (b2 f g (dIn false))):=Kj (zL C.hu) pB (λ_ _ _ e=>Tu e) ha hb hm
def Yg(C:Cxt P w K mg base X N sc k df)(ha:DE X E a f)(hb:DE X E b g)(hm:behindInMarks .NotIn b=false:=by with_unfolding_all rfl):DT X E (.Compare a [.NotIn] [b] pos) (C3 (b2 f g (dIn true))):=Kj (kT C.hu) pB (λ_ _ _ e=>Tu e) ha hb hm
def wL{j:Nat}{p:Pos}(ha:DE X E a f):DT X E (.Compare a [.Is] [.Constant .none j p] pos) (λδ=>(f δ).bind λd=>.ok (Ni d)):=by
 refine PT.imp (oJ (zD ha)) λσ H Q hZ3=>?_;obtain⟨G,δ,S,aft⟩:=hZ3;exact U3 S aft λd1 v1 G1 H1 g1 r1 S1 a1=>by rw[r1.non];exact⟨_,rfl,a1 G1 H1 (Grow.refl S1.sub)⟩
variable {c1 c2:Dn->Res Bool}
def mH(c:Dn->Res Bool):Dn->Res Bool:=λδ=>(c δ).bind λb=>.ok (!b)
def O5(c c':Dn->Res Bool):Dn->Res Bool:=λδ=>(c δ).bind λb=>if b=true then c' δ else .ok false
def cOr(c c':Dn->Res Bool):Dn->Res Bool:=λδ=>(c δ).bind λb=>if b=true then .ok true else c' δ
def nB(ha:DT X E a c1):DT X E (.UnaryOp .Not a pos) (mH c1):=by
 refine PT.imp (oI ha) λσ H Q hZ3=>?_;obtain⟨G,δ,S,aft⟩:=hZ3;exact Lb S aft λd G1 H1 g1 S1 a1=>a1 G1 H1 (Grow.refl S1.sub)
def X6(ha:DT X E a c1):DW X E (.BoolOp .And [a] pos) c1:=sW ha
def w_or1(ha:DT X E a c1):DW X E (.BoolOp .Or [a] pos) c1:=oF ha
def Cg(ha:DT X E a c1)(hb:DW X E (.BoolOp .And (b::T4) pos) c2):DW X E (.BoolOp .And (a::b::T4) pos) (O5 c1 c2):=by
 refine PW.imp (yV ha hb) λσ H Q hZ3=>?_;obtain⟨G,δ,S,aft⟩:=hZ3;refine Lb S aft λd G1 H1 g1 S1 a1=>?_;cases d with
 |true=>rw[iq rfl];exact⟨G1,δ,S1,a1⟩
 |false=>rw[ir (by decide)];exact a1 G1 H1 (Grow.refl S1.sub)
def w_or(ha:DT X E a c1)(hb:DW X E (.BoolOp .Or (b::T4) pos) c2):DW X E (.BoolOp .Or (a::b::T4) pos) (cOr c1 c2):=by
 refine PW.imp (wT ha hb) λσ H Q hZ3=>?_;obtain⟨G,δ,S,aft⟩:=hZ3;refine Lb S aft λd G1 H1 g1 S1 a1=>?_;cases d with
 |true=>rw[iq rfl];exact a1 G1 H1 (Grow.refl S1.sub)
 |false=>rw[ir (by decide)];exact⟨G1,δ,S1,a1⟩
def w_t(h:DW X E a c1):DT X E a c1:=h.pt
def vIf(c:Dn->Res Bool)(f g:Dn->Res f8):Dn->Res f8:=λδ=>(c δ).bind λb=>if b=true then f δ else g δ
def Qm(hc:DT X E c c1)(ha:DE X E a f)(hb:DE X E b g):DE X E (.IfExp c a b pos) (vIf c1 f g):=by
 refine PE.imp (oS hc ha hb) λσ H Q hZ3=>?_;obtain⟨G,δ,S,aft⟩:=hZ3;refine gQ S aft λd G1 H1 g1 S1 a1=>?_;cases d with
 |true=>rw[iq rfl];exact⟨G1,δ,S1,a1⟩
 |false=>rw[ir (by decide)];exact⟨G1,δ,S1,a1⟩
end
section
variable {w:x8}{K:i5}{X:Cx}{k:Nat}{E:EK}{pos:Pos}{a b c e:Expr}{es:List Expr}{f g:Dn->Res f8}{fs:Dn->Res (List f8)}
def AftL(E:EK)(G H:Hp)(r:Res (List f8))(Q:List V->Hp->Prop):Prop:=match r with
 |.ok ds=>∀vs G' H',Grow G H G' H'->RepL G' ds vs->Q vs H'
 |.exc c=>∀G' H',Grow G H G' H'->E c H'
 |.no=>False
def tA(E:EK)(fs:Dn->Res (List f8)):TA:=λσ H Q=>∃G δ,SR G H σ δ/\AftL E G H (fs δ) Q
structure DA(X:Cx)(E:EK)(es:List Expr)(n:Nat)(fs:Dn->Res (List f8)):Prop where
 pa:PA X es (tA E fs)
 len:∀δ ds,fs δ=.ok ds->ds.length=n
def PA.imp{X:Cx}{es:List Expr}{t t':TA}(h:PA X es t)(i:∀σ H Q,t' σ H Q->t σ H Q):PA X es t':=λp pins s σ H Q I q=>h p pins s σ H Q I (i _ _ _ q)
def AftL.grow{E:EK}{G H G' H':Hp}{r:Res (List f8)}{Q:List V->Hp->Prop}(g:Grow G H G' H')(a:AftL E G H r Q):AftL E G' H' r Q:=by
 cases r with
 |ok d=>exact λv G2 H2 g2 q=>a v G2 H2 (g.trans g2) q
 |exc c=>exact λG2 H2 g2=>a G2 H2 (g.trans g2)
 |no=>exact a
def Mi{α:Type}{E:EK}{G H:Hp}{σ:St}{δ:Dn}{f:Dn->Res f8}{k:f8->Res α}{R:VK}{W:Hp->Hp->Res α->Prop}(S:SR G H σ δ)(a:W G H ((f δ).bind k))(hg:∀{G H G' H':Hp} {r:Res α},Grow G H G' H'->W G H r->W G' H' r)
 (hx:∀c,W G H (.exc c)->∀G' H',Grow G H G' H'->E c H') (hn:W G H .no->False)
 (h:∀d v G1 H1,Grow G H G1 H1->Rep G1 d v->SR G1 H1 σ δ->W G1 H1 (k d)->R v H1):tD E f σ H R:=by
 refine⟨G,δ,S,?_⟩;cases e:f δ with
 |ok d=>rw[e]at a;exact λv G' H' g r=>h d v G' H' g r (S.grow g) (hg g a)
 |exc c=>rw[e]at a;exact hx c a
 |no=>rw[e]at a;exact hn a
def W7{α:Type}{E:EK}{G H:Hp}{σ:St}{δ:Dn}{fs:Dn->Res (List f8)}{k:List f8->Res α}{R:List V->Hp->Prop}{W:Hp->Hp->Res α->Prop}(S:SR G H σ δ)(a:W G H ((fs δ).bind k))(hg:∀{G H G' H':Hp} {r:Res α},Grow G H G' H'->W G H r->W G' H' r)
 (hx:∀c,W G H (.exc c)->∀G' H',Grow G H G' H'->E c H') (hn:W G H .no->False)
 (h:∀ds vs G1 H1,fs δ=.ok ds->Grow G H G1 H1->RepL G1 ds vs->SR G1 H1 σ δ->W G1 H1 (k ds)->R vs H1):tA E fs σ H R:=by
 refine⟨G,δ,S,?_⟩;cases e:fs δ with
 |ok d=>rw[e]at a;exact λv G' H' g r=>h d v G' H' e g r (S.grow g) (hg g a)
 |exc c=>rw[e]at a;exact hx c a
 |no=>rw[e]at a;exact hn a
def A7:Dn->Res (List f8):=λ_=>.ok []
def A2(f:Dn->Res f8)(fs:Dn->Res (List f8)):Dn->Res (List f8):=λδ=>(f δ).bind λd=>(fs δ).bind λds=>.ok (d::ds)
def A9:DA X E [] 0 A7:=⟨PA.imp N0 λσ H Q hZ3=>by obtain⟨G,δ,S,a⟩:=hZ3;exact a [] G H (Grow.refl S.sub) rfl,λδ ds e=>by cases e;rfl⟩
noncomputable def Zh:Expr->Bool
 |.Starred ..=>false
 |_=>true
def kC{a:Expr}{es:List Expr}{env:Env}(h:Zh a=true):i8 (a::es) env=(false,eval a env)::i8 es env:=by
 cases a <;> first |rfl |cases h
def A4{n:Nat}(ha:DE X E a f)(hr:DA X E es n fs)(hs:Zh a=true:=by rfl):DA X E (a::es) (n+1) (A2 f fs):=by
 refine⟨PA.imp (E8 ha hr.pa (kC hs)) λσ H Q ⟨G,δ,S,aft⟩=>?_,λδ ds e=>?_⟩
 .refine Mi (W:=λG H r=>AftL E G H r Q) S aft (λg a=>AftL.grow g a) (λc a=>a) (λa=>a) λd v G1 H1 g1 r1 S1 a1=>?_
  refine W7 (W:=λG H r=>AftL E G H r Q) S1 a1 (λg a=>AftL.grow g a) (λc a=>a) (λa=>a) λds vs G2 H2 e g2 r2 S2 a2=>?_;exact a2 _ G2 H2 (Grow.refl S2.sub) (RepL.cons (r1.mono g2.g) r2)
 .unfold A2 at e
  cases h1:f δ with
  |ok d=>
   rw[h1]at e;cases h2:fs δ with
   |ok ds'=>
    simp only[Res.bind,h2]at e;cases e;rw[l7,hr.len δ ds' h2]
   |exc c=>simp only[Res.bind,h2]at e;cases e
   |no=>simp only[Res.bind,h2]at e;cases e
  |exc c=>rw[h1]at e;cases e
  |no=>rw[h1]at e;cases e
def E5(fs:Dn->Res (List f8)):Dn->Res f8:=λδ=>(fs δ).bind λds=>.ok (.tuple ds)
def K8(fs:Dn->Res (List f8)):Dn->Res f8:=λδ=>(fs δ).bind λds=>.ok (.list ds)
def K2{n x1:Nat}(h:DA X E es n fs)(hn:n<=sizeLine:=by decide):DE X E (.Tuple es x1 pos) (E5 fs):=by
 refine PE.imp (fG h.pa) λσ H Q hZ3=>?_;obtain⟨G,δ,S,aft⟩:=hZ3;refine W7 (W:=λG H r=>Aft E G H r Q) S aft (λg a=>Aft.grow g a) (λc a=>a) (λa=>a) λds vs G1 H1 e g1 r1 S1 a1=>?_;refine⟨by rw[<-r1.length,h.len δ ds e];exact hn,λp hp=>?_⟩;exact a1 _ (upd G1 p (.tup vs)) _ (Grow.new S1.sub hp) ⟨p,vs,rfl,C8,r1.mono (Same.upd (S1.sub.free hp))⟩
def rV(E:EK)(G H:Hp)(r:Res (List f8))(Q:VK):Prop:=match r with
 |.ok ds=>∀p xs G' H',Grow G H G' H'->H p=none->G' p=none->H' p=some (.lst xs)->RepL G' ds xs->Q (.ref p) H'
 |.exc c=>∀G' H',Grow G H G' H'->E c H'
 |.no=>False
def tF(E:EK)(f:Dn->Res (List f8)):TE:=λσ H Q=>∃G δ,SR G H σ δ/\rV E G H (f δ) Q
abbrev DF(X:Cx)(E:EK)(e:Expr)(f:Dn->Res (List f8)):Prop:=PE X e (tF E f)
def Grow.share{G H G' H':Hp}{p:i9}{o:HO}(g:Grow G H G' H')(hp:H p=none)(hg:G' p=none)(hH:H' p=some o):Grow G H (upd G' p o) H':=
 ⟨g.g.trans (Same.upd hg),g.h,λb u e=>by
  by_cases hb:b=p
  .subst hb;rw[C8]at e;lia
  .rw[B7 hb]at e;exact g.gh _ _ e,λb u e=>by
  by_cases hb:b=p
  .lia
  .rw[B7 hb]at e;exact g.fr _ _ e⟩
def M4(h:DF X E e fs):DE X E e (K8 fs):=by
 refine PE.imp h λσ H Q hY35=>?_;obtain⟨G,δ,S,aft⟩:=hY35;refine⟨G,δ,S,?_⟩;unfold K8 at aft;cases e:fs δ with
 |ok ds=>
  rw[e]at aft;exact λp xs G' H' g hp hg hH r=>aft _ _ H' (g.share hp hg hH) ⟨p,xs,rfl,.inl C8,r.mono (Same.upd hg)⟩
 |exc c=>rw[e]at aft;exact aft
 |no=>rw[e]at aft;exact aft
def P5{n:Nat}(h:DA X E es n fs)(hn:n<=sizeLine:=by decide):DF X E (.List es pos) fs:=by
 refine PE.imp (Sv h.pa) λσ H Q hY36=>?_;obtain⟨G,δ,S,aft⟩:=hY36;refine⟨G,δ,S,?_⟩;cases e:fs δ with
 |ok ds=>
  rw[e]at aft;refine λvs G1 H1 g1 r1=>⟨by rw[<-r1.length,h.len δ ds e];exact hn,λp hp=>?_⟩;exact aft p vs G1 _ (g1.trans (Grow.own g1.gh hp)) (g1.h.free hp) (g1.gh.free hp) C8 r1
 |exc c=>rw[e]at aft;exact aft
 |no=>rw[e]at aft;exact aft
def dIx:f8->f8->Option f8
 |.list ds,.int i=>atI ds i
 |.tuple ds,.int i=>atI ds i
 |.str x,.int i=>(atI x.cps.toList i).map λc=>.str ⟨#[c]⟩
 |_,_=>none
def jO{G:Hp}{ds:List f8}{xs:List V}{i:Int}{d:f8}(r:RepL G ds xs)(e:atI ds i=some d):∃x,atI xs i=some x/\Rep G d x:=by
 unfold atI at e ⊢;rw[<-r.length];cases q:ixN ds.length i with
 |none=>simp_all
 |some j=>rw[q]at e;exact r.get e
def zN:OpD (rIx K) dIx:=by
 intro G H x y a b d Q hG ra rb e q;cases b with
 |int i=>
  cases (show _=_ from rb);cases a with
  |list ds=>
   obtain⟨p,xs,rfl,h1,l1⟩:=ra;obtain⟨v,e1,r1⟩:=jO l1 e;exact .inl ⟨p,xs,i,v,rfl,rfl,.inl (Rd.mono hG h1),e1,q _ G H (Grow.refl hG) r1⟩
  |tuple ds=>
   obtain⟨p,xs,rfl,h1,l1⟩:=ra;obtain⟨v,e1,r1⟩:=jO l1 e;exact .inr (.inl ⟨p,xs,i,v,rfl,rfl,.inl (.inl (hG _ _ h1)),e1,q _ G H (Grow.refl hG) r1⟩)
  |str z=>
   obtain⟨e0,o1,l1⟩:=ra;subst e0;obtain⟨cc,e1,rfl⟩:=FN.mp e;refine .inr (.inr ⟨z,i,cc,rfl,rfl,l1,e1,q _ G H (Grow.refl hG) ⟨rfl,?_,?_⟩⟩)
   .obtain⟨j,_,h2,_⟩:=Qo e1
    have hm:cc∈z.cps.toList:=GH h2;unfold z0 at *;rw[<-Array.all_toList,EZ]at o1;have:=o1 cc hm;simpa using this
   .show 1<=sizeLine;decide
  |_=>cases e
 |_=>cases a <;> cases e
def D7(ha:DE X E a f)(hb:DE X E b g)(hs:jR b:=by exact λ_ _=>rfl):DE X E (.Subscript a b pos) (b2 f g dIx):=
 PE.imp (wX AG ha hb hs) λ_ _ _ h=>nC zN h
def Dk(xs:List f8)(lo hi:Option Int):List f8:=(xs.drop (HT.sIx xs.length 0 lo)).take (HT.sIx xs.length xs.length hi-HT.sIx xs.length 0 lo)
def mD(d:f8)(lo hi:Option Int):Option f8:=match d with
 |.list ds=>some (.list (Dk ds lo hi))
 |.tuple ds=>some (.tuple (Dk ds lo hi))
 |_=>none
def jD{G:Hp}{ds:List f8}{xs:List V}(r:RepL G ds xs)(lo hi:Option Int):RepL G (Dk ds lo hi) (mE xs lo hi):=by
 unfold Dk mE;rw[r.length];exact(r.drop _).take _
def rSlD:V->Option Int->Option Int->Hp->VK->Prop:=λx lo hi H Q=>∃G a d,Same G H/\Rep G a x/\mD a lo hi=some d/\∀v G' H',Grow G H G' H'->Rep G' d v->Q v H'
def Jn{prog:o9}{w:x8}{A:BO}{E:g9->i6->Prop}{s:i6}{t sl:i9}{items:Array g9}{vl vu:g9}{lo hi:Option Int}{Q:g9->i6->Prop}(ht:LP s.heap t items)(hs:s.heap.IsSliceOf sl vl vu .none)(pl:LX vl lo)(pu:LX vu hi)
 (hw:HT.sIx items.size 0 lo=0/\HT.sIx items.size items.size hi=items.size) (h:Q (.ref t) s):wpAny (u7 prog w) A (JB (.ref t) (.ref sl)) Q E s:=by
 obtain⟨os,hos,hcs,hds⟩:=id hs;have hTs:s.TypeIs (.ref sl) "slice":=⟨os,hos,hcs⟩;unfold JB;try with_reducible refine CJ ?_
 first |refine f9 (i0 ?_) |skip
 refine f9 (IZ ht.typeIs (by decide) ?_);refine f9 (DH (name:=FE "__getitem__") ht.typeIs BZ
  (DR BZ ht.typeIs MR ?_ (NF _ _)))
 show wpAny _ _ (GV (.ref t)>>=_) _ _ s;refine f9 (tupleItemsOf_ ht ?_);refine f9 (JY hTs ?_);rw[iq (by decide)];refine f9 (HT.sliceApplied_gen hs pl pu ?_);show wpAny _ _ (if (((HT.sIx items.size 0 lo:Nat):Int)==0&&(1:Int)==1&&(HT.sIx items.size items.size hi-HT.sIx items.size 0 lo)==items.size)=true then _ else _) _ _ s;rw[iq (by rw[hw.1,hw.2];simp)];unfold Builtin.Tuple.tupleIsExact;refine f9 (f9 (JY ht.typeIs (i0 ?_)));rw[iq (by decide)];first
  |exact f9 (EI (i0 ⟨_,rfl,i0 h⟩))
  |exact f9 (EI (f9 (i0 (i0 ⟨_,rfl,i0 h⟩))))
def sl_D:SlR X rSlD:=by
 rintro pins s σ H x v vl vu lo hi sl Q I rx hs pl pu ⟨G,a,d,hG,ra,e,q⟩;cases a with
 |list ds=>
  cases e;obtain⟨p,xs,rfl,h1,l1⟩:=ra;cases rx;obtain⟨z,its,n,r,e1⟩:=X3 I hG h1;have hlen:=r.length;have hl:s.heap.IsList p its.toArray:=⟨_,e1,rfl,n,rfl⟩;refine⟨"list",_,KR.lookup,hl.typeIs,?_⟩;refine KY hl hs pl pu .none (by simp) ?_ (by rw[m8] <;> lia)
  rw[Jz,<-hlen];exact Qj (t':=s.toks) I hG ((r.drop (HT.sIx xs.length 0 lo)).take (HT.sIx xs.length xs.length hi-HT.sIx xs.length 0 lo)) (jD l1 lo hi) (l9 (Ip xs lo hi) z) q
 |tuple ds=>
  cases e;obtain⟨p,xs,rfl,h1,l1⟩:=ra;cases rx;obtain⟨z,its,r,ht⟩:=Kn I hG h1;have hlen:its.toArray.size=xs.length:=by rw[m8];exact r.length.symm
  refine⟨"tuple",_,BZ.lookup,ht.typeIs,?_⟩;by_cases hw:HT.sIx xs.length 0 lo=0/\HT.sIx xs.length xs.length hi=xs.length
  .refine Jn ht hs pl pu (by rw[hlen];exact hw) ⟨.ref p,H,I,rfl,q _ G H (Grow.refl hG) ⟨p,xs,rfl,h1,?_⟩⟩
   have:Dk ds lo hi=ds:=by
    unfold Dk;rw[l1.length,hw.1,hw.2,IN,Nat.sub_zero,<-l1.length,List.take_length]
   rw[this];exact l1
  .refine HT.getItem_tuple_cut ht hs pl pu (by rw[hlen];exact hw) ?_ (by rw[hlen];exact z)
   rw[hlen];exact Zu (t':=s.toks) I hG ((r.drop (HT.sIx xs.length 0 lo)).take (HT.sIx xs.length xs.length hi-HT.sIx xs.length 0 lo)) (jD l1 lo hi) (l9 (Ip xs lo hi) z) q
 |_=>cases e
def AftO(E:EK)(G H:Hp)(r:Res (Option Int))(Q:Option Int->Hp->Prop):Prop:=match r with
 |.ok ds=>∀G' H',Grow G H G' H'->Q ds H'
 |.exc c=>∀G' H',Grow G H G' H'->E c H'
 |.no=>False
def tO(E:EK)(f:Dn->Res (Option Int)):TO:=λσ H Q=>∃G δ,SR G H σ δ/\AftO E G H (f δ) Q
abbrev DO(X:Cx)(E:EK)(e:Option Expr)(f:Dn->Res (Option Int)):Prop:=PO X e (tO E f)
def PO.imp{X:Cx}{e:Option Expr}{t t':TO}(h:PO X e t)(i:∀σ H Q,t' σ H Q->t σ H Q):PO X e t':=λpins s σ H Q I q=>h pins s σ H Q I (i _ _ _ q)
def Du:Dn->Res (Option Int):=λ_=>.ok none
def M7(f:Dn->Res f8):Dn->Res (Option Int):=λδ=>(f δ).bind λd=>match d with
 |.int i=>.ok (some i)
 |_=>.no
def AftO.grow{E:EK}{G H G' H':Hp}{r:Res (Option Int)}{Q:Option Int->Hp->Prop}(g:Grow G H G' H')(a:AftO E G H r Q):AftO E G' H' r Q:=by
 cases r with
 |ok d=>exact λG2 H2 g2=>a G2 H2 (g.trans g2)
 |exc c=>exact λG2 H2 g2=>a G2 H2 (g.trans g2)
 |no=>exact a
def Nb:DO X E none Du:=PO.imp tK λσ H Q hZ3=>by obtain⟨G,δ,S,a⟩:=hZ3;exact a G H (Grow.refl S.sub)
def Z0(h:DE X E e f):DO X E (some e) (M7 f):=by
 refine PO.imp (tJ h) λσ H Q hZ3=>?_;obtain⟨G,δ,S,aft⟩:=hZ3;refine Mi (W:=λG H r=>AftO E G H r Q) S aft (λg a=>AftO.grow g a) (λc a=>a) (λa=>a) λd v G1 H1 g1 r1 S1 a1=>?_;cases d with
 |int i=>exact⟨i,r1,a1 G1 H1 (Grow.refl S1.sub)⟩
 |_=>exact(show False from a1).elim
def Mj{α:Type}{E:EK}{G H:Hp}{σ:St}{δ:Dn}{fs:Dn->Res (Option Int)}{k:Option Int->Res α}{R:Option Int->Hp->Prop}{W:Hp->Hp->Res α->Prop}(S:SR G H σ δ)(a:W G H ((fs δ).bind k))(hg:∀{G H G' H':Hp} {r:Res α},Grow G H G' H'->W G H r->W G' H' r)
 (hx:∀c,W G H (.exc c)->∀G' H',Grow G H G' H'->E c H') (hn:W G H .no->False)
 (h:∀ds G1 H1,Grow G H G1 H1->SR G1 H1 σ δ->W G1 H1 (k ds)->R ds H1):tO E fs σ H R:=by
 refine⟨G,δ,S,?_⟩;cases e:fs δ with
 |ok d=>rw[e]at a;exact λG' H' g=>h d G' H' g (S.grow g) (hg g a)
 |exc c=>rw[e]at a;exact hx c a
 |no=>rw[e]at a;exact hn a
def vSl(f:Dn->Res f8)(lo hi:Dn->Res (Option Int)):Dn->Res f8:=λδ=>(f δ).bind λx=>(lo δ).bind λl=>(hi δ).bind λu=>ofO (mD x l u)
variable {lo hi:Option Expr}{fl fh:Dn->Res (Option Int)}{p2:Pos}
def Jj(he:DE X E e f)(hl:DO X E lo fl)(hu:DO X E hi fh):DE X E (.Subscript e (.Slice lo hi none p2) pos) (vSl f fl fh):=by
 refine PE.imp (bS sl_D he hl hu) λσ H Q hZ3=>?_;obtain⟨G,δ,S,aft⟩:=hZ3;refine K0 S aft λd v G1 H1 g1 r1 S1 a1=>?_;refine Mj (W:=λG H r=>Aft E G H r Q) S1 a1 (λg a=>Aft.grow g a) (λc a=>a) (λa=>a) λl G2 H2 g2 S2 a2=>?_;refine Mj (W:=λG H r=>Aft E G H r Q) S2 a2 (λg a=>Aft.grow g a) (λc a=>a) (λa=>a) λu G3 H3 g3 S3 a3=>?_;cases e:mD d l u with
 |none=>rw[e]at a3;exact a3.elim
 |some z=>rw[e]at a3;exact⟨G3,d,z,S3.sub,r1.mono (g2.g.trans g3.g),e,a3⟩
end
section
variable {P:o9}{w:x8}{K:i5}{mg:Str->Option g9}{base:BL}{X:Cx}{N:List Str}{sc:Scope}{k:Nat}{df:Bool}{E:EK}{pos p:Pos}{a b c e:Expr}{es:List Expr}{f g:Dn->Res f8}{fs:Dn->Res (List f8)}
def rCD(op:List f8->Option f8):List V->Hp->VK->Prop:=λvs H Q=>∃G ds d,Same G H/\RepL G ds vs/\op ds=some d/\∀v G' H',Grow G H G' H'->Rep G' d v->Q v H'
def vFn(fs:Dn->Res (List f8))(op:List f8->Option f8):Dn->Res f8:=λδ=>(fs δ).bind λds=>ofO (op ds)
def wO{op:List f8->Option f8}{σ:St}{H:Hp}{Q:VK}(h:tD E (vFn fs op) σ H Q):tCB (rCD op) (tA E fs) σ H Q:=by
 obtain⟨G,δ,S,aft⟩:=h;refine W7 (W:=λG H r=>Aft E G H r Q) S aft (λg a=>Aft.grow g a) (λc a=>a) (λa=>a) λds vs G1 H1 e g1 r1 S1 a1=>?_;cases e:op ds with
 |none=>rw[e]at a1;exact a1.elim
 |some d=>rw[e]at a1;exact⟨G1,ds,d,S1.sub,r1,e,a1⟩
def dG{x:Str}{id:String}{n:Nat}{op:List f8->Option f8}(C:Cxt P w K mg base X N sc k df)(hc:Bb X (.builtin id) (rCD op))(h:okGl sc x=true)(hm:mg x=none)(hv:GN x=some (.builtin id))(ha:DA X E (e::es) n fs)
 (he:i8 (e::es) X.env=(false,eval e X.env)::i8 es X.env:=by rfl) (hpl:(CD pos (i8 es X.env)).any (·.1)=false:=by rfl):DE X E (.Call (.Name x p) (e::es) [] pos) (vFn fs op):=by
 obtain⟨h1,h2,h3⟩:=okGl.gl C h;exact PE.imp (Lw hc h1 (by rw[C.hmg];exact hm) hv ha.pa h3 h2 he hpl) λ_ _ _ q=>wO q
def Ts{x:Str}{T:String}{n:Nat}{op:List f8->Option f8}(C:Cxt P w K mg base X N sc k df)(hc:Bb X (.type T) (rCD op))(h:okGl sc x=true)(hm:mg x=none)(hv:GN x=some (.type T))(ha:DA X E (e::es) n fs)
 (he:i8 (e::es) X.env=(false,eval e X.env)::i8 es X.env:=by rfl) (hpl:(CD pos (i8 es X.env)).any (·.1)=false:=by rfl):DE X E (.Call (.Name x p) (e::es) [] pos) (vFn fs op):=by
 obtain⟨h1,h2,h3⟩:=okGl.gl C h;exact PE.imp (Wx hc h1 (by rw[C.hmg];exact hm) hv ha.pa h3 h2 he hpl) λ_ _ _ q=>wO q
def Pi{G:Hp}{d:f8}{vs:List V}(r:RepL G [d] vs):∃v,vs=[v]/\Rep G d v:=by
 obtain⟨x,t,rfl,h,l⟩:=r;cases (show _=_ from l);lia
def oC{G:Hp}{d d':f8}{vs:List V}(r:RepL G [d,d'] vs):∃v v',vs=[v,v']/\Rep G d v/\Rep G d' v':=by
 obtain⟨x,t,rfl,h,l⟩:=r;obtain⟨y,rfl,h'⟩:=Pi l;lia
noncomputable def Q3:List f8->Option f8
 |[.list ds]=>some (.int ds.length)
 |[.tuple ds]=>some (.int ds.length)
 |[.str x]=>some (.int x.length)
 |_=>none
def gI:Bb X (.builtin "len") (rCD Q3):=by
 rintro pins s σ H xs us Q I r ⟨G,ds,d,hG,rl,e,q⟩;unfold Q3 at e;split at e
 .rename_i ys
  cases e;obtain⟨v,rfl,a,vs,rfl,h1,l1⟩:=Pi rl;exact Ty pins s σ H _ us Q I r ⟨_,ys.length,rfl,.inl ⟨vs,.inl (Rd.mono hG h1),l1.length⟩,q _ G H (Grow.refl hG) rfl⟩
 .rename_i ys
  cases e;obtain⟨v,rfl,a,vs,rfl,h1,l1⟩:=Pi rl;exact Ty pins s σ H _ us Q I r ⟨_,ys.length,rfl,.inr ⟨vs,.inl (.inl (hG _ _ h1)),l1.length⟩,q _ G H (Grow.refl hG) rfl⟩
 .rename_i x
  cases e;obtain⟨v,rfl,r1⟩:=Pi rl;cases r1.1;exact Ty pins s σ H _ us Q I r ⟨_,x.length,rfl,⟨r1.2.2,rfl⟩,q _ G H (Grow.refl hG) rfl⟩
 .cases e
def Y2{n:Nat}(C:Cxt P w K mg base X N sc k df)(h:okGl sc "len"=true)(hm:mg "len"=none)(ha:DA X E (e::es) n fs)
 (he:i8 (e::es) X.env=(false,eval e X.env)::i8 es X.env:=by rfl) (hpl:(CD pos (i8 es X.env)).any (·.1)=false:=by rfl):DE X E (.Call (.Name "len" p) (e::es) [] pos) (vFn fs Q3):=
 dG C gI h hm PySem.boot_len ha he hpl
noncomputable def jK:List f8->Option (List Bool)
 |[]=>some []
 |.bool b::ds=>(jK ds).map (b::·)
 |_::_=>none
def dAll:List f8->Option f8
 |[.list ds]=>(jK ds).map λbs=>.bool (bs.all id)
 |_=>none
noncomputable def Nm:List f8->Option f8
 |[.list ds]=>some (.list ds)
 |[.tuple ds]=>some (.list ds)
 |_=>none
noncomputable def Kh:List f8->Option f8
 |[.list ds]=>some (.tuple ds)
 |[.tuple ds]=>some (.tuple ds)
 |_=>none
noncomputable def dI:List f8->Option f8
 |[.int i,.int j]=>some (.int (if i<j then j else i))
 |_=>none
noncomputable def Az:List f8->Option f8
 |[.int i]=>some (.int i)
 |[.bool b]=>some (.int (if b then 1 else 0))
 |_=>none
def dQ:Bb X (.type "list") (rCD Nm):=by
 rintro pins s σ H xs us Q I r ⟨G,ds,d,hG,rl,e,q⟩;unfold Nm at e;split at e
 .rename_i ys
  cases e;obtain⟨v,rfl,a,vs,rfl,h1,l1⟩:=Pi rl;exact Mg pins s σ H _ us Q I r ⟨a,vs,rfl,.inl (.inl (Rd.mono hG h1)),λl hl=>q _ (upd G l (.lst vs)) _ (Grow.new hG hl) ⟨l,vs,rfl,.inl C8,l1.mono (Same.upd (hG.free hl))⟩⟩
 .rename_i ys
  cases e;obtain⟨v,rfl,a,vs,rfl,h1,l1⟩:=Pi rl;exact Mg pins s σ H _ us Q I r ⟨a,vs,rfl,.inr (.inl (.inl (hG _ _ h1))),λl hl=>q _ (upd G l (.lst vs)) _ (Grow.new hG hl) ⟨l,vs,rfl,.inl C8,l1.mono (Same.upd (hG.free hl))⟩⟩
 .cases e
def gF:Bb X (.type "tuple") (rCD Kh):=by
 rintro pins s σ H xs us Q I r ⟨G,ds,d,hG,rl,e,q⟩;unfold Kh at e;split at e
 .rename_i ys
  cases e;obtain⟨v,rfl,a,vs,rfl,h1,l1⟩:=Pi rl;exact Ki pins s σ H _ us Q I r ⟨a,vs,rfl,.inl ⟨.inl (Rd.mono hG h1),λl hl=>q _ (upd G l (.tup vs)) _ (Grow.new hG hl) ⟨l,vs,rfl,C8,l1.mono (Same.upd (hG.free hl))⟩⟩⟩
 .rename_i ys
  cases e;obtain⟨v,rfl,a,vs,rfl,h1,l1⟩:=Pi rl;exact Ki pins s σ H _ us Q I r ⟨a,vs,rfl,.inr ⟨.inl (.inl (hG _ _ h1)),q _ G H (Grow.refl hG) ⟨a,vs,rfl,h1,l1⟩⟩⟩
 .cases e
def gH(hc:X.calm=true):Bb X (.builtin "max") (rCD dI):=by
 rintro pins s σ H xs us Q I r ⟨G,ds,d,hG,rl,e,q⟩;unfold dI at e;split at e
 .rename_i i j
  cases e;obtain⟨v,v',rfl,e1,e2⟩:=oC rl;cases (show _=_ from e1);cases (show _=_ from e2);refine mG hc pins s σ H _ us Q I r ⟨i,j,rfl,?_⟩;have:=q (.int (if i<j then j else i)) G H (Grow.refl hG) rfl;lia
 .cases e
def gJ:Bb X (.type "int") (rCD Az):=by
 rintro pins s σ H xs us Q I r ⟨G,ds,d,hG,rl,e,q⟩;unfold Az at e;split at e
 .rename_i i
  cases e;obtain⟨v,rfl,e1⟩:=Pi rl;cases (show _=_ from e1);exact Xo pins s σ H _ us Q I r (.inl ⟨i,rfl,q _ G H (Grow.refl hG) rfl⟩)
 .rename_i b
  cases e;obtain⟨v,rfl,e1⟩:=Pi rl;cases (show _=_ from e1);refine Xo pins s σ H _ us Q I r (.inr ⟨b,rfl,?_⟩);have:=q (.int (if b then 1 else 0)) G H (Grow.refl hG) rfl;lia
 .cases e
def vR{n:Nat}(C:Cxt P w K mg base X N sc k df)(h:okGl sc "list"=true)(hm:mg "list"=none)(ha:DA X E (e::es) n fs)
 (he:i8 (e::es) X.env=(false,eval e X.env)::i8 es X.env:=by rfl) (hpl:(CD pos (i8 es X.env)).any (·.1)=false:=by rfl):DE X E (.Call (.Name "list" p) (e::es) [] pos) (vFn fs Nm):=
 Ts C dQ h hm (by rfl) ha he hpl
def rB{n:Nat}(C:Cxt P w K mg base X N sc k df)(h:okGl sc "tuple"=true)(hm:mg "tuple"=none)(ha:DA X E (e::es) n fs)
 (he:i8 (e::es) X.env=(false,eval e X.env)::i8 es X.env:=by rfl) (hpl:(CD pos (i8 es X.env)).any (·.1)=false:=by rfl):DE X E (.Call (.Name "tuple" p) (e::es) [] pos) (vFn fs Kh):=
 Ts C gF h hm (by rfl) ha he hpl
def xK{n:Nat}(C:Cxt P w K mg base X N sc k df)(h:okGl sc "max"=true)(hm:mg "max"=none)(ha:DA X E (e::es) n fs)
 (he:i8 (e::es) X.env=(false,eval e X.env)::i8 es X.env:=by rfl) (hpl:(CD pos (i8 es X.env)).any (·.1)=false:=by rfl):DE X E (.Call (.Name "max" p) (e::es) [] pos) (vFn fs dI):=
 dG C (gH C.calm) h hm (by decide+kernel) ha he hpl
def Nl{n:Nat}(C:Cxt P w K mg base X N sc k df)(h:okGl sc "int"=true)(hm:mg "int"=none)(ha:DA X E (e::es) n fs)
 (he:i8 (e::es) X.env=(false,eval e X.env)::i8 es X.env:=by rfl) (hpl:(CD pos (i8 es X.env)).any (·.1)=false:=by rfl):DE X E (.Call (.Name "int" p) (e::es) [] pos) (vFn fs Az):=
 Ts C gJ h hm (by rfl) ha he hpl
noncomputable def Ei:List f8->Option (List Str)
 |[]=>some []
 |.str b::ds=>(Ei ds).map (b::·)
 |_::_=>none
def Tt(x:Str):f8->Option f8
 |.list ds=>(Ei ds).bind λys=>if (ys.map (·.length)).sum+ys.length*x.length<=16777216/\z0 (EH x ys)=true/\(EH x ys).length<=sizeLine then some (.str (EH x ys)) else none
 |_=>none
theorem aS{G:Hp}:∀{ds:List f8} {xs:List V} {us:List g9} {ys:List Str},RepL G ds xs->Vals xs us->Ei ds=some ys->OL us ys
 |[],_,_,_,r,q,e=>by cases (show _=_ from r);cases q;cases e;exact .nil
 |.str b::ds,_,_,_,r,q,e=>by
  obtain⟨x,t,rfl,h,l⟩:=r;cases h.1;cases q with
  |cons q qs=>
   obtain⟨tk,rfl⟩:=q;obtain⟨bs,e1,rfl⟩:=FN.mp e;exact .cons _ _ (aS l qs e1)
 |.none::_,_,_,_,_,_,e=>by cases e
 |.int _::_,_,_,_,_,_,e=>by cases e
 |.bool _::_,_,_,_,_,_,e=>by cases e
 |.list _::_,_,_,_,_,_,e=>by cases e
 |.tuple _::_,_,_,_,_,_,e=>by cases e
 |.dict _::_,_,_,_,_,_,e=>by cases e
def uG:MtR X "str.join" (λx vs H Q=>∃G z v d r,Same G H/\x=.str z/\vs=[v]/\Rep G d v/\Tt z d=some (.str r)/\Q (.str r) H):=by
 rintro pins s σ H x vs v us Q I rx rv ⟨G,z,y,d,r,hG,e1,e2,rd,e,q⟩;subst e1 e2;obtain⟨t,rfl⟩:=rx;obtain⟨u,rfl,ru⟩:=rv.one;cases d with
 |list ds=>
  obtain⟨ys,e3,e4⟩:=NZ.mp e;split at e4
  .rename_i hc
   cases e4;obtain⟨l,xs,rfl,h1,l1⟩:=rd;cases ru;obtain⟨zz,its,n,rv2,e5⟩:=X3 I hG h1;refine join_list ⟨_,e5,rfl,n,rfl⟩ (by simpa using aS l1 rv2 e3) hc.1 λt' k=>⟨.str _,H,I.tok _,⟨t',?_⟩,q⟩;rw[GY (join_plain_closes z ys)]
  .cases e4
 |_=>cases e
def Gs(x:Str)(f:Dn->Res f8):Dn->Res f8:=λδ=>(f δ).bind λd=>ofO (Tt x d)
def mC{z:Str}{d d':f8}(e:Tt z d=some d'):∃r,d'=.str r/\z0 r=true/\r.length<=sizeLine:=by
 cases d with
 |list ds=>
  obtain⟨ys,e3,e4⟩:=NZ.mp e
  grind
 |_=>cases e
def Tq{z:Str}{j:Nat}{p1 apos cpos:Pos}(ha:DE X E a f)(hbase:FK (.Constant (.str z) j p1) "join" X.env (eval (.Constant (.str z) j p1) X.env)=eval (.Constant (.str z) j p1) X.env:=by rfl)
 (hfew:((CD cpos (i8 [a] X.env)).all (λx=>!x.1)&&(HY cpos (FL [] X.env)).all (λx=>x.1.isSome)
  && decide ([a].length+([]:List GX).length+(if ([]:List GX).isEmpty then 0 else 1)<30))=true:=by rfl)
 (hline:(apos.endLine==cpos.line)=true:=by rfl) (hs:i8 [a] X.env=(false,eval a X.env)::i8 [] X.env:=by rfl) (hplain:(CD cpos (i8 [] X.env)).any (·.1)=false:=by rfl):
 DE X E (.Call (.Attribute (.Constant (.str z) j p1) "join" apos) [a] [] cpos) (Gs z f):=by
 refine PE.imp (Lx NY PySem.F.slot_str_join PySem.F.type_str_join uG Ze (E8 ha N0 hs) hbase hfew hline hs hplain) λσ H Q hY54=>?_;obtain⟨G,δ,S,aft⟩:=hY54;refine⟨rfl,?_⟩;refine K0 S aft λd v G1 H1 g1 r1 S1 a1=>?_;cases e:Tt z d with
 |none=>rw[e]at a1;exact a1.elim
 |some d'=>
  obtain⟨r,rfl,o1,o2⟩:=mC e;rw[e]at a1;exact⟨G1,z,v,d,r,S1.sub,rfl,rfl,r1,e,a1 _ G1 H1 (Grow.refl S1.sub) ⟨rfl,o1,o2⟩⟩
def spD(n:Nat)(m:List f8->Res f8):Sp:=λvs H Q _=>∃G ds d,Same G H/\RepL G ds vs/\ds.length=n/\m ds=.ok d/\∀v G' H',Grow G H G' H'->Rep G' d v->Q v H'
structure Fn(P:o9)(w:x8)(K:i5)(mg:Str->Option g9)(base:BL)(x:Str)(k n:Nat)(m:List f8->Res f8):Prop where
 ex:∃f fd ps,ps.length=n/\FnOk P w K mg base CX0 k f fd ps (spD n m)/\mg x=some (.ref f)/\BR K (.ref f)=true/\Binds K fd ps []
def E0k:EK:=λ_ _=>False
def C9(fs:Dn->Res (List f8))(m:List f8->Res f8):Dn->Res f8:=λδ=>(fs δ).bind m
def D3{x:Str}{j n:Nat}{m:List f8->Res f8}(C:Cxt P w K mg base X N sc k df)(F:Fn P w K mg base x j n m)(hj:j<=k)(h:okGl sc x=true)(ha:DA X E0k (e::es) n fs)
 (he:i8 (e::es) X.env=(false,eval e X.env)::i8 es X.env:=by rfl) (hpl:(CD pos (i8 es X.env)).any (·.1)=false:=by rfl):DE X E0k (.Call (.Name x p) (e::es) [] pos) (C9 fs m):=by
 obtain⟨f,fd,ps,hps,F,hm,hk,hb⟩:=F.ex;obtain⟨h1,h2,h3⟩:=okGl.gl C h;have F':FnOk X.prog X.w X.K X.mg X.base CX0 j f fd ps (spD n m):=by rw[C.hP,C.hw,C.hK,C.hmg,C.hb];exact F
 refine PE.imp (Dr F' (C.room.mono hj) h1 (by rw[C.hmg];exact hm) (by rw[C.hK];exact hk) (by rw[C.hK];exact hb) .nil (Sw (X:=X)) ha.pa h2 he hpl) λσ H Q hY55=>?_;obtain⟨G,δ,S,aft⟩:=hY55;refine W7 (W:=λG H r=>Aft E0k G H r Q) S aft (λg a=>Aft.grow g a) (λc a=>a) (λa=>a) λds vs G1 H1 e g1 r1 S1 a1=>?_;rw[u8];cases q:m ds with
 |ok d=>rw[q]at a1;exact⟨G1,ds,d,S1.sub,r1,ha.len δ ds e,q,a1⟩
 |exc c=>rw[q]at a1;exact(a1 G1 H1 (Grow.refl S1.sub)).elim
 |no=>rw[q]at a1;exact a1.elim
end
noncomputable def Its(z:Str):It:=⟨λi _=>i<z.cps.size,λi H x H'=>H'=H/\∃c,z.cps[i]?=some c/\x=.str ⟨#[c]⟩,λi _=>z.cps.size<=i⟩
def eK{P:o9}{w:x8}{K:i5}{tg:Expr}(it:i9)(z:Str)(t:Tok):Turn P w K tg (Its z) [it] it (λi h=>h.IsStrIter it "str_ascii_iterator" z t i) where
 mem:=by simp
 obj:=λi h st b hb=>by
  have e:b=it:=by simpa using hb
  subst e;obtain⟨o,e,c,d⟩:=st;exact⟨o,e,λv z=>by rw[d]at z;cases z⟩
 keep:=λi h h' st k=>by
  obtain⟨o,e,c,d⟩:=st;exact⟨o,k it (by simp) o e,c,d⟩
 item:=by
  intro X hP hw hK hc i pins s σ H E I hf st hg;subst hP hw hK;obtain⟨f0,f1,f2,f3,f4,f5⟩:=hf it (by simp);have hi:i<z.cps.size:=hg;refine wpAny_pyNext_ascii_item st (c:=z.cps[i]) (by simp[hi]) λh' st' sb=>?_;have I1:Inv X pins σ H {s with heap:=h',toks:=s.toks+1}:=I.turned (λb o hb e=>(sb.2 b hb).trans e) f0 f1 f3 f4 f5;obtain⟨o,e,c,d⟩:=id st';exact⟨_,rfl,Xk (s:={s with heap:=h',toks:=s.toks+1}) e c d (by decide) ⟨.str ⟨#[z.cps[i]]⟩,H,I1,⟨_,rfl⟩,⟨rfl,_,by simp[hi],rfl⟩,st',λb hb=>(hf b hb).1⟩⟩
 done:=by
  intro X hP hw hK hc i pins s σ H E I hf st hg;subst hP hw hK;obtain⟨f0,f1,f2,f3,f4,f5⟩:=hf it (by simp);have hi:z.cps.size<=i:=hg;exact wpAny_pyNext_ascii_end (I.ok.hd hc) st (by simpa using hi) λh' eb=>⟨rfl,I.turned (t':=s.toks) (λb o hb e=>eb b o hb e) f0 f1 f3 f4 f5⟩
 self:=λ_ _ _ _ _ st h=>wpAny_pyIter_striter_ascii st h
def jV{P:o9}{w:x8}{K:i5}{tg:Expr}(it:i9)(z:Str)(t:Tok):Turn P w K tg (Its z) [it] it (λi h=>h.IsStrIter it "str_iterator" z t i) where
 mem:=by simp
 obj:=λi h st b hb=>by
  have e:b=it:=by simpa using hb
  subst e;obtain⟨o,e,c,d⟩:=st;exact⟨o,e,λv z=>by rw[d]at z;cases z⟩
 keep:=λi h h' st k=>by
  obtain⟨o,e,c,d⟩:=st;exact⟨o,k it (by simp) o e,c,d⟩
 item:=by
  intro X hP hw hK hc i pins s σ H E I hf st hg;subst hP hw hK;obtain⟨f0,f1,f2,f3,f4,f5⟩:=hf it (by simp);have hi:i<z.cps.size:=hg;refine wpAny_pyNext_wide_item st (c:=z.cps[i]) (by simp[hi]) λh' st' sb=>?_;have I1:Inv X pins σ H {s with heap:=h',toks:=s.toks+1}:=I.turned (λb o hb e=>(sb.2 b hb).trans e) f0 f1 f3 f4 f5;obtain⟨o,e,c,d⟩:=id st';exact⟨_,rfl,Xk (s:={s with heap:=h',toks:=s.toks+1}) e c d (by decide) ⟨.str ⟨#[z.cps[i]]⟩,H,I1,⟨_,rfl⟩,⟨rfl,_,by simp[hi],rfl⟩,st',λb hb=>(hf b hb).1⟩⟩
 done:=by
  intro X hP hw hK hc i pins s σ H E I hf st hg;subst hP hw hK;obtain⟨f0,f1,f2,f3,f4,f5⟩:=hf it (by simp);have hi:z.cps.size<=i:=hg;exact wpAny_pyNext_wide_end (I.ok.hd hc) st (by simpa using hi) λh' eb=>⟨rfl,I.turned (t':=s.toks) (λb o hb e=>eb b o hb e) f0 f1 f3 f4 f5⟩
 self:=λ_ _ _ _ _ st h=>wpAny_pyIter_striter_wide st h
def Ite(K:i5)(a:i9):It:=
 ⟨λi H=>∃xs x,SqL K H a xs/\xs[i]?=some x,λi H x H'=>∃p y,H p=none/\x=.ref p/\H'=upd H p (.tup [.int i,y])/\∀xs,SqL K H a xs->xs[i]?=some y,λi H=>∃xs,SqL K H a xs/\xs.length<=i⟩
def jX{P:o9}{w:x8}{K:i5}{elts:List Expr}{x1:Nat}{tp:Pos}(a e it:i9)(hne:e≠it):Turn P w K (.Tuple elts x1 tp) (Ite K a) [e,it] e (λi h=>(∃old,IsEnum h e it (i:Int) old)/\h.IsListIter it a i) where
 mem:=by simp
 obj:=λi h st b hb=>by
  obtain⟨⟨old,h1⟩,o,h2,c,d⟩:=st
  grind
 keep:=λi h h' st k=>by
  obtain⟨⟨old,h1⟩,o,h2,c,d⟩:=st;exact⟨⟨old,k e (by simp) _ h1⟩,o,k it (by simp) o h2,c,d⟩
 item:=by
  intro X hP hw hK hc i pins s σ H E I hf st hg;subst hP hw hK;obtain⟨⟨old,he⟩,st⟩:=st;obtain⟨xs,x,hq,hx⟩:=hg;obtain⟨its,rv,p,hz⟩:=I.list hq;obtain⟨u,hu,ru⟩:=rv.get hx;obtain⟨f0,f1,f2,f3,f4,f5⟩:=hf e (by simp);obtain⟨g0,g1,g2,g3,g4,g5⟩:=hf it (by simp);refine wpAny_pyNext_enum_item he st p.isList (x:=u) (by simp_all) hne λh' he' st' ht' hsz kp=>?_;refine⟨_,rfl,wpAny_letOwnedTupleGo_enum he' λh2 he2 sb=>?_⟩;have hfr:H s.heap.objs.size=none:=I.fresh;have elt:e<s.heap.objs.size:=q9 he;have ilt:it<s.heap.objs.size:=by obtain⟨o,h,_⟩:=st;exact q9 h
  have kp2:∀b o,b≠e->b≠it->s.heap.get? b=some o->h2.get? b=some o:=λb o h1 h3 q=>(sb.2 b h1).trans (kp b o h1 h3 q);have I1:Inv X pins σ H {s with heap:=h2,toks:=s.toks+1}:=by
   refine I.step (g':=s.gens) (d':=s.drawn) (ch:=[e,it]) (λb hb=>?_) (λb o _ _ hcb q _=>kp2 b o (λz=>hcb (by simp[z])) (λz=>hcb (by simp[z])) q) (λb o _ _ hcb q _=>⟨o.slots,kp2 b o (λz=>hcb (by simp[z])) (λz=>hcb (by simp[z])) q⟩) (λ_ _ _ _ n=>n)
    (λb o hcb q=>⟨o,kp2 b o (λz=>hcb (by simp[z])) (λz=>hcb (by simp[z])) q⟩) (λ_ _ q=>q) (λ_ _ _ q=>q) (λb ps q=>⟨#[],by rw[q];simp⟩) (λm hm=>?_) (λb u' q=>?_) I.bare
   .grind
   .obtain⟨o,es,ep,ho,r⟩:=hm
    exact⟨o,es,ep,kp2 _ o (Ne.symm f1) (Ne.symm g1) ho,r⟩
   .refine(I.hok b u' q).stay (λc v hcc q'=>kp2 c v ?_ ?_ q') (λ_ q'=>q') λ_ _ q'=>q'
    all_goals lia
  have htt:h2.get? s.heap.objs.size=some {cls:=.type "tuple",data:=.seq #[.int i s.toks,u]}:=(sb.2 _ (IQ elt)).trans ht';have Hold:∀b o,H b=some o->b≠s.heap.objs.size:=λb o q z=>by lia
  have I2:Inv X pins σ (upd H s.heap.objs.size (.tup [.int i,x])) {s with heap:=h2,toks:=s.toks+1}:=by
   have nb:∀b o,b≠s.heap.objs.size->s.heap.get? b=some o->True:=λ_ _ _ _=>trivial;have base':Un X.fs X.ex X.H₀ (upd H s.heap.objs.size (.tup [.int i,x])) X.s₀.heap h2:=by
    have B:=I1.base;have ne0:∀b o,X.s₀.heap.get? b=some o->b≠s.heap.objs.size:=λb o q=>z8 (y9 (q9 q) I.sz);exact⟨B.keep,B.slot,λb o q n hx=>by rw[B7 (ne0 b o q)];exact B.free b o q n hx,B.there,
     λb ys q=>by rw[B7 (Hold b _ (B.tups b ys q))];exact B.tups b ys q,λb o' u' q=>by rw[B7 (Hold b _ (B.frzs b o' u' q))];exact B.frzs b o' u' q,
     λb ps q=>by obtain⟨m,q'⟩:=B.tbls b ps q;exact⟨m,by rw[B7 (Hold b _ q')];exact q'⟩⟩
   have hok':HOk X.prog X.w (upd H s.heap.objs.size (.tup [.int i,x])) h2:=λb o q=>by
    by_cases hb:b=s.heap.objs.size
    .subst hb
     rw[C8]at q;cases q;refine⟨by show 2<=sizeLine;decide,[.int i s.toks,u],.cons ⟨_,rfl⟩ (.cons ru .nil),⟨_,htt,rfl,0,rfl⟩⟩
    .rw[B7 hb]at q
     exact(I1.hok b o q).stay (λ_ _ _ q'=>q') (λc q'=>by rw[B7 (Hold c _ q')];exact q') λc ys q'=>by rw[B7 (Hold c _ q')];exact q'
   refine⟨I1.ok,I1.os,I1.bare,base',I1.loc,I1.cell,?_,λy c q=>?_,λp hp=>?_,hok',I1.len⟩
   .rw[B7 (z8 I.lt)];exact I1.free
   .obtain⟨v,oc,hoc,_⟩:=I.cell y c q
    rw[B7 (z8 (q9 hoc))];exact I1.freeC y c q
   .obtain⟨q1,q2,q3,q4,q5⟩:=I1.pin p hp
    refine⟨q1,?_,q3,q4,q5⟩;rw[B7 (z8 (q9 (I.pin p hp).1))];exact q2
  refine⟨.ref s.heap.objs.size,_,I2,rfl,⟨_,x,hfr,rfl,rfl,λys hy=>by rw[I.list_inj hy hq];exact hx⟩,⟨⟨_,by push_cast;exact he2⟩,?_⟩,λb hb=>?_⟩
  .obtain⟨o,q,c,d⟩:=st'
   exact⟨o,(sb.2 it (Ne.symm hne)).trans q,c,d⟩
  .rcases j9.mp hb with rfl |hb
   .rw[B7 (z8 elt)];exact f0
   .have e':b=it:=by simp_all
    subst e';rw[B7 (z8 ilt)];exact g0
 done:=by
  intro X hP hw hK hc i pins s σ H E I hf st hg;subst hP hw hK;obtain⟨⟨old,he⟩,st⟩:=st;obtain⟨xs,hq,hx⟩:=hg;obtain⟨its,rv,p,hz⟩:=I.list hq;obtain⟨g0,g1,g2,g3,g4,g5⟩:=hf it (by simp);have hl:=rv.length;exact wpAny_pyNext_enum_end (I.ok.hd hc) he st p.isList (by simp;lia) λh' eb=>⟨rfl,I.turned (t':=s.toks) (λb o hb e=>eb b o hb e) g0 g1 g3 g4 g5⟩
 self:=λ_ _ _ _ _ st h=>by
  obtain⟨⟨old,he⟩,_⟩:=st;exact wpAny_pyIter_enum he h
structure Walk(J:It)(G:Hp)(ds:List f8):Prop where
 go:∀(i:Nat) (H:Hp),i<ds.length->Same G H->J.go i H
 yld:∀(i:Nat) (d:f8) (G2 H:Hp) (x:V) (H':Hp),ds[i]?=some d->Same G G2->Same G2 H->J.yld i H x H'->∃G3,Grow G2 H G3 H'/\Rep G3 d x
 stop:∀(i:Nat) (H:Hp),ds.length<=i->Same G H->J.stop i H
def AftI(E:EK)(G H:Hp)(r:Res (List f8))(R:It->Hp->Prop):Prop:=match r with
 |.ok ds=>∀J G' H',Grow G H G' H'->Walk J G' ds->R J H'
 |.exc c=>∀G' H',Grow G H G' H'->E c H'
 |.no=>False
def tI(E:EK)(f:Dn->Res (List f8)):TI:=λσ H R=>∃G δ,SR G H σ δ/\AftI E G H (f δ) R
abbrev DI(X:Cx)(E:EK)(tg e:Expr)(f:Dn->Res (List f8)):Prop:=PI X tg e (tI E f)
def AftI.grow{E:EK}{G H G' H':Hp}{r:Res (List f8)}{Q:It->Hp->Prop}(g:Grow G H G' H')(a:AftI E G H r Q):AftI E G' H' r Q:=by
 cases r with
 |ok d=>exact λv G2 H2 g2 q=>a v G2 H2 (g.trans g2) q
 |exc c=>exact λG2 H2 g2=>a G2 H2 (g.trans g2)
 |no=>exact a
def PI.imp{X:Cx}{tg e:Expr}{t t':TI}(h:PI X tg e t)(i:∀σ H Q,t' σ H Q->t σ H Q):PI X tg e t':=λpins s σ H Q I q=>h pins s σ H Q I (i _ _ _ q)
noncomputable def Yk(x:Str):List f8:=x.cps.toList.map λc=>.str ⟨#[c]⟩
def D8:f8->Res (List f8)
 |.list ds=>.ok ds
 |.tuple ds=>.ok ds
 |.str x=>.ok (Yk x)
 |_=>.no
def jS{K:i5}{G:Hp}{a:i9}{xs:List V}{ds:List f8}(h:Rd G a (.lst xs))(l:RepL G ds xs):Walk (Itl K a) G ds where
 go:=λi H hi hG=>by
  have hi':i<xs.length:=by rw[<-l.length];exact hi
  exact⟨xs,xs[i],.inl (Rd.mono hG h),by simp[hi']⟩
 yld:=λi d G2 H x H' e h1 h2 hy=>by
  obtain⟨rfl,hy⟩:=hy;obtain⟨y,e1,r⟩:=l.get e;have:=hy xs (.inl (Rd.mono (h1.trans h2) h));rw[e1]at this;cases this;exact⟨G2,Grow.refl h2,r.mono h1⟩
 stop:=λi H hi hG=>⟨xs,.inl (Rd.mono hG h),by rw[<-l.length];exact hi⟩
def mS{K:i5}{G:Hp}{a:i9}{xs:List V}{ds:List f8}(h:G a=some (.tup xs))(l:RepL G ds xs):Walk (Itt K a) G ds where
 go:=λi H hi hG=>by
  have hi':i<xs.length:=by rw[<-l.length];exact hi
  exact⟨xs,xs[i],.inl (.inl (hG _ _ h)),by simp[hi']⟩
 yld:=λi d G2 H x H' e h1 h2 hy=>by
  obtain⟨rfl,hy⟩:=hy;obtain⟨y,e1,r⟩:=l.get e;have:=hy xs (.inl (.inl (h2 _ _ (h1 _ _ h))));rw[e1]at this;cases this;exact⟨G2,Grow.refl h2,r.mono h1⟩
 stop:=λi H hi hG=>⟨xs,.inl (.inl (hG _ _ h)),by rw[<-l.length];exact hi⟩
def aH{G:Hp}{z:Str}(ho:z0 z=true):Walk (Its z) G (Yk z) where
 go:=λi H hi hG=>by
  show i<z.cps.size;simpa[Yk] using hi
 yld:=λi d G2 H x H' e h1 h2 hy=>by
  obtain⟨rfl,c,hc,rfl⟩:=hy;have e':(z.cps.toList.map λc=>BU ⟨#[c]⟩)[i]?=some d:=e;rw[BP,LC,hc]at e';cases e';refine⟨G2,Grow.refl h2,rfl,?_,by show 1<=sizeLine;decide⟩;unfold z0 at ho ⊢
  grind
 stop:=λi H hi hG=>by
  show z.cps.size<=i;simpa[Yk] using hi
def eD{G:Hp}(lo:Int)(n:Nat):Walk (Itr lo n) G ((CK n).map λ(i:Nat)=>DZ (lo+i)) where
 go:=λi H hi hG=>by
  show i<n
  simp_all
 yld:=λi d G2 H x H' e h1 h2 hy=>by
  obtain⟨rfl,rfl⟩:=hy;rw[BP]at e;by_cases hi:i<n
  .rw[List.getElem?_range hi]at e;cases e;exact⟨G2,Grow.refl h2,rfl⟩
  simp_all
 stop:=λi H hi hG=>by
  show n<=i
  simp_all
noncomputable def Kf(ds:List f8):List f8:=ds.mapIdx λi d=>.tuple [.int i,d]
def jT{K:i5}{G:Hp}{a:i9}{xs:List V}{ds:List f8}(h:Rd G a (.lst xs))(l:RepL G ds xs):Walk (Ite K a) G (Kf ds) where
 go:=λi H hi hG=>by
  have hi':i<xs.length:=by rw[<-l.length];simpa[Kf] using hi
  exact⟨xs,xs[i],.inl (Rd.mono hG h),by simp[hi']⟩
 yld:=λi d G2 H x H' e h1 h2 hy=>by
  obtain⟨p,y,hp,rfl,rfl,hy⟩:=hy;unfold Kf at e;rw[PM]at e;obtain⟨d0,e0,rfl⟩:=FN.mp e;obtain⟨y',e1,r⟩:=l.get e0;have:=hy xs (.inl (Rd.mono (h1.trans h2) h));rw[e1]at this;cases this;refine⟨upd G2 p (.tup [.int i,y]),Grow.new h2 hp,p,_,rfl,C8,RepL.cons rfl (RepL.cons (r.mono (h1.trans (Same.upd (h2.free hp)))) rfl)⟩
 stop:=λi H hi hG=>⟨xs,.inl (Rd.mono hG h),by rw[<-l.length];simpa[Kf] using hi⟩
section
variable {P:o9}{w:x8}{K:i5}{mg:Str->Option g9}{base:BL}{X:Cx}{N:List Str}{sc:Scope}{k:Nat}{df:Bool}{E:EK}{pos p:Pos}{tg a b c e:Expr}{f g:Dn->Res f8}{fs src:Dn->Res (List f8)}
def K9(ha:DE X E a f):DI X E tg a (λδ=>(f δ).bind D8):=by
 rintro pins s σ H R I ⟨G,δ,S,aft⟩;have h:=Mi (R:=λv H1=>∃G1 d,Same G1 H1/\Rep G1 d v/\AftI E G1 H1 (D8 d) R) (W:=λG H r=>AftI E G H r R) S aft (λg a=>AftI.grow g a) (λc a=>a) (λa=>a) λd v G1 H1 g1 r1 S1 a1=>⟨G1,d,S1.sub,r1,a1⟩;refine thn (ha pins s σ H _ I h) λv s1 hZ2=>?_;obtain⟨x,H1,I1,rx,G1,d,hG,rd,a1⟩:=hZ2;cases d with
 |list ds=>
  obtain⟨p,xs,rfl,h1,l1⟩:=rd;cases rx;obtain⟨zz,its,n,rv,e1⟩:=X3 I1 hG h1;refine wpAny_pyIter_list ⟨_,e1,rfl,n,rfl⟩ ?_;refine⟨s1.heap.objs.size,[s1.heap.objs.size],_,_,H1,rfl,I1.kept (t':=s1.toks) λb o e=>l8 _ e,jW p _,⟨_,x5 _ rfl,rfl,rfl⟩,λb hb=>?_,a1 _ G1 H1 (Grow.refl hG) (jS h1 l1)⟩;have e:b=s1.heap.objs.size:=by simpa using hb
  subst e;exact I1.fpOk (s0 _) I1.fresh
 |tuple ds=>
  obtain⟨p,xs,rfl,h1,l1⟩:=rd;cases rx;obtain⟨zz,its,rv,pt⟩:=Kn I1 hG h1;refine wpAny_pyIter_tuple (show s1.heap.IsTuple p its.toArray from pt) ?_;refine⟨s1.heap.objs.size,[s1.heap.objs.size],_,_,H1,rfl,I1.kept (t':=s1.toks) λb o e=>l8 _ e,eI p _,⟨_,x5 _ rfl,rfl,rfl⟩,λb hb=>?_,a1 _ G1 H1 (Grow.refl hG) (mS h1 l1)⟩;have e:b=s1.heap.objs.size:=by simpa using hb
  subst e;exact I1.fpOk (s0 _) I1.fresh
 |str z=>
  obtain⟨e0,o1,l1⟩:=rd;subst e0;obtain⟨t,rfl⟩:=rx;cases ha:z.cps.all (·<128)
  .refine wpAny_pyIter_wide ha ?_
   refine⟨s1.heap.objs.size,[s1.heap.objs.size],_,_,H1,rfl,I1.kept (t':=s1.toks) λb o e=>l8 _ e,jV _ z t,⟨_,x5 _ rfl,rfl,rfl⟩,λb hb=>?_,a1 _ G1 H1 (Grow.refl hG) (aH o1)⟩;have e:b=s1.heap.objs.size:=by simpa using hb
   subst e;exact I1.fpOk (s0 _) I1.fresh
  .refine wpAny_pyIter_ascii ha ?_
   refine⟨s1.heap.objs.size,[s1.heap.objs.size],_,_,H1,rfl,I1.kept (t':=s1.toks) λb o e=>l8 _ e,eK _ z t,⟨_,x5 _ rfl,rfl,rfl⟩,λb hb=>?_,a1 _ G1 H1 (Grow.refl hG) (aH o1)⟩;have e:b=s1.heap.objs.size:=by simpa using hb
   subst e;exact I1.fpOk (s0 _) I1.fresh
 |_=>exact(show False from a1).elim
noncomputable def Ae(lo hi:Int):List f8:=(CK (hi-lo).toNat).map λ(i:Nat)=>DZ (lo+i)
def Dh:List f8->Res (List f8)
 |[.int j]=>if-(2 ^ 62)<=j/\j<2 ^ 62 then .ok (Ae 0 j) else .no
 |_=>.no
def Aw{n:Nat}(C:Cxt P w K mg base X N sc k df)(h:okGl sc "range"=true)(hm:mg "range"=none)(ha:DA X E [a] n fs)(hs:i8 [a] X.env=[(false,eval a X.env)]:=by rfl):
 DI X E tg (.Call (.Name "range" p) [a] [] pos) (λδ=>(fs δ).bind Dh):=by
 refine PI.imp (kS (okGl.gl C h).1 (by rw[C.hmg];exact hm) ha.pa hs) λσ H Q hY56=>?_;obtain⟨G,δ,S,aft⟩:=hY56;refine W7 (W:=λG H r=>AftI E G H r Q) S aft (λg a=>AftI.grow g a) (λc a=>a) (λa=>a) λds vs G1 H1 e g1 r1 S1 a1=>?_;unfold Dh at a1;split at a1
 .rename_i j
  split at a1
  .rename_i hc
   obtain⟨v,rfl,e1⟩:=Pi r1;cases (show _=_ from e1);refine⟨j,rfl,hc.1,hc.2,a1 _ G1 H1 (Grow.refl S1.sub) ?_⟩;have:=eD (G:=G1) 0 j.toNat;unfold Ae;lia
  .exact a1.elim
 .exact a1.elim
def Tl:List f8->Res (List f8)
 |[.list ds]=>.ok (Kf ds)
 |_=>.no
def AJ{n x1:Nat}{elts:List Expr}{tp:Pos}(C:Cxt P w K mg base X N sc k df)(h:okGl sc "enumerate"=true)(hm:mg "enumerate"=none)(ha:DA X E [a] n fs)(he:i8 [a] X.env=(false,eval a X.env)::i8 [] X.env:=by rfl)(hpl:(CD pos (i8 [] X.env)).any (·.1)=false:=by rfl):
 DI X E (.Tuple elts x1 tp) (.Call (.Name "enumerate" p) [a] [] pos) (λδ=>(fs δ).bind Tl):=by
 rintro pins s σ H R I ⟨G,δ,S,aft⟩;obtain⟨h1,h2,h3⟩:=okGl.gl C h;have hh:=W7 (R:=λvs H1=>∃G1 ds,Same G1 H1/\RepL G1 ds vs/\AftI E G1 H1 (Tl ds) R) (W:=λG H r=>AftI E G H r R) S aft (λg a=>AftI.grow g a) (λc a=>a) (λa=>a) λds vs G1 H1 e g1 r1 S1 a1=>⟨G1,ds,S1.sub,r1,a1⟩;refine DV (Ij I h1 (by rw[C.hmg];exact hm) boot_enumerate ?_ h3 h2);refine EB (thn (ha.pa pos pins s σ H _ I hh) λus s1 hY58=>?_) he hpl;obtain⟨vs,H1,I1,rv,G1,ds,hG,rl,a1⟩:=hY58;unfold Tl at a1;split at a1
 .rename_i ys
  obtain⟨v,rfl,l,xs,rfl,q1,l1⟩:=Pi rl;obtain⟨u,rfl,ru⟩:=Wj rv;cases ru;obtain⟨zz,its,nn,rw',e1⟩:=X3 I1 hG q1;refine call_enumerate_list ⟨_,e1,rfl,nn,rfl⟩ λh' he' hit hsz kp=>?_;have I2:Inv X pins σ H1 {s1 with heap:=h'}:=I1.kept (t':=s1.toks) kp;refine wpAny_pyIter_enum he' ?_;refine⟨s1.heap.objs.size+1,[s1.heap.objs.size+1,s1.heap.objs.size],_,_,H1,rfl,I2,jX l _ _ (IQ (NI _)),⟨⟨_,he'⟩,hit⟩,λb hb=>?_,a1 _ G1 H1 (Grow.refl hG) (jT q1 l1)⟩;rcases j9.mp hb with rfl |hb
  .exact I1.fpOk (JE _) (I1.hok.fresh (JE _))
  .have e:b=s1.heap.objs.size:=by simpa using hb
   subst e;exact I1.fpOk (s0 _) I1.fresh
 .exact a1.elim
noncomputable def F7(d:f8):Res (List Sl):=.ok [.sh d]
noncomputable def Oc:f8->Res (List Sl)
 |.tuple [a,b]=>.ok [.sh a,.sh b]
 |_=>.no
noncomputable def E2(bnd:f8->Res (List Sl))(δc:Dn)(tt:Dn->Res Bool)(el:Dn->Res f8):List f8->Res (List f8)
 |[]=>.ok []
 |d::ds=>match bnd d with
  |.ok sl=>match tt (sl++δc) with
   |.ok true=>match el (sl++δc) with
    |.ok y=>match E2 bnd δc tt el ds with
     |.ok r=>.ok (y::r)
     |_=>.no
    |_=>.no
   |.ok false=>E2 bnd δc tt el ds
   |_=>.no
  |_=>.no
def Ev(δ:Dn)(cap:List Nat):Dn:=cap.map λj=>δ[j]?.getD .un
def G6(src:Dn->Res (List f8))(bnd:f8->Res (List Sl))(cap:List Nat)(tt:Dn->Res Bool)(el:Dn->Res f8):Dn->Res (List f8):=λδ=>(src δ).bind λds=>if ds.length<=sizeLine then E2 bnd (Ev δ cap) tt el ds else .no
def GOk(g:TG)(m:Nat)(bnd:f8->Res (List Sl)):Prop:=∀(G H:Hp) (d:f8) (x:V) (sl:List Sl) (τ:St) (Q:St->Hp->Prop),Same G H->Rep G d x->bnd d=.ok sl->(∀vs:List V,vs.length=m->sl.length=m->(∀(i:Nat) s,sl[i]?=some s->SlOk G H (vs[i]?) s/\∃d,s=.sh d)->Q (vs.map some++τ) H)->g x (u6 m none++τ) H Q
def AL:GOk (O1 0) 1 F7:=by
 intro G H d x sl τ Q hG r e h;cases e;exact h [x] rfl rfl λi s hs=>by
  cases i with
  |zero=>cases hs;exact⟨⟨x,rfl,r⟩,d,rfl⟩
  |succ i=>simp at hs
def gok2:GOk (fU K 2 (Ax (O1 0) (Ax (O1 1) fV))) 2 Oc:=by
 intro G H d x sl τ Q hG r e h;cases d with
 |tuple ds=>
  match ds,e with
  |[a,b],e=>
   cases e;obtain⟨p,xs,rfl,h1,l1⟩:=r;obtain⟨v,v',rfl,r1,r2⟩:=oC l1;refine⟨p,_,rfl,.inl (.inl (hG _ _ h1)),rfl,v,[v'],rfl,v',[],rfl,rfl,?_⟩;exact h [v,v'] rfl rfl λi s hs=>by
    match i with
    |0=>cases hs;exact⟨⟨v,rfl,r1⟩,a,rfl⟩
    |1=>cases hs;exact⟨⟨v',rfl,r2⟩,b,rfl⟩
    |i+2=>simp at hs
 |_=>cases e
theorem SR.cap{G H:Hp}{σ:St}{δ:Dn}(S:SR G H σ δ)(cap:List Nat)(hnd:cap.Nodup){vs:List V}{sl:List Sl}(hv:vs.length=sl.length)(h:∀(i:Nat) s,sl[i]?=some s->SlOk G H (vs[i]?) s/\∃d,s=.sh d):SR G H (vs.map some++Hm σ cap) (sl++Ev δ cap):=by
 have hlt:∀i,i<sl.length->(vs.map some++Hm σ cap)[i]?=(vs[i]?).map some:=λi hi=>by
  rw[CT (by rw[i7,hv];exact hi),BP]
 have hge:∀i,¬i<sl.length->(vs.map some++Hm σ cap)[i]?=(cap[i-sl.length]?).map λj=>σ[j]?.join:=λi hi=>by
  rw[DB (by rw[i7,hv];lia)];unfold Hm;rw[BP,i7,hv]
 have hd:∀i,¬i<sl.length->(sl++Ev δ cap)[i]?=(cap[i-sl.length]?).map λj=>δ[j]?.getD .un:=λi hi=>by
  rw[DB (by lia)];unfold Ev;rw[BP]
 refine⟨S.sub,by simp[hv,Hm,Ev],λi s e=>?_,λi j a d d' ei ej hi hj=>?_⟩
 .by_cases hi:i<sl.length
  .rw[CT hi]at e
   rw[hlt i hi];have:=(h i s e).1;cases q:vs[i]? with
   |none=>rw[q]at this;exact this
   |some v=>rw[q]at this;exact this
  .rw[hd i hi]at e
   rw[hge i hi];cases q:cap[i-sl.length]? with
   |none=>rw[q]at e;cases e
   |some j=>
    rw[q]at e;simp only[IA,OD]at e;subst e;show SlOk G H (some (σ[j]?.join)).join _;cases q2:δ[j]? with
    |none=>trivial
    |some s=>exact S.sl j s q2
 .have key : ∀ i d,(sl ++ Ev δ cap)[i]? = some (.ow d) -> ¬i<sl.length /\ ∃ j,cap[i-sl.length]? = some j /\ δ[j]? = some (.ow d):= λi d e => by
   have hi:¬i<sl.length:=λhi=>by
    rw[CT hi]at e;obtain⟨_,d',z⟩:=h i _ e;cases z
   refine⟨hi,?_⟩;rw[hd i hi]at e;cases q:cap[i-sl.length]? with
   |none=>rw[q]at e;cases e
   |some j=>
    rw[q]at e;simp only[IA,OD]at e;refine⟨j,rfl,?_⟩;cases q2:δ[j]? with
    |none=>rw[q2]at e;cases e
    |some s=>rw[q2]at e;cases e;rfl
  obtain⟨n1,j1,c1,o1⟩:=key i d ei;obtain⟨n2,j2,c2,o2⟩:=key j d' ej;rw[hge i n1,c1]at hi;rw[hge j n2,c2]at hj;have hi':σ[j1]?.join=some (.ref a):=hi;have hj':σ[j2]?.join=some (.ref a):=hj;have:=S.ap j1 j2 a d d' o1 o2 hi' hj';subst this;have:=(List.getElem?_inj (x4.mp c1).1 hnd).mp (c1.trans c2.symm);lia
def pW(xs:List Str):xs.map (λ_=>(none:Option V))=u6 xs.length none:=by
 induction xs with
 |nil=>rfl
 |cons a t ih=>grind
def Jc{xs:List Str}{cap:List Nat}{g:TG}{m:Nat}{bnd:f8->Res (List Sl)}{tt:Dn->Res Bool}{el:Dn->Res f8}(hx:xs.length=m)(hnd:cap.Nodup)(hg:GOk g m bnd){σ:St}{H:Hp}{Q:VK}(h:tF E (G6 src bnd cap tt el) σ H Q):
 gV (tI E src) (λσ=>xs.map (λ_=>none)++Hm σ cap) g (tT E0k tt) (tD E0k el) σ H Q:=by
 obtain⟨G,δ,S,aft⟩:=h;refine⟨G,δ,S,?_⟩;unfold G6 at aft;cases e:src δ with
 |exc c=>rw[e]at aft;exact aft
 |no=>rw[e]at aft;exact aft
 |ok ds=>
  rw[e]at aft;intro J G1 H1 g1 W D hD;have aft1:rV E G H (if ds.length<=sizeLine then E2 bnd (Ev δ cap) tt el ds else .no) Q:=aft;by_cases hz:ds.length<=sizeLine
  .rw[iq hz]at aft1
   have S1:=S.grow g1;have hmap:xs.map (λ_=>(none:Option V))=u6 m none:=by rw[<-hx];exact pW xs
   refine⟨λi n H'=>n=ds.length-i/\i<=ds.length/\∃G' acc yd,Grow G1 H1 G' H'/\G' D=none/\H' D=some (.lst acc)/\RepL G' yd acc/\yd.length<=i /\
    rV E G H (match E2 bnd (Ev δ cap) tt el (ds.drop i)with |.ok r=>.ok (yd++r) |_=>.no) Q,⟨_,rfl,ER _,G1,[],[],Grow.own g1.gh hD,g1.gh.free hD,C8,rfl,s0 _,?_⟩,?_⟩
   .rw[IN]
    cases q:E2 bnd (Ev δ cap) tt el ds with
    |ok r=>simp_all
    |exc c=>
     exfalso;have:∀l c,E2 bnd (Ev δ cap) tt el l≠.exc c:=by
      intro l c;induction l with
      |nil=>intro z;cases z
      |cons d l ih=>
       unfold E2;lia
     simp_all
    |no=>lia
   .rintro i n H' ⟨rfl,hi,G',acc,yd,g2,nD,hDa,ry,hyl,aft2⟩
    by_cases hlt:i<ds.length
    .refine .inr ⟨W.go i H' hlt (g2.g.trans g2.gh),λH'' => ∃ n',n'<ds.length-i /\ (n' = ds.length-(i+1) /\ i+1 <= ds.length /\ ∃ G' acc yd,Grow G1 H1 G' H'' /\ G' D = none /\ H'' D = some (.lst acc) /\ RepL G' yd acc /\ yd.length <= i+1 /\
      rV E G H (match E2 bnd (Ev δ cap) tt el (ds.drop (i+1))with |.ok r=>.ok (yd++r) |_=>.no) Q),λH'' q=>?_,λx H'' hy=>?_⟩
     .simp_all
     .have hd:ds[i]?=some ds[i]:=BY hlt
      have hdrop:ds.drop i=ds[i]::ds.drop (i+1):=EA hlt;obtain⟨G3,g3,r3⟩:=W.yld i _ G' H' x H'' hd g2.g g2.gh hy;have g13:=g2.trans g3;have nD3:G3 D=none:=by
       cases q:G3 D with
       |none=>rfl
       | some u =>
         rcases g3.fr D u q with z | z | ⟨xs,rfl⟩
         .lia
         .lia
         .have:=g3.gh _ _ q;rw[g3.h _ _ hDa]at this;cases this
      rw[hdrop]at aft2;unfold E2 at aft2;rw[hmap];cases eb:bnd ds[i] with
      |exc c=>rw[eb]at aft2;exact aft2.elim
      |no=>rw[eb]at aft2;exact aft2.elim
      |ok sl=>
       rw[eb]at aft2;refine hg G3 H'' _ x sl _ _ g3.gh r3 eb λvs hv hs hsl=>⟨⟨by simp_all,λj v z=>?_⟩,?_⟩
       .grind
       .have Sb:SR G3 H'' (vs.map some++Hm σ cap) (sl++Ev δ cap):=(S1.grow g13).cap cap hnd (hv.trans hs.symm) hsl
        refine⟨G3,_,Sb,?_⟩;simp only at aft2;cases et:tt (sl++Ev δ cap) with
        |exc c=>rw[et]at aft2;exact aft2.elim
        |no=>rw[et]at aft2;exact aft2.elim
        |ok kk=>
         rw[et]at aft2;intro G4 H4 g4;have nD4:G4 D=none:=by
          cases q:G4 D with
          |none=>rfl
          | some u =>
            rcases g4.fr D u q with z | z | ⟨xs,rfl⟩
            .lia
            .rw[g3.h _ _ hDa]at z;cases z
            .have:=g4.gh _ _ q;rw[g4.h _ _ (g3.h _ _ hDa)]at this;cases this
         have hD4:H4 D=some (.lst acc):=g4.h _ _ (g3.h _ _ hDa);cases kk with
         |false=>
          rw[ir (by decide)];exact⟨_,by lia,rfl,hlt,G4,acc,yd,g13.trans g4,nD4,hD4,ry.mono (g3.g.trans g4.g),by lia,aft2⟩
         |true=>
          rw[iq rfl];refine⟨G4,_,Sb.grow g4,?_⟩;simp only at aft2;cases ee:el (sl++Ev δ cap) with
          |exc c=>rw[ee]at aft2;exact aft2.elim
          |no=>rw[ee]at aft2;exact aft2.elim
          |ok y=>
           rw[ee]at aft2;intro v G5 H5 g5 r5;have nD5:G5 D=none:=by
            cases q:G5 D with
            |none=>rfl
            | some u =>
              rcases g5.fr D u q with z | z | ⟨xs,rfl⟩
              .lia
              .lia
              .have:=g5.gh _ _ q;rw[g5.h _ _ hD4]at this;cases this
           have hD5:H5 D=some (.lst acc):=g5.h _ _ hD4;have hal:acc.length<=i:=by rw[<-ry.length];exact hyl
           refine⟨acc,hD5,by lia,_,by lia,rfl,hlt,G5,acc++[v],yd++[y],?_,nD5,C8,?_,by simp_all,?_⟩
           .have g15:=(g13.trans g4).trans g5
            refine⟨g15.g,λb o q=>?_,λb o q=>?_,g15.fr⟩
            .rw[B7 (D9 q hD)];exact g15.h _ _ q
            .rw[B7 (D9 q nD5)];exact g15.gh _ _ q
           .exact(ry.mono (g3.g.trans (g4.g.trans g5.g))).append (RepL.cons r5 rfl)
           .simp only at aft2
            cases er:E2 bnd (Ev δ cap) tt el (ds.drop (i+1)) with
            |ok r=>
             simp_all
            |exc c=>lia
            |no=>lia
    .refine .inl ⟨W.stop i H' (GD.mp hlt) (g2.g.trans g2.gh),?_⟩
     have:ds.drop i=[]:=FV (GD.mp hlt);rw[this]at aft2;unfold E2 at aft2;have aft3:rV E G H (.ok (yd++[])) Q:=aft2;rw[u8]at aft3;exact aft3 D acc G' H' (g1.trans g2) (g1.h.free hD) nD hDa ry
  .rw[ir hz]at aft1;exact aft1.elim
end
noncomputable def Gj(cells:List (Str×i9)):List (Str×KP)->List (Str×i9)->List (Str×i9)
 |[],cs=>cs
 | (n,kd)::r,cs=>if kd==.free then Gj cells r ((n,(cells.lookup n).getD 0)::cs) else Gj cells r cs
theorem dO{env:Env}:∀(names:List (Str×KP)) (cs:List (Str×i9)),(∀y∈names,y.2=.free->∃c,env.cells.lookup y.1=some c) ->
 (forIn names cs λ(x:Str×KP) (r:List (Str×i9))=>if (x.2==GT)=true then do let c <-cellOf env x.1;pure (GB ((x.1,c)::r)) else pure (GB r))=(pure (Gj env.cells names cs):Sem (List (Str×i9)))
 |[],cs,_=>rfl
 | (n,kd)::r,cs,h=>by
   rw[NK];have ih:=λcs=>dO r cs λy hy=>h y (FF _ hy);unfold Gj;by_cases hk:(kd==GT)=true
   .obtain⟨c,hc⟩:=h (n,kd) EG (GY hk)
    have hc':cellOf env n=pure c:=by unfold cellOf;lia
    simp_all
   simp_all
theorem Ky{cells:List (Str×i9)}:∀{names:List (Str×KP)} {cs:List (Str×i9)} {y:Str×i9},y∈Gj cells names cs->y∈cs\/((y.1,GT)∈names/\y.2=(cells.lookup y.1).getD 0)
 |[],cs,y,h=>.inl h
 | (n,kd)::r,cs,y,h=>by
   unfold Gj at h;by_cases hk:(kd==GT)=true
   .rw[iq hk]at h
    have hk':=GY hk;subst hk';rcases Ky h with z |⟨z1,z2⟩
    all_goals grind
   .rw[ir hk]at h
    rcases Ky h with z |⟨z1,z2⟩
    all_goals simp_all
theorem Kz{cells:List (Str×i9)}{x:Str}:∀{names:List (Str×KP)} {cs:List (Str×i9)},((x,GT)∈names\/∃c,(x,c)∈cs)->∃c,(x,c)∈Gj cells names cs
 |[],cs,h=>by
  rcases h with h |h
  .cases h
  .exact h
 | (n,kd)::r,cs,h=>by
   unfold Gj;by_cases hk:(kd==GT)=true
   .rw[iq hk]
    refine Kz ?_
    grind
   .rw[ir hk]
    refine Kz ?_
    grind
def Hk{α:Type}{x:Str}{c:α}{l:List (Str×α)}(h:l.lookup x=some c):(x,c)∈l:=GK h
theorem Ke{α:Type}{x:Str}:∀{l:List (Str×α)} {c:α},(x,c)∈l->∃c',l.lookup x=some c'
 |[],_,h=>by cases h
 | (n,d)::r,c,h=>by
   rw[List.lookup_cons];cases q:x==n with
   |true=>lia
   |false=>
    rcases j9.mp h with z |z
    .lia
    .exact Ke z
def wA{X:Cx}(ok:X.Ok){scope:Scope}(hnc:∀y∈scope.names,y.2≠.cell)(hfree:∀y∈scope.names,y.2=.free->X.env.scope.names.lookup y.1=some .cell\/X.env.scope.names.lookup y.1=some .free):∃cl,Clos X scope cl:=by
 have hc:∀y∈scope.names,y.2=.free->∃c,X.env.cells.lookup y.1=some c:=λy hy hf=>ok.has y.1 (hfree y hy hf);refine⟨Gj X.env.cells scope.names [],⟨?_,λx c h=>?_,λx h=>?_⟩⟩
 .have:=dO (env:=X.env) scope.names [] hc
  unfold closureFor
  simp_all
 .rcases Ky (Hk h)with z |⟨z1,z2⟩
  all_goals grind
 .have hm : (x,GT)∈scope.names:= by
   have key:∀kd,(FU scope X.env).names.lookup x=some kd->(kd=.cell\/kd=.free)->(x,GT)∈scope.names:=λkd hl hkd=>by
    have hm:=Hk hl;unfold FU at hm
    grind
   grind
  obtain⟨c,hc'⟩:=Kz (cells:=X.env.cells) (names:=scope.names) (cs:=[]) (x:=x) (.inl hm);exact Ke hc'
def okComp(N:List Str)(sc scope:Scope)(xs capN:List Str)(cap:List Nat):Bool:=
 decide (scope.kind=.function)&&scope.names.all (λy=>decide (y.2≠.cell))&&scope.names.all (λy=>decide (y.2=.local->scope.names.lookup y.1=some .local)) &&
 scope.names.all (λy=>decide (y.2=.free->sc.names.lookup y.1=some .cell\/sc.names.lookup y.1=some .free))&&decide (cap.map (λj=>N[j]?)=capN.map some) &&
 capN.all (λx=>decide ((Fc scope sc).names.lookup x=some .cell\/(Fc scope sc).names.lookup x=some .free))&&capN.all (λx=>decide (sc.names.lookup x=some .cell\/sc.names.lookup x=some .free)) &&
 decide ((xs++capN).Nodup)&&xs.all (λx=>decide ((Fc scope sc).names.lookup x=some .local))&&decide (cap.Nodup)
section
variable {P:o9}{w:x8}{K:i5}{mg:Str->Option g9}{base:BL}{X:Cx}{N:List Str}{sc:Scope}{k:Nat}{df:Bool}{E:EK}{pos px:Pos}{a c elt iter:Expr}{ifs:List Expr}{f g el:Dn->Res f8}{src:Dn->Res (List f8)}{tt:Dn->Res Bool}{scope:Scope}{capN:List Str}{cap:List Nat}
structure CompOk(N:List Str)(sc scope:Scope)(xs capN:List Str)(cap:List Nat):Prop where
 h1:scope.kind=.function
 h2:∀y∈scope.names,y.2≠.cell
 h3:∀y∈scope.names,y.2=.local->scope.names.lookup y.1=some .local
 h4:∀y∈scope.names,y.2=.free->sc.names.lookup y.1=some .cell\/sc.names.lookup y.1=some .free
 h5:cap.map (λj=>N[j]?)=capN.map some
 h6:∀x∈capN,(Fc scope sc).names.lookup x=some .cell\/(Fc scope sc).names.lookup x=some .free
 h7:∀x∈capN,sc.names.lookup x=some .cell\/sc.names.lookup x=some .free
 h8:(xs++capN).Nodup
 h9:∀x∈xs,(Fc scope sc).names.lookup x=some .local
 h10:cap.Nodup
def okComp.ok{xs:List Str}(h:okComp N sc scope xs capN cap=true):CompOk N sc scope xs capN cap:=by
 unfold okComp at h;simp only[x3,EZ,decide_eq_true_eq]at h;obtain⟨⟨⟨⟨⟨⟨⟨⟨⟨h1,h2⟩,h3⟩,h4⟩,h5⟩,h6⟩,h7⟩,h8⟩,h9⟩,h10⟩:=h;exact⟨h1,h2,h3,h4,h5,h6,h7,h8,h9,h10⟩
def Ak{xs:List Str}(C:Cxt P w K mg base X N sc k df)(h:CompOk N sc scope xs capN cap)(ok:X.Ok):CompFacts X scope xs capN cap:=by
 refine⟨h.h1,h.h2,h.h3,wA ok h.h2 λy hy hf=>?_,by rw[C.hN];exact h.h5,λx hx=>?_,λx hx=>?_⟩
 .rw[C.hs];exact h.h4 y hy hf
 .rw[iA C.hs];exact h.h6 x hx
 .rw[C.hs];exact h.h7 x hx
abbrev DTs(X:Cx)(E:EK)(ifs:List Expr)(f:Dn->Res Bool):Prop:=PTs X ifs (tT E f)
def M5:Dn->Res Bool:=λ_=>.ok true
def Ch:DTs X E [] M5:=λpins s σ H Q I hZ6=>by obtain⟨G,δ,S,a⟩:=hZ6;exact tG pins s σ H Q I (a G H (Grow.refl S.sub))
def Y3(h:DT X E c tt):DTs X E [c] tt:=sZ h
def P6{x:Str}(C:Cxt P w K mg base X N sc k df)(cap:List Nat)(capN:List Str)(ho:okComp N sc scope [x] capN cap=true)(hi:DI X E (.Name x px) iter src)
 (ht:∀X',Cxt P w K mg base X' ([x]++capN) (Fc scope sc) k false->DTs X' E0k ifs tt) (he:∀X',Cxt P w K mg base X' ([x]++capN) (Fc scope sc) k false->DE X' E0k elt el)
 (hs:∀x,CB iter X.env x=pure x:=by intro _;rfl):DF X E (.ListComp elt [⟨.Name x px,iter,ifs,0⟩] scope pos) (G6 src F7 cap tt el):=by
 have o:=okComp.ok ho;refine PE.imp (iG (g:=O1 0) C.calm (Ak C o) hi (λX' B=>?_) (λX' B=>ht X' (C.blk B)) (λX' B=>he X' (C.blk B)) hs) λσ H Q h=>Jc (m:=1) rfl o.h10 AL h;have C':=C.blk B;have hl:X'.env.scope.names.lookup x=some .local:=by rw[C'.hs];exact o.h9 x (by simp)
 exact O8 (by rw[C'.hN];exact o.h8) (by rw[C'.hN];rfl) (.inl hl) (.inr hl)
end
inductive Out where
 |nx (δ:Dn)
 |rt (d:f8)
 |bk (δ:Dn)
 |ct (δ:Dn)
 |exc (c:Str)
 |no
structure SSt(G0 H0 G H:Hp)(σ:St)(δ:Dn):Prop where
 gr:Grow G0 H0 G H
 sr:SR G H σ δ
 fr:∀(i:Nat) (d:f8) (a:i9),δ[i]?=some (.ow d)->σ[i]?.join=some (.ref a)->H0 a=none
theorem SSt.grow{G0 H0 G H G' H':Hp}{σ:St}{δ:Dn}(S:SSt G0 H0 G H σ δ)(g:Grow G H G' H'):SSt G0 H0 G' H' σ δ:=⟨S.gr.trans g,S.sr.grow g,S.fr⟩
def Jp(E:EK)(G0 H0:Hp)(o:Out)(D:Ends):Prop:=match o with
 |.nx δ=>∀σ G H,SSt G0 H0 G H σ δ->D.nx σ H
 |.rt d=>∀v G H,Grow G0 H0 G H->Rep G d v->D.rt v H
 |.bk δ=>∀σ G H,SSt G0 H0 G H σ δ->D.bk σ H
 |.ct δ=>∀σ G H,SSt G0 H0 G H σ δ->D.ct σ H
 |.exc c=>∀G H,Grow G0 H0 G H->E c H
 |.no=>False
def tS(E:EK)(G0 H0:Hp)(g:Dn->Out):TS:=λD σ H=>∃G δ,SSt G0 H0 G H σ δ/\Jp E G0 H0 (g δ) D
def DS(X:Cx)(E:EK)(st:GC)(g:Dn->Out):Prop:=∀G0 H0,PS X st (tS E G0 H0 g)
def DSs(X:Cx)(E:EK)(st:List GC)(g:Dn->Out):Prop:=∀G0 H0,PSs X st (tS E G0 H0 g)
def PS.imp{X:Cx}{st:GC}{t t':TS}(h:PS X st t)(i:∀D σ H,t' D σ H->t D σ H):PS X st t':=λpins s σ H D I q=>h pins s σ H D I (i _ _ _ q)
def PSs.imp{X:Cx}{st:List GC}{t t':TS}(h:PSs X st t)(i:∀D σ H,t' D σ H->t D σ H):PSs X st t':=λpins s σ H D I q=>h pins s σ H D I (i _ _ _ q)
noncomputable def K1{α:Type}(r:Res α)(k:α->Out):Out:=match r with
 |.ok a=>k a
 |.exc c=>.exc c
 |.no=>.no
def Lc{E:EK}{G0 H0 G H:Hp}{σ:St}{δ:Dn}{f:Dn->Res f8}{k:f8->Out}{D:Ends}{R:VK}(S:SSt G0 H0 G H σ δ)(a:Jp E G0 H0 (K1 (f δ) k) D)
 (h:∀d v G1 H1,Grow G H G1 H1->Rep G1 d v->SSt G0 H0 G1 H1 σ δ->Jp E G0 H0 (k d) D->R v H1):tD E f σ H R:=by
 refine⟨G,δ,S.sr,?_⟩;cases e:f δ with
 |ok d=>rw[e]at a;exact λv G' H' g r=>h d v G' H' g r (S.grow g) a
 |exc c=>rw[e]at a;exact λG' H' g=>a G' H' (S.gr.trans g)
 |no=>rw[e]at a;exact a
def gS{E:EK}{G0 H0 G H:Hp}{σ:St}{δ:Dn}{f:Dn->Res (List f8)}{k:List f8->Out}{D:Ends}{R:VK}(S:SSt G0 H0 G H σ δ)(a:Jp E G0 H0 (K1 (f δ) k) D)
 (h:∀ds p xs G1 H1,Grow G H G1 H1->H p=none->G1 p=none->H1 p=some (.lst xs)->RepL G1 ds xs->SSt G0 H0 G1 H1 σ δ->Jp E G0 H0 (k ds) D->R (.ref p) H1):tF E f σ H R:=by
 refine⟨G,δ,S.sr,?_⟩;cases e:f δ with
 |ok d=>rw[e]at a;exact λp xs G' H' g q1 q2 q3 q4=>h d p xs G' H' g q1 q2 q3 q4 (S.grow g) a
 |exc c=>rw[e]at a;exact λG' H' g=>a G' H' (S.gr.trans g)
 |no=>rw[e]at a;exact a
def rQ{E:EK}{G0 H0 G H:Hp}{σ:St}{δ:Dn}{f:Dn->Res Bool}{k:Bool->Out}{D:Ends}{R:Bool->Hp->Prop}(S:SSt G0 H0 G H σ δ)(a:Jp E G0 H0 (K1 (f δ) k) D)
 (h:∀d G1 H1,Grow G H G1 H1->SSt G0 H0 G1 H1 σ δ->Jp E G0 H0 (k d) D->R d H1):tT E f σ H R:=by
 refine⟨G,δ,S.sr,?_⟩;cases e:f δ with
 |ok d=>rw[e]at a;exact λG' H' g=>h d G' H' g (S.grow g) a
 |exc c=>rw[e]at a;exact λG' H' g=>a G' H' (S.gr.trans g)
 |no=>rw[e]at a;exact a
def gR{E:EK}{G0 H0 G H:Hp}{σ:St}{δ:Dn}{f:Dn->Res (List f8)}{k:List f8->Out}{D:Ends}{R:It->Hp->Prop}(S:SSt G0 H0 G H σ δ)(a:Jp E G0 H0 (K1 (f δ) k) D)
 (h:∀ds J G1 H1,Grow G H G1 H1->Walk J G1 ds->SSt G0 H0 G1 H1 σ δ->Jp E G0 H0 (k ds) D->R J H1):tI E f σ H R:=by
 refine⟨G,δ,S.sr,?_⟩;cases e:f δ with
 |ok d=>rw[e]at a;exact λJ G' H' g q=>h d J G' H' g q (S.grow g) a
 |exc c=>rw[e]at a;exact λG' H' g=>a G' H' (S.gr.trans g)
 |no=>rw[e]at a;exact a
def E7{α:Type}{l:List α}{i j:Nat}{v:α}:(l.set i v)[j]?=if i=j/\i<l.length then some v else l[j]?:=by
 grind
def SSt.set_sh{G0 H0 G H:Hp}{σ:St}{δ:Dn}(S:SSt G0 H0 G H σ δ){i:Nat}{v:V}{d:f8}(r:Rep G d v):SSt G0 H0 G H (σ.set i (some v)) (δ.set i (.sh d)):=by
 have hl:=S.sr.len;have key:∀(j:Nat) (d':f8),(δ.set i (.sh d))[j]?=some (.ow d')->(σ.set i (some v))[j]?=σ[j]?/\δ[j]?=some (.ow d'):=λj d' e=>by
  grind
 refine⟨S.gr,⟨S.sr.sub,by simp[hl],λj s e=>?_,λj1 j2 a d1 d2 e1 e2 h1 h2=>?_⟩,λj d' a e h=>?_⟩
 .rw[E7]at e ⊢
  rw[hl];split at e
  .rename_i hc;cases e;rw[iq hc];exact⟨v,rfl,r⟩
  .rename_i hc;rw[ir hc];exact S.sr.sl j s e
 .obtain⟨k1,o1⟩:=key j1 d1 e1
  obtain⟨k2,o2⟩:=key j2 d2 e2;rw[k1]at h1;rw[k2]at h2;exact S.sr.ap j1 j2 a d1 d2 o1 o2 h1 h2
 .obtain⟨k1,o1⟩:=key j d' e
  rw[k1]at h;exact S.fr j d' a o1 h
def SSt.set_ow{G0 H0 G H:Hp}{σ:St}{δ:Dn}(S:SSt G0 H0 G H σ δ){i:Nat}{p:i9}{d:f8}(h0:H0 p=none)(hg:G p=none)(ho:OwnOk G H p d)(hf:∀(j:Nat) d',δ[j]?=some (.ow d')->σ[j]?.join≠some (.ref p)):SSt G0 H0 G H (σ.set i (some (.ref p))) (δ.set i (.ow d)):=by
 have hl:=S.sr.len;have key:∀(j:Nat) (d':f8),(δ.set i (.ow d))[j]?=some (.ow d')->(i=j/\i<δ.length/\d'=d/\(σ.set i (some (.ref p)))[j]?=some (some (.ref p)))\/((σ.set i (some (.ref p)))[j]?=σ[j]?/\δ[j]?=some (.ow d')):=λj d' e=>by
  grind
 refine⟨S.gr,⟨S.sr.sub,by simp[hl],λj s e=>?_,λj1 j2 a d1 d2 e1 e2 h1 h2=>?_⟩,λj d' a e h=>?_⟩
 .rw[E7]at e ⊢
  rw[hl];split at e
  .rename_i hc;cases e;rw[iq hc];exact⟨p,rfl,hg,ho⟩
  .rename_i hc;rw[ir hc];exact S.sr.sl j s e
 .rcases key j1 d1 e1 with⟨a1,b1,_,c1⟩ |⟨k1,o1⟩
  .grind
  .rcases key j2 d2 e2 with⟨a2,b2,_,c2⟩ |⟨k2,o2⟩
   .simp_all
   .rw[k1]at h1;rw[k2]at h2
    exact S.sr.ap j1 j2 a d1 d2 o1 o2 h1 h2
 .rcases key j d' e with⟨a1,b1,_,c1⟩ |⟨k1,o1⟩
  .simp_all
  .rw[k1]at h;exact S.fr j d' a o1 h
def SSt.write{G0 H0 G H:Hp}{σ:St}{δ:Dn}(S:SSt G0 H0 G H σ δ){i:Nat}{p:i9}{d d':f8}{o:HO}(hi:δ[i]?=some (.ow d))(hp:σ[i]?.join=some (.ref p))(hg:G p=none)(ho:OwnOk G (upd H p o) p d'):SSt G0 H0 G (upd H p o) σ (δ.set i (.ow d')):=by
 have h0:=S.fr i d p hi hp;have hil:i<δ.length:=(x4.mp hi).1;have hsub:Same G (upd H p o):=λb u e=>by rw[B7 (D9 e hg)];exact S.sr.sub _ _ e
 have key:∀(j:Nat) (e:f8),(δ.set i (.ow d'))[j]?=some (.ow e)->∃e',δ[j]?=some (.ow e'):=λj e h=>by
  grind
 refine⟨⟨S.gr.g,λb u e=>by rw[B7 (D9 e h0)];exact S.gr.h _ _ e,hsub,S.gr.fr⟩,⟨hsub,by simp[S.sr.len],λj s e=>?_,λj1 j2 a d1 d2 e1 e2 h1 h2=>?_⟩,λj e a h1 h2=>?_⟩
 .rw[E7]at e
  split at e
  .rename_i hc;cases e;rw[<-hc.1];exact⟨p,hp,hg,ho⟩
  .rename_i hc
   have hs:=S.sr.sl j s e;cases s with
   |un=>trivial
   |sh d=>exact hs
   |fd _=>exact hs
   |ow d2=>
    obtain⟨a,e1,n1,ok⟩:=hs;refine⟨a,e1,n1,?_⟩;have hne:a≠p:=by
     rintro rfl;exact hc ⟨S.sr.ap i j a d d2 hi e hp e1,hil⟩
    cases d2 with
    |list ds=>obtain⟨xs,q,r⟩:=ok;exact⟨xs,by rw[B7 hne];exact q,r⟩
    |dict kvs=>obtain⟨xs,q,r⟩:=ok;exact⟨xs,by rw[B7 hne];exact q,r⟩
    |tuple xs=>exact OwnK.keep (Same.refl _) (λo q=>by rw[B7 hne];exact q) ok
    |_=>exact(show False from ok).elim
 .obtain⟨e1',o1⟩:=key j1 d1 e1
  obtain⟨e2',o2⟩:=key j2 d2 e2;exact S.sr.ap j1 j2 a _ _ o1 o2 h1 h2
 .obtain⟨e',o1⟩:=key j e h1
  exact S.fr j e' a o1 h2
def fz(i:Nat)(δ:Dn):Dn:=match δ[i]? with
 |some (.ow (.list ds))=>δ.set i (.sh (.list ds))
 |_=>δ
theorem SSt.fz{G0 H0 G H:Hp}{σ:St}{δ:Dn}(S:SSt G0 H0 G H σ δ)(i:Nat):∃G',SSt G0 H0 G' H σ (fz i δ):=by
 unfold Sm.fz;split
 .rename_i ds hi
  obtain⟨p,hp,hg,xs,hx,r⟩:=S.sr.sl i _ hi;have h0:=S.fr i _ p hi hp;have g:Grow G0 H0 (upd G p (.lst xs)) H:=S.gr.share h0 hg hx;have hv:σ[i]?=some (some (.ref p)):=by
   grind
  have key:∀(j:Nat) (d':f8),(δ.set i (.sh (.list ds)))[j]?=some (.ow d')->δ[j]?=some (.ow d')/\j≠i:=λj d' e=>by
   grind
  refine⟨_,g,⟨g.gh,by simp[S.sr.len],λj s e=>?_,λj1 j2 a d1 d2 e1 e2 h1 h2=>S.sr.ap j1 j2 a d1 d2 (key j1 d1 e1).1 (key j2 d2 e2).1 h1 h2⟩,λj d' a e h=>S.fr j d' a (key j d' e).1 h⟩;have sm:Same G (upd G p (.lst xs)):=Same.upd hg;by_cases hj:i=j/\i<δ.length
  .rw[E7,iq hj]at e
   cases e;rw[<-hj.1,hv];exact⟨_,rfl,p,xs,rfl,.inl C8,r.mono sm⟩
  .have e2:=e
   rw[E7,ir hj]at e2;have hs:=S.sr.sl j s e2;cases s with
   |un=>trivial
   |sh d=>obtain⟨v,e1,r1⟩:=hs;exact⟨v,e1,r1.mono sm⟩
   |fd _=>exact FdOk.mono sm hs
   |ow d2=>
    obtain⟨a,e1,n1,ok⟩:=hs;have hne:a≠p:=by
     rintro rfl;exact(key j d2 e).2 (S.sr.ap j i a d2 _ e2 hi e1 hp)
    refine⟨a,e1,by rw[B7 hne];exact n1,?_⟩;cases d2 with
    |list ds=>obtain⟨xs,q,r⟩:=ok;exact⟨xs,q,r.mono sm⟩
    |dict kvs=>obtain⟨xs,q,k,r⟩:=ok;exact⟨xs,q,k,r.mono sm⟩
    |tuple xs=>exact OwnK.keep sm (λo q=>q) ok
    |_=>exact(show False from ok).elim
 grind
section
variable {P:o9}{w:x8}{K:i5}{mg:Str->Option g9}{base:BL}{X:Cx}{N:List Str}{sc:Scope}{k:Nat}{df:Bool}{E:EK}{pos p px py:Pos}{a b c e elt iter:Expr}{ifs:List Expr}{f g el:Dn->Res f8}{fs src:Dn->Res (List f8)}{tt:Dn->Res Bool}{scope:Scope}{capN:List Str}{cap:List Nat}{st:GC}{sts sts':List GC}{g1 g2:Dn->Out}
def F8:Dn->Out:=λδ=>.nx δ
def C5(g1 g2:Dn->Out):Dn->Out:=λδ=>match g1 δ with
 |.nx δ'=>g2 δ'
 |o=>o
def L7:DSs X E [] F8:=λG0 H0=>PSs.imp Zb λD σ H hZ3=>by obtain⟨G,δ,S,a⟩:=hZ3;exact a σ G H S
def B0(h1:DS X E st g1)(h2:DSs X E sts g2):DSs X E (st::sts) (C5 g1 g2):=λG0 H0=>by
 refine PSs.imp (Lu (h1 G0 H0) (h2 G0 H0)) λD σ H hY59=>?_;obtain⟨G,δ,S,a⟩:=hY59;refine⟨G,δ,S,?_⟩;unfold C5 at a;cases e:g1 δ with
 |nx δ'=>rw[e]at a;exact λσ' G' H' S'=>⟨G',δ',S',a⟩
 |rt d=>rw[e]at a;exact a
 |bk d=>rw[e]at a;exact a
 |ct d=>rw[e]at a;exact a
 |exc d=>rw[e]at a;exact a
 |no=>rw[e]at a;exact a
def B8(h1:DS X E st g1):DSs X E [st] g1:=λG0 H0=>Gd (h1 G0 H0)
def sFz(i:Nat)(g:Dn->Out):Dn->Out:=λδ=>g (fz i δ)
def fA(i:Nat)(h:DS X E st g1):DS X E st (sFz i g1):=λG0 H0=>PS.imp (h G0 H0) λD σ H hZ3=>by
 obtain⟨G,δ,S,a⟩:=hZ3;obtain⟨G',S'⟩:=S.fz i;exact⟨G',_,S',a⟩
def L5(f:Dn->Res f8):Dn->Out:=λδ=>K1 (f δ) .rt
def I9(h:DE X E e f):DS X E (.Return (some e) pos) (L5 f):=λG0 H0=>PS.imp (Zc h) λD σ H ⟨G,δ,S,a⟩=>
 Lc S a λd v G1 H1 g1 r1 S1 a1=>a1 v G1 H1 S1.gr r1
def sIf(c:Dn->Res Bool)(g1 g2:Dn->Out):Dn->Out:=λδ=>K1 (c δ) λb=>if b=true then g1 δ else g2 δ
def Y7(hc:DT X E c tt)(h1:DSs X E sts g1)(h2:DSs X E sts' g2):DS X E (.If c sts sts' pos) (sIf tt g1 g2):=λG0 H0=>PS.imp (oM hc (h1 G0 H0) (h2 G0 H0)) λD σ H ⟨G,δ,S,a⟩=>
 rQ S a λd G1 H1 g1 S1 a1=>by
  cases d with
  |true=>rw[iq rfl];exact⟨G1,δ,S1,a1⟩
  |false=>rw[ir (by decide)];exact⟨G1,δ,S1,a1⟩
noncomputable def okSet(N:List Str)(sc:Scope)(df:Bool)(i:Nat)(x:Str):Bool:=decide (N.Nodup)&&decide (N[i]?=some x)&&(decide (sc.names.lookup x=some .local)||(decide (sc.names.lookup x=some .cell)&&df))
def okSet.ok(C:Cxt P w K mg base X N sc k df){i:Nat}{x:Str}(h:okSet N sc df i x=true):X.N.Nodup/\X.N[i]?=some x/\Loc X.env.scope x/\(X.fn x=true\/X.env.scope.names.lookup x=some .local):=by
 unfold okSet at h;simp only[x3,NN,decide_eq_true_eq]at h;obtain⟨⟨h1,h2⟩,h3⟩:=h;rw[C.hN];refine⟨h1,h2,?_⟩;unfold L2.Loc;rw[C.hs];rcases h3 with h3 |⟨h3,h4⟩
 .lia
 .exact⟨.inr h3,.inl (C.fn h4 x)⟩
def E4(i:Nat)(f:Dn->Res f8):Dn->Out:=λδ=>K1 (f δ) λd=>.nx (δ.set i (.sh d))
def F5{x:Str}(C:Cxt P w K mg base X N sc k df)(i:Nat)(ho:okSet N sc df i x=true)(h:DE X E e f)(hs:FT e (some (.Name x p)) pos.line X.env=pure false:=by rfl):DS X E (.Assign [.Name x p] e pos) (E4 i f):=λG0 H0=>by
 obtain⟨h1,h2,h3,h4⟩:=okSet.ok C ho;exact PS.imp (Mv h1 h2 h3 h hs h4) λD σ H hZ3=>by obtain⟨G,δ,S,a⟩:=hZ3;exact Lc S a λd v G1 H1 g1 r1 S1 a1=>a1 _ G1 H1 (S1.set_sh r1)
def Kv{G0 H0 G H:Hp}{σ:St}{δ:Dn}(S:SSt G0 H0 G H σ δ){p:i9}(hp:H p=none)(j:Nat)(d':f8)(e:δ[j]?=some (.ow d')):σ[j]?.join≠some (.ref p):=λz=>by
 obtain⟨a,e1,_,ok⟩:=S.sr.sl j _ e;rw[e1]at z;cases z;obtain⟨o,q⟩:=ok.some;lia
def Lo(i:Nat)(f:Dn->Res (List f8)):Dn->Out:=λδ=>K1 (f δ) λds=>.nx (δ.set i (.ow (.list ds)))
def iI{G0 H0:Hp}{D:Ends}{σ:St}{H:Hp}{i:Nat}(h:tS E G0 H0 (Lo i fs) D σ H):tF E fs σ H λv H1=>D.nx (σ.set i (some v)) H1:=by
 obtain⟨G,δ,S,a⟩:=h;refine gS S a λds p xs G1 H1 g1 q1 q2 q3 q4 S1 a1=>?_;exact a1 _ G1 H1 (S1.set_ow (S.gr.h.free q1) q2 ⟨xs,q3,q4⟩ (Kv S q1))
def Sj{x:Str}(C:Cxt P w K mg base X N sc k df)(i:Nat)(ho:okSet N sc df i x=true)(h:DF X E e fs)(hs:FT e (some (.Name x p)) pos.line X.env=pure false:=by rfl):DS X E (.Assign [.Name x p] e pos) (Lo i fs):=λG0 H0=>by
 obtain⟨h1,h2,h3,h4⟩:=okSet.ok C ho;exact PS.imp (Mv h1 h2 h3 h hs h4) λD σ H q=>iI q
noncomputable def Et(sc scope:Scope)(x:Str)(l1 l2:Nat):Bool:=decide (sc.kind=.function)&&decide (sc.names.lookup x=some .local)&&decide (l1=l2)&&!(scope.names.any λ(n,kd)=>n==x&&(kd==.local||kd==.cell))
def Jd{x:Str}{elt:Expr}{gens:List Comprehension}{ln:Nat}(C:Cxt P w K mg base X N sc k df)(h:Et sc scope x p.line pos.line=true):FT (.ListComp elt gens scope pos) (some (.Name x p)) ln X.env=pure true:=by
 unfold Et at h;simp only[x3,decide_eq_true_eq]at h;obtain⟨⟨⟨h1,h2⟩,h3⟩,h4⟩:=h;unfold FT;show pure (X.env.blockKind==.function&&X.env.kindOf x==some .local&&p.line==pos.line&&!(scope.names.any λ(n,kd)=>n==x&&(kd==.local||kd==.cell)))=_;have e1:X.env.blockKind=.function:=by unfold Env.blockKind;rw[C.hs,h1];rfl
 have e2:X.env.kindOf x=some .local:=by show X.env.scope.names.lookup x=_;rw[C.hs];exact h2
 lia
section
variable {x y:Str}{i:Nat}{py spos:Pos}
def eW(C:Cxt P w K mg base X N sc k df)(i:Nat)(hset:okSet N sc df i y=true)(hsw:Et sc scope y py.line pos.line=true)(cap:List Nat)(capN:List Str)(ho:okComp N sc scope [x] capN cap=true)(hi:DI X E (.Name x px) iter src)
 (ht:∀X',Cxt P w K mg base X' ([x]++capN) (Fc scope sc) k false->DTs X' E0k ifs tt) (he:∀X',Cxt P w K mg base X' ([x]++capN) (Fc scope sc) k false->DE X' E0k elt el)
 (hs:∀x,CB iter X.env x=pure x:=by intro _;rfl):DS X E (.Assign [.Name y py] (.ListComp elt [⟨.Name x px,iter,ifs,0⟩] scope pos) spos) (Lo i (G6 src F7 cap tt el)):=λG0 H0=>by
 obtain⟨h1,h2,h3,h4⟩:=okSet.ok C hset;have o:=okComp.ok ho;have hl:X.env.scope.names.lookup y=some .local:=by
  rw[C.hs];unfold Et at hsw;lia
 refine PS.imp (Ge (g:=O1 0) C.calm (Ak C o) hi (λX' B=>?_) (λX' B=>ht X' (C.blk B)) (λX' B=>he X' (C.blk B)) h1 h2 hl (Jd C hsw) hs) λD σ H h=>Jc (m:=1) rfl o.h10 AL (iI h);have C':=C.blk B;have hl:X'.env.scope.names.lookup x=some .local:=by rw[C'.hs];exact o.h9 x (by simp)
 exact O8 (by rw[C'.hN];exact o.h8) (by rw[C'.hN];rfl) (.inl hl) (.inr hl)
def Ic(i:Nat)(f:Dn->Res (List f8)):Dn->Out:=λδ=>K1 (f δ) λds=>.nx (δ.set i (.sh (.list ds)))
def Zi{G0 H0:Hp}{D:Ends}{σ:St}{H:Hp}{i:Nat}(h:tS E G0 H0 (Ic i fs) D σ H):tF E fs σ H λv H1=>D.nx (σ.set i (some v)) H1:=by
 obtain⟨G,δ,S,a⟩:=h;refine gS S a λds p xs G1 H1 g1 q1 q2 q3 q4 S1 a1=>?_;exact a1 _ _ H1 ((S.grow (g1.share q1 q2 q3)).set_sh ⟨p,xs,rfl,.inl C8,q4.mono (Same.upd q2)⟩)
end
end
section
variable {P:o9}{w:x8}{K:i5}{mg:Str->Option g9}{base:BL}{X:Cx}{N:List Str}{sc:Scope}{k:Nat}{df:Bool}{E:EK}{pos p px py tp spos:Pos}{tg a b c e elt iter:Expr}{ifs:List Expr}{es:List Expr}{f g el:Dn->Res f8}{src:Dn->Res (List f8)}{tt:Dn->Res Bool}{scope:Scope}{capN:List Str}{cap:List Nat}{st:GC}{sts:List GC}{g1:Dn->Out}{x y:Str}{i:Nat}
def Fw(C:Cxt P w K mg base X N sc k df)(i:Nat)(hset:okSet N sc df i y=true)(hsw:Et sc scope y py.line pos.line=true)(cap:List Nat)(capN:List Str)(ho:okComp N sc scope [x] capN cap=true)(hi:DI X E (.Name x px) iter src)
 (ht:∀X',Cxt P w K mg base X' ([x]++capN) (Fc scope sc) k false->DTs X' E0k ifs tt) (he:∀X',Cxt P w K mg base X' ([x]++capN) (Fc scope sc) k false->DE X' E0k elt el)
 (hs:∀x,CB iter X.env x=pure x:=by intro _;rfl):DS X E (.Assign [.Name y py] (.ListComp elt [⟨.Name x px,iter,ifs,0⟩] scope pos) spos) (Ic i (G6 src F7 cap tt el)):=λG0 H0=>by
 obtain⟨h1,h2,h3,h4⟩:=okSet.ok C hset;have o:=okComp.ok ho;have hl:X.env.scope.names.lookup y=some .local:=by
  rw[C.hs];unfold Et at hsw;lia
 refine PS.imp (Ge (g:=O1 0) C.calm (Ak C o) hi (λX' B=>?_) (λX' B=>ht X' (C.blk B)) (λX' B=>he X' (C.blk B)) h1 h2 hl (Jd C hsw) hs) λD σ H h=>Jc (m:=1) rfl o.h10 AL (Zi h);have C':=C.blk B;have hl:X'.env.scope.names.lookup x=some .local:=by rw[C'.hs];exact o.h9 x (by simp)
 exact O8 (by rw[C'.hN];exact o.h8) (by rw[C'.hN];rfl) (.inl hl) (.inr hl)
def eZ{x1:Nat}{x2:Str}(C:Cxt P w K mg base X N sc k df)(i:Nat)(hset:okSet N sc df i y=true)(hsw:Et sc scope y py.line pos.line=true)(cap:List Nat)(capN:List Str)(ho:okComp N sc scope [x,x2] capN cap=true)(hi:DI X E (.Tuple [.Name x px,.Name x2 p] x1 tp) iter src)
 (ht:∀X',Cxt P w K mg base X' ([x,x2]++capN) (Fc scope sc) k false->DTs X' E0k ifs tt) (he:∀X',Cxt P w K mg base X' ([x,x2]++capN) (Fc scope sc) k false->DE X' E0k elt el)
 (hs:∀x,CB iter X.env x=pure x:=by intro _;rfl):DS X E (.Assign [.Name y py] (.ListComp elt [⟨.Tuple [.Name x px,.Name x2 p] x1 tp,iter,ifs,0⟩] scope pos) spos) (Ic i (G6 src Oc cap tt el)):=λG0 H0=>by
 obtain⟨h1,h2,h3,h4⟩:=okSet.ok C hset;have o:=okComp.ok ho;have hl:X.env.scope.names.lookup y=some .local:=by
  rw[C.hs];unfold Et at hsw;lia
 refine PS.imp (Ge (g:=fU K 2 (Ax (O1 0) (Ax (O1 1) fV))) C.calm (Ak C o) hi (λX' B=>?_) (λX' B=>ht X' (C.blk B)) (λX' B=>he X' (C.blk B)) h1 h2 hl (Jd C hsw) hs) λD σ H h=>Jc (m:=2) rfl o.h10 gok2 (Zi h);have C':=C.blk B;have hl:X'.env.scope.names.lookup x=some .local:=by rw[C'.hs];exact o.h9 x (by simp)
 have hl2:X'.env.scope.names.lookup x2=some .local:=by rw[C'.hs];exact o.h9 x2 (by simp)
 have nd:X'.N.Nodup:=by rw[C'.hN];exact o.h8
 have p1:PG X' (.Name x px) (O1 0):=O8 nd (by rw[C'.hN];rfl) (.inl hl) (.inr hl);have p2:PG X' (.Name x2 p) (O1 1):=O8 nd (by rw[C'.hN];rfl) (.inl hl2) (.inr hl2);have:=Zd (n:=2) (k:=x1) (pos:=tp) C'.calm (U9 p1 (U9 p2 Qi));rw[C'.hK]at this;exact this
def Dj(i:Nat)(f:Dn->Res f8):Dn->Out:=λδ=>match δ[i]? with
 |some (.ow (.list ds))=>K1 (f δ) λd=>if ds.length<sizeLine then .nx (δ.set i (.ow (.list (ds++[d])))) else .no
 |_=>.no
def Nx{cpos apos:Pos}(C:Cxt P w K mg base X N sc k df)(i:Nat)(h:okVar N sc i x=true)(ha:DE X E a f)
 (hbase:FK (.Name x p) "append" X.env (eval (.Name x p) X.env)=eval (.Name x p) X.env:=by rfl)
 (hfew:((CD cpos (i8 [a] X.env)).all (λx=>!x.1)&&(HY cpos (FL [] X.env)).all (λx=>x.1.isSome)
  && decide ([a].length+([]:List GX).length+(if ([]:List GX).isEmpty then 0 else 1)<30))=true:=by rfl)
 (hline:(apos.endLine==cpos.line)=true:=by rfl) (hs:i8 [a] X.env=(false,eval a X.env)::i8 [] X.env:=by rfl) (hplain:(CD cpos (i8 [] X.env)).any (·.1)=false:=by rfl)
 (hsw:FT (.Call (.Attribute (.Name x p) "append" apos) [a] [] cpos) none pos.line X.env=pure false:=by rfl):
 DS X E (.Expr (.Call (.Attribute (.Name x p) "append" apos) [a] [] cpos) pos) (Dj i f):=λG0 H0=>by
 have hv:PE X (.Name x p) (Us i):=by
  unfold okVar at h;simp only[x3,DQ]at h;obtain⟨⟨⟨h1,h2⟩,h3⟩,h4⟩:=h;refine Ko (by rw[C.hN];lia) ?_ h3 h4;rw[C.hs];unfold Vis;lia
 refine PS.imp (Qg (Lx DP JU JT Jg hv (E8 ha N0 hs) hbase hfew hline hs hplain) hsw) λD σ H hZ3=>?_;obtain⟨G,δ,S,aft⟩:=hZ3;unfold Dj at aft;split at aft
 .rename_i ds hi
  obtain⟨q,hq,hg,xs,hx,rl⟩:=S.sr.sl i _ hi;have hσ:σ[i]?=some (some (.ref q)):=by
   grind
  refine⟨.ref q,hσ,.inl ⟨rfl,xs,.inl (.inl hx)⟩,?_⟩;refine Lc S aft λd v G1 H1 g1 r1 S1 a1=>?_;split at a1
  .rename_i hz
   have hx1:H1 q=some (.lst xs):=g1.h _ _ hx;obtain⟨q',hq',hg',_⟩:=S1.sr.sl i _ hi;rw[hq]at hq';cases hq';refine⟨q,xs,v,rfl,rfl,hx1,by rw[<-rl.length];exact hz,?_⟩;exact a1 σ G1 _ (S1.write hi hq hg' ⟨xs++[v],C8,(rl.mono g1.g).append (RepL.cons r1 rfl)⟩)
  .exact a1.elim
 .exact aft.elim
noncomputable def E9(st:f8->Dn->Option Dn)(body:Dn->Out):List f8->Dn->Out
 |[],δ=>.nx δ
 |d::ds,δ=>match st d δ with
  |some δ1=>match body δ1 with
   |.nx δ'=>E9 st body ds δ'
   |.ct δ'=>E9 st body ds δ'
   |.bk δ'=>.nx δ'
   |o=>o
  |none=>.no
def K7(src:Dn->Res (List f8))(st:f8->Dn->Option Dn)(body:Dn->Out):Dn->Out:=λδ=>K1 (src δ) λds=>E9 st body ds δ
def st1(i:Nat):f8->Dn->Option Dn:=λd δ=>some (δ.set i (.sh d))
def st2(i j:Nat):f8->Dn->Option Dn:=λd δ=>match d with
 |.tuple [a,b]=>some ((δ.set i (.sh a)).set j (.sh b))
 |_=>none
def BG(K:i5)(g:TG)(st:f8->Dn->Option Dn):Prop:=∀(G0 H0 G H:Hp) (σ:St) (δ δ1:Dn) (d:f8) (x:V) (Q:St->Hp->Prop),SSt G0 H0 G H σ δ->Rep G d x->st d δ=some δ1->(∀σ',SSt G0 H0 G H σ' δ1->Q σ' H)->g x σ H Q
def tg1(i:Nat):BG K (O1 i) (st1 i):=λG0 H0 G H σ δ δ1 d x Q S r e h=>by cases e;exact h _ (S.set_sh r)
def SSt.rebase{G0 H0 G1 H1 G H:Hp}{σ:St}{δ:Dn}(g:Grow G0 H0 G1 H1)(S:SSt G0 H0 G H σ δ)(h:Same G1 G):SSt G1 H0 G H σ δ:=
 ⟨⟨h,S.gr.h,S.gr.gh,λb o e=>(S.gr.fr b o e).imp (λz=>g.g _ _ z) id⟩,S.sr,S.fr⟩
def Grow.unbase{G0 H0 G1 H1 G H:Hp}(g:Grow G0 H0 G1 H1)(h:Grow G1 H0 G H):Grow G0 H0 G H:=
 ⟨g.g.trans h.g,h.h,h.gh,λb o e=>(h.fr b o e).elim (λz=>g.fr b o z) .inr⟩
theorem SSt.unbase{G0 H0 G1 H1 G H:Hp}{σ:St}{δ:Dn}(g:Grow G0 H0 G1 H1)(S:SSt G1 H0 G H σ δ):SSt G0 H0 G H σ δ:=⟨g.unbase S.gr,S.sr,S.fr⟩
def nW{gt:TG}{st:f8->Dn->Option Dn}(C:Cxt P w K mg base X N sc k df)(hi:DI X E tg iter src)(hg:PG X tg gt)(ht:BG K gt st)(hb:DSs X E sts g1)(hs:∀x,CB iter X.env x=pure x):DS X E (.For tg iter sts [] pos) (K7 src st g1):=λG0 H0=>by
 have hb':PSs X sts (λD σ H=>∃Gb,tS E Gb H0 g1 D σ H):=λpins s σ H D I hZ6=>by obtain⟨Gb,q⟩:=hZ6;exact hb Gb H0 pins s σ H D I q
 refine PS.imp (fE C.own C.calm hi hg hb' hs) λD σ H hZ3=>?_;obtain⟨G,δ,S,aft⟩:=hZ3;refine gR S aft λds J G1 H1 gr W S1 a1=>?_;have g01:=S1.gr;refine⟨λi n σ' H'=>n=ds.length-i/\i<=ds.length/\∃G' δ',SSt G1 H0 G' H' σ' δ'/\Jp E G0 H0 (E9 st g1 (ds.drop i) δ') D,⟨_,rfl,ER _,G1,δ,S1.rebase g01 (Same.refl _),by rw[IN];exact a1⟩,?_⟩;rintro i n σ' H' ⟨rfl,hi,G',δ',S',a'⟩;by_cases hlt:i<ds.length
 .have hd:ds[i]?=some ds[i]:=BY hlt
  have hdrop:ds.drop i=ds[i]::ds.drop (i+1):=EA hlt;rw[hdrop]at a';unfold E9 at a';refine .inr ⟨W.go i H' hlt (S'.gr.g.trans S'.sr.sub),λσ2 H2=>∃G' δ',SSt G1 H0 G' H2 σ2 δ'/\Jp E G0 H0 (E9 st g1 (ds.drop (i+1)) δ') D,λσ2 H2 q=>⟨_,by omega,rfl,hlt,q⟩,λx H'' hy=>?_⟩;obtain⟨G3,g3,r3⟩:=W.yld i _ G' H' x H'' hd S'.gr.g S'.sr.sub hy;have S3:=S'.grow g3;cases es:st ds[i] δ' with
  |none=>rw[es]at a';exact a'.elim
  |some δ1=>
   rw[es]at a';refine ht G1 H0 G3 H'' σ' δ' δ1 _ x _ S3 r3 es λσ2 S4=>⟨G1,G3,δ1,S4,?_⟩;simp only at a';cases eo:g1 δ1 with
   |nx δ2=>rw[eo]at a';exact λσ3 G4 H4 S5=>⟨G4,δ2,S5,a'⟩
   |ct δ2=>rw[eo]at a';exact λσ3 G4 H4 S5=>⟨G4,δ2,S5,a'⟩
   |bk δ2=>rw[eo]at a';exact λσ3 G4 H4 S5=>a' σ3 G4 H4 (S5.unbase g01)
   |rt d=>rw[eo]at a';exact λv G4 H4 g r=>a' v G4 H4 (g01.unbase g) r
   |exc c=>rw[eo]at a';exact λG4 H4 g=>a' G4 H4 (g01.unbase g)
   |no=>rw[eo]at a';exact a'
 .refine .inl ⟨W.stop i H' (GD.mp hlt) (S'.gr.g.trans S'.sr.sub),?_⟩
  have:ds.drop i=[]:=FV (GD.mp hlt);rw[this]at a';exact a' σ' G' H' (S'.unbase g01)
def O7(C:Cxt P w K mg base X N sc k df)(i:Nat)(ho:okSet N sc df i x=true)(hi:DI X E (.Name x p) iter src)(hb:DSs X E sts g1)(hs:∀x,CB iter X.env x=pure x:=by intro _;rfl):DS X E (.For (.Name x p) iter sts [] pos) (K7 src (st1 i) g1):=by
 obtain⟨h1,h2,h3,h4⟩:=okSet.ok C ho;exact nW C hi (O8 h1 h2 h3 h4) (tg1 i) hb hs
end
section
variable {P:o9}{w:x8}{K:i5}{mg:Str->Option g9}{base:BL}{X:Cx}{N:List Str}{sc:Scope}{k:Nat}{df:Bool}{E:EK}{p:Pos}{a c e:Expr}{f g:Dn->Res f8}{x:Str}{i:Nat}
def okVar.pe(C:Cxt P w K mg base X N sc k df)(h:okVar N sc i x=true):PE X (.Name x p) (Us i):=by
 unfold okVar at h;simp only[x3,DQ]at h;obtain⟨⟨⟨h1,h2⟩,h3⟩,h4⟩:=h;refine Ko (by rw[C.hN];lia) ?_ h3 h4;rw[C.hs];unfold Vis;lia
def SR.own{G H:Hp}{σ:St}{δ:Dn}(S:SR G H σ δ){d:f8}(hi:δ[i]?=some (.ow d)):∃q,σ[i]?=some (some (.ref q))/\G q=none/\OwnOk G H q d:=by
 obtain⟨q,hq,hg,ok⟩:=S.sl i _ hi
 grind
def O3(N:List Str)(ds:List f8):Dn:=ds.map .sh++u6 (N.length-ds.length) .un
def fnD(N:List Str)(g:Dn->Out):List f8->Res f8:=λds=>match g (O3 N ds) with
 |.rt d=>.ok d
 |.nx _=>.ok .none
 |.exc c=>.exc c
 |_=>.no
def Lj{G H:Hp}(hG:Same G H){ds:List f8}{vs:List V}(r:RepL G ds vs)(N:List Str):SSt G H G H (Aq N vs) (O3 N ds):=by
 have hl:=r.length;have noow:∀(i:Nat) (d:f8),(O3 N ds)[i]?≠some (.ow d):=λi d e=>by
  unfold O3 at e
  grind
 refine⟨Grow.refl hG,⟨hG,by unfold L2.Aq O3;simp[hl],λi s e=>?_,λi j a d d' e _ _ _=>absurd e (noow i d)⟩,λi d a e _=>absurd e (noow i d)⟩;unfold O3 at e;by_cases hi:i<ds.length
 .rw[CT (by simp_all),BP]at e
  cases q:ds[i]? with
  |none=>simp_all
  |some z=>
   rw[q]at e;cases e;obtain⟨v,e1,rv⟩:=r.get q;unfold L2.Aq;rw[CT (by simp_all),BP,e1];exact⟨v,rfl,rv⟩
 .rw[DB (by simp_all),IE]at e
  split at e <;> cases e
  trivial
structure Def(K:i5)(mg:Str->Option g9)(x:Str)(st:GC)(ps:List Str):Prop where
 ex:∃f fd,L2.Fun K x x st f fd/\mg x=some (.ref f)/\Binds K fd ps []
def qR{x:Str}{st:GC}{ps:List Str}{n:Nat}{go:Dn->Out}{m:List f8->Res f8}{f:i9}{fd:IB}(F:L2.Fun K x x st f fd)(S:FnScope N ps (A5 st))(hn:ps.length=n)
 (body:∀X,Cxt P w K mg base X N (A5 st) k true->DSs X E0k (B6 st) go) (hm:m=fnD N go):FnOk P w K mg base CX0 (k+1) f fd ps (spD n m):=by
 subst hm;refine F.ok S (λvs H Q E h=>?_) (λcdv A outer s H vs Q E hr h=>?_)
 .obtain⟨G,ds,d,_,r,hl,_⟩:=h
  rw[<-r.length,hl,hn]
 .obtain⟨G,ds,d,hG,r,hl,em,q⟩:=h
  refine⟨_,body _ ⟨rfl,rfl,rfl,rfl,rfl,rfl,rfl,rfl,hr,λ_ _=>rfl,GS⟩ G H,G,_,Lj hG r N,?_⟩;unfold fnD at em;cases eg:go (O3 N ds) with
  |rt d'=>rw[eg]at em;cases em;exact λv G' H' g r'=>q v G' H' g r'
  |nx δ=>rw[eg]at em;cases em;exact λσ G' H' S'=>q _ G' H' S'.gr rfl
  |bk _=>lia
  |ct _=>lia
  |exc _=>lia
  |no=>lia
def Ai{x:Str}{st:GC}{ps:List Str}{n:Nat}{go:Dn->Out}{m:List f8->Res f8}(F:Def K mg x st ps)(S:FnScope N ps (A5 st))(hn:ps.length=n)
 (body:∀X,Cxt P w K mg base X N (A5 st) k true->DSs X E0k (B6 st) go) (hm:m=fnD N go):Fn P w K mg base x (k+1) n m:=by
 obtain⟨f,fd,F,hmg,hb⟩:=F.ex;exact⟨f,fd,ps,hn,qR F S hn body hm,hmg,F.kp,hb⟩
end
def ObjOk.here{P:o9}{w:x8}{H:Hp}{h:BL}{a:i9}{o:HO}(x:ObjOk P w H h a o):∃ob,h.get? a=some ob:=by
 cases o with
 |lst xs=>obtain⟨_,_,_,_,e⟩:=x;exact⟨_,e⟩
 |tup xs=>obtain⟨_,_,_,ob,e,_⟩:=x;exact⟨_,e⟩
 |dK kvs=>obtain⟨_,_,_,_,o,_,_,e,_⟩:=x;exact⟨_,e⟩
 |dT kvs=>obtain⟨_,_,_,_,o,_,_,e,_⟩:=x;exact⟨_,e⟩
 |dN kvs=>obtain⟨_,_,_,_,_,_,_,e⟩:=x;exact⟨_,e⟩
 |set S n=>obtain⟨o,_,_,_,e,_⟩:=x;exact⟨_,e⟩
 |ins C dx fs=>obtain⟨_,_,_,e,_⟩:=x;exact⟨_,e⟩
 |own y=>obtain⟨_,e⟩:=x;exact⟨_,e⟩
 |xd fs=>obtain⟨_,⟨_,_,_,e,_⟩,_⟩:=x;exact⟨_,e⟩
 |rng lo hi=>obtain⟨_,_,_,e⟩:=x;exact⟨_,e⟩
 |frz ob u=>obtain⟨e,_⟩:=x;exact⟨_,e⟩
 |tbl ps=>exact⟨_,(show h.get? a=some _ from x)⟩
 |met f y=>exact⟨_,(show h.get? a=some _ from x)⟩
 |ext φ=>obtain⟨_,e,_⟩:=x;exact e
def HOk.gone{P:o9}{w:x8}{H:Hp}{h:BL}{a:i9}(x:HOk P w H h)(e:h.get? a=none):H a=none:=by
 cases q:H a with
 |none=>rfl
 |some o=>obtain⟨ob,z⟩:=ObjOk.here (x a o q);rw[e]at z;cases z
def Made(h:BL)(H:Hp)(h0:BL)(a:i9)(c:g9):Prop:=
 ∃oe vs a0,h.get? a=some oe/\oe.cls=c/\oe.data=.fields vs/\vs[0]?=some a0/\h0.get? a=none/\H a=none/\vs[1]?=some .none
def Fly(h:BL)(H:Hp)(h0:BL)(a:i9)(c:g9):Prop:=
 ∃oe vs a0 T oT ts,h.get? a=some oe/\oe.cls=c/\oe.data=.fields vs/\vs[0]?=some a0/\h0.get? a=none/\H a=none/\vs[1]?=some (.ref T)/\T≠a/\h.get? T=some oT/\oT.data=.fields ts/\ts[3]?=some .none/\h0.get? T=none/\H T=none
def Fly.back{h h0 h1:BL}{H:Hp}{a:i9}{c:g9}(m:Fly h H h1 a c)(k:∀b o,h0.get? b=some o->∃o',h1.get? b=some o'):Fly h H h0 a c:=by
 obtain⟨oe,vs,a0,T,oT,ts,e1,e2,e3,e4,e5,e6,e7,e8,e9,e10,e11,e12,e13⟩:=m;have nn:∀b,h1.get? b=none->h0.get? b=none:=λb z=>by
  cases q:h0.get? b with
  |none=>rfl
  |some o=>obtain⟨o',z'⟩:=k _ _ q;rw[z]at z';cases z'
 exact⟨oe,vs,a0,T,oT,ts,e1,e2,e3,e4,nn _ e5,e6,e7,e8,e9,e10,e11,nn _ e12,e13⟩
structure Flown(P:o9)(w:x8)(fs:List i9)(H0:Hp)(h0:BL)(H':Hp)(h:BL)(a:i9)(c:g9):Prop where
 un:Un fs [] H0 H' h0 h
 hok:HOk P w H' h
 fly:Fly h H' h0 a c
theorem Im{h base bs:BL}:∀{l:List Env},h.FunFrames base l->(∀b∈frs l,bs.get? b=none)->h.FunFrames bs l
 |[],_,_=>trivial
 |env::r,⟨hk,⟨L,o,hf,hn,ho,hd⟩,hr⟩,k=>by
  refine⟨hk,⟨L,o,hf,k L (by unfold frs;rw[EN,hf];exact EG),ho,hd⟩,Im hr λb hb=>k b ?_⟩;unfold frs at hb ⊢;rw[EN,hf];exact FF _ hb
def Gi{P:o9}{w:x8}{fs:List i9}{H0 H':Hp}{h0 h h2 base bs:BL}{l l2:List Env}{hid:List i9}{a:i9}{c a0:g9}(un:Un fs [] H0 H' h0 h)(hok:HOk P w H' h)(ha:h0.get? a=none)(hHa:H' a=none)
 (hl:h.FunFrames base l) (hfree:∀b∈frs l,H' b=none) (hfs:∀b∈frs l,b∈fs\/h0.get? b=none) (hl2:∀b∈frs l,b∈frs l2\/h0.get? b=none)
 (hbs:bs=JC h (hid++frs l)) (hhid:∀b∈hid,h0.get? b=none/\H' b=none)
 (st:bs.StaysIn h2) (ff:h2.FunFrames bs l2) (tr:h2.TracedW bs a c a0) (up:h.UpToSlots h2):Flown P w fs H0 h0 H' h2 a c:=by
 have inb:∀b o,h.get? b=some o->b∉hid->b∉frs l->h2.get? b=some o:=λb o e n1 n2=>st b o (by
  rw[hbs];exact LN _ e λz=>(m6.mp z).elim n1 n2)
 have nhid:∀b o,h0.get? b=some o->b∉hid:=λb o e z=>by rw[(hhid b z).1]at e;cases e
 have thid:∀b o,H' b=some o->b∉hid:=λb o e z=>by rw[(hhid b z).2]at e;cases e
 have tfr:∀b o,H' b=some o->b∉frs l:=λb o e z=>by rw[hfree b z]at e;cases e
 have slt:∀b o,h.get? b=some o->b∈frs l->∃sl,h2.get? b=some {o with slots:=sl}:=λb o e hb=>by
  obtain⟨_,o',ho',hd⟩:=hl.mem hb;rw[e]at ho';cases ho';exact up b o e hd
 refine⟨⟨λb o e n hb _=>?_,λb o e n hb _=>?_,un.free,λb o e _=>?_,un.tups,un.frzs,un.tbls⟩,λb u e=>?_,?_⟩
 .refine inb b o (un.keep b o e n hb (by simp)) (nhid b o e) λz=>?_
  rcases hfs b z with q |q
  .exact hb q
  .rw[q]at e;cases e
 .obtain⟨sl,e1⟩:=un.slot b o e n hb (by simp)
  by_cases hf:b∈frs l
  .obtain⟨sl2,e2⟩:=slt b _ e1 hf
   exact⟨sl2,e2⟩
  .exact⟨sl,inb b _ e1 (nhid b o e) hf⟩
 .obtain⟨o',e1⟩:=un.there b o e (by simp)
  by_cases hf:b∈frs l
  .obtain⟨sl2,e2⟩:=slt b _ e1 hf
   exact⟨_,e2⟩
  .exact⟨_,inb b _ e1 (nhid b o e) hf⟩
 .refine(hok b u e).stay (λc' v hc q=>?_) (λ_ q=>q) λ_ _ q=>q
  have ht:∃o,H' c'=some o:=by
   rcases hc with z |z
   .rw[z];exact⟨_,e⟩
   .exact⟨_,z⟩
  obtain⟨o,ht⟩:=ht;exact inb c' v q (thid c' o ht) (tfr c' o ht)
 .obtain⟨oe,vs,T,oT,ts,he,⟨hcls,h0'⟩,hd,h1,hnT,hTe,hT,hdT,h3⟩:=tr
  have nin:∀o,h.get? T=some o->T∈hid\/T∈frs l:=λo e=>by
   by_cases z:T∈hid++frs l
   .exact m6.mp z
   .rw[hbs,LN _ e z]at hnT;cases hnT
  have hT0:h0.get? T=none:=by
   cases q:h0.get? T with
   |none=>rfl
   |some o=>
    obtain⟨o',e1⟩:=un.there T o q (by simp);rcases nin o' e1 with z |z
    .rw[(hhid T z).1]at q;cases q
    .rcases hl2 T z with z' |z'
     .obtain⟨_,o2,ho2,hd2⟩:=ff.mem z'
      rw[hT]at ho2;cases ho2;exact absurd hdT (hd2 _)
     .rw[z']at q;cases q
  have hTH:H' T=none:=by
   cases q:H' T with
   |none=>rfl
   |some o=>
    obtain⟨ob,e1⟩:=ObjOk.here (hok T o q);rcases nin ob e1 with z |z
    .rw[(hhid T z).2]at q;cases q
    .rw[hfree T z]at q;cases q
  exact⟨oe,vs,a0,T,oT,ts,he,hcls,hd,h0',ha,hHa,h1,hTe,hT,hdT,h3,hT0,hTH⟩
section
variable {P:o9}{w:x8}{M:NR}{A:BO}{E:g9->i6->Prop}{s:i6}{env:Env}{outer:List Env}{L a:i9}{c:g9}{fs:List i9}{H0 H':Hp}{h0 base:BL}{Q:Unit->i6->Prop}
def Oa{h:BL}{l:List Env}(hl:h.FunFrames base l){hid:List i9}:h.FunFrames (JC h (hid++frs l)) l:=
 Im hl λb hb=>HG _ (EC _ hb)
def fO(hfr:A.frames=some (env::outer))(hl:s.heap.FunFrames base (env::outer))(hf:env.frame=some L)(un:Un fs [] H0 H' h0 s.heap)(hok:HOk P w H' s.heap)(m:Made s.heap H' h0 a c)
 (hfree:∀b∈frs (env::outer),H' b=none) (hfs:∀b∈frs (env::outer),b∈fs\/h0.get? b=none)
 (h:∀h',Flown P w fs H0 h0 H' h' a c->Q () {s with heap:=h'}):wpAny M A (leaving env (.ref a)) Q E s:=by
 obtain⟨oe,vs,a0,e1,e2,e3,e4,e5,e6,e7⟩:=m;subst e2;refine wpAny_leaving_firstW (base:=JC s.heap ([a]++frs (env::outer))) hfr (Oa hl) hf e1 (λb o z=>LU _ z) (HG _ (by simp)) e3 e7 e4 λh' hY61=>?_;obtain⟨k1,k2,k3,k4⟩:=hY61;refine h h' ?_;exact Gi un hok e5 e6 hl hfree hfs (λb hb=>.inl hb) rfl (λb hb=>by rw[m9.mp hb];exact⟨e5,e6⟩) k1 k2 k3 k4
def Kw{h:BL}{l:List Env}(hl:h.FunFrames base l)(m:Fly h H' h0 a c):∃T a0,Heap.FlyingW (JC h ([a,T]++frs l)) l a c a0 h/\∀b∈[a,T],h0.get? b=none/\H' b=none:=by
 obtain⟨oe,vs,a0,T,oT,ts,e1,e2,e3,e4,e5,e6,e7,e8,e9,e10,e11,e12,e13⟩:=m;refine⟨T,a0,⟨λb o z=>LU _ z,HG _ (by simp),Oa hl,oe,vs,T,oT,ts,e1,⟨e2,e4⟩,e3,e7,HG _ (by simp),e8,e9,e10,e11⟩,λb hb=>?_⟩;rcases j9.mp hb with z |z
 .rw[z];exact⟨e5,e6⟩
 .rw[m9.mp z];exact⟨e12,e13⟩
theorem Fly.none{h:BL}(m:Fly h H' h0 a c):h0.get? a=none/\H' a=none:=by
 obtain⟨oe,vs,a0,T,oT,ts,e1,e2,e3,e4,e5,e6,_⟩:=m;lia
def lI(hfr:A.frames=some (env::outer))(hl:s.heap.FunFrames base (env::outer))(hf:env.frame=some L)(F:Flown P w fs H0 h0 H' s.heap a c)
 (hfree:∀b∈frs (env::outer),H' b=none) (hfs:∀b∈frs (env::outer),b∈fs\/h0.get? b=none) (hL:h0.get? L=none)
 (h:∀h',Flown P w fs H0 h0 H' h' a c->Q () {s with heap:=h'}):wpAny M A (leaving env (.ref a)) Q E s:=by
 obtain⟨T,a0,FW,hh⟩:=Kw hl F.fly;refine wpAny_leaves_onW hfr hf FW λh' hY62 k4=>?_;obtain⟨k1,_,k2,k3⟩:=hY62;refine h h' ?_;refine Gi F.un F.hok F.fly.none.1 F.fly.none.2 hl hfree hfs (l2:=outer) (λb hb=>?_) rfl hh k1 k2 k3 k4;unfold frs at hb;rw[EN,hf]at hb;rcases j9.mp hb with z |z
 .rw[z];exact .inr hL
 .exact .inl z
def mF(hfr:A.frames=some (env::outer))(hl:s.heap.FunFrames base (env::outer))(hf:env.frame=some L)(F:Flown P w fs H0 h0 H' s.heap a c)
 (hfree:∀b∈frs (env::outer),H' b=none) (hfs:∀b∈frs (env::outer),b∈fs\/h0.get? b=none)
 (h:∀h',Flown P w fs H0 h0 H' h' a c->h'.FunFrames base (env::outer)->Q () {s with heap:=h'}):wpAny M A (noteFrame (.ref a) env) (λ_ s2=>wpAny M A (setFlight (.ref a) none) Q E s2) E s:=by
 obtain⟨T,a0,FW,hh⟩:=Kw hl F.fly;refine wpAny_looks_onW hfr hf FW λh2 hH up2=>?_;refine wpAny_landsW hH λh3 ⟨k1,_,k2,k3⟩ up3=>h h3 ?_ ?_
 .exact Gi F.un F.hok F.fly.none.1 F.fly.none.2 hl hfree hfs (l2:=env::outer) (λb hb=>.inl hb) rfl hh k1 k2 k3 (up2.trans up3)
 .refine hl.of_keeps λb o e hd=>?_
  obtain⟨sl,e2⟩:=(up2.trans up3) b o e hd;exact⟨_,e2,rfl⟩
def qD{l:List Env}(hl:s.heap.FunFrames base l)(F:Flown P w fs H0 h0 H' s.heap a c)(hfree:∀b∈frs l,H' b=none)(hfs:∀b∈frs l,b∈fs\/h0.get? b=none)
 (h:∀h',Flown P w fs H0 h0 H' h' a c->Q () {s with heap:=h'}):wpAny M A (setFlight (.ref a) none) Q E s:=by
 obtain⟨T,a0,FW,hh⟩:=Kw hl F.fly;refine lands_againW FW λh3 hY63 up3=>?_;obtain⟨k1,_,k2,k3⟩:=hY63;refine h h3 ?_;exact Gi F.un F.hok F.fly.none.1 F.fly.none.2 hl hfree hfs (l2:=l) (λb hb=>.inl hb) rfl hh k1 k2 k3 up3
end
def CXe(P:o9)(w:x8):CXT:=λouter H s E e s'=>∃a c H',e=.ref a/\s'.os=s.os/\KW s'.gens/\Flown P w (frs outer) H s.heap H' s'.heap a c/\E c none H'
def Lv(X:Cx)(E:XK):Prop:=∀(pins:List (i9×Obj)) (σ:St) (H:Hp) (s:i6) (a:i9) (c:g9),Inv X pins σ H s->(Made s.heap H X.s₀.heap a c\/Fly s.heap H X.s₀.heap a c)->E c none H->X.xe (.ref a) s
def lv_of{P:o9}{w:x8}{K:i5}{mg:Str->Option g9}{base:BL}{N:List Str}{qual:Str}{scope:Scope}{f:i9}{cd:g9}{A:BO}{outer:List Env}{s:i6}{H:Hp}{E:XK}:
 Lv (Zz (CXe P w) P w K mg base N qual scope f cd A outer s H E) E:=λpins σ H' s' a c I m hE=>by
 have hL:(envOfC qual scope s.heap.objs.size f cd).frame=some s.heap.objs.size:=rfl;have hfs:∀b∈frs (envOfC qual scope s.heap.objs.size f cd::outer),b∈frs outer\/s.heap.get? b=none:=λb hb=>by
  unfold frs at hb;rw[EN,hL]at hb;rcases j9.mp hb with z |z
  .rw[z];exact .inr (LR (s0 _))
  .exact .inl z
 have fin:∀h2,Flown P w (frs outer) H s.heap H' h2 a c->CXe P w outer H s E (.ref a) {s' with heap:=h2}:=λh2 F=>⟨a,c,H',rfl,I.os,I.bare,F,hE⟩;rcases m with m |m
 .exact fO I.ok.frames I.stack hL I.base I.hok m I.stkFree hfs fin
 .exact lI I.ok.frames I.stack hL ⟨I.base,I.hok,m⟩ I.stkFree hfs (LR (s0 _)) fin
def Lv.passes{X:Cx}{E:XK}(L:Lv X E)(hex:X.ex=[]):aG (CXe X.prog X.w) X E:=λpins σ H s e s' I hZ7=>by
 obtain⟨a,c,H',e1,e2,e3,F,hE⟩:=hZ7;subst e1;have I':Inv X pins σ H' s':=I.call' (ch:=[]) e2 F.un F.hok e3 (λb z=>absurd z (by simp));refine L pins σ H' s' a c I' (.inr (F.fly.back λb o z=>?_)) hE;exact I.base.there b o z (by rw[hex];simp)
def spX(n:Nat)(m:List f8->Res f8)(CN:i9):Sp:=λvs H Q E=>∃G ds,Same G H/\RepL G ds vs/\ds.length=n/\match m ds with
 |.ok d=>∀v G' H',Grow G H G' H'->Rep G' d v->Q v H'
 |.exc _=>∀G' H',Grow G H G' H'->E (.ref CN) none H'
 |.no=>False
structure FnX(P:o9)(w:x8)(K:i5)(mg:Str->Option g9)(base:BL)(CN:i9)(x:Str)(k n:Nat)(m:List f8->Res f8):Prop where
 ex:∃f fd ps,ps.length=n/\FnOk P w K mg base (CXe P w) k f fd ps (spX n m CN)/\mg x=some (.ref f)/\BR K (.ref f)=true/\Binds K fd ps []
def eX(CN:i9)(E:XK):EK:=λ_ H=>E (.ref CN) none H
section
variable {P:o9}{w:x8}{K:i5}{mg:Str->Option g9}{base:BL}{X:Cx}{N:List Str}{sc:Scope}{k:Nat}{df:Bool}{E:EK}{pos p:Pos}{a c e:Expr}{es:List Expr}{f g:Dn->Res f8}{fs:Dn->Res (List f8)}{x:Str}{CN:i9}{Ex:XK}
def cQ{x:Str}{st:GC}{ps:List Str}{n:Nat}{go:Dn->Out}{m:List f8->Res f8}(F:Def K mg x st ps)(S:FnScope N ps (A5 st))(hn:ps.length=n)
 (body:∀X E,Cxt P w K mg base X N (A5 st) k true->Lv X E->X.ex=[]->DSs X (eX CN E) (B6 st) go) (hm:m=fnD N go):FnX P w K mg base CN x (k+1) n m:=by
 obtain⟨f,fd,F,hmg,hb⟩:=F.ex;have kp:=F.kp;obtain⟨oc,od,kV,doc,pm,an,cdv,ct,osl,rfl,lk,hcd⟩:=F.ex;subst hm;refine⟨f,_,ps,hn,xG lk hcd S (λvs H Q E h=>?_) (λA outer s H vs Q E hr h=>?_),hmg,kp,hb⟩
 .obtain⟨G,ds,_,r,hl,_⟩:=h
  rw[<-r.length,hl,hn]
 .obtain⟨G,ds,hG,r,hl,q⟩:=h
  refine⟨_,body _ E ⟨rfl,rfl,rfl,rfl,rfl,rfl,rfl,rfl,hr,λ_ _=>rfl,PassesOwn.leaving⟩ lv_of rfl G H,G,_,Lj hG r N,?_⟩;unfold fnD at q;cases eg:go (O3 N ds) with
  |rt d'=>rw[eg]at q;exact λv G' H' g r'=>q v G' H' g r'
  |nx δ=>rw[eg]at q;exact λσ G' H' S'=>q _ G' H' S'.gr rfl
  |exc c=>rw[eg]at q;exact λG' H' g=>q G' H' g
  |bk _=>rw[eg]at q;exact(show False from q).elim
  |ct _=>rw[eg]at q;exact(show False from q).elim
  |no=>rw[eg]at q;exact(show False from q).elim
def vU{j n:Nat}{m:List f8->Res f8}(C:Cxt P w K mg base X N sc k df)(L:Lv X Ex)(hex:X.ex=[])(F:FnX P w K mg base CN x j n m)(hj:j<=k)(h:okGl sc x=true)(ha:DA X (eX CN Ex) (e::es) n fs)
 (he:i8 (e::es) X.env=(false,eval e X.env)::i8 es X.env:=by rfl) (hpl:(CD pos (i8 es X.env)).any (·.1)=false:=by rfl):DE X (eX CN Ex) (.Call (.Name x p) (e::es) [] pos) (C9 fs m):=by
 obtain⟨f,fd,ps,hps,F,hm,hk,hb⟩:=F.ex;obtain⟨h1,h2,h3⟩:=okGl.gl C h;have F':FnOk X.prog X.w X.K X.mg X.base (CXe X.prog X.w) j f fd ps (spX n m CN):=by rw[C.hP,C.hw,C.hK,C.hmg,C.hb];exact F
 refine PE.imp (Dr F' (C.room.mono hj) h1 (by rw[C.hmg];exact hm) (by rw[C.hK];exact hk) (by rw[C.hK];exact hb) .nil (L.passes hex) ha.pa h2 he hpl) λσ H Q hY64=>?_;obtain⟨G,δ,S,aft⟩:=hY64;refine W7 (W:=λG H r=>Aft (eX CN Ex) G H r Q) S aft (λg a=>Aft.grow g a) (λc a=>a) (λa=>a) λds vs G1 H1 e g1 r1 S1 a1=>?_;rw[u8];refine⟨G1,ds,S1.sub,r1,ha.len δ ds e,?_⟩;cases q:m ds with
 |ok d=>rw[q]at a1;exact a1
 |exc c=>rw[q]at a1;exact a1
 |no=>rw[q]at a1;exact a1
noncomputable def noX(r:Res f8):Res f8:=match r with
 |.ok d=>.ok d
 |_=>.no
def Fp(fs:Dn->Res (List f8))(m:List f8->Res f8):Dn->Res f8:=λδ=>(fs δ).bind λds=>noX (m ds)
def Jk{j n:Nat}{m:List f8->Res f8}(C:Cxt P w K mg base X N sc k df)(F:Fn P w K mg base x j n m)(hj:j<=k)(h:okGl sc x=true)(ha:DA X E (e::es) n fs)
 (he:i8 (e::es) X.env=(false,eval e X.env)::i8 es X.env:=by rfl) (hpl:(CD pos (i8 es X.env)).any (·.1)=false:=by rfl):DE X E (.Call (.Name x p) (e::es) [] pos) (Fp fs m):=by
 obtain⟨f,fd,ps,hps,F,hm,hk,hb⟩:=F.ex;obtain⟨h1,h2,h3⟩:=okGl.gl C h;have F':FnOk X.prog X.w X.K X.mg X.base CX0 j f fd ps (spD n m):=by rw[C.hP,C.hw,C.hK,C.hmg,C.hb];exact F
 refine PE.imp (Dr F' (C.room.mono hj) h1 (by rw[C.hmg];exact hm) (by rw[C.hK];exact hk) (by rw[C.hK];exact hb) .nil (Sw (X:=X)) ha.pa h2 he hpl) λσ H Q hY65=>?_;obtain⟨G,δ,S,aft⟩:=hY65;refine W7 (W:=λG H r=>Aft E G H r Q) S aft (λg a=>Aft.grow g a) (λc a=>a) (λa=>a) λds vs G1 H1 e g1 r1 S1 a1=>?_;rw[u8];cases q:m ds with
 |ok d=>rw[q]at a1;exact⟨G1,ds,d,S1.sub,r1,ha.len δ ds e,q,a1⟩
 |exc c=>rw[q]at a1;exact(show False from a1).elim
 |no=>rw[q]at a1;exact(show False from a1).elim
noncomputable def Na(d:f8):Bool:=isDisplay d&&d.showable&&!d.hasDict&&decide (d.shown.length<=1000)&&decide (d.depth<=8)
structure ExcAt(K:i5)(mg:Str->Option g9)(x:Str)(C:i9):Prop where
 bound:mg x=some (.ref C)
 obj:PySem.W.excIn K C [.type "ValueError",.type "Exception",.type "BaseException",.type "object"] "ValueError.__new__"=true
def ExcAt.own{x:Str}{C:i9}(O:ExcAt K mg x C){h:BL}(X:K.In h):OwnCls x C [.type "ValueError",.type "Exception",.type "BaseException",.type "object"] "ValueError.__new__" mg h:=by
 refine⟨O.bound,?_⟩;have q:=O.obj;unfold PySem.W.excIn at q;split at q
 .rename_i dd cd sl ho
  split at q
  .rename_i C' bm k0 k1 k2 k3 n k5 hm hs
   simp only[x3,beq_iff_eq,DQ]at q;obtain⟨⟨⟨⟨⟨rfl,rfl⟩,hdel⟩,ht⟩,hok⟩,hni⟩:=q;obtain⟨nm,bs,mro,ns,qn,hd,sn,sub,ab,col,del⟩:=cd;dsimp only at hm hdel hok hni;subst hm hdel;have hsl:sl=#[k0,k1,k2,k3,some (.builtin "ValueError.__new__"),k5]:=by
    obtain⟨l⟩:=sl;simp only at hs;rw[hs]
   subst hsl;exact⟨bm,ns,nm,qn,bs,hd,sn,sub,ab,col,dd,k0,k1,k2,k3,k5,_,X _ _ ho,.of_isNs (PySem.W.isNs_of_in X hok),PySem.W.nsMap_none_of_in X hok hni,PySem.W.tail_of_in X ht⟩
  .cases q
 .cases q
def xH{M:NR}{A:BO}{E:g9->i6->Prop}{s:i6}{env:Env}{value:Expr}{pos:Pos}{Q:g9->i6->Prop}
 (h:wpAny M A (eval value env) (λv s₁=>wpAny M A (pyReprObj v) (λu s₂=>wpAny M A (formatField u GQ) Q E s₂) E s₁) E s):wpAny M A (eval (.FormattedValue value 114 none pos) env) Q E s:=by
 show wpAny M A (do let v <-eval value env;standAt pos;formatted pos (<-holding [v] (converted 114 v)) none) Q E s;refine f9 (DG h (λv s₁ h₁=>?_) λ_ _ x=>x);refine f9 (wpAny_standAt ?_);show wpAny _ _ (do let v' <-holding [v] (pyReprObj v);formatField v' GQ) Q E s₁;exact f9 (CJ h₁)
end
section
variable {X:Cx}{k:Nat}{E:EK}{p:Pos}{a b c e:Expr}{g:Dn->Res f8}{i:Nat}{tt:Dn->Res Bool}
def cFz(i:Nat)(c:Dn->Res Bool):Dn->Res Bool:=λδ=>c (fz i δ)
theorem SR.fz{G H:Hp}{σ:St}{δ:Dn}(S:SR G H σ δ)(i:Nat):∃G',SR G' H σ (fz i δ):=by
 unfold Sm.fz;split
 .rename_i ds hi
  obtain⟨p,hp,hg,xs,hx,r⟩:=S.sl i _ hi;have hv:σ[i]?=some (some (.ref p)):=by
   grind
  have key:∀(j:Nat) (d':f8),(δ.set i (.sh (.list ds)))[j]?=some (.ow d')->δ[j]?=some (.ow d')/\j≠i:=λj d' e=>by
   grind
  have sm:Same G (upd G p (.lst xs)):=Same.upd hg;have sub:Same (upd G p (.lst xs)) H:=λb u e=>by
   by_cases hb:b=p
   .subst hb;rw[C8]at e;lia
   .rw[B7 hb]at e;exact S.sub _ _ e
  refine⟨_,sub,by simp[S.len],λj s e=>?_,λj1 j2 a d1 d2 e1 e2 h1 h2=>S.ap j1 j2 a d1 d2 (key j1 d1 e1).1 (key j2 d2 e2).1 h1 h2⟩;by_cases hj:i=j/\i<δ.length
  .rw[E7,iq hj]at e
   cases e;rw[<-hj.1,hv];exact⟨_,rfl,p,xs,rfl,.inl C8,r.mono sm⟩
  .have e2:=e
   rw[E7,ir hj]at e2;have hs:=S.sl j s e2;cases s with
   |un=>trivial
   |sh d=>obtain⟨v,e1,r1⟩:=hs;exact⟨v,e1,r1.mono sm⟩
   |fd _=>exact FdOk.mono sm hs
   |ow d2=>
    obtain⟨a,e1,n1,ok⟩:=hs;have hne:a≠p:=by
     rintro rfl;exact(key j d2 e).2 (S.ap j i a d2 _ e2 hi e1 hp)
    refine⟨a,e1,by rw[B7 hne];exact n1,?_⟩;cases d2 with
    |list ds=>obtain⟨xs,q,r⟩:=ok;exact⟨xs,q,r.mono sm⟩
    |dict kvs=>obtain⟨xs,q,k,r⟩:=ok;exact⟨xs,q,k,r.mono sm⟩
    |tuple xs=>exact OwnK.keep sm (λo q=>q) ok
    |_=>exact(show False from ok).elim
 grind
def xV(i:Nat)(h:DT X E c tt):DT X E c (cFz i tt):=PT.imp h λσ H Q hZ3=>by
 obtain⟨G,δ,S,a⟩:=hZ3;obtain⟨G',S'⟩:=S.fz i;refine⟨G',_,S',?_⟩;unfold cFz at a;cases e:tt (fz i δ) with
 |ok d=>rw[e]at a;exact λG2 H2 g=>a G H2 ⟨Same.refl _,g.h,S.sub.trans g.h,λ_ _ z=>.inl z⟩
 |exc c=>rw[e]at a;exact λG2 H2 g=>a G H2 ⟨Same.refl _,g.h,S.sub.trans g.h,λ_ _ z=>.inl z⟩
 |no=>rw[e]at a;exact a
end
end Sm
end
section
namespace Sm
open PySem PySem.Spec
def Zn:KJ (.type "list") "keys"=pure none:=by
 rw[JS,HS];kernel_rfl
def Zo:KJ (.type "list") "__getattr__"=pure none:=by
 rw[JS,HS];kernel_rfl
section
variable {prog:o9}{w:x8}{A:BO}{E:g9->i6->Prop}{h:BL}{g:Array GenState}{d:Drawn}{t:Nat}{os:OsState}{a:i9}{vs:Array g9}{n:Nat}
def lM{tk:Tok}{Q:Fin->i6->Prop}(hA:A.handled=none)(hx:h.get? a=some {cls:=.type "list",data:=.seq vs n})
 (hq:∀h' tk' e,Heap.NewAttrErr h h' e (.ref a) "keys"->E (.ref e) ⟨h',g,d,tk',os⟩):
 wpAny (u7 prog w) A (EM.«object.__getattribute__» ⟨[.ref a,.str "keys" tk],[]⟩) Q E ⟨h,g,d,t,os⟩:=by
 have hT:(⟨h,g,d,t,os⟩:i6).TypeIs (.ref a) "list":=⟨_,hx,rfl⟩;have f4:=Zn;unfold EM.«object.__getattribute__»
 repeat (any_goals (first |assumption |wp_step))
 exact wpAny_raiseAttrError hA hq (attrMsg_fits (by decide+kernel) (by decide))
def lL{Q:Option g9->i6->Prop}(hA:A.handled=none)(hx:h.get? a=some {cls:=.type "list",data:=.seq vs n})
 (hq:∀h' tk',(∀b o,h.get? b=some o->h'.get? b=some o)->Q none ⟨h',g,d,tk',os⟩):wpAny (u7 prog w) A (getAttr? (.ref a) "keys") Q E ⟨h,g,d,t,os⟩:=by
 have hT:∀s':i6,s'.heap=h->s'.TypeIs (.ref a) "list":=λs' e=>⟨_,by rw[e];exact hx,rfl⟩;have f1:=sub_AttributeError;have f2:=F.slot_list_getattribute.lookup;have f3:=F.slot_list_getattribute.bind (.ref a);have f5:=Zo;unfold getAttr? getAttrBy? getAttrBy;refine f9 (wpAny_mkText (f9 (HP ?_)));have hT1:=hT ⟨h,g,d,t+1,os⟩ rfl
 repeat (any_goals (first |assumption |wp_step))
 refine MP F.slot_list_getattribute.plain F.entry_list_ga
  (F.slot_list_getattribute.check _ _ _ _ _ _ _ _ hT1 (F.args_list_getattribute_2 _ _)
   (lM hA hx λh' tk' e hx'=>?_))
 obtain⟨t',u',he⟩:=hx'.there;have kp:=hx'.keeps;show wpAny _ _ (getattributeRaised _ _ _ _ _ _ _) _ _ _;unfold getattributeRaised
 repeat (any_goals (first |assumption |wp_step))
 exact hq _ _ kp
end
end Sm
end
section
namespace Sm
open PySem PySem.Spec PyProof.Rows L2
def Hl:entryFor table "dict.update.loop"=some EM.«dict.update.loop»:=entryFor_of_tree ⋯
def Hj:plainId "dict.update.loop"=true:=by decide+kernel
end Sm
end
section
namespace Sm
open PySem PySem.Spec PySem.Calls PyProof.Rows PySem.W Builtin Builtin.ObjectAttr Builtin.Getset_descriptor
structure XCls(K:Frag)(D:i9):Prop where
 cls:(clsIn K D).isSome=true
 ga:findIn K (.ref D) "__getattribute__"=some (some (.builtin "BaseException.__getattribute__"))
 sb:subIn K (.ref D) (.type "BaseException")=some true
 gh:findIn K (.ref D) "__getattr__"=some none
 cl:findIn K (.ref D) "__class__"=some (some (.builtin "object.__class__"))
 gt:specialIn K (.builtin "object.__class__") "__get__"=some (some (.builtin "getset_descriptor.__get__"))
 tk:takesIn K (.builtin "object.__class__")=some true
 ob:mroIn K D (.type "object")=some true
noncomputable def ExcAt'(x D:i9)(h:BL):Prop:=∃o,h.get? x=some o/\o.cls=.ref D
section
variable {K:Frag}{x D:i9}
def ExcAt'.ty{M:NR}{h:BL}(e:ExcAt' x D h):Looks M h (typeOf (.ref x)) (.ref D):=by
 obtain⟨o,e,c⟩:=e;exact c▸(Looks.ld e).andThen .now
def fW{M:NR}{h:BL}(C:XCls K D)(X:K.In h):Looks M h (find (.ref x) (.ref D) "__class__") (.bind (.builtin "getset_descriptor.__get__") (.builtin "object.__class__")):=by
 have a1:=looks_findIn (M:=M) X C.cl;have a2:Looks M h (getOf (some (.builtin "object.__class__"))) (some (.builtin "getset_descriptor.__get__")):=looks_specialIn X C.gt;have a3:Looks M h (dataDescriptor? (some (.builtin "object.__class__")) (some (.builtin "getset_descriptor.__get__"))) (some (.builtin "getset_descriptor.__get__",.builtin "object.__class__")):=(looks_takesIn X C.tk).andThen .now;exact a1.andThen (a2.andThen (a3.andThen (Looks.tag .now)))
section
variable {prog:o9}{w:x8}{A:BO}{s:i6}
def Vx{R:Result->i6->Prop}{tp:g9}(C:XCls K D)(X:K.In s.heap)(I:ExcAt' x D s.heap)(h:R (.ok (.ret (.ref D))) s):
 IJ (u7 prog w) A (.call (.builtin "getset_descriptor.__get__") ⟨[.builtin "object.__class__",.ref x,tp],[]⟩) R s:=by
 obtain⟨h0,gs,dr,tks,os⟩:=s;have l0:=I.ty (M:=u7 prog w);have l1:=looks_mroIn (M:=u7 prog w) X C.ob;refine MP KF.slot_gs.plain KF.entry_gs
  (KF.slot_gs.check _ _ _ _ _ _ _ _ KF.type_class (KF.args_gs _ _ _) ?_)
 unfold EM.«getset_descriptor.__get__»;unfold descrGet;rw[dga_obj];refine f9 (i0 ?_);unfold descrGetter descrCheckInstance;unfold descrNameAndClass isInstance;simp only[KF.owner_class]
 repeat lk
 refine⟨MJ _ (by decide+kernel),?_⟩;refine II KF.entry_class ?_;unfold EM.«object.__class__»;unfold shownTypeOf
 repeat lk
 exact h
def lW{M:NR}{E:g9->i6->Prop}{nv:g9}{Q:Unit->i6->Prop}(C:XCls K D)(X:K.In s.heap)(I:ExcAt' x D s.heap)(hq:Q () s):wpAny M A (checkBuiltinCall "BaseException.__getattribute__" ⟨[.ref x,nv],[]⟩) Q E s:=by
 obtain⟨h0,gs,dr,tks,os⟩:=s;have l0:=I.ty (M:=M);have l4:=looks_subIn (M:=M) X C.sb;have kd:builtinKind "BaseException.__getattribute__"=some .slot:=by decide+kernel
 have sp:splitId "BaseException.__getattribute__"=some ("BaseException","__getattribute__"):=by decide+kernel
 have ha:=PySem.F.args_bexc_ga (.ref x) nv;simp only[checkBuiltinCall,kd,sp];refine f9 ?_;unfold isInstance;refine f9 (l0.at (l4.at ?_))
 repeat wp_step
 exact hq
def lX{E:g9->i6->Prop}{Q:Option g9->i6->Prop}(C:XCls K D)(X:K.In s.heap)(I:ExcAt' x D s.heap)(h:Q (some (.ref D)) {s with toks:=s.toks+1}):
 wpAny (u7 prog w) A (getAttr? (.ref x) "__class__") Q E s:=by
 obtain⟨h0,gs,dr,tks,os⟩:=s;have l0:=I.ty (M:=u7 prog w);have l1:=looks_findIn (M:=u7 prog w) X C.ga;have l2:=fW (M:=u7 prog w) (x:=x) C X;have l3:=looks_findIn (M:=u7 prog w) X C.gh;have f3:=NU.ga.bind (.ref x);unfold getAttr? getAttrBy? getAttrBy;refine f9 (wpAny_mkText (f9 (HP (CJ
  (f9 (l0.at (f9 (l1.at ?_))))))))
 show wpAny _ _ (getAttrByItsOwn _ _ _ _ _ _) _ _ _;unfold getAttrByItsOwn;refine f9 ?_;show wpAny _ _ (KJ _ _) _ _ _;refine l3.at (f9 (HP (CJ ?_)));show wpAny _ _ (boundAndCalled _ _ _) _ _ _;unfold boundAndCalled;rw[f3];refine f9 (i0 (NC (MP NU.ga.plain PySem.F.entry_bexc_ga (lW C X I ?_))));show wpAny _ _ (slotArgs "__getattribute__" 1 ⟨[.ref x,.str "__class__" tks],[]⟩>>=_) _ _ _;refine f9 (i0 ?_);refine f9 (i0 (f9 (l0.at (f9 (l2.at ?_)))))
 show wpAny _ _ (holding [.builtin "object.__class__"] (call (.builtin "getset_descriptor.__get__") [.builtin "object.__class__",.ref x,.ref D])>>=ret) _ _ _;refine f9 (CJ (NC (Vx C X I ?_)));exact i0 (handed_on rfl (i0 h))
end
def qG(C:XCls K D):KitX K (.ref x) (.ref D) (ExcAt' x D) where
 ty:=λ_ _ _ I=>I.ty
 it:=λM h X _=>by
  have c:=C.cls;unfold clsIn at c;split at c
  .rename_i ho
   intro A Q E s k q;unfold isType loadHead;exact f9 (wpAny_loadPart (k _ _ (X _ _ ho)) (i0 q))
  .cases c
 ne:=λh tp dd its n sl X htp=>by
  refine Bool.eq_false_iff.mpr λq=>?_;have e:D=tp:=Value.ref.inj (beq_iff_eq.mp q);subst e;have c:=C.cls;unfold clsIn at c;split at c
  .rename_i ho
   have z:=(X _ _ ho).symm.trans htp;cases z
  .cases c
 ca:=λX I k=>lX C X I k
end
def cS{K:Frag}{M:NR}{A:BO}{E:g9->i6->Prop}{s:i6}{a CN CM:i9}{Q:Bool->i6->Prop}(X:K.In s.heap)(I:ExcAt' a CN s.heap)
 (h1:subIn K (.ref CN) (.ref CM)=some true) (h2:instIn K (.ref CM) (.type "tuple")=some false) (h3:(clsIn K CM).isSome=true) (h4:subIn K (.ref CM) (.type "BaseException")=some true) (q:Q true s):
 wpAny M A (excMatches (.ref a) (.ref CM)) Q E s:=by
 obtain⟨h0,gs,dr,tks,os⟩:=s;have l0:=I.ty (M:=M);have l1:=looks_subIn (M:=M) X h1;have l2:=looks_instIn (M:=M) X h2;have l4:=looks_subIn (M:=M) X h4;have l3:Looks M h0 (isType (.ref CM)) true:=by
  unfold clsIn at h3;split at h3
  .rename_i ho
   intro A Q E s k q;unfold isType loadHead;exact f9 (wpAny_loadPart (k _ _ (X _ _ ho)) (i0 q))
  .cases h3
 have l5:Looks M h0 (isExcClass (.ref CM)) true:=by
  unfold isExcClass;exact l3.andThen (by simpa using l4)
 unfold excMatches
 repeat lk
 exact q
end Sm
end
section
namespace Sm
open PySem PySem.Spec PyProof.Rows L2
noncomputable def inX(X:Cx)(a:i9):Cx:={X with A:=X.A.mark (some (.ref a)),calm:=false,xe:=λ_ _=>False}
section
variable {X:Cx}{pins:List (i9×Obj)}{σ:St}{H:Hp}{s:i6}{a:i9}
theorem Inv.inX(I:Inv X pins σ H s)(a:i9):Inv (inX X a) pins σ H s:=
 ⟨⟨I.ok.mod,I.ok.kind,I.ok.glob,I.ok.blt,I.ok.above,I.ok.inj,I.ok.has,I.ok.cab,(λz=>by cases z),I.ok.frames,I.ok.stk,I.ok.exf,I.ok.bs,I.ok.bsz,I.ok.noex,I.ok.exfs,I.ok.funs,I.ok.frf⟩,I.os,I.bare,I.base,I.loc,I.cell,I.free,I.freeC,I.pin,I.hok,I.len⟩
def Inv.outX(I:Inv (Sm.inX X a) pins σ H s)(ok:X.Ok):Inv X pins σ H s:=⟨ok,I.os,I.bare,I.base,I.loc,I.cell,I.free,I.freeC,I.pin,I.hok,I.len⟩
def Inv.forget{h':BL}{t':Nat}{m':Str->Option g9}(I:Inv X pins σ H s)(hn:h'.Ns X.env.locals m')(hs:JO X.env.locals s.heap h'):Inv X pins (u6 X.N.length none) H {s with heap:=h',toks:=t'}:=by
 have ne0:∀b o,X.s₀.heap.get? b=some o->b≠X.env.locals:=λb o e=>z8 (y9 (q9 e) I.ok.above);refine⟨I.ok,I.os,I.bare,⟨λb o e n hb hx=>(hs.2 b (ne0 b o e)).trans (I.base.keep b o e n hb hx),λb o e n hb hx=>?_,I.base.free,λb o e hx=>?_,I.base.tups,I.base.frzs,I.base.tbls⟩,⟨m',hn,λi x v e1 e2 e3=>?_⟩,λx c e=>?_,I.free,I.freeC,λp hp=>?_,λb ob e=>?_,by simp⟩
 .obtain⟨sl,e1⟩:=I.base.slot b o e n hb hx
  exact⟨sl,(hs.2 b (ne0 b o e)).trans e1⟩
 .obtain⟨o',e1⟩:=I.base.there b o e hx
  exact⟨o',(hs.2 b (ne0 b o e)).trans e1⟩
 .grind
 .obtain⟨v,z⟩:=I.cell x c e
  exact⟨v,z.sameBut hs (I.cne x c e)⟩
 .obtain⟨e,n,ne,nf,d⟩:=I.pin p hp
  exact⟨(hs.2 p.1 ne).trans e,n,ne,nf,d⟩
 .refine(I.hok b ob e).stay (λc w' hc q=>(hs.2 c ?_).trans q) (λ_ q=>q) λ_ _ q=>q
  intro z;have hL:=I.free;lia
noncomputable def clsV:V->Option g9
 |.ref C=>some (.ref C)
 |.ty T=>some (.type T)
 |_=>none
def yT(K:i5)(a D:i9):List V->Hp->VK->Prop:=λvs H Q=>∃c cv b,vs=[.ref a,c]/\clsV c=some cv/\H a=some (.ext (ExcAt' a D))/\JL K (.ref D) cv=some b/\Q (.bl b) H
def dR{D:i9}(C:XCls X.K D):Bb X (.builtin "isinstance") (yT X.K a D):=by
 rintro pins s σ H xs us Q I r ⟨c,cv,b,e0,ec,hH,hk,q⟩;subst e0;cases r with
 |cons r0 rr=>
  cases rr with
  |cons r1 rr=>
   cases rr;obtain⟨rfl⟩:=(show _=CU a from r0);rename_i u2;have e2:u2=cv:=by
    cases c with
    |ref q=>cases ec;exact(show _=CU q from r1)
    |ty q=>cases ec;exact(show _=IU q from r1)
    |_=>cases ec
   subst e2;obtain⟨φ,_,_⟩:=(show ObjOk X.prog X.w H s.heap a (.ext (ExcAt' a D)) from I.hok a _ hH);exact PySem.W.kia_one (qG C) I.kIn φ hk (λz=>nomatch z) λtk=>⟨.bl b,H,I.tok tk,rfl,q⟩
def cR{P:o9}{w:x8}{fs:List i9}{H0 H':Hp}{h0 h:BL}{a CN:i9}(F:Flown P w fs H0 h0 H' h a (.ref CN)):Un fs [] H0 (upd H' a (.ext (ExcAt' a CN))) h0 h/\HOk P w (upd H' a (.ext (ExcAt' a CN))) h:=by
 obtain⟨oe,vs,a0,T,oT,ts,e1,e2,e3,e4,e5,e6,_⟩:=F.fly;have nt:∀b o,H' b=some o->b≠a:=λb o e z=>by rw[z,e6]at e;cases e
 refine⟨⟨F.un.keep,F.un.slot,λb o e n hx=>?_,F.un.there,λb xs q=>?_,λb o u q=>?_,λb ps q=>?_⟩,λb u q=>?_⟩
 .have:b≠a:=λz=>by rw[z,e5]at e;cases e
  rw[B7 this];exact F.un.free b o e n hx
 .have:=F.un.tups b xs q
  rw[B7 (nt _ _ this)];exact this
 .have:=F.un.frzs b o u q
  rw[B7 (nt _ _ this)];exact this
 .obtain⟨more,this⟩:=F.un.tbls b ps q
  exact⟨more,by rw[B7 (nt _ _ this)];exact this⟩
 .by_cases hb:b=a
  .subst hb
   rw[C8]at q;cases q;refine⟨⟨oe,e1,e2⟩,⟨oe,e1⟩,λh1 h2 hZ2 k=>by obtain⟨o,z1,z2⟩:=hZ2;exact⟨o,k o z1,z2⟩⟩
  .rw[B7 hb]at q
   exact(F.hok b u q).stay (λ_ _ _ z=>z) (λc z=>by rw[B7 (nt _ _ z)];exact z) λc xs z=>by rw[B7 (nt _ _ z)];exact z
end
section
variable {N:List Str}{sc:Scope}
theorem okVar.at{i:Nat}{x:Str}(h:okVar N sc i x=true):N[i]?=some x/\Vis sc x/\(x==("__debug__" : Str))=false/\(x==("__classdict__" : Str))=false:=by
 unfold okVar at h;simp only[x3,DQ]at h;obtain⟨⟨⟨h1,h2⟩,h3⟩,h4⟩:=h;refine⟨GY h1,?_,h3,h4⟩;unfold Vis;cases q:sc.names.lookup x with
 |none=>rw[q]at h2;cases h2
 |some z=>
  rw[q]at h2;cases z with
  |«local»=>exact .inl rfl
  |cell=>exact .inr (.inl rfl)
  |free=>exact .inr (.inr rfl)
  |_=>cases h2
end
end Sm
end
section
namespace Sm
open PySem PySem.SetTable
def few:∀(n:Nat) (L:List Nat),(∀e,e<n->e∈L)->n<=L.length:=by
 intro iN;induction iN with
 |zero=>lia
 |succ n ih=>
  intro L h;have a:=h n (by lia);have b:=ih (L.erase n) (λe he=>(List.mem_erase_of_ne (by lia)).mpr (h e (by lia)))
  grind
def room{L:List Nat}{mask:Nat}(h:L.length<=mask):∃e,e<=mask/\e∉L:=by
 by_cases c:∃e,e<=mask/\e∉L
 .exact c
 .have:=few (mask+1) L (λe he=>HI λhn=>c ⟨e,by lia,hn⟩)
  lia
structure Elems(prog:o9)(w:x8)(A:BO)(E:g9->i6->Prop)(a:i9) where
 D:Type
 dec:DecidableEq D
 I:i6->Prop
 R:g9->D->Prop
 hash:D->Int
 heap:∀{s:i6} {h':BL},I s->JO a s.heap h'->I {s with heap:=h'}
 toks:∀{s:i6} (tk:Nat),I s->I {s with toks:=tk}
 ref:∀{v:g9} {d:D},R v d->∃b,v=.ref b
 eqB:∀{s:i6} {y x:g9} {d d':D} {Q:Bool->i6->Prop},I s->R y d->R x d'->Q (@decide (d=d') (dec d d')) s->wpAny (u7 prog w) A (eqBool y x) Q E s
 byV:∀{s:i6} {x:g9} {d:D} {Q:Bool->i6->Prop},I s->R x d->(∀b,Q b s)->wpAny (u7 prog w) A (hashByValue 8 x) Q E s
 seen:∀{s:i6} {x:g9} {d:D} {ys:List g9} {Q:Bool->i6->Prop},I s->R x d->(∀y,y∈ys->∃d',R y d')->Q false s->wpAny (u7 prog w) A (searchCouldBeSeen x ys) Q E s
open L2 (isK Kt cP Jh)
mutual
theorem eqvK:∀(a b:f8),isK a=true->isK b=true->(l6 a b=true↔a=b)
 |.int i,.int j,_,_=>by simp[l6]
 |.str x,.str y,_,_=>by simp[l6]
 |.tuple xs,.tuple ys,ha,hb=>by
  simp only[l6,NV];exact xJ xs ys (by simpa[isK] using ha) (by simpa[isK] using hb)
 |.int _,.str _,_,_ |.int _,.tuple _,_,_ |.str _,.int _,_,_ |.str _,.tuple _,_,_ |.tuple _,.int _,_,_ |.tuple _,.str _,_,_=>by simp[l6]
 |.none,_,h,_ |.bool _,_,h,_ |.list _,_,h,_ |.dict _,_,h,_=>by simp[isK]at h
 |.int _,.none,_,h |.int _,.bool _,_,h |.int _,.list _,_,h |.int _,.dict _,_,h=>by simp[isK]at h
 |.str _,.none,_,h |.str _,.bool _,_,h |.str _,.list _,_,h |.str _,.dict _,_,h=>by simp[isK]at h
 |.tuple _,.none,_,h |.tuple _,.bool _,_,h |.tuple _,.list _,_,h |.tuple _,.dict _,_,h=>by simp[isK]at h
theorem xJ:∀(a b:List f8),Kt a=true->Kt b=true->(HX a b=true↔a=b)
 |[],[],_,_=>by simp[HX]
 |[],_::_,_,_=>by simp[HX]
 |_::_,[],_,_=>by simp[HX]
 |x::xs,y::ys,ha,hb=>by
  simp only[Kt,x3]at ha hb;simp only[HX,x3,HV];rw[eqvK x y ha.1 hb.1,xJ xs ys ha.2 hb.2]
end
section
variable {prog:o9}{w:x8}{E:g9->i6->Prop}
mutual
theorem Th:∀(k:f8) (v:g9) (as:List i9) (A:BO) (s:i6) (Q:Int->i6->Prop),isK k=true->Reads s.heap v k as->A.units+k.depth<EO ->
 (∀tk,s.toks<=tk->Q (cP w k) {s with toks:=tk})->wpAny (u7 prog w) A (pyHash v) Q E s
 |.int i,_,_,A,s,Q,_,x,_,h=>by cases x;exact wpAny_pyHash_int (h _ (JE _))
 |.str y,_,_,A,s,Q,_,x,_,h=>by cases x;exact wpAny_pyHash_str (h _ (JE _))
 |.tuple xs,_,_,A,s,Q,hk,x,hu,h=>by
  cases x with
  |tuple hg hc hd hr=>
   rename_i _ a o vs n;refine PySem.W.pyHash_slot (T:="tuple") ⟨_,hg,hc⟩ F.slot_tuple_hash F.entry_tuple_hash (F.args_tuple_hash_1 _) (beq_builtin_none _) (.inr (by lia)) ?_;show wpAny _ _ (GV (.ref a)>>=_) _ _ s;refine f9 (wpAny_tupleItemsOf hg hd ?_);refine f9 ?_;rw[<-Array.forIn_toList];refine Xi xs _ _ A.in1 s #[] _ (by simpa[isK] using hk) hr (by simp only[CW,Around.in1_units]at hu ⊢;lia) λtk b ht hb=>?_;show wpAny _ _ (retInt (MK b.toList)) _ _ _;rw[hb];exact f9 (wpAny_mkInt (i0 ⟨_,_,rfl,h _ (GJ ht)⟩))
 |.none,_,_,_,_,_,hk,_,_,_ |.bool _,_,_,_,_,_,hk,_,_,_ |.list _,_,_,_,_,_,hk,_,_,_ |.dict _,_,_,_,_,_,hk,_,_,_=>by simp[isK]at hk
theorem Xi:∀(xs:List f8) (vs:List g9) (as:List i9) (A:BO) (s:i6) (b:Array Int) (Q:Array Int->i6->Prop),Kt xs=true->OX s.heap vs xs as ->
 A.units+CI xs<EO->(∀tk b',s.toks<=tk->b'.toList=b.toList++Jh w xs->Q b' {s with toks:=tk}) ->
 wpAny (u7 prog w) A (forIn vs b λx r=>do let h <-pyHash x;pure PUnit.unit;pure (GB (r.push h))) Q E s
 |[],_,_,A,s,b,Q,_,x,_,h=>by cases x;exact i0 (h s.toks b (s0 _) (by simp[Jh]))
 |k::xs,_,_,A,s,b,Q,hk,x,hu,h=>by
  cases x with
  |cons x1 x2=>
   simp only[Kt,x3,CI]at hk hu;rw[NK];refine f9 (f9 (Th k _ _ A s _ hk.1 x1 (by lia) λtk ht=>?_));refine f9 (i0 (i0 ?_));exact Xi xs _ _ A _ _ Q hk.2 x2 (by lia) λtk' b' ht' hb=>h tk' b' (l9 ht ht') (by simp[hb,Jh])
end
end
section
variable {prog:o9}{w:x8}{A:BO}{E:g9->i6->Prop}
mutual
theorem Nz:∀(fuel:Nat) (k:f8) (v:g9) (as:List i9) (s:i6) (Q:Bool->i6->Prop),isK k=true->k.depth<=fuel->Reads s.heap v k as->Q true s ->
 wpAny (u7 prog w) A (eqIsQuiet fuel v) Q E s
 |fuel,.int _,_,_,s,Q,_,_,x,h=>by cases x;rw[eqIsQuiet_byValue _ rfl];exact i0 h
 |fuel,.str _,_,_,s,Q,_,_,x,h=>by cases x;rw[eqIsQuiet_byValue _ rfl];exact i0 h
 |0,.tuple _,_,_,s,Q,_,hd,x,h=>by simp[CW]at hd
 |fuel+1,.tuple xs,_,_,s,Q,hk,hdp,x,h=>by
  cases x with
  |tuple hg hc hd hr=>
   rename_i _ a o vs n;have hT:s.TypeIs (.ref a) "tuple":=⟨_,hg,hc⟩;unfold eqIsQuiet;refine f9 (EW hT F.slot_tuple_eq.lookup ?_);show wpAny _ _ (isInstance (.ref a) (.type "tuple")>>=_) _ _ s;refine f9 (JH hT isSubtype_tuple_tuple ?_);simp only[MG,FC,if_false];refine f9 (wpAny_seqItems hg hd ?_);refine f9 ?_;show wpAny _ _ (forIn vs _ _) _ _ s;rw[<-Array.forIn_toList];refine Sk fuel xs _ _ s _ (by simpa[isK] using hk) (by simp only[CW]at hdp;lia) hr ?_;exact i0 h
 |_,.none,_,_,_,_,hk,_,_,_ |_,.bool _,_,_,_,_,hk,_,_,_ |_,.list _,_,_,_,_,hk,_,_,_ |_,.dict _,_,_,_,_,hk,_,_,_=>by simp[isK]at hk
theorem Sk:∀(fuel:Nat) (xs:List f8) (vs:List g9) (as:List i9) (s:i6) (Q:Option Bool×Unit->i6->Prop),Kt xs=true->CI xs<=fuel->OX s.heap vs xs as ->
 Q (none,()) s ->
 wpAny (u7 prog w) A (forIn vs ((none,()):Option Bool×Unit) λx r=>do
  let b <-eqIsQuiet fuel x
  if (!b)=true then pure (ForInStep.done (some false,())) else do
   pure PUnit.unit
   pure (GB (none,()))) Q E s
 |_,[],_,_,s,Q,_,_,x,h1=>by cases x;exact i0 h1
 |fuel,k::xs,_,_,s,Q,hk,hdp,x,h1=>by
  cases x with
  |cons x1 x2=>
   simp only[Kt,x3,CI]at hk hdp;rw[NK];refine f9 (f9 (Nz fuel k _ _ s _ hk.1 (by lia) x1 ?_));simp only[MG,FC,if_false];exact i0 (Sk fuel xs _ _ s Q hk.2 (by lia) x2 h1)
end
end
end Sm
end
section
namespace Sm
open PySem PySem.Spec PyProof.Rows L2 PySem.Builtin.Str
section
variable {X:Cx}{e:Expr}{x:Str}{i:Nat}
noncomputable def Io(z:Str):f8->Option f8
 |.str y=>match occurrences z y 0 z.length 1 with
  |i::_=>some (.int i)
  |[]=>none
 |_=>none
def pT:MtR X "str.index" (λx vs H Q=>∃z y i T4,x=.str z/\vs=[.str y]/\occurrences z y 0 z.length 1=i::T4/\Q (.int (i:Nat)) H):=by
 rintro pins s σ H x vs v us Q I rx rv ⟨z,y,i,T4,e1,e2,e,q⟩;subst e1 e2;obtain⟨t,rfl⟩:=rx;obtain⟨u,rfl,ru⟩:=rv.one;obtain⟨t2,rfl⟩:=ru;exact PySem.SC.index e ⟨.int i,H,I.tok _,⟨_,rfl⟩,q⟩
end
end Sm
end
section
namespace Sm
open PySem PySem.Spec PyProof.Rows L2
section
variable {X:Cx}{E:EK}{a b:Expr}{f g:Dn->Res f8}{x:Str}{i:Nat}
def Qb(g f:Dn->Res f8):Dn->Res f8:=λδ=>(g δ).bind λz=>match z with
 |.str z=>(f δ).bind λd=>ofO (Io z d)
 |_=>.no
def rC{apos cpos:Pos}(hb:DE X E b g)(ha:DE X E a f)(hbase:FK b "index" X.env (eval b X.env)=eval b X.env:=by rfl)
 (hfew:((CD cpos (i8 [a] X.env)).all (λx=>!x.1)&&(HY cpos (FL [] X.env)).all (λx=>x.1.isSome)
  && decide ([a].length+([]:List GX).length+(if ([]:List GX).isEmpty then 0 else 1)<30))=true:=by rfl)
 (hline:(apos.endLine==cpos.line)=true:=by rfl) (hs:i8 [a] X.env=(false,eval a X.env)::i8 [] X.env:=by rfl) (hplain:(CD cpos (i8 [] X.env)).any (·.1)=false:=by rfl):
 DE X E (.Call (.Attribute b "index" apos) [a] [] cpos) (Qb g f):=by
 refine PE.imp (Lx NY PySem.F.slot_str_index PySem.F.type_str_index pT hb (E8 ha N0 hs) hbase hfew hline hs hplain) λσ H Q hZ3=>?_;obtain⟨G,δ,S,aft⟩:=hZ3;refine K0 S aft λd0 v0 G0 H0 g0 r0 S0 a0=>?_;cases d0 with
 |str z=>
  cases r0.1;refine⟨rfl,?_⟩;refine K0 S0 a0 λd v G1 H1 g1 r1 S1 a1=>?_;cases d with
  |str y=>
   cases r1.1;cases eo:HZ z y 0 z.length 1 with
   |nil=>simp only[Io,eo]at a1;exact(show False from a1).elim
   |cons i T4=>
    simp only[Io,eo]at a1;exact⟨z,y,i,T4,rfl,rfl,eo,a1 _ G1 H1 (Grow.refl S1.sub) rfl⟩
  |_=>exact(show False from a1).elim
 |_=>exact(show False from a0).elim
end
open AutoSeq1 (wpAny_loadPart')
end Sm
end
section
namespace Sm
open PySem PySem.W PyProof.Rows
section
variable {prog:o9}{w:x8}{A:BO}{E:g9->i6->Prop}{s:i6}
def aB{T:String}{r d:i9}{n:Nat}{P:Nat->g9->Prop}{OK:BL->Prop}{Q:List g9->i6->Prop}(K:KdlSrc prog w T r d n P OK)(hh:A.handled=none)(hok:OK s.heap)(hn:n<=sizeLine)
 (hQ:∀(h':BL) tk acc,(∀b o,s.heap.get? b=some o->h'.get? b=some o)->OM P acc n->Q acc.toList {s with heap:=h',toks:=tk}):wpAny (u7 prog w) A (collect (.ref r)) Q E s:=by
 have hlt:=K.there _ hok;have hS:(s.heap.push {cls:=.type "list",data:=.seq ([]:List g9).toArray}).get? s.heap.objs.size=some {cls:=.type "list",data:=.seq #[] 0}:=x5 _ rfl;unfold collect;refine f9 (wpAny_runValue (II F.entry_proto_collect ?_));rw[HK F.plain_proto_collect _];refine f9 (BX (i0 ⟨plainId_quiet F.plain_list_iadd _,II F.entry_list_iadd ?_⟩));rw[HK F.plain_list_iadd _];refine DG (kdl_extend (A:=A) (s:={s with heap:=s.heap.push {cls:=.type "list",data:=.seq ([]:List g9).toArray}})
  (R:=λres s'=>∃h' tk acc c,res=.ok (.ret (.ref s.heap.objs.size))/\s'={s with heap:=h',toks:=tk}/\(∀b o,s.heap.get? b=some o->h'.get? b=some o) /\
   h'.get? s.heap.objs.size=some {cls:=.type "list",dict:=none,data:=.seq acc c,slots:=#[]}/\OM P acc n)
  K hh (K.keep _ _ hok λb _ o e=>l8 _ e) s.heap.objs.size (IQ hlt.1) (IQ hlt.2) (.ref s.heap.objs.size) 0 hS
  (λh' tk acc c hk hS' hacc=>⟨h',tk,acc,c,rfl,rfl,λb o e=>hk b o (z8 (q9 e)) (l8 _ e),hS',hacc⟩) hn) (λfin s' h=>?_) (λe s' h=>?_)
 .cases fin with
  |done f=>
   obtain⟨h',tk,acc,c,e,rfl,hk,hS',hacc⟩:=h;cases e;exact f9 (wpAny_load hS' (i0 (hQ h' tk acc hk hacc)))
  |again c'=>
   refine⟨h.1,JZ h.2 λr s'' hr=>?_⟩;obtain⟨h',tk,acc,c,rfl,rfl,hk,hS',hacc⟩:=hr;exact f9 (wpAny_load hS' (i0 (hQ h' tk acc hk hacc)))
 .obtain⟨_,_,_,_,e,_⟩:=h
  cases e
end
end Sm
end
section
namespace Sm
open PySem PySem.Spec PyProof.Rows L2
noncomputable abbrev Kvs:=List (f8×f8)
def Di(g1:Dn->Out)(g2:Dn->Res Kvs):Dn->Res Kvs:=λδ=>match g1 δ with
 |.nx δ'=>g2 δ'
 |.exc c=>.exc c
 |_=>.no
def fnW(N:List Str)(g:Dn->Res Kvs):List f8->Res Kvs:=λds=>g (O3 N ds)
def Ey(fs:Dn->Res (List f8))(m:List f8->Res Kvs):Dn->Res Kvs:=λδ=>(fs δ).bind m
def Yv:Slot "reversed" "__init__" "object.__init__":=
 .of (owner:="object") (n:="__init__") (by rw[JS,HS];kernel_rfl) (by rfl) (by rfl) (by rfl) (by first |exact .inl (by rfl) |exact .inr (by decide+kernel)) (by rfl)
def Mu:TypeCalled "reversed" "reversed.__new__" "object.__init__":=
 ⟨by rfl,by rfl,⟨_,_,F.mro_reversed⟩,F.made_reversed,by decide+kernel,F.sub_reversed_self,Yv⟩
def Y8:Slot "reversed" "__next__" "reversed.__next__":=
 .of (owner:="reversed") (n:="__next__") (by rfl) (by rfl) (by rfl) (by rfl) (by first |exact .inl (by rfl) |exact .inr (by decide+kernel)) (by rfl)
def Lq:Slot "reversed" "__iter__" "reversed.__iter__":=
 .of (owner:="reversed") (n:="__iter__") (by rfl) (by rfl) (by rfl) (by rfl) (by first |exact .inl (by rfl) |exact .inr (by decide+kernel)) (by rfl)
def Kc:entryFor table "reversed.__next__"=some EM.«reversed.__next__»:=entryFor_of_tree ⋯
def Vu:entryFor table "reversed.__iter__"=some EM.«dict_keyiterator.__iter__»:=by
 exact entryFor_alias (id':="dict_keyiterator.__iter__") ⋯ (by rfl) (by decide+kernel) ⋯
def Lr(a:g9):argsOk "reversed.__next__" ⟨[a],[]⟩:=by unfold argsOk;kernel_rfl
def Yw(a:g9):argsOk "reversed.__iter__" ⟨[a],[]⟩:=by unfold argsOk;kernel_rfl
def sK:KJ (.type "tuple") "__reversed__"=pure none:=by rw[JS,HS];kernel_rfl
def sM:isSubtype (.type "tuple") (.type "dict")=pure false:=by rfl
noncomputable def IsRvT(h:BL)(a l:i9)(i:Int):Prop:=∃o,h.get? a=some o/\o.cls=.type "reversed"/\o.data=.fields #[.ref l,HF i]
section
variable {prog:o9}{w:x8}{A:BO}{E:g9->i6->Prop}{s:i6}
def IsRvT.typeIs{a l:i9}{i:Int}(x:IsRvT s.heap a l i):s.TypeIs (.ref a) "reversed":=let ⟨o,ho,hc,_⟩:=x;⟨o,ho,hc⟩
def sN{l:i9}{items:Array g9}{Q₁:g9->i6->Prop}(hl:LP s.heap l items)(hz:items.size<=sizeLine)
 (h:∀tk,Q₁ (.ref s.heap.objs.size) {s with heap:=s.heap.push {cls:=.type "reversed",data:=.fields #[.ref l,HF ((items.size:Int)-1)]},toks:=tk}):
 IJ (u7 prog w) A (.call (.builtin "reversed.__new__") ⟨[.type "reversed",.ref l],[]⟩) (wants Q₁ E) s:=by
 refine codeAny_of_tree (f9 (HC (F.newCall_reversed_1 _) (i0 ⟨plainId_quiet F.plain_reversed_new _,II F.entry_reversed_new ?_⟩)));rw[HK F.plain_reversed_new _];unfold EM.«reversed.__new__»;refine f9 (HC (newClass_reversed _) (f9 (HC (a:=()) (by rfl) (f9 (HC (a:=()) (by rfl) ?_)))));refine f9 (EW hl.typeIs sK ?_);try dsimp only
 refine f9 (f9 (JH hl.typeIs sM ?_));simp only[FC,if_false];refine f9 (EW hl.typeIs ND.lookup ?_);dsimp only;rw[iq (by rfl)];refine i0 ?_;simp only[MG,FC,if_false];have hn:=Ii;refine f9 (len_tuple hl (by lia) (f9 (HC (a:=some (items.size:Int)) rfl ?_)));refine f9 ?_;show wpAny _ _ (newObj (IU "reversed") (.fields #[.ref l,HF ((items.size:Int)-1)])) _ _ _;exact BX (i0 (h _))
def sO{l:i9}{items:Array g9}{Q:g9->i6->Prop}(hl:LP s.heap l items)(hz:items.size<=sizeLine)
 (h:∀tk,Q (.ref s.heap.objs.size) {s with heap:=s.heap.push {cls:=.type "reversed",data:=.fields #[.ref l,HF ((items.size:Int)-1)]},toks:=tk}):wpAny (u7 prog w) A (call (.type "reversed") [.ref l]) Q E s:=by
 refine OW (Q₁:=λobj t=>t.TypeIs obj "reversed"/\Q obj t) Mu (F.typeCall_reversed_1 _) F.entry_object_init (sN hl hz λtk=>⟨⟨_,x5 _ rfl,rfl⟩,h tk⟩) λobj t ht=>?_;exact⟨ht.1,F.args_object_init_2 obj _,object_init_meets Mu.init.lookup Mu.made (by decide) prog w A.in1 _ t ⟨ht.1,rfl,ht.2⟩⟩
def sL{it l:i9}{i:Nat}{items:Array g9}{x:g9}{Q:Option g9->i6->Prop}(hit:IsRvT s.heap it l (i:Int))(hl:LP s.heap l items)(hz:items.size<=sizeLine)(hx:items[i]?=some x)
 (hQ:∀h' tk,IsRvT h' it l ((i:Int)-1)->JO it s.heap h'->Q (some x) {s with heap:=h',toks:=tk}):wpAny (u7 prog w) A (KL (.ref it)) Q E s:=by
 obtain⟨o,ho,hc,hd⟩:=id hit;have hi:i<items.size:=by
  rcases Nat.lt_or_ge i items.size with h |h
  .exact h
  .simp[h]at hx
 have hn:=Ii;unfold KL;refine f9 (HP ?_);refine DH (name:=FE "__next__") hit.typeIs Y8 ?_;refine DR Y8 hit.typeIs Kc ?_ (Lr _);unfold EM.«reversed.__next__»;refine f9 (HC (a:=(CU it,[])) rfl ?_);try dsimp only
 refine f9 (GL ho hd (x:=.ref l) rfl (f9 (GL ho hd (x:=HF (i:Int)) rfl ?_)));show wpAny _ _ (if (i:Int)<0 then _ else _) _ _ s;rw[ir (by lia)];refine f9 (EW hl.typeIs ND.lookup ?_);rw[ir (by simp)];refine f9 (wpAny_mkInt (f9 (HP ?_)));refine getItem_tuple (s:={s with toks:=s.toks+1}) (j:=i) hl (by lia) (by lia) ?_ hx ?_
 .unfold seqIndex?
  first | (simp;lia) | (rw[ir (by lia),iq (by lia)];simp) | (split <;> simp_all <;> lia)
 .try dsimp only
  refine f9 (GL (s:={s with toks:=s.toks+1}) ho hd (x:=HF (i:Int)) rfl ?_);show wpAny _ _ (OT (.ref it) 1 (HF ((i:Int)-1))>>=_) _ _ _;refine f9 (KI (s:={s with toks:=s.toks+1}) ho hd (by simp) ?_);refine i0 ⟨x,rfl,i0 (hQ _ _ ?_ (GF ..))⟩;exact⟨_,ET _ ho (LO (GZ hd _)),(Obj.cls_mapFields ..).trans hc,by rw[GZ hd];simp⟩
def yL{it l:i9}{j:Int}{Q:Option g9->i6->Prop}(hj:j<0)(hh:A.handled=none)(hit:IsRvT s.heap it l j)
 (hQ:∀h',Heap.ExtBut it s.heap h'->Q none {s with heap:=h'}):wpAny (u7 prog w) A (KL (.ref it)) Q E s:=by
 obtain⟨o,ho,hc,hd⟩:=id hit;unfold KL;refine f9 (HP ?_);refine DH (name:=FE "__next__") hit.typeIs Y8 ?_;refine DR Y8 hit.typeIs Kc ?_ (Lr _);unfold EM.«reversed.__next__»;refine f9 (HC (a:=(CU it,[])) rfl ?_);try dsimp only
 refine f9 (GL ho hd (x:=.ref l) rfl (f9 (GL ho hd (x:=HF j) rfl ?_)));show wpAny _ _ (if j<0 then _ else _) _ _ s;rw[iq hj];refine f9 (EI ?_);have ho1:=ET (OG (·.setIfInBounds 1 (HF (-1)))) ho (LO (GZ hd _));have hd1:=GZ hd (λa=>a.setIfInBounds 1 (HF (-1)));refine f9 ?_;show wpAny _ _ (OT (.ref it) 1 (HF (-1))>>=λ_=>OT (.ref it) 0 .none) _ _ _;refine f9 (KI ho hd (by simp) (KI ho1 hd1 (by simp) (f9 ?_)))
 show wpAny _ _ (newExc (.type "StopIteration") []>>=_) _ _ _;refine f9 ?_;simp only[newExc,newTuple];refine f9 (BX ?_ (by size_fits));refine f9 (m:=MO _ _) (HC (a:=EU) (by first |rfl | (simp only[MO];rfl)) (BX ?_ (by size_fits)));simp only[raiseNew];refine f9 (wpAny_handled ?_);rw[show A.in1.handled=none from hh];refine f9 (i0 (wpAny_throw (f9 ?_)));refine JH (T:="StopIteration") (b:=true) ⟨_,x5 _ rfl,rfl⟩ isSubtype_stop ?_;refine i0 (hQ _ (OI (OI ?_ _) _))
 intro b ob hb eb;exact((GF ..).extBut b ob hb ((GF ..).extBut b ob hb eb))
def hU{it l:i9}{i:Int}{Q:g9->i6->Prop}(hit:IsRvT s.heap it l i)(h:Q (.ref it) s):wpAny (u7 prog w) A (pyIter (.ref it)) Q E s:=by
 refine wpAny_pyIter_slot hit.typeIs Lq (DR Lq hit.typeIs Vu ?_ (Yw _));show wpAny _ _ (ret (.ref it)) _ _ s;exact i0 ⟨_,rfl,"reversed",_,hit.typeIs,Y8.lookup,h⟩
end
def ItV(K:i5)(a:i9)(n:Nat):It:=
 ⟨λi H=>i<n/\∃xs x,SqT K H a xs/\xs.length=n/\xs[n-1-i]?=some x,λi H x H'=>H'=H/\∀xs,SqT K H a xs->xs[n-1-i]?=some x,λi H=>n<=i⟩
def mX{P:o9}{w:x8}{K:i5}{tg:Expr}(a it:i9)(n:Nat):Turn P w K tg (ItV K a n) [it] it (λi h=>IsRvT h it a ((n:Int)-1-i)) where
 mem:=by simp
 obj:=λi h st b hb=>by
  have e:b=it:=by simpa using hb
  subst e;obtain⟨o,e,c,d⟩:=st;exact⟨o,e,λv z=>by rw[d]at z;cases z⟩
 keep:=λi h h' st k=>by
  obtain⟨o,e,r⟩:=st;exact⟨o,k it (by simp) o e,r⟩
 item:=by
  intro X hP hw hK hc i pins s σ H E I hf st hg;subst hP hw hK;obtain⟨hi,xs,x,hq,hn,hx⟩:=hg;obtain⟨its,rv,p,hz⟩:=I.tuple hq;obtain⟨u,hu,ru⟩:=rv.get hx;have hl:=rv.length;obtain⟨f0,f1,f2,f3,f4,f5⟩:=hf it (by simp);have e1:(n:Int)-1-(i:Int)=((n-1-i:Nat):Int):=by lia
  rw[e1]at st;refine sL st (show LP s.heap a its.toArray from p) (by simp only[m8];lia) (x:=u) (by simpa using hu) λh' tk st' sb=>?_;have I1:Inv X pins σ H {s with heap:=h',toks:=tk}:=I.turned (t':=tk) (λb o hb e=>(sb.2 b hb).trans e) f0 f1 f3 f4 f5;obtain⟨o,e,c,d⟩:=id st';refine⟨u,rfl,Xk (s:={s with heap:=h',toks:=tk}) e c d (by decide) ⟨x,H,I1,ru,⟨rfl,λys hy=>by rw[I.tuple_inj hy hq];exact hx⟩,?_,λb hb=>(hf b hb).1⟩⟩;have e2:((n-1-i:Nat):Int)-1=(n:Int)-1-((i+1:Nat):Int):=by lia
  rw[e2]at st';exact st'
 done:=by
  intro X hP hw hK hc i pins s σ H E I hf st hg;subst hP hw hK;have hi:n<=i:=hg;obtain⟨f0,f1,f2,f3,f4,f5⟩:=hf it (by simp);exact yL (by lia) (I.ok.hd hc) st λh' eb=>⟨rfl,I.turned (t':=s.toks) (λb o hb e=>eb b o hb e) f0 f1 f3 f4 f5⟩
 self:=λ_ _ _ _ _ st h=>hU st h
def mT{K:i5}{G:Hp}{a:i9}{xs:List V}{ds:List f8}(h:G a=some (.tup xs))(l:RepL G ds xs):Walk (ItV K a xs.length) G ds.reverse where
 go:=λi H hi hG=>by
  have hi':i<xs.length:=by rw[<-l.length];simp_all
  exact⟨hi',xs,xs[xs.length-1-i],.inl (.inl (hG _ _ h)),rfl,by simp⟩
 yld:=λi d G2 H x H' e h1 h2 hy=>by
  obtain⟨rfl,hy⟩:=hy;have hlen:=l.length;have hi:i<ds.length:=by
   grind
  rw[LH hi]at e;obtain⟨y,e1,r⟩:=l.get e;have:=hy xs (.inl (.inl (h2 _ _ (h1 _ _ h))));rw[hlen]at e1;rw[e1]at this;cases this;exact⟨G2,Grow.refl h2,r.mono h1⟩
 stop:=λi H hi hG=>by
  show xs.length<=i;rw[<-l.length];simp_all
noncomputable def bI:f8->Res (List f8)
 |.tuple ds=>.ok ds.reverse
 |_=>.no
section
variable {P:o9}{w:x8}{K:i5}{mg:Str->Option g9}{base:BL}{X:Cx}{N:List Str}{sc:Scope}{k:Nat}{df:Bool}{E:EK}{pos p:Pos}{tg a:Expr}{f:Dn->Res f8}
def i_rev(C:Cxt P w K mg base X N sc k df)(h:okGl sc "reversed"=true)(hm:mg "reversed"=none)(ha:DE X E a f)(he:i8 [a] X.env=(false,eval a X.env)::i8 [] X.env:=by rfl)(hpl:(CD pos (i8 [] X.env)).any (·.1)=false:=by rfl):
 DI X E tg (.Call (.Name "reversed" p) [a] [] pos) (λδ=>(f δ).bind bI):=by
 rintro pins s σ H R I ⟨G,δ,S,aft⟩;obtain⟨h1,h2,h3⟩:=okGl.gl C h;have hh:=Mi (R:=λv H1=>∃v0 G1 d,[v]=[v0]/\Same G1 H1/\Rep G1 d v0/\AftI E G1 H1 (bI d) R) (W:=λG H r=>AftI E G H r R) S aft (λg a=>AftI.grow g a) (λc a=>a) (λa=>a) λd v G1 H1 g1 r1 S1 a1=>⟨v,G1,d,rfl,S1.sub,r1,a1⟩;refine DV (Ij I h1 (by rw[C.hmg];exact hm) (show GN "reversed"=some (.type "reversed") by decide+kernel) ?_ h3 h2);refine EB (thn ((E8 ha N0 he) pos pins s σ H (λvs H1=>∃v G1 d,vs=[v]/\Same G1 H1/\Rep G1 d v/\AftI E G1 H1 (bI d) R) I ?_) λus s1 ⟨vs,H1,I1,rx,v,G1,d,ev,hG,rd,a1⟩=>?_) he hpl
 .exact hh
 .subst ev
  obtain⟨u,rfl,ru⟩:=Vals.one rx;cases d with
  |tuple ds=>
   obtain⟨q,xs,rfl,hq,l1⟩:=rd;cases ru;obtain⟨zz,its,rv,e1⟩:=Kn I1 hG hq;have hl:=rv.length;refine sO (show LP s1.heap q its.toArray from e1) (by simp only[m8];lia) λtk=>?_;have I2:Inv X pins σ H1 {s1 with heap:=s1.heap.push {cls:=.type "reversed",data:=.fields #[.ref q,HF ((its.toArray.size:Int)-1)]},toks:=tk}:=I1.kept (t':=tk) λb o e=>l8 _ e;have st:IsRvT (s1.heap.push {cls:=.type "reversed",data:=.fields #[.ref q,HF ((its.toArray.size:Int)-1)]}) s1.heap.objs.size q ((xs.length:Int)-1-((0:Nat):Int)):=⟨_,x5 _ rfl,rfl,by simp[hl]⟩
   refine hU (s:={s1 with heap:=s1.heap.push {cls:=.type "reversed",data:=.fields #[.ref q,HF ((its.toArray.size:Int)-1)]},toks:=tk}) st ?_;refine⟨s1.heap.objs.size,[s1.heap.objs.size],_,_,H1,rfl,I2,mX q _ xs.length,st,λb hb=>?_,a1 _ G1 H1 (Grow.refl hG) (mT hq l1)⟩;have e:b=s1.heap.objs.size:=by simpa using hb
   subst e;exact I1.fpOk (s0 _) (I1.hok.fresh (s0 _))
  |_=>exact(show False from a1).elim
end
end Sm
end
section
namespace Sm
open PySem PySem.Spec PyProof.Rows L2
section
variable {prog:o9}{w:x8}{A:BO}{E:g9->i6->Prop}{s:i6}
def qK{d:i9}{od:Obj}{es:Array CL}{ep:Nat}{Q:g9->i6->Prop}(hd:(d==FX)=false)(hT:s.TypeIs (.ref d) "dict")(ho:s.heap.get? d=some od)(hdat:od.data=.dict es ep)
 (hQ:Q (.ref s.heap.objs.size) {s with heap:=s.heap.push {cls:=.type "dict_keyiterator",data:=.fields #[.ref d,.int 0 0,.int es.size 0,.int ep 0]}}):
 wpAny (u7 prog w) A (pyIter (.ref d)) Q E s:=by
 refine wpAny_pyIter_slot hT F.slot_dict_iter (DR F.slot_dict_iter hT F.entry_dict_iter ?_ (F.args_dict_iter_1 _));unfold EM.«dict.__iter__» Builtin.Dict.dictSlotNone;refine f9 (f9 (JF hT (i0 ?_)));have hz:∀(R:g9->i6->Prop),wpAny (u7 prog w) A.in1 (NJ d) (λ_ t=>t=s) R s:=λR=>by
  unfold NJ;rw[hd];exact i0 rfl
 refine f9 (HC (a:=d) rfl (f9 (DG (hz E) (λ_ t e=>?_) λ_ _ e=>e)));subst e;refine f9 (HU ho hdat (f9 (DM ho hdat ?_)));refine f9 (BX (i0 ⟨_,rfl,"dict_keyiterator",_,⟨_,x5 _ rfl,rfl⟩,F.slot_dict_keyiterator_next.lookup,?_⟩));simpa[HF] using hQ
def pM{it d:i9}{i ep:Nat}{od:Obj}{es:Array CL}{Q:Option g9->i6->Prop}(hit:s.heap.IsKeyIter it d i es.size ep)(hod:s.heap.get? d=some od)(hdd:od.data=.dict es ep)(hlt:i<es.size)
 (hQ:∀h',h'.IsKeyIter it d (i+1) es.size ep->JO it s.heap h'->Q (some es[i].key) {s with heap:=h'}):wpAny (u7 prog w) A (KL (.ref it)) Q E s:=by
 obtain⟨o,ho,hc,hd⟩:=id hit;have hnew:(s.heap.update it (OG (·.setIfInBounds 1 (HF ((i:Int)+1))))).IsKeyIter it d (i+1) es.size ep:=by
  refine⟨_,ET _ ho (LO (GZ hd _)),(Obj.cls_mapFields ..).trans hc,?_⟩;rw[GZ hd];simp[HF]
 have hty:Shared.TypeIs {s with heap:=s.heap.update it (OG (·.setIfInBounds 1 (HF ((i:Int)+1))))} (.ref it) "dict_keyiterator":=hnew.typeIs;unfold KL;refine f9 (HP ?_);refine DH (name:=FE "__next__") hit.typeIs F.slot_dict_keyiterator_next ?_;refine DR F.slot_dict_keyiterator_next hit.typeIs F.entry_dict_keyiterator_next ?_ (F.args_dict_keyiterator_next_1 _);refine f9 (i0 (f9 (f9 ?_)));refine f9 (HB hit.typeIs (i0 ?_));refine f9 (wpAny_fieldsOf ho hd ?_)
 simp only[show KU "dict_keyiterator"=false by decide,FC,if_false];show wpAny _ _ (if (CU d==EU)=true then _ else _) _ _ s;rw[ir (by exact z6)];refine f9 (i0 (f9 (HU hod hdd ?_)));rw[ir (by simp)];refine f9 (i0 (f9 (DM hod hdd ?_)));rw[ir (by simp)];refine i0 ?_;simp only[show ¬((i:Int)<0) from by lia,if_false,KG,ES hlt];refine f9 (f9 (HB hit.typeIs (i0 ?_)))
 refine f9 (MB hit.typeIs ?_);show wpAny _ _ (OT (.ref it) 1 (HF ((i:Int)+1))>>=_) _ _ s;refine f9 (KI ho hd (by simp) (f9 (CJ ?_)));refine f9 (MB hty ?_);first
  |exact i0 (i0 ⟨_,rfl,i0 (hQ _ hnew (GF ..))⟩)
  | (refine f9 (MB hty ?_);exact i0 (i0 ⟨_,rfl,i0 (hQ _ hnew (GF ..))⟩))
def vI{it d:i9}{i ep:Nat}{od:Obj}{es:Array CL}{Q:Option g9->i6->Prop}(hh:A.handled=none)(hi:es.size<=i)(hit:s.heap.IsKeyIter it d i es.size ep)(hod:s.heap.get? d=some od)(hdd:od.data=.dict es ep)
 (hQ:∀h',Heap.ExtBut it s.heap h'->Q none {s with heap:=h'}):wpAny (u7 prog w) A (KL (.ref it)) Q E s:=by
 obtain⟨o,ho,hc,hd⟩:=id hit;unfold KL;refine f9 (HP ?_);refine DH (name:=FE "__next__") hit.typeIs F.slot_dict_keyiterator_next ?_;refine DR F.slot_dict_keyiterator_next hit.typeIs F.entry_dict_keyiterator_next ?_ (F.args_dict_keyiterator_next_1 _);refine f9 (i0 (f9 (f9 ?_)));refine f9 (HB hit.typeIs (i0 ?_));refine f9 (wpAny_fieldsOf ho hd ?_);simp only[show KU "dict_keyiterator"=false by decide,FC,if_false]
 show wpAny _ _ (if (CU d==EU)=true then _ else _) _ _ s;rw[ir (by exact z6)];refine f9 (i0 (f9 (HU hod hdd ?_)));rw[ir (by simp)];refine f9 (i0 (f9 (DM hod hdd ?_)));rw[ir (by simp)];refine i0 ?_;simp only[show ¬((i:Int)<0) from by lia,if_false,KG,Array.getElem?_eq_none hi];refine f9 (f9 (HB hit.typeIs (i0 ?_)));show wpAny _ _ (OT (.ref it) 0 .none>>=_) _ _ s;refine f9 (KI ho hd (by simp) ?_)
 show wpAny _ _ (newExc (.type "StopIteration") []>>=_) _ _ _;refine f9 ?_;simp only[newExc,newTuple];refine f9 (BX ?_ (by size_fits));refine f9 (m:=MO _ _) (HC (a:=EU) (by first |rfl | (simp only[MO];rfl)) (BX ?_ (by size_fits)));simp only[raiseNew];refine f9 (wpAny_handled ?_);rw[show A.in1.handled=none from hh];refine f9 (i0 (wpAny_throw (f9 ?_)));refine JH (T:="StopIteration") (b:=true) ⟨_,x5 _ rfl,rfl⟩ isSubtype_stop ?_;exact i0 (hQ _ (((GF ..).extBut.push _).push _))
end
section
variable {P:o9}{w:x8}{K:i5}{mg:Str->Option g9}{base:BL}{X:Cx}{N:List Str}{sc:Scope}{k:Nat}{df:Bool}{E:EK}{pos:Pos}{a b c e:Expr}{f g f':Dn->Res f8}{x:Str}
def kA(C:Cxt P w K mg base X N sc k df)(ha:DE X E a f)(hb:DE X E b g)(hc:DE X E c f')(hm:KD [.LtE,.LtE] [b,c]=false:=by with_unfolding_all rfl):
 DT X E (.Compare a [.LtE,.LtE] [b,c] pos) (C3 (K6 f g f' (E6 .LtE) (E6 .LtE))):=by
 have hr:OpR X (CH .LtE) (bL .LtE):=Gg (.inr rfl) C.hu;refine PT.imp (bO hr hr ha hb hc hm) λσ H Q hZ3=>?_;obtain⟨G,δ,S,aft⟩:=hZ3;have aft':AftT E G H ((f δ).bind λx=>(g δ).bind λy=>(ofO (E6 .LtE x y)).bind λz=>(match z with
  |.bool true=>(f' δ).bind λu=>ofO (E6 .LtE y u)
  |.bool false=>.ok (.bool false)
  |_=>.no).bind λd=>ofO (Qs d)) Q:=by
  unfold C3 K6 at aft;simp only[Res.bind_assoc]at aft;exact aft
 refine U3 S aft' λd1 v1 G1 H1 g1 r1 S1 a1=>?_;refine U3 S1 a1 λd2 v2 G2 H2 g2 r2 S2 a2=>?_;cases e:E6 .LtE d1 d2 with
 |none=>rw[e]at a2;exact a2.elim
 |some d=>
  rw[e]at a2;obtain⟨kk,rfl⟩:=Fh _ _ _ e;refine Dt G2 H2 v1 v2 d1 d2 _ _ S2.sub (r1.mono g2.g) r2 e λv G3 H3 g3 r3=>⟨kk,r3,?_⟩;have S3:=S2.grow g3;cases kk with
  |false=>rw[ir (by decide)];exact⟨false,rfl,a2 G3 H3 g3⟩
  |true=>
   rw[iq rfl];have a3:AftT E G3 H3 ((f' δ).bind λu=>(ofO (E6 .LtE d2 u)).bind λd=>ofO (Qs d)) Q:=by
    have h0:AftT E G3 H3 (((f' δ).bind λu=>ofO (E6 .LtE d2 u)).bind λd=>ofO (Qs d)) Q:=AftT.grow g3 a2;rw[Res.bind_assoc]at h0;exact h0
   refine U3 S3 a3 λd4 v4 G4 H4 g4 r4 S4 a4=>?_;cases e':E6 .LtE d2 d4 with
   |none=>rw[e']at a4;exact a4.elim
   |some d=>
    rw[e']at a4;obtain⟨k2,rfl⟩:=Fh _ _ _ e';exact Dt G4 H4 v2 v4 d2 d4 _ _ S4.sub (r2.mono (g3.g.trans g4.g)) r4 e' λv G5 H5 g5 r5=>⟨k2,r5,a4 G5 H5 g5⟩
end
end Sm
end
section
namespace Sm
open PySem PySem.Spec PyProof.Rows PySem.W L2
structure NAt(h:BL)(v:g9)(d:f8):Prop where
 rd:∃as,Reads h v d as
 nk:d=.none\/(isK d=true/\((∃xs,d=.tuple xs)\/∃z,d=.str z))
 lay:d.canLay0=true
 dp:d.depth<=8
def Nj{a b:f8}(ha:a=.none\/(isK a=true/\((∃xs,a=.tuple xs)\/∃z,a=.str z)))(hb:b=.none\/(isK b=true/\((∃xs,b=.tuple xs)\/∃z,b=.str z))):l6 a b=true↔a=b:=by
 rcases ha with rfl |⟨ha,ha'⟩
 .rcases hb with rfl |⟨_,⟨ys,rfl⟩ |⟨z,rfl⟩⟩
  .exact⟨λ_=>rfl,λ_=>rfl⟩
  .exact⟨λh=>(by simp[l6]at h),λh=>nomatch h⟩
  .exact⟨λh=>(by simp[l6]at h),λh=>nomatch h⟩
 .rcases hb with rfl |⟨hb,_⟩
  .rcases ha' with⟨xs,rfl⟩ |⟨z,rfl⟩
   .exact⟨λh=>(by simp[l6]at h),λh=>nomatch h⟩
   .exact⟨λh=>(by simp[l6]at h),λh=>nomatch h⟩
  .exact eqvK _ _ ha hb
section
variable {prog:o9}{w:x8}{A:BO}{E:g9->i6->Prop}{s:i6}
def NAt.val{h:BL}{v:g9}{d:f8}(x:NAt h v d):(d=.none/\v=.none)\/(∃z t,d=.str z/\v=.str z t)\/∃b,v=.ref b:=by
 obtain⟨as,r⟩:=x.rd;rcases x.nk with rfl |⟨_,⟨xs,rfl⟩ |⟨z,rfl⟩⟩
 .cases r;exact .inl ⟨rfl,rfl⟩
 .cases r;exact .inr (.inr ⟨_,rfl⟩)
 .cases r;exact .inr (.inl ⟨_,_,rfl,rfl⟩)
def NAt.hash{v:g9}{d:f8}{Q:Int->i6->Prop}(x:NAt s.heap v d)(hu:A.units+8<EO)(q:∀tk,Q (Y1 w d) {s with toks:=tk}):wpAny (u7 prog w) A (pyHash v) Q E s:=by
 obtain⟨as,r⟩:=x.rd;rcases x.nk with rfl |⟨hk,hk'⟩
 .cases r
  unfold pyHash;have hv:[EU].any Value.onHeap=false:=rfl;have hT:s.TypeIs EU "NoneType":=rfl;refine f9 ?_;rw[cRoomFor,ir (by lia)];refine i0 (f9 (EW hT F.slot_NoneType_hash.lookup ?_));show wpAny _ _ (if (some (Value.builtin "NoneType.__hash__")==some EU)=true then _ else _) Q E s;rw[ir (by lia)];refine f9 (EW hT F.slot_NoneType_hash.lookup ?_);show wpAny _ _ (callSpecialIfBoundUnlessNone? EU "__hash__" _>>=_) Q E s;refine f9 (wpAny_callSpecialIfBoundUnlessNone?_slot hT F.slot_NoneType_hash (DR F.slot_NoneType_hash hT F.entry_NoneType_hash (show wpAny _ _ (do ret (<-mkInt 0xFCA86420)) _ _ s from wpAny_ret_mkInt ?_) (F.args_NoneType_hash_1 _)))
  show wpAny _ _ (if (decide (-(2:Int) ^ 63<=0xFCA86420)&&decide ((0xFCA86420:Int)<2 ^ 63))=true then _ else _) Q E _;rw[iq (by decide)];exact i0 (q _)
 .have e:Y1 w d=cP w d:=by rcases hk' with⟨_,rfl⟩ |⟨_,rfl⟩ <;> rfl
  rw[e]at q;exact Th _ _ as A s Q hk r (by have:=x.dp;lia) λtk _=>q tk
def NAt.quiet{v:g9}{d:f8}{Q:Bool->i6->Prop}(x:NAt s.heap v d)(q:Q true s):wpAny (u7 prog w) A (eqIsQuiet 8 v) Q E s:=by
 obtain⟨as,r⟩:=x.rd;rcases x.nk with rfl |⟨hk,hk'⟩
 .cases r;exact i0 q
 .exact Nz 8 _ _ as s Q hk x.dp r q
def NAt.eq{v u:g9}{a b:f8}{Q:Bool->i6->Prop}(x:NAt s.heap v a)(y:NAt s.heap u b)(hu:A.units+8<EO)(q:Q (l6 a b) s):wpAny (u7 prog w) A (eqBool v u) Q E s:=by
 obtain⟨as,r⟩:=x.rd;obtain⟨bs,r'⟩:=y.rd;exact SeqAt.eqBoolOverData prog w A E s v u a b as bs Q r r' x.lay y.lay (by have:=x.dp;lia) q
structure EsN(w:x8)(h:BL)(es:Array CL)(ks:List f8):Prop where
 len:es.size=ks.length
 ent:∀(i:Nat) e,es[i]?=some e->∃k,ks[i]?=some k/\NAt h e.key k/\e.hash=Y1 w k
 nd:ks.Nodup
def fX{d:i9}{o:Obj}{es:Array CL}{ep:Nat}{ks:List f8}{key:g9}{k:f8}{Q:Option Nat->i6->Prop}(hu:A.units+8<EO)(ho:s.heap.get? d=some o)(hd:o.data=.dict es ep)(N:EsN w s.heap es ks)(x:NAt s.heap key k)
 (q1:∀i,ks[i]?=some k->Q (some i) s) (q0:k∉ks->Q none s):wpAny (u7 prog w) A (dictFind d key (Y1 w k)) Q E s:=by
 have same:∀i j a,ks[i]?=some a->ks[j]?=some a->i=j:=λi j a h1 h2=>by
  have hi:=(x4.mp h1).1;have hj:=(x4.mp h2).1;have e1:=(x4.mp h1).2;have e2:=(x4.mp h2).2;exact(List.getElem_inj (h₀:=hi) (h₁:=hj) N.nd).mp (e1.trans e2.symm)
 unfold dictFind;try with_reducible refine CJ ?_
 refine f9 (HU ho hd ?_);dsimp only;have hin:∀i∈placesWithHash es.size (λi=>es[i]?.map (·.hash)) (Y1 w k),∃e,es[i]?=some e/\(e.hash==Y1 w k)=true:=λi hi=>by
  unfold placesWithHash at hi;have:=(BN.mp hi).2;simp only at this;cases he:es[i]? with
  |none=>rw[he]at this;cases this
  |some e=>rw[he]at this;exact⟨e,rfl,by simpa using this⟩
 have hat:∀i,ks[i]?=some k->i∈placesWithHash es.size (λi=>es[i]?.map (·.hash)) (Y1 w k):=λi hi=>by
  have hlt:i<es.size:=by rw[N.len];exact(x4.mp hi).1
  have he:es[i]?=some es[i]:=ES hlt;obtain⟨k',e1,_,e3⟩:=N.ent i _ he;rw[hi]at e1;cases e1;unfold placesWithHash;refine BN.mpr ⟨EL.mpr hlt,?_⟩;show(es[i]?.map (·.hash)==some (Y1 w k))=true;rw[he];simp[e3]
 have hnd:(placesWithHash es.size (λi=>es[i]?.map (·.hash)) (Y1 w k)).Nodup:=KC _ List.nodup_range;generalize placesWithHash es.size (λi=>es[i]?.map (·.hash)) (Y1 w k)=places at *;have lst:∀i,(ks[i]?=some k->i∈([]:List Nat))->ks[i]?≠some k:=λi h z=>nomatch h z;have no:(∀i,ks[i]?=some k->i∈([]:List Nat))->k∉ks:=λh z=>by
  obtain⟨i,hi⟩:=LG.mp z;exact nomatch h i hi
 have plain:wpAny (u7 prog w) A (dictWalkPlain d key (Y1 w k) es places) Q E s:=by
  unfold dictWalkPlain;refine f9 ?_;refine JI _ (λT4 r s'=>s'=s/\r=(none,())/\(∀i∈T4,i∈places)/\∀i,ks[i]?=some k->i∈T4) _ ?_ ?_ _ _ ⟨rfl,rfl,λ_ h=>h,hat⟩
  .rintro i more r s' ⟨rfl,rfl,hsub,hall⟩
   obtain⟨e,he,hh⟩:=hin i (hsub i (.head _));obtain⟨k',e1,y,_⟩:=N.ent i e he;rw[he];dsimp only;rw[iq hh];refine f9 (DM ho hd ?_);refine f9 (y.eq x hu ?_);refine f9 (DM ho hd ?_);rw[ir (by simp)];by_cases c:k'=k
   .subst c
    rw[iq ((Nj y.nk x.nk).mpr rfl)];refine f9 (EI (i0 ?_));exact i0 (q1 i e1)
   .rw[ir (λz=>c ((Nj y.nk x.nk).mp z))]
    refine f9 (EI (i0 ?_));refine⟨rfl,rfl,λj hj=>hsub j (.tail _ hj),λj hj=>?_⟩;rcases j9.mp (hall j hj)with rfl |z
    .rw[e1]at hj;cases hj;exact absurd rfl c
    .exact z
  .rintro r s' ⟨rfl,rfl,_,hall⟩
   exact i0 (q0 (no hall))
 have hwalk : ∀ (f : Nat -> Option (Option Nat)×Option Nat -> Sem (ForInStep (Option (Option Nat)×Option Nat))),(∀ i e k' r2 (Q' : ForInStep (Option (Option Nat)×Option Nat) -> i6 -> Prop),es[i]? = some e -> (e.hash == Y1 w k) = true -> NAt s.heap e.key k' ->
  (k'=k->r2=none/\Q' (.done (some (some i),none)) s/\Q' (.yield (none,some i)) s)->(k'≠k->Q' (.yield (none,r2)) s)->wpAny (u7 prog w) A (f i (none,r2)) Q' E s) ->
  wpAny (u7 prog w) A (forIn places (none,none) f) (λr s'=>s'=s/\((r.1=none/\((r.2=none/\k∉ks)\/∃i,r.2=some i/\ks[i]?=some k))\/∃i,r.1=some (some i)/\ks[i]?=some k)) E s:=λf hf=>by
  refine JI _ (λT4 r s'=>s'=s/\r.1=none/\(∀i∈T4,i∈places)/\T4.Nodup/\((r.2=none/\∀i,ks[i]?=some k->i∈T4)\/∃i,r.2=some i/\ks[i]?=some k/\i∉T4)) _ ?_ ?_ _ _ ⟨rfl,rfl,λ_ h=>h,hnd,.inl ⟨rfl,hat⟩⟩
  .rintro i more ⟨r1,r2⟩ s' ⟨rfl,rfl,hsub,hn,hr⟩
   obtain⟨e,he,hh⟩:=hin i (hsub i (.head _));obtain⟨k',e1,y,_⟩:=N.ent i e he;rw[BQ]at hn;refine hf i e k' r2 _ he hh y (λc=>?_) λc=>?_
   .subst c
    have h2:r2=none:=by
     rcases hr with⟨z,_⟩ |⟨j,_,z2,z3⟩
     .exact z
     .exact absurd (same i j _ e1 z2▸EG) z3
    exact⟨h2,⟨rfl,.inr ⟨i,rfl,e1⟩⟩,rfl,rfl,λj hj=>hsub j (.tail _ hj),hn.2,.inr ⟨i,rfl,e1,hn.1⟩⟩
   .refine⟨rfl,rfl,λj hj=>hsub j (.tail _ hj),hn.2,?_⟩
    rcases hr with⟨z,hall⟩ |⟨j,z1,z2,z3⟩
    .refine .inl ⟨z,λj hj=>?_⟩
     rcases j9.mp (hall j hj)with rfl |z'
     .rw[e1]at hj;cases hj;exact absurd rfl c
     .exact z'
    .exact .inr ⟨j,z1,z2,λz=>z3 (.tail _ z)⟩
  .rintro⟨r1,r2⟩ s' ⟨rfl,rfl,_,_,hr⟩
   rcases hr with⟨rfl,hall⟩ |⟨j,rfl,z2,_⟩
   .exact⟨rfl,.inl ⟨rfl,.inl ⟨rfl,no hall⟩⟩⟩
   .exact⟨rfl,.inl ⟨rfl,.inr ⟨j,rfl,z2⟩⟩⟩
 have tell:∀(Q':Bool->i6->Prop),Q' false s->wpAny (u7 prog w) A (tableMayTell key (places.filterMap λi=>es[i]?.map (·.key))) Q' E s:=λQ' q'=>by
  unfold tableMayTell;split
  .exact i0 q'
  .refine f9 (x.quiet ?_)
   rw[ir (by decide)];refine f9 ?_;refine JI _ (λT4 r s'=>s'=s/\r=(none,())/\∀v∈T4,∃k',NAt s.heap v k') _ ?_ ?_ _ _ ⟨rfl,rfl,λv hv=>?_⟩
   .rintro v more r s' ⟨rfl,rfl,hr⟩
    obtain⟨k',y⟩:=hr v (.head _);refine f9 (y.quiet ?_);rw[ir (by decide)];exact i0 ⟨rfl,rfl,λv hv=>hr v (.tail _ hv)⟩
   .rintro r s' ⟨rfl,rfl,_⟩
    exact i0 q'
   .obtain⟨i,_,hi⟩:=MH.mp hv
    cases he:es[i]? with
    |none=>rw[he]at hi;cases hi
    |some e=>
     rw[he]at hi;have hk:e.key=v:=by simpa using hi
     obtain⟨k',_,y,_⟩:=N.ent i e he;exact⟨k',hk▸y⟩
 have fork:∀(m:Bool->Sem (Option Nat)),wpAny (u7 prog w) A (m false) Q E s->wpAny (u7 prog w) A (if ((places.filterMap λi=>es[i]?.map (·.key))==[key])=true then(pure false>>=m) else(tableMayTell key (places.filterMap λi=>es[i]?.map (·.key))>>=m)) Q E s:=λm h=>by
  split
  .exact f9 (i0 h)
  .exact f9 (tell _ h)
 rcases x.val with⟨_,rfl⟩ |⟨z,t,rfl,rfl⟩ |⟨b,rfl⟩
 .dsimp only
  by_cases hc:(EU::places.filterMap λi=>es[i]?.map (·.key)).all OV=true
  .rw[iq hc];exact plain
  .rw[ir hc]
   refine fork _ ?_;rw[ir (by simp)];refine f9 (DG (hwalk _ λi e k' r2 Q' he hh y c1 c0=>?_) (λr s' z=>?_) λ_ _ z=>z)
   .dsimp only
    rw[he];dsimp only;rw[iq hh];refine f9 (DM ho hd (f9 (y.eq x hu (f9 (DM ho hd ?_)))));rw[ir (by simp)];by_cases c:k'=k
    .obtain⟨rfl,d1,d2⟩:=c1 c
     rw[iq ((Nj y.nk x.nk).mpr c),ir (by simp)];refine f9 (EI ?_);split
     .exact i0 d1
     .exact i0 d2
    .rw[ir (λz=>c ((Nj y.nk x.nk).mp z))]
     refine f9 (EI ?_);rw[ir (by simp)];exact i0 (c0 c)
   .obtain⟨r1,r2⟩:=r
    obtain⟨rfl,z⟩:=z;rcases z with⟨rfl,z⟩ |⟨i,rfl,z⟩
    .rcases z with⟨rfl,z⟩ |⟨i,rfl,z⟩
     .exact i0 (q0 z)
     .exact i0 (q1 i z)
    .exact i0 (q1 i z)
 .by_cases hall:(es.all λe=>isExactStrKey e.key)=true
  .dsimp only
   rw[iq hall];have isk:∀(i:Nat) e,es[i]?=some e->(e.key.isStr z=true↔ks[i]?=some (.str z)):=λi e he=>by
    obtain⟨k',e1,y,_⟩:=N.ent i e he;rw[e1];rcases y.val with⟨rfl,hv⟩ |⟨z',t',rfl,hv⟩ |⟨b,hv⟩
    .rw[hv];exact⟨λh=>(by cases h),λh=>absurd h (by simp)⟩
    .rw[hv]
     show(z'==z)=true↔_;rw[beq_iff_eq];exact⟨λh=>(by rw[h]),λh=>(by cases h;rfl)⟩
    .rw[hv]
     have:=JP.mp hall e (Array.mem_of_getElem? he);rw[hv]at this;cases this
   unfold foundByValue;cases hf:es.findIdx? (·.key.isStr z) with
   |none=>
    refine i0 (q0 λhm=>?_);obtain⟨i,hi⟩:=LG.mp hm;have hlt:i<es.size:=by rw[N.len];exact(x4.mp hi).1
    have:=Array.findIdx?_eq_none_iff.mp hf es[i] (Array.getElem_mem hlt);rw[(isk i _ (ES hlt)).mpr hi]at this;cases this
   |some i=>
    obtain⟨hlt,hp,_⟩:=Array.findIdx?_eq_some_iff_getElem.mp hf;have he:es[i]?=some es[i]:=ES hlt;have hi:=(isk i _ he).mp hp;obtain⟨k',e1,y,_⟩:=N.ent i _ he;rw[hi]at e1;cases e1;dsimp only;rw[he];dsimp only;refine f9 (DM ho hd (f9 (y.eq x hu (f9 (DM ho hd ?_)))));rw[ir (by simp),iq ((Nj y.nk x.nk).mpr rfl)];exact f9 (EI (i0 (q1 i hi)))
  .dsimp only
   rw[ir hall];by_cases hc:(MS z t::places.filterMap λi=>es[i]?.map (·.key)).all OV=true
   .rw[iq hc];exact plain
   .rw[ir hc]
    refine fork _ ?_;rw[ir (by simp)];refine f9 (DG (hwalk _ λi e k' r2 Q' he hh y c1 c0=>?_) (λr s' z=>?_) λ_ _ z=>z)
    .dsimp only
     rw[he];dsimp only;rw[iq hh];refine f9 (DM ho hd (f9 (y.eq x hu (f9 (DM ho hd ?_)))));rw[ir (by simp)];by_cases c:k'=.str z
     .obtain⟨rfl,d1,d2⟩:=c1 c
      rw[iq ((Nj y.nk x.nk).mpr c),ir (by simp)];refine f9 (EI ?_);split
      .exact i0 d1
      .exact i0 d2
     .rw[ir (λz=>c ((Nj y.nk x.nk).mp z))]
      refine f9 (EI ?_);rw[ir (by simp)];exact i0 (c0 c)
    .obtain⟨r1,r2⟩:=r
     obtain⟨rfl,z⟩:=z;rcases z with⟨rfl,z⟩ |⟨i,rfl,z⟩
     .rcases z with⟨rfl,z⟩ |⟨i,rfl,z⟩
      .exact i0 (q0 z)
      .exact i0 (q1 i z)
     .exact i0 (q1 i z)
 .dsimp only
  by_cases hc:(CU b::places.filterMap λi=>es[i]?.map (·.key)).all OV=true
  .rw[iq hc];exact plain
  .have hno : (es.any λe => e.key == .ref b&&e.hash != Y1 w k) = false:= by
    rw[Array.any_eq_false];intro i hi;obtain⟨k',e1,y,e3⟩:=N.ent i es[i] (ES hi);by_cases c:es[i].key=.ref b
    .have : k' = k:= by
      rw[c]at y;obtain⟨as,r1⟩:=x.rd;obtain⟨bs,r2⟩:=y.rd;exact SeqAt.Reads.unique k' k _ _ _ y.lay r2 r1
     rw[e3,this];simp
    .intro z
     rw[x3]at z;exact c (GY z.1)
   rw[ir hc,ir (by rw[hno];decide)];refine fork _ ?_;rw[ir (by simp)];refine f9 (DG (hwalk _ λi e k' r2 Q' he hh y c1 c0=>?_) (λr s' z=>?_) λ_ _ z=>z)
   .dsimp only
    rw[he];dsimp only;rw[iq hh];refine f9 (DM ho hd (f9 (y.eq x hu (f9 (DM ho hd ?_)))));rw[ir (by simp)];by_cases c:k'=k
    .obtain⟨rfl,d1,d2⟩:=c1 c
     rw[iq ((Nj y.nk x.nk).mpr c),ir (by simp)];refine f9 (EI ?_);split
     .exact i0 d1
     .exact i0 d2
    .rw[ir (λz=>c ((Nj y.nk x.nk).mp z))]
     refine f9 (EI ?_);rw[ir (by simp)];exact i0 (c0 c)
   .obtain⟨r1,r2⟩:=r
    obtain⟨rfl,z⟩:=z;rcases z with⟨rfl,z⟩ |⟨i,rfl,z⟩
    .rcases z with⟨rfl,z⟩ |⟨i,rfl,z⟩
     .exact i0 (q0 z)
     .exact i0 (q1 i z)
    .exact i0 (q1 i z)
end
section
variable {prog:o9}{w:x8}{A:BO}{E:g9->i6->Prop}{s:i6}
def hu8{A:BO}(h:A.units+16<EO):A.in1.units+8<EO:=by lia
def EsN.get{h:BL}{es:Array CL}{ks:List f8}(N:EsN w h es ks){i:Nat}{k:f8}(hi:ks[i]?=some k):∃e,es[i]?=some e:=by
 have hlt:i<es.size:=by rw[N.len];grind
 simp_all
def Nk{d:i9}{o:Obj}{es:Array CL}{ep:Nat}{ks:List f8}{key:g9}{k:f8}{Q:Option g9->i6->Prop}(hu:A.units+8<EO)(ho:s.heap.get? d=some o)(hd:o.data=.dict es ep)(N:EsN w s.heap es ks)(x:NAt s.heap key k)
 (q1:∀(i:Nat) (e:CL) tk,ks[i]?=some k->es[i]?=some e->Q (some e.val) {s with toks:=tk}) (q0:∀tk,k∉ks->Q none {s with toks:=tk}):wpAny (u7 prog w) A (dictGet d key) Q E s:=by
 unfold dictGet;try with_reducible refine CJ ?_
 refine f9 (x.hash hu λtk=>?_);refine f9 (fX (s:={s with toks:=tk}) hu ho hd N x (λi hi=>?_) λhn=>i0 (q0 tk hn));obtain⟨e,he⟩:=N.get hi;refine f9 (HU (s:={s with toks:=tk}) ho hd (i0 ?_))
 grind
def fM(d:i9)(key dflt:g9)(hd:(d==FX)=false):MeetsIn prog w (EM.«dict.get» ⟨[.ref d,key,dflt],[]⟩) (λA R s=>∃(o:Obj) (es:Array CL) (ep:Nat) (ks:List f8) (k:f8),A.units+16<EO/\s.heap.get? d=some o/\o.data=.dict es ep/\EsN w s.heap es ks/\NAt s.heap key k /\
 (∀(i:Nat) (e:CL) tk,ks[i]?=some k->es[i]?=some e->R (.ok (.ret e.val)) {s with toks:=tk})/\∀tk,k∉ks->R (.ok (.ret dflt)) {s with toks:=tk}):=
 .of_wp λA R s hZ3=>by
  obtain⟨o,es,ep,ks,k,hu,ho,hD,N,x,h1,h0⟩:=hZ3;show wpAny _ _ (dictGet d key>>=_) _ _ s;refine f9 (Nk (hu8 hu) ho hD N x (λi e tk hi he=>i0 ⟨_,rfl,h1 i e tk hi he⟩) λtk hn=>?_);show wpAny _ _ (Builtin.Dict.missed d key>>=_) _ _ _;exact f9 (wpAny_missed_other hd (i0 ⟨dflt,rfl,h0 tk hn⟩))
def lA(d:i9)(key:g9)(hd:(d==FX)=false):MeetsIn prog w (EM.«dict.__contains__» ⟨[.ref d,key],[]⟩) (λA R s=>∃(o:Obj) (es:Array CL) (ep:Nat) (ks:List f8) (k:f8),A.units+16<EO/\s.heap.get? d=some o/\o.data=.dict es ep/\EsN w s.heap es ks/\NAt s.heap key k /\
 (∀tk,k∈ks->R (.ok (.ret (.bool true))) {s with toks:=tk})/\∀tk,k∉ks->R (.ok (.ret (.bool false))) {s with toks:=tk}):=
 .of_wp λA R s hZ3=>by
  obtain⟨o,es,ep,ks,k,hu,ho,hD,N,x,h1,h0⟩:=hZ3;show wpAny _ _ (dictGet d key>>=_) _ _ s;refine f9 (Nk (hu8 hu) ho hD N x (λi e tk hi he=>i0 ⟨_,rfl,h1 tk (GH hi)⟩) λtk hn=>?_);show wpAny _ _ (Builtin.Dict.pendingKey? d key>>=_) _ _ _;exact f9 (wpAny_pendingKey_other hd (i0 ⟨_,rfl,h0 tk hn⟩))
def cD(d:i9)(key:g9):MeetsIn prog w (EM.«dict.__getitem__» ⟨[.ref d,key],[]⟩) (λA R s=>∃(o:Obj) (es:Array CL) (ep:Nat) (ks:List f8) (k:f8),A.units+16<EO/\s.heap.get? d=some o/\o.data=.dict es ep/\EsN w s.heap es ks/\NAt s.heap key k/\k∈ks /\
 (∀(i:Nat) (e:CL) tk,ks[i]?=some k->es[i]?=some e->R (.ok (.ret e.val)) {s with toks:=tk})):=
 .of_wp λA R s hZ3=>by
  obtain⟨o,es,ep,ks,k,hu,ho,hD,N,x,hm,h1⟩:=hZ3;show wpAny _ _ (dictGet d key>>=_) _ _ s;exact f9 (Nk (hu8 hu) ho hD N x (λi e tk hi he=>i0 ⟨_,rfl,h1 i e tk hi he⟩) λtk hn=>absurd hm hn)
def Vw(d:i9)(key dflt:g9)(hd:(d==FX)=false):MeetsIn prog w (EM.«dict.setdefault» ⟨[.ref d,key,dflt],[]⟩) (λA R s=>∃(L:List CL) (ep:Nat) (ks:List f8) (k:f8),A.units+16<EO/\s.heap.get? d=some {cls:=.type "dict",data:=.dict (List.toArray L) ep}/\L.length<=sizeLine/\EsN w s.heap L.toArray ks/\NAt s.heap key k /\
 (∀(i:Nat) (e:CL) tk,ks[i]?=some k->L[i]?=some e->R (.ok (.ret e.val)) {s with toks:=tk}) /\
 ∀(h':BL) (tk:Nat),k∉ks->(∀b o,b≠d->s.heap.get? b=some o->h'.get? b=some o)->h'.get? d=some {cls:=.type "dict",data:=.dict (L++[DictEntry.mk (Y1 w k) key dflt]).toArray (ep+1)}->R (.ok (.ret dflt)) {s with heap:=h',toks:=tk}):=
 .of_wp λA R s hZ3=>by
  obtain⟨L,ep,ks,k,hu,ho,hz,N,x,h1,h0⟩:=hZ3;unfold EM.«dict.setdefault»;refine f9 ?_;unfold Builtin.Dict.keyAndDefault;refine f9 (JF ⟨_,ho,rfl⟩ ?_);show wpAny _ _ (pure (d,key,some dflt)) _ _ s;refine i0 ?_;show wpAny _ _ (if (d==FX)=true then _ else(dictSetDefault d key dflt>>=_)) _ _ s;rw[ir (by rw[hd];exact z6)];refine f9 ?_;unfold dictSetDefault;try with_reducible refine CJ ?_
  refine f9 (x.hash (hu8 hu) λtk=>?_);refine f9 (fX (s:={s with toks:=tk}) (hu8 hu) ho rfl N x (λi hi=>?_) λhn=>?_)
  .obtain⟨e,he⟩:=N.get hi
   refine f9 (HU (s:={s with toks:=tk}) ho rfl ?_);rw[he];exact f9 (EI (i0 (i0 ⟨_,rfl,h1 i e tk hi (by simpa using he)⟩)))
  .refine f9 (EI (f9 (wpAny_updateDictKeys (hz:=by simpa using hz) (s:={s with toks:=tk}) ho rfl (i0 (i0 ⟨dflt,rfl,h0 _ tk hn (λb o hb e=>?_) ?_⟩)))))
   .exact(MA _ _ _ _ hb).trans e
   .have:=ET (LD λx=>x.push ⟨Y1 w k,key,dflt⟩) ho (MD (Obj.data_mapDictKeys rfl _))
    rw[this];simp[LD]
end
mutual
theorem cK{H:Hp}:∀{d:f8} {v:V},KRep H d v->Rep H d v
 |.none,_,r=>r
 |.int _,_,r=>r
 |.str _,_,r=>r
 |.tuple _,_,r=>by obtain⟨b,xs,e,q,l⟩:=r;exact⟨b,xs,e,q,Xd l⟩
 |.bool _,_,r=>(show False from r).elim
 |.list _,_,r=>(show False from r).elim
 |.dict _,_,r=>(show False from r).elim
theorem Xd{H:Hp}:∀{ds:List f8} {xs:List V},KRepL H ds xs->RepL H ds xs
 |[],_,r=>r
 |_::_,_,r=>by obtain⟨x,t,e,q,l⟩:=r;exact⟨x,t,e,cK q,Xd l⟩
end
mutual
theorem bJ{G H:Hp}(hG:Same G H):∀{d:f8} {v:V},isK d=true->Rep G d v->KRep H d v
 |.int _,_,_,r=>r
 |.str _,_,_,r=>r
 |.tuple _,_,k,r=>by obtain⟨b,xs,e,q,l⟩:=r;exact⟨b,xs,e,hG _ _ q,Ws hG (by simpa[isK] using k) l⟩
 |.none,_,k,_=>by simp[isK]at k
 |.bool _,_,k,_=>by simp[isK]at k
 |.list _,_,k,_=>by simp[isK]at k
 |.dict _,_,k,_=>by simp[isK]at k
theorem Ws{G H:Hp}(hG:Same G H):∀{ds:List f8} {xs:List V},Kt ds=true->RepL G ds xs->KRepL H ds xs
 |[],_,_,r=>r
 |_::_,_,k,r=>by
  simp only[Kt,x3]at k;obtain⟨x,t,e,q,l⟩:=r;exact⟨x,t,e,bJ hG k.1 q,Ws hG k.2 l⟩
end
def V0{d:f8}(hn:nkD d=true):(d=.none\/(isK d=true/\((∃xs,d=.tuple xs)\/∃z,d=.str z)))/\d.depth<=8:=by
 unfold nkD at hn;split at hn
 .exact⟨.inl rfl,by simp[CW]⟩
 .exact⟨.inr ⟨by simp[isK],.inr ⟨_,rfl⟩⟩,by simp[CW]⟩
 .rw[x3]at hn
  exact⟨.inr ⟨by simpa[isK] using hn.1,.inl ⟨_,rfl⟩⟩,of_decide_eq_true hn.2⟩
 .cases hn
def Km{G H:Hp}(hG:Same G H){d:f8}{v:V}(hn:nkD d=true)(r:Rep G d v):KRep H d v:=by
 rcases (V0 hn).1 with rfl |⟨k,_⟩
 .exact r
 .exact bJ hG k r
noncomputable def U0(kvs:List (f8×V))(k:f8):Option V:=(kvs.find? λp=>l6 p.1 k).map (·.2)
noncomputable def L0(kvs:List (f8×f8))(k:f8):Option f8:=(kvs.find? λp=>l6 p.1 k).map (·.2)
theorem Mb{G:Hp}{k:f8}:∀{kvs:List (f8×f8)} {kk:List (f8×V)},kvs.map (·.1)=kk.map (·.1)->RepL G (kvs.map (·.2)) (kk.map (·.2)) ->
 (L0 kvs k=none/\U0 kk k=none)\/∃d v,L0 kvs k=some d/\U0 kk k=some v/\Rep G d v
 |[],[],_,_=>.inl ⟨rfl,rfl⟩
 |[],_::_,e,_=>by cases e
 |_::_,[],e,_=>by cases e
 |p::kvs,q::kk,e,r=>by
  simp only[k6,HV]at e;obtain⟨x,t,ex,rx,l⟩:=r;simp only[k6,HV]at ex;unfold L0 U0;rw[z9,z9,e.1];cases hq:l6 q.1 k with
  |true=>simp_all
  |false=>exact Mb (k:=k) e.2 (by lia)
theorem Il{k:f8}(hk:nkD k=true):∀{kk:List (f8×V)} {i:Nat} {v:V},(∀p∈kk,nkD p.1=true)->(kk.map (·.1)).Nodup->kk[i]?=some (k,v)->U0 kk k=some v
 |[],_,_,_,_,h=>by simp at h
 |p::kk,i,v,hn,nd,h=>by
  unfold U0;rw[z9];have hp:=Nj (V0 (hn p (.head _))).1 (V0 hk).1;cases i with
  |zero=>
   simp_all
  |succ i=>
   rw[k6,BQ]at nd;have hm:(k,v)∈kk:=GH (by simpa using h);cases hq:l6 p.1 k with
   |true=>simp_all
   |false=>exact Il hk (λq hq=>hn q (.tail _ hq)) nd.2 (by simpa using h)
def Mc{k:f8}(hk:nkD k=true){kk:List (f8×V)}(hn:∀p∈kk,nkD p.1=true)(h:k∉kk.map (·.1)):U0 kk k=none:=by
 unfold U0;rw[List.find?_eq_none.mpr];· rfl
 intro p hp z;exact h (by rw[<-(Nj (V0 (hn p hp)).1 (V0 hk).1).mp z];grind)
theorem Paired.at'{α β:Type}{F:α->β->Prop}:∀{l₁:List α} {l₂:List β} {i:Nat} {a:α},DJ F l₁ l₂->l₁[i]?=some a->∃b,l₂[i]?=some b/\F a b
 |_,_,i,_,.nil,h=>by simp at h
 |_,_,0,_,.cons r _,h=>by simp_all
 |_,_,i+1,_,.cons _ t,h=>Paired.at' (i:=i) t (by simpa using h)
section
variable {X:Cx}{pins:List (i9×Obj)}{σ:St}{H:Hp}{s:i6}{a:i9}{A:BO}{E:g9->i6->Prop}
def Nc(I:Inv X pins σ H s){d:f8}{v:V}{u:g9}(r:KRep H d v)(hv:RelV v u)(hn:nkD d=true):NAt s.heap u d:=by
 have rr:=cK r;exact⟨rr.reads I (Same.refl _) hv,(V0 hn).1,rr.lay,(V0 hn).2⟩
abbrev PrN(H:Hp):f8×V->g9×g9->Prop:=λp q=>(∃v,KRep H p.1 v/\RelV v q.1)/\RelV p.2 q.2
def Qk{w:x8}{kvs:List (f8×V)}{xs:List (g9×g9)}(r:DJ (PrN H) kvs xs){i:Nat}{e:CL}(he:(V2 w kvs xs)[i]?=some e):
 ∃p q,kvs[i]?=some p/\xs[i]?=some q/\PrN H p q/\e=⟨Y1 w p.1,q.1,q.2⟩:=by
 unfold V2 at he;rw[List.getElem?_zipWith]at he;cases hp:kvs[i]? with
 |none=>lia
 |some p=>
  obtain⟨q,hq,hF⟩:=Paired.at' r hp
  grind
theorem Paired.len'{α β:Type}{F:α->β->Prop}:∀{l₁:List α} {l₂:List β},DJ F l₁ l₂->l₁.length=l₂.length
 |_,_,.nil=>rfl
 |_,_,.cons _ t=>by simp[Paired.len' t]
def Tk(I:Inv X pins σ H s){kvs:List (f8×V)}{xs:List (g9×g9)}(r:DJ (PrN H) kvs xs)(nk:∀p∈kvs,nkD p.1=true)(nd:(kvs.map (·.1)).Nodup):EsN X.w s.heap (V2 X.w kvs xs).toArray (kvs.map (·.1)) where
 len:=by
  have:=Paired.len' r;simp[V2,this]
 ent:=λi e he=>by
  obtain⟨p,q,h1,h2,⟨⟨v,h3,h4⟩,h5⟩,rfl⟩:=Qk r (by simpa using he);exact⟨p.1,by simp_all,Nc I h3 h4 (nk p (GH h1)),rfl⟩
 nd:=nd
def zU{kvs:List (f8×V)}{kd:f8}{y d:V}{u r:g9}{Q:g9->i6->Prop}(hu:A.units+16<EO)(I:Inv X pins σ H s)(e:Rd H a (.dN kvs))(rk:KRep H kd y)(hk:nkD kd=true)(ry:RelV y u)(rd:RelV d r)
 (h:∀w' s',Inv X pins σ H s'->RelV ((U0 kvs kd).getD d) w'->Q w' s'):wpAny (u7 X.prog X.w) A (call (.builtin "dict.get") [.ref a,u,r]) Q E s:=by
 obtain⟨z,hd,nd,nk,xs,rel,ep,e1⟩:=e.ok I.hok;refine NQ F.slot_dict_get ⟨_,e1,rfl⟩ F.entry_dict_get (F.args_dict_get_3 _ _ _) (fM a u r hd) ⟨_,_,ep,kvs.map (·.1),kd,hu,e1,rfl,Tk I rel nk nd,Nc I rk ry hk,λi e tk hi he=>h _ _ (I.tok _) ?_,λtk hn=>h _ _ (I.tok _) ?_⟩
 .obtain⟨p,q,h1,h2,⟨_,h5⟩,rfl⟩:=Qk rel (by simpa using he)
  rw[BP,h1]at hi;have hp:p=(kd,p.2):=by
   grind
  rw[hp]at h1;rw[Il hk nk nd h1];exact h5
 .rw[Mc hk nk hn]
  exact rd
end
def yA(td ty tx:TE):TE:=λσ H Q=>td σ H λx H1=>∃a kvs,x=.ref a/\Rd H1 a (.dN kvs)/\ty σ H1 λy H2=>tx σ H2 λz H3=>∃kvs kd,Rd H3 a (.dN kvs)/\KRep H3 kd y/\nkD kd=true/\Q ((U0 kvs kd).getD z) H3
section
variable {X:Cx}{o e f:Expr}{apos cpos:Pos}{td ty tx:TE}
def oR(hu:X.A.units+16<EO)(ho:PE X o td)(he:PE X e ty)(hf:PE X f tx)(m:M2 X o "get" apos e f cpos):PE X (.Call (.Attribute o "get" apos) [e,f] [] cpos) (yA td ty tx):=by
 intro pins s σ H Q I h;refine wpAny_Call_method m.base m.few m.line NT PySem.F.slot_dict_get PySem.F.type_dict_get (thn (ho pins s σ H _ I h) λu s1 hZ2=>?_);obtain⟨x,H1,I1,rx,a,kvs,ex,d,q1⟩:=hZ2;subst ex;obtain rfl:u=CU a:=rx;obtain⟨_,_,_,_,_,_,ep,e1⟩:=d.ok I1.hok;refine⟨⟨_,e1,rfl⟩,λb q=>by cases q;exact⟨_,e1,rfl⟩,?_⟩;rw[m.trees];refine IG rfl (HN (EV (thn (he pins s1 σ H1 _ I1 q1) λiv s2 hY79=>?_)));obtain⟨y,H2,I2,ry,q2⟩:=hY79;refine EV (thn (hf pins s2 σ H2 _ I2 q2) λfv s3 hY80=>?_)
 obtain⟨z,H3,I3,rz,kvs,kd,g,rk,hk,q3⟩:=hY80;refine HE ?_;exact zU hu I3 g rk hk ry rz λw' s4 I4 rw'=>⟨_,H3,I4,rw',q3⟩
end
def kvN(δ:Dn)(i:Nat):Option Kvs:=match δ[i]? with
 |some (.ow (.tuple [.dict kvs,.none]))=>some kvs
 |some (.fd ((.dict [],.none)::kvs))=>some kvs
 |_=>none
theorem SR.kvN{G H:Hp}{σ:St}{δ:Dn}{i:Nat}{kvs:Kvs}(S:SR G H σ δ)(h:kvN δ i=some kvs):∃q,∃kk:List (f8×V),σ[i]?=some (some (.ref q))/\Rd H q (.dN kk)/\kvs.map (·.1)=kk.map (·.1)/\RepL G (kvs.map (·.2)) (kk.map (·.2)):=by
 unfold Sm.kvN at h;split at h
 .rename_i kvs' hi
  cases h;obtain⟨q,hσ,hq,ho⟩:=S.own hi;obtain⟨kk,hx,hk,hv⟩:=(show OwnK G H q [.dict kvs,.none] from ho);exact⟨q,kk,hσ,.inl hx,hk,hv⟩
 .rename_i kvs' hi
  cases h;obtain⟨q,kk,hp,hx,hk,hv⟩:=(show FdOk G (σ[i]?.join) ((.dict [],.none)::kvs) from S.sl i _ hi);refine⟨q,kk,?_,Rd.mono S.sub hx,hk,hv⟩
  grind
 .cases h
def Jq(i:Nat)(f g:Dn->Res f8):Dn->Res f8:=λδ=>match kvN δ i with
 |some kvs=>(f δ).bind λkd=>(g δ).bind λdd=>if nkD kd=true then .ok ((L0 kvs kd).getD dd) else .no
 |none=>.no
section
variable {P:o9}{w:x8}{K:i5}{mg:Str->Option g9}{base:BL}{X:Cx}{N:List Str}{sc:Scope}{k:Nat}{df:Bool}{E:EK}{p apos cpos:Pos}{a b:Expr}{f g:Dn->Res f8}{x:Str}
def gB(C:Cxt P w K mg base X N sc k df)(i:Nat)(h:okVar N sc i x=true)(hk:DE X E a f)(hg:DE X E b g)(m:M2 X (.Name x p) "get" apos a b cpos:=by exact⟨rfl,rfl,rfl,rfl⟩):DE X E (.Call (.Attribute (.Name x p) "get" apos) [a,b] [] cpos) (Jq i f g):=by
 refine PE.imp (oR (by have:=C.hu;lia) (okVar.pe C h) hk hg m) λσ H Q hY81=>?_;obtain⟨G,δ,S,aft⟩:=hY81;unfold Jq at aft;split at aft
 .rename_i kvs hi
  obtain⟨q,kk,hσ,hx,hkeys,hvals⟩:=S.kvN hi;refine⟨.ref q,hσ,q,kk,rfl,hx,?_⟩;refine K0 S aft λkd v G1 H1 g1 r1 S1 a1=>?_;refine K0 S1 a1 λdd v2 G2 H2 g2 r2 S2 a2=>?_;split at a2
  .rename_i hn
   refine⟨kk,kd,Rd.mono g2.h (Rd.mono g1.h hx),Km S2.sub hn (r1.mono g2.g),hn,?_⟩;rcases Mb (k:=kd) hkeys hvals with⟨n1,n2⟩ |⟨d0,v0,n1,n2,rd⟩
   .rw[n1]at a2;rw[n2]
    exact a2 _ G2 H2 (Grow.refl S2.sub) r2
   .rw[n1]at a2;rw[n2]
    exact a2 _ G2 H2 (Grow.refl S2.sub) (rd.mono (g1.g.trans g2.g))
  .exact a2.elim
 .exact aft.elim
end
def cV{w:x8}{kvs:List (f8×V)}{xs:List (g9×g9)}{p:f8×V}{q:g9×g9}(h:kvs.length=xs.length):V2 w (kvs++[p]) (xs++[q])=V2 w kvs xs++[⟨Y1 w p.1,q.1,q.2⟩]:=by
 unfold V2;rw[List.zipWith_append h];rfl
theorem Paired.app'{α β:Type}{F:α->β->Prop}{a:α}{b:β}(h:F a b):∀{l₁:List α} {l₂:List β},DJ F l₁ l₂->DJ F (l₁++[a]) (l₂++[b])
 |_,_,.nil=>.cons h .nil
 |_,_,.cons r t=>.cons r (Paired.app' h t)
section
variable {X:Cx}{pins:List (i9×Obj)}{σ:St}{H:Hp}{s:i6}{a:i9}{A:BO}{E:g9->i6->Prop}
def zS{kvs:List (f8×V)}{kd:f8}{y d:V}{u r:g9}{Q:g9->i6->Prop}(hu:A.units+16<EO)(I:Inv X pins σ H s)(e:H a=some (.dN kvs))(rk:KRep H kd y)(hk:nkD kd=true)(hz:kvs.length<sizeLine)(ry:RelV y u)(rd:RelV d r)
 (h1:∀v w' s',U0 kvs kd=some v->Inv X pins σ H s'->RelV v w'->Q w' s') (h0:∀s',U0 kvs kd=none->Inv X pins σ (upd H a (.dN (kvs++[(kd,d)]))) s'->Q r s'):wpAny (u7 X.prog X.w) A (call (.builtin "dict.setdefault") [.ref a,u,r]) Q E s:=by
 obtain⟨z,hd,nd,nk,xs,rel,ep,e1⟩:=I.hok a _ e;have hl:=Paired.len' rel;have hlen:(V2 X.w kvs xs).length<=sizeLine:=by
  unfold V2
  simp_all
 refine NQ F.slot_dict_setdefault ⟨_,e1,rfl⟩ F.entry_dict_setdefault (F.args_dict_setdefault_3 _ _ _) (Vw a u r hd) ⟨_,ep,kvs.map (·.1),kd,hu,e1,hlen,Tk I rel nk nd,Nc I rk ry hk,λi e tk hi he=>?_,λh' tk hn hkeep hnew=>?_⟩
 .obtain⟨p,q,g1,g2,⟨_,g5⟩,rfl⟩:=Qk rel he
  rw[BP,g1]at hi;have hp:p=(kd,p.2):=by
   grind
  rw[hp]at g1;exact h1 p.2 _ _ (Il hk nk nd g1) (I.tok _) g5
 .refine h0 _ (Mc hk nk hn) ?_
  have ht:∀b ys,H b=some (.tup ys)->(upd H a (.dN (kvs++[(kd,d)]))) b=some (.tup ys):=λb ys z=>by
   rw[B7 (Ly z e (λz=>by cases z))];exact z
  refine I.write (x:=a) (e:=a) (t':=tk) (by rw[e];exact trivial) (.inl rfl) (λb o hb q=>hkeep b o hb q) ⟨_,hnew⟩ ⟨by grind,hd,?_,?_,xs++[(u,r)],?_,ep+1,?_⟩
  .grind
  .grind
  .exact Paired.app' ⟨⟨y,rk.mono ht,ry⟩,rd⟩ (Paired.mapP rel λp q hZ2=>by obtain⟨⟨v,z1,z2⟩,z3⟩:=hZ2;exact⟨⟨v,z1.mono ht,z2⟩,z3⟩)
  .rw[cV hl];exact hnew
end
def xZ(td ty tx:TE):TE:=λσ H Q=>td σ H λx H1=>∃a kvs,x=.ref a/\H1 a=some (.dN kvs)/\ty σ H1 λy H2=>tx σ H2 λz H3=>∃kvs kd,H3 a=some (.dN kvs)/\KRep H3 kd y/\nkD kd=true/\kvs.length<sizeLine /\
 (∀v,U0 kvs kd=some v->Q v H3)/\(U0 kvs kd=none->Q z (upd H3 a (.dN (kvs++[(kd,z)]))))
section
variable {X:Cx}{o e f:Expr}{apos cpos:Pos}{td ty tx:TE}
def bT(hu:X.A.units+16<EO)(ho:PE X o td)(he:PE X e ty)(hf:PE X f tx)(m:M2 X o "setdefault" apos e f cpos):PE X (.Call (.Attribute o "setdefault" apos) [e,f] [] cpos) (xZ td ty tx):=by
 intro pins s σ H Q I h;refine wpAny_Call_method m.base m.few m.line NT PySem.F.slot_dict_setdefault PySem.F.type_dict_setdefault (thn (ho pins s σ H _ I h) λu s1 hZ2=>?_);obtain⟨x,H1,I1,rx,a,kvs,ex,d,q1⟩:=hZ2;subst ex;obtain rfl:u=CU a:=rx;obtain⟨_,_,_,_,_,_,ep,e1⟩:=I1.hok a _ d;refine⟨⟨_,e1,rfl⟩,λb q=>by cases q;exact⟨_,e1,rfl⟩,?_⟩;rw[m.trees];refine IG rfl (HN (EV (thn (he pins s1 σ H1 _ I1 q1) λiv s2 hY82=>?_)));obtain⟨y,H2,I2,ry,q2⟩:=hY82;refine EV (thn (hf pins s2 σ H2 _ I2 q2) λfv s3 hY83=>?_)
 obtain⟨z,H3,I3,rz,kvs,kd,g,rk,hk,hz,q3,q4⟩:=hY83;refine HE ?_;exact zS hu I3 g rk hk hz ry rz (λv w' s4 hv I4 rw'=>⟨v,H3,I4,rw',q3 v hv⟩) λs4 hv I4=>⟨z,_,I4,rz,q4 hv⟩
end
noncomputable def Iy:List (f8×f8)->f8->f8->List (f8×f8)
 |[],k,v=>[(k,.list [v])]
 |p::r,k,v=>if l6 p.1 k=true then(match p.2 with |.list ds=>(p.1,.list (ds++[v])) |d=>(p.1,d))::r else p::Iy r k v
noncomputable def NL(G H H1:Hp):List (f8×f8)->List (f8×i9×List V)->Prop
 |[],[]=>True
 |p::kvs,r::kk=>p.1=r.1/\(∃ds,p.2=.list ds/\RepL G ds r.2.2)/\(H r.2.1=some (.lst r.2.2)/\G r.2.1=none/\H1 r.2.1=none)/\NL G H H1 kvs kk
 |_,_=>False
noncomputable abbrev prs(kk:List (f8×i9×List V)):List (f8×V):=kk.map λr=>(r.1,.ref r.2.1)
section
variable {G G' H H' H1:Hp}
theorem NL.keep(g:Same G G'):∀{kvs:List (f8×f8)} {kk:List (f8×i9×List V)},(∀r∈kk,H r.2.1=some (.lst r.2.2)->G r.2.1=none->H1 r.2.1=none->H' r.2.1=some (.lst r.2.2)/\G' r.2.1=none)->NL G H H1 kvs kk->NL G' H' H1 kvs kk
 |[],[],_,h=>h
 |[],_::_,_,h=>h
 |_::_,[],_,h=>h
 |_::_,r::_,k,⟨h1,⟨ds,h2,h3⟩,⟨h4,h5,h6⟩,h7⟩=>⟨h1,⟨ds,h2,h3.mono g⟩,⟨(k r (.head _) h4 h5 h6).1,(k r (.head _) h4 h5 h6).2,h6⟩,NL.keep g (λr hr=>k r (.tail _ hr)) h7⟩
def NL.grow(g:Grow G H G' H'){kvs:List (f8×f8)}{kk:List (f8×i9×List V)}(h:NL G H H1 kvs kk):NL G' H' H1 kvs kk:=by
 refine h.keep g.g λr _ e n _=>⟨g.h _ _ e,?_⟩;cases q:G' r.2.1 with
 |none=>rfl
 |some u=>
  rcases g.fr _ u q with y |y |⟨ys,rfl⟩
  .lia
  .lia
  .have:=g.gh _ _ q;rw[g.h _ _ e]at this;cases this
theorem NL.mem:∀{kvs:List (f8×f8)} {kk:List (f8×i9×List V)},NL G H H1 kvs kk->∀r∈kk,H r.2.1=some (.lst r.2.2)/\G r.2.1=none/\H1 r.2.1=none
 |[],[],_,_,m=>nomatch m
 |[],_::_,h,_,_=>h.elim
 |_::_,[],h,_,_=>h.elim
 |_::_,r::_,⟨_,_,h4,h7⟩,x,m=>by
  rcases j9.mp m with rfl |m
  .exact h4
  .exact NL.mem h7 x m
theorem NL.keys:∀{kvs:List (f8×f8)} {kk:List (f8×i9×List V)},NL G H H1 kvs kk->kvs.map (·.1)=(prs kk).map (·.1)
 |[],[],_=>rfl
 |[],_::_,h=>h.elim
 |_::_,[],h=>h.elim
 |_::_,_::_,⟨h1,_,_,h7⟩=>by
  simp only[k6,h1];rw[NL.keys h7]
theorem NL.new{p:i9}{y:V}{kd vd:f8}(rv:Rep G vd y)(hp:H p=some (.lst [y])/\G p=none/\H1 p=none):∀{kvs:List (f8×f8)} {kk:List (f8×i9×List V)},NL G H H1 kvs kk->U0 (prs kk) kd=none->NL G H H1 (Iy kvs kd vd) (kk++[(kd,p,[y])])
 |[],[],_,_=>⟨rfl,⟨[vd],rfl,RepL.cons rv rfl⟩,hp,trivial⟩
 |[],_::_,h,_=>h.elim
 |_::_,[],h,_=>h.elim
 |q::kvs,r::kk,⟨h1,h2,h4,h7⟩,e=>by
  unfold U0 at e;rw[show prs (r::kk)=(r.1,.ref r.2.1)::prs kk from rfl,z9]at e;cases z:l6 r.1 kd with
  |true=>simp_all
  |false=>
   rw[z]at e;unfold Iy;rw[h1,z,ir (by decide)];exact⟨h1,h2,h4,NL.new rv hp h7 e⟩
theorem NL.put{kd:f8}{v:V}:∀{kvs:List (f8×f8)} {kk:List (f8×i9×List V)},NL G H H1 kvs kk->(kk.map (·.2.1)).Nodup->U0 (prs kk) kd=some v ->
 ∃l xs,v=.ref l/\(∃r∈kk,r.2=(l,xs))/\∀(y:V) (vd:f8),Rep G vd y->∃kk',prs kk'=prs kk/\kk'.map (·.2.1)=kk.map (·.2.1)/\(∀r∈kk',r.2.2.length<=xs.length+1\/r∈kk)/\NL G (upd H l (.lst (xs++[y]))) H1 (Iy kvs kd vd) kk'
 |[],[],_,_,e=>by cases e
 |[],_::_,h,_,_=>h.elim
 |_::_,[],h,_,_=>h.elim
 |q::kvs,r::kk,⟨h1,⟨ds,h2,h3⟩,⟨h4,h5,h6⟩,h7⟩,nd,e=>by
  rw[k6,BQ]at nd;unfold U0 at e;rw[show prs (r::kk)=(r.1,.ref r.2.1)::prs kk from rfl,z9]at e;cases z:l6 r.1 kd with
  |true=>
   rw[z]at e;cases e;refine⟨r.2.1,r.2.2,rfl,⟨r,.head _,rfl⟩,λy vd rv=>⟨(r.1,r.2.1,r.2.2++[y])::kk,rfl,rfl,λx hx=>?_,?_⟩⟩
   .grind
   .unfold Iy
    rw[h1,z,iq rfl,h2];refine⟨rfl,⟨ds++[vd],rfl,h3.append (RepL.cons rv rfl)⟩,⟨C8,h5,h6⟩,h7.keep (Same.refl _) λx hx e n _=>⟨?_,n⟩⟩;rw[B7 (λw=>nd.1 (by grind))];exact e
  |false=>
   rw[z]at e;obtain⟨l,xs,e1,⟨r0,m0,e0⟩,k⟩:=NL.put h7 nd.2 e;have hl:l∈kk.map (·.2.1):=t8.mpr ⟨r0,m0,by rw[e0]⟩;refine⟨l,xs,e1,⟨r0,.tail _ m0,e0⟩,λy vd rv=>?_⟩;obtain⟨kk',k1,k2,k3,k4⟩:=k y vd rv;refine⟨r::kk',congrArg (List.cons (r.1,V.ref r.2.1)) k1,congrArg (List.cons r.2.1) k2,λx hx=>?_,?_⟩
   .grind
   .unfold Iy
    rw[h1,z,ir (by decide)];exact⟨h1,⟨ds,h2,h3⟩,⟨by rw[B7 (λw=>nd.1 (by lia))];exact h4,h5,h6⟩,k4⟩
def shG(as:List i9)(G H:Hp):Hp:=λb=>open Classical in if b∈as then H b else G b
def eT{as:List i9}{b:i9}(h:b∈as):shG as G H b=H b:=by unfold shG;rw[iq h]
def Ca{as:List i9}{b:i9}(h:b∉as):shG as G H b=G b:=by unfold shG;rw[ir h]
def NL.same{kvs:List (f8×f8)}{kk:List (f8×i9×List V)}(h:NL G H H1 kvs kk):Same G (shG (kk.map (·.2.1)) G H):=λb u e=>by
 by_cases m:b∈kk.map (·.2.1)
 .obtain⟨r,hr,rfl⟩:=t8.mp m
  rw[(h.mem r hr).2.1]at e;cases e
 .rw[Ca m];exact e
theorem NL.vals{as:List i9}(s:Same G (shG as G H)):∀{kvs:List (f8×f8)} {kk:List (f8×i9×List V)},NL G H H1 kvs kk->(∀r∈kk,r.2.1∈as)->RepL (shG as G H) (kvs.map (·.2)) ((prs kk).map (·.2))
 |[],[],_,_=>rfl
 |[],_::_,h,_=>h.elim
 |_::_,[],h,_=>h.elim
 |q::kvs,r::kk,⟨_,⟨ds,h2,h3⟩,⟨h4,_,_⟩,h7⟩,m=>by
  rw[k6,h2];exact RepL.cons ⟨r.2.1,r.2.2,rfl,.inl (by rw[eT (m r (.head _))];exact h4),h3.mono s⟩ (NL.vals s h7 λx hx=>m x (.tail _ hx))
end
def SR.forget{G H:Hp}{σ:St}{δ:Dn}(S:SR G H σ δ)(i:Nat):SR G H σ (δ.set i .un):=by
 have key:∀(j:Nat) (s:Sl),(δ.set i .un)[j]?=some s->s=.un\/δ[j]?=some s:=λj s e=>by
  grind
 refine⟨S.sub,by simp[S.len],λj s e=>?_,λj1 j2 a d1 d2 e1 e2 h1 h2=>?_⟩
 .rcases key j s e with rfl |e
  .trivial
  .exact S.sl j s e
 .rcases key j1 _ e1 with z |e1
  .cases z
  .rcases key j2 _ e2 with z |e2
   .cases z
   .exact S.ap j1 j2 a d1 d2 e1 e2 h1 h2
theorem SSt.forget{G0 H0 G H:Hp}{σ:St}{δ:Dn}(S:SSt G0 H0 G H σ δ)(i:Nat):SSt G0 H0 G H σ (δ.set i .un):=
 ⟨S.gr,S.sr.forget i,λj d a e h=>by
  rw[E7]at e;split at e
  .cases e
  .exact S.fr j d a e h⟩
def OwnOk.off{G H H':Hp}{a:i9}{d:f8}(e:H' a=H a)(h:OwnOk G H a d):OwnOk G H' a d:=by
 cases d with
 |list ds=>obtain⟨xs,q,r⟩:=h;exact⟨xs,e.trans q,r⟩
 |dict kvs=>obtain⟨xs,q,r⟩:=h;exact⟨xs,e.trans q,r⟩
 |tuple xs=>exact OwnK.keep (Same.refl _) (λo q=>e.trans q) h
 |_=>exact(show False from h).elim
theorem SSt.off{G0 H0 G H H':Hp}{σ:St}{δ:Dn}(S:SSt G0 H0 G H σ δ)(h0:Same H0 H')(hg:Same G H')(k:∀(j:Nat) (d:f8) (a:i9),δ[j]?=some (.ow d)->σ[j]?.join=some (.ref a)->H' a=H a):SSt G0 H0 G H' σ δ:=by
 refine⟨⟨S.gr.g,h0,hg,S.gr.fr⟩,⟨hg,S.sr.len,λj s e=>?_,S.sr.ap⟩,S.fr⟩;have hs:=S.sr.sl j s e;cases s with
 |un=>trivial
 |sh d=>exact hs
 |fd _=>exact hs
 |ow d=>
  obtain⟨a,e1,n1,ok⟩:=hs;exact⟨a,e1,n1,ok.off (k j d a e e1)⟩
noncomputable def Gh(δ:Dn)(t:Nat)(c:Dn->Res Bool)(fk fv:Dn->Res f8):List f8->List (f8×f8)->Res Kvs
 |[],kvs=>.ok kvs
 |d::ds,kvs=>match c (δ.set t (.sh d)) with
  |.ok true=>match fk (δ.set t (.sh d)) with
   |.ok kd=>match fv (δ.set t (.sh d)) with
    |.ok vd=>if nkD kd=true then Gh δ t c fk fv ds (Iy kvs kd vd) else .no
    |_=>.no
   |_=>.no
  |.ok false=>Gh δ t c fk fv ds kvs
  |_=>.no
def bH(i t:Nat)(src:Dn->Res (List f8))(c:Dn->Res Bool)(fk fv:Dn->Res f8):Dn->Out:=λδ=>match δ[i]? with
 |some (.ow (.tuple [.dict [],.none]))=>K1 (src (δ.set i .un)) λds=>if ds.length<1000/\i≠t then(match Gh ((δ.set i .un).set t .un) t c fk fv ds [] with
  |.ok kvs=>.nx ((δ.set i (.ow (.tuple [.dict kvs,.none]))).set t .un)
  |_=>.no) else .no
 |_=>.no
structure GrpAt(G1 H0 H1:Hp)(i:Nat)(q:i9)(δv:Dn)(n:Nat)(τ:St)(Hc:Hp)(kvs:List (f8×f8)):Prop where
 ex:∃Gc kk,SSt G1 H0 Gc Hc τ δv/\Gc q=none/\Hc q=some (.dN (prs kk))/\NL Gc Hc H1 kvs kk/\(kk.map (·.2.1)).Nodup/\kk.length<=n/\∀r∈kk,r.2.2.length<=n
 hi:τ[i]?=some (some (.ref q))
 ap:∀(j:Nat) (d:f8) (a:i9),δv[j]?=some (.ow d)->τ[j]?.join=some (.ref a)->a≠q/\∃o,H1 a=some o
 kp:∀b o,H1 b=some o->∃o',Hc b=some o'
def Fb{H1 H:Hp}{p:i9}{o:HO}(h:∀b o,H1 b=some o->∃o',H b=some o'):∀b u,H1 b=some u->∃o',(upd H p o) b=some o':=λb u e=>by
 by_cases z:b=p
 .subst z;exact⟨_,C8⟩
 .rw[B7 z];exact h b u e
def K5{H1 H H':Hp}(s:Same H H')(h:∀b o,H1 b=some o->∃o',H b=some o'):∀b u,H1 b=some u->∃o',H' b=some o':=λb u e=>by
 obtain⟨o',z⟩:=h b u e;exact⟨o',s _ _ z⟩
def Grow.stay{G H G' H':Hp}(g:Grow G H G' H'){q:i9}{o:HO}(n:G q=none)(e:H q=some o)(h:∀ys,o≠.tup ys):G' q=none:=by
 cases z:G' q with
 |none=>rfl
 |some u=>
  rcases g.fr q u z with y |y |⟨ys,rfl⟩
  .lia
  .lia
  .have:=g.gh _ _ z;rw[g.h _ _ e]at this;simp_all
def T9{H0 H:Hp}{p:i9}{o:HO}(s:Same H0 H)(h:H0 p=none):Same H0 (upd H p o):=λb u e=>by
 rw[B7 (D9 e h)];exact s _ _ e
def OwnOk.monoG{G G' H:Hp}{a:i9}{d:f8}(g:Same G G')(h:OwnOk G H a d):OwnOk G' H a d:=by
 cases d with
 |list ds=>obtain⟨xs,q,r⟩:=h;exact⟨xs,q,r.mono g⟩
 |dict kvs=>obtain⟨xs,q,k,r⟩:=h;exact⟨xs,q,k,r.mono g⟩
 |tuple xs=>exact OwnK.keep g (λo q=>q) h
 |_=>exact(show False from h).elim
section
variable {P:o9}{w:x8}{K:i5}{mg:Str->Option g9}{base:BL}{X:Cx}{N:List Str}{sc:Scope}{k:Nat}{df:Bool}{E:EK}{p px pl ap1 cp1 ap2 cp2 ep ip pos:Pos}{ke ve ce iter:Expr}{fk fv:Dn->Res f8}{c:Dn->Res Bool}{src:Dn->Res (List f8)}{x y:Str}
def s_grp(C:Cxt P w K mg base X N sc k df)(i t:Nat)(ht:okSet N sc df t y=true)(h:okVar N sc i x=true)(hi:DI X E (.Name y px) iter src)(hc:DT X E ce c)(hk:DE X E ke fk)(hv:DE X E ve fv)
 (m2:M2 X (.Name x p) "setdefault" ap1 ke (.List [] pl) cp1) (hs:∀x,CB iter X.env x=pure x)
 (hbase:FK (.Call (.Attribute (.Name x p) "setdefault" ap1) [ke,.List [] pl] [] cp1) "append" X.env (eval (.Call (.Attribute (.Name x p) "setdefault" ap1) [ke,.List [] pl] [] cp1) X.env)=eval (.Call (.Attribute (.Name x p) "setdefault" ap1) [ke,.List [] pl] [] cp1) X.env)
 (hfew:((CD cp2 (i8 [ve] X.env)).all (λx=>!x.1)&&(HY cp2 (FL [] X.env)).all (λx=>x.1.isSome)&&decide ([ve].length+([]:List GX).length+(if ([]:List GX).isEmpty then 0 else 1)<30))=true)
 (hline:(ap2.endLine==cp2.line)=true) (hst:i8 [ve] X.env=(false,eval ve X.env)::i8 [] X.env) (hplain:(CD cp2 (i8 [] X.env)).any (·.1)=false)
 (hsw:FT (.Call (.Attribute (.Call (.Attribute (.Name x p) "setdefault" ap1) [ke,.List [] pl] [] cp1) "append" ap2) [ve] [] cp2) none ep.line X.env=pure false):
 DS X E (.For (.Name y px) iter [.If ce [.Expr (.Call (.Attribute (.Call (.Attribute (.Name x p) "setdefault" ap1) [ke,.List [] pl] [] cp1) "append" ap2) [ve] [] cp2) ep] [] ip] [] pos) (bH i t src c fk fv):=λG0 H0=>by
 obtain⟨d1,d2,d3,d4⟩:=okSet.ok C ht;have app:=Qg (pos:=ep) (Lx DP JU JT Jg (bT (by have:=C.hu;lia) (okVar.pe C h (p:=p)) hk (Sv (pos:=pl) N0) m2) (E8 hv N0 hst) hbase hfew hline hst hplain) hsw;refine PS.imp (fE (pos:=pos) C.own C.calm hi (O8 d1 d2 d3 d4) (Gd (oM (pos:=ip) hc (Gd app) Zb)) hs) λD σ H hh=>?_;obtain⟨G,δ,S,aft⟩:=hh;unfold bH at aft;split at aft
 .rename_i hsl
  obtain⟨q,hσ,hgq,ho⟩:=S.sr.own hsl;obtain⟨kk0,hx,hkeys,_⟩:=(show OwnK G H q [.dict [],.none] from ho);have hk0:kk0=[]:=by
   cases kk0 with
   |nil=>rfl
   |cons _ _=>cases hkeys
  subst hk0;have hil:i<δ.length:=(x4.mp hsl).1;have hq0:H0 q=none:=S.fr i _ q hsl (by rw[hσ];rfl);refine gR (S.forget i) aft λds J G1 H1 gr W S1 a1=>?_;split at a1
  .rename_i hcond
   obtain⟨hlen,hit⟩:=hcond;have g01:=S1.gr;cases eout:Gh ((δ.set i .un).set t .un) t c fk fv ds [] with
   |ok out=>
    rw[eout]at a1;have S2:=(S1.forget t).rebase g01 (Same.refl _);generalize hδv:(δ.set i .un).set t .un=δv at *;have apv:∀(j:Nat) (d:f8) (a:i9),δv[j]?=some (.ow d)->δ[j]?=some (.ow d)/\j≠i:=λj d a e=>by
     rw[<-hδv,E7]at e;split at e
     .cases e
     .rw[E7]at e
      split at e
      .cases e
      .rename_i hn
       exact⟨e,λz=>by subst z;exact hn ⟨rfl,hil⟩⟩
    have hG1q:G1 q=none:=by
     cases z:G1 q with
     |none=>rfl
     |some u=>
      rcases gr.fr q u z with y |y |⟨ys,rfl⟩
      .rw[hgq]at y;cases y
      .rw[hx]at y;cases y
      .have:=gr.gh _ _ z;rw[gr.h _ _ hx]at this;cases this
    refine⟨λn m τ Hc=>m=ds.length-n/\n<=ds.length/\∃kvs,GrpAt G1 H0 H1 i q δv n τ Hc kvs/\Gh δv t c fk fv (ds.drop n) kvs=.ok out,⟨_,rfl,ER _,[],⟨⟨G1,[],S2,hG1q,gr.h _ _ hx,trivial,.nil,s0 _,λ_ h=>nomatch h⟩,hσ,λj d a e1 e2=>?_,λb o e=>⟨o,e⟩⟩,by rw[IN];exact eout⟩,?_⟩
    .obtain⟨e3,hne⟩:=apv j d a e1
     refine⟨λz=>hne (S.sr.ap j i q d _ e3 hsl (z▸e2) (by rw[hσ];rfl)),?_⟩;obtain⟨a',h1,_,h3⟩:=S.sr.sl j _ e3;rw[e2]at h1;cases h1;obtain⟨o,z⟩:=h3.some;exact⟨o,gr.h _ _ z⟩
    rintro n m τ Hc ⟨rfl,hn,kvs,⟨⟨Gc,kk,Sc,gq,dq,nl,nd,kl,rl⟩,hτ,ap,kp⟩,eg⟩;by_cases hlt:n<ds.length
    .have hd:ds[n]?=some ds[n]:=BY hlt
     rw[EA hlt]at eg;unfold Gh at eg;refine .inr ⟨W.go n Hc hlt (Sc.gr.g.trans Sc.sr.sub),λτ2 H2=>∃kvs,GrpAt G1 H0 H1 i q δv (n+1) τ2 H2 kvs/\Gh δv t c fk fv (ds.drop (n+1)) kvs=.ok out,λτ2 H2 z=>⟨_,by lia,rfl,hlt,z⟩,λv H'' hy=>?_⟩;obtain⟨G3,g3,r3⟩:=W.yld n _ Gc Hc v H'' hd Sc.gr.g Sc.sr.sub hy;have S3:=(Sc.grow g3).set_sh (i:=t) r3;have nl3:=nl.grow g3;have dq3:=g3.h _ _ dq;have gq3:G3 q=none:=g3.stay gq dq λys z=>by cases z
     have h01:Same H0 H1:=S1.gr.h;have hback:((δv.set t (.sh ds[n])).set t .un)=δv:=by rw[<-hδv];simp
     have hτ':(τ.set t (some v))[i]?=some (some (.ref q)):=by rw[FG (Ne.symm hit)];exact hτ
     have htv:∀(j:Nat) (d:f8),δv[j]?=some (.ow d)->j≠t:=λj d e z=>by
      subst z;rw[<-hδv,E7]at e;split at e
      .cases e
      .rename_i hn
       have:=(x4.mp e).1;rw[LB]at this;exact hn ⟨rfl,by rw[LB];exact this⟩
     have ap':∀(j:Nat) (d:f8) (a:i9),δv[j]?=some (.ow d)->(τ.set t (some v))[j]?.join=some (.ref a)->a≠q/\∃o,H1 a=some o:=λj d a e1 e2=>by
      rw[FG (Ne.symm (htv j d e1))]at e2;exact ap j d a e1 e2
     have apb:∀(j:Nat) (d:f8) (a:i9),(δv.set t (.sh ds[n]))[j]?=some (.ow d)->(τ.set t (some v))[j]?.join=some (.ref a)->a≠q/\∃o,H1 a=some o:=λj d a e1 e2=>by
      rw[E7]at e1;split at e1
      .cases e1
      .exact ap' j d a e1 e2
     show tIfS _ _ _ _ (τ.set t (some v)) H'';generalize hδb:δv.set t (.sh ds[n])=δb at *;generalize τ.set t (some v)=τ' at *;have fin:∀(Gz Hz:Hp) (kz:List (f8×f8)) (kkz:List (f8×i9×List V)),SSt G1 H0 Gz Hz τ' δb->Gz q=none->Hz q=some (.dN (prs kkz))->NL Gz Hz H1 kz kkz->(kkz.map (·.2.1)).Nodup->kkz.length<=n+1->(∀r∈kkz,r.2.2.length<=n+1)->(∀b o,H1 b=some o->∃o',Hz b=some o')->GrpAt G1 H0 H1 i q δv (n+1) τ' Hz kz:=λGz Hz kz kkz s1 s2 s3 s4 s5 s6 s7 s8=>by
      have:=s1.forget t;rw[hback]at this;exact⟨⟨Gz,kkz,this,s2,s3,s4,s5,s6,s7⟩,hτ',ap',s8⟩
     refine⟨G3,δb,S3.sr,?_⟩;cases ec:c δb with
     |exc _=>rw[ec]at eg;cases eg
     |no=>rw[ec]at eg;cases eg
     |ok bb=>
      rw[ec]at eg;intro G4 H4 g4;have S4:=S3.grow g4;have nl4:=nl3.grow g4;have dq4:=g4.h _ _ dq3;have kp4:=K5 g4.h (K5 g3.h kp);have gq4:G4 q=none:=g4.stay gq3 dq3 λys z=>by cases z
      cases bb with
      |false=>
       rw[ir (by decide)];exact⟨kvs,fin G4 H4 kvs kk S4 gq4 dq4 nl4 nd (by lia) (λr hr=>GJ (rl r hr)) kp4,eg⟩
      |true=>
       rw[iq rfl];dsimp only at eg;cases efk:fk δb with
       |exc _=>rw[efk]at eg;cases eg
       |no=>rw[efk]at eg;cases eg
       |ok kd=>
        rw[efk]at eg;dsimp only at eg;cases efv:fv δb with
        |exc _=>rw[efv]at eg;cases eg
        |no=>rw[efv]at eg;cases eg
        |ok vd=>
         rw[efv]at eg;dsimp only at eg;split at eg
         .rename_i hnk
          refine⟨.ref q,hτ',q,prs kk,rfl,dq4,G4,δb,S4.sr,?_⟩;rw[efk];intro y5 G5 H5 g5 r5;have S5:=S4.grow g5;refine⟨ER _,λp hp=>?_⟩;have g6:Grow G5 H5 G5 (upd H5 p (.lst [])):=Grow.own S5.sr.sub hp;have S6:=S5.grow g6;have nl6:=(nl4.grow g5).grow g6;have dq5:=g5.h _ _ dq4;have hpq:q≠p:=D9 dq5 hp;have dq6:(upd H5 p (.lst [])) q=some (.dN (prs kk)):=g6.h _ _ dq5;have gq5:G5 q=none:=g5.stay gq4 dq4 λys z=>by cases z
          have hz:(prs kk).length<sizeLine:=by
           have:(1000:Nat)<=sizeLine:=by decide
           rw[i7];lia
          refine⟨prs kk,kd,dq6,Km S6.sr.sub hnk r5,hnk,hz,λv0 hv0=>?_,λhn0=>?_⟩
          .obtain⟨l,xs,e1,⟨r0,m0,e0⟩,_⟩:=NL.put nl6 nd hv0
           subst e1;have hm6:=nl6.mem r0 m0;rw[e0]at hm6;refine⟨.inl ⟨rfl,xs,.inl (.inl hm6.1)⟩,G5,δb,S6.sr,?_⟩;rw[efv];intro y7 G7 H7 g7 r7;have S7:=S6.grow g7;have nl7:=nl6.grow g7;have dq7:=g7.h _ _ dq6;have gq7:G7 q=none:=g7.stay gq5 dq6 λys z=>by cases z
           have hm7:=nl7.mem r0 m0;rw[e0]at hm7;have hxs:xs.length<=n:=by have:=rl r0 m0;rw[e0]at this;exact this
           have hql:q≠l:=Ly dq7 hm7.1 λz=>by cases z
           obtain⟨l',xs',e1',⟨r1,m1,e1r⟩,kp⟩:=NL.put nl7 nd hv0;cases e1';have hm1:=nl7.mem r1 m1;rw[e1r]at hm1;have exs:xs'=xs:=by have:=hm1.1.symm.trans hm7.1;cases this;rfl
           subst exs;obtain⟨kk',k1,k2,k3,k4⟩:=kp y7 vd r7;refine⟨l,xs',y7,rfl,rfl,hm7.1,HA hxs (y9 (show n<1000 by lia) (by decide)),Iy kvs kd vd,fin G7 _ _ kk' (S7.off (T9 S7.gr.h (h01.free hm7.2.2)) (T9 S7.sr.sub hm7.2.1) λj d a z1 z2=>?_) gq7 (by rw[B7 hql,k1];exact dq7) k4 (by rw[k2];exact nd) ?_ (λr hr=>?_) (Fb (K5 g7.h (K5 g6.h (K5 g5.h kp4)))),eg⟩
           .obtain⟨_,o,ho⟩:=apb j d a z1 z2
            rw[B7 (D9 ho hm7.2.2)]
           .have:=congrArg GU k2
            rw[i7,i7]at this;lia
           .rcases k3 r hr with z |z
            .lia
            .exact GJ (rl r z)
          .have hH1p : H1 p = none:= by
            cases z:H1 p with
            |none=>rfl
            |some u=>
             obtain⟨o',w⟩:=K5 g5.h kp4 p u z;rw[hp]at w;cases w
           have hG5p:G5 p=none:=S5.sr.sub.free hp;have hp6:(upd H5 p (.lst [])) p=some (.lst []):=C8;have S7:SSt G1 H0 G5 (upd (upd H5 p (.lst [])) q (.dN (prs kk++[(kd,.ref p)]))) τ' δb:=S6.off (T9 S6.gr.h hq0) (T9 S6.sr.sub gq5) λj d a z1 z2=>by rw[B7 (apb j d a z1 z2).1]
           have hp7:(upd (upd H5 p (.lst [])) q (.dN (prs kk++[(kd,.ref p)]))) p=some (.lst []):=by rw[B7 (Ne.symm hpq)];exact hp6
           refine⟨.inl ⟨rfl,[],.inl (.inl hp7)⟩,G5,δb,S7.sr,?_⟩;rw[efv];intro y8 G8 H8 g8 r8;have S8:=S7.grow g8;have hp8:=g8.h _ _ hp7;have gp8:G8 p=none:=g8.stay hG5p hp7 λys z=>by cases z
           have dq7:(upd (upd H5 p (.lst [])) q (.dN (prs kk++[(kd,.ref p)]))) q=some (.dN (prs kk++[(kd,.ref p)])):=C8;have dq8:=g8.h _ _ dq7;have gq8:G8 q=none:=g8.stay gq5 dq7 λys z=>by cases z
           have nl7:NL G5 (upd (upd H5 p (.lst [])) q (.dN (prs kk++[(kd,.ref p)]))) H1 kvs kk:=nl6.keep (Same.refl _) λr _ e n _=>⟨by rw[B7 (Ly e dq6 λz=>by cases z)];exact e,n⟩;have hne:∀r∈kk,r.2.1≠p:=λr hr=>D9 ((nl4.grow g5).mem r hr).1 hp;have nl9:NL G8 (upd H8 p (.lst [y8])) H1 kvs kk:=(nl7.grow g8).keep (Same.refl _) λr hr e n _=>⟨by rw[B7 (hne r hr)];exact e,n⟩;refine⟨p,[],y8,rfl,rfl,hp8,by show 0<sizeLine;decide,Iy kvs kd vd,fin G8 _ _ (kk++[(kd,p,[y8])]) (S8.off (T9 S8.gr.h (h01.free hH1p)) (T9 S8.sr.sub gp8) λj d a z1 z2=>?_) gq8 ?_ (NL.new r8 ⟨C8,gp8,hH1p⟩ nl9 hn0) ?_ (by rw[k7];show _+1<=_;lia) (λr hr=>?_) (Fb (K5 g8.h (Fb (K5 g6.h (K5 g5.h kp4))))),eg⟩
           .obtain⟨_,o,ho⟩:=apb j d a z1 z2
            show(upd H8 p (.lst ([]++[y8]))) a=H8 a;rw[B7 (D9 ho hH1p)]
           .show(upd H8 p (.lst ([]++[y8]))) q=_
            rw[B7 hpq,dq8];unfold prs;rw[z4];rfl
           .rw[z4,KB]
            refine⟨nd,by simp,λa ha b hb=>?_⟩;obtain⟨r,hr,rfl⟩:=t8.mp ha;have:b=p:=by simpa using hb
            subst this;exact hne r hr
           .rcases m6.mp hr with hr |hr
            .exact GJ (rl r hr)
            .rw[m9.mp hr];show 1<=n+1;lia
         .cases eg
    .refine .inl ⟨W.stop n Hc (GD.mp hlt) (Sc.gr.g.trans Sc.sr.sub),?_⟩
     rw[FV (GD.mp hlt)]at eg;cases eg;have hq':q∉kk.map (·.2.1):=λz=>by
      obtain⟨r,hr,e⟩:=t8.mp z;have:=(nl.mem r hr).1;rw[e,dq]at this;cases this
     have Su:=Sc.unbase g01;have sm:=nl.same;have gh:Same (shG (kk.map (·.2.1)) Gc Hc) Hc:=λb u e=>by
      by_cases m:b∈kk.map (·.2.1)
      .rw[eT m]at e;exact e
      .rw[Ca m]at e;exact Sc.sr.sub _ _ e
     refine a1 τ (shG (kk.map (·.2.1)) Gc Hc) Hc ⟨⟨Su.gr.g.trans sm,Su.gr.h,gh,λb o e=>?_⟩,⟨gh,?_,λj s e=>?_,λj1 j2 a e1' e2' z1 z2 h1 h2=>?_⟩,λj d a e h=>?_⟩
     .by_cases m:b∈kk.map (·.2.1)
      .obtain⟨r,hr,rfl⟩:=t8.mp m
       exact .inr (.inl (S1.gr.h.free (nl.mem r hr).2.2))
      .rw[Ca m]at e;exact Su.gr.fr b o e
     .have:=Sc.sr.len
      rw[<-hδv]at this;simpa using this
     .rw[E7]at e
      split at e
      .cases e;trivial
      .rename_i hjt
       rw[E7]at e;split at e
       .rename_i hji
        cases e;rw[<-hji.1,hτ];exact⟨q,rfl,by rw[Ca hq'];exact gq,prs kk,dq,nl.keys,nl.vals sm λr hr=>BW hr⟩
       .rename_i hji
        have ev:δv[j]?=some s:=by
         rw[<-hδv,E7,ir (by simpa using hjt),E7,ir hji];exact e
        have hs:=Sc.sr.sl j s ev;cases s with
        |un=>trivial
        |sh d=>obtain⟨v,e1,r1⟩:=hs;exact⟨v,e1,r1.mono sm⟩
        |fd _=>exact FdOk.mono sm hs
        |ow d=>
         obtain⟨a,e1,n1,ok⟩:=hs;have hna:a∉kk.map (·.2.1):=λz=>by
          obtain⟨r,hr,er⟩:=t8.mp z;obtain⟨_,o,ho⟩:=ap j d a ev e1;have:=(nl.mem r hr).2.2;rw[er,ho]at this;cases this
         exact⟨a,e1,by rw[Ca hna];exact n1,ok.monoG sm⟩
     .have key : ∀ (j : Nat) (d : f8),((δ.set i (.ow (.tuple [.dict out,.none]))).set t .un)[j]? = some (.ow d) -> j = i \/ δv[j]? = some (.ow d):= λj d e => by
       rw[E7]at e;split at e
       .cases e
       .rename_i hjt
        rw[E7]at e;split at e
        .rename_i hji;exact .inl hji.1.symm
        .rename_i hji
         exact .inr (by rw[<-hδv,E7,ir (by simpa using hjt),E7,ir hji];exact e)
      rcases key j1 _ z1 with rfl |y1
      .rcases key j2 _ z2 with rfl |y2
       .rfl
       .rw[hτ]at h1;cases h1
        exact absurd rfl (ap j2 _ _ y2 h2).1
      .rcases key j2 _ z2 with rfl |y2
       .rw[hτ]at h2;cases h2
        exact absurd rfl (ap j1 _ _ y1 h1).1
       .exact Sc.sr.ap j1 j2 a _ _ y1 y2 h1 h2
     .rw[E7]at e
      split at e
      .cases e
      .rename_i hjt
       rw[E7]at e;split at e
       .rename_i hji
        rw[<-hji.1,hτ]at h;cases h;exact hq0
       .rename_i hji
        exact Sc.fr j d a (by rw[<-hδv,E7,ir (by simpa using hjt),E7,ir hji];exact e) h
   |exc _=>rw[eout]at a1;exact(show False from a1).elim
   |no=>rw[eout]at a1;exact(show False from a1).elim
  .exact(show False from a1).elim
 .exact(show False from aft).elim
end
def oV{X:Cx}{pos:Pos}:PE X (.Dict [] [] pos) (λσ H Q=>∀q,H q=none->Q (.ref q) (upd H q (.dN []))):=by
 intro pins s σ H Q I h;refine DG (oU (X:=X) (pos:=pos) pins s σ H (λv H1=>∃q,v=.ref q/\H q=none/\H1=upd H q (.dT [])) I λq hq=>⟨q,rfl,hq,rfl⟩) (λv s1 hh=>?_) λ_ _ e=>e;obtain⟨x,H1,I1,rx,q,rfl,hq,rfl⟩:=hh;have hx:(upd H q (.dT [])) q=some (.dT []):=C8;obtain⟨z,hs,xs,rel,o,es,ep,e1,hex,hdat,hes,hnd⟩:=I1.hok q _ hx;have hxs:xs=[]:=by
  cases rel;rfl
 subst hxs;have hes':es=#[]:=by
  have:es.toList=[]:=hes;exact Array.toList_eq_nil_iff.mp this
 subst hes';obtain⟨oc,od,odt,osl⟩:=o;obtain⟨c1,c2,c3⟩:=hex;simp only at c1 c2 c3 hdat;subst c1 c2 c3 hdat;refine⟨.ref q,upd H q (.dN []),?_,rx,h q hq⟩;have:=I1.write (x:=q) (e:=q) (o:=.dN []) (t':=s1.toks) (h':=s1.heap) (by rw[hx];exact trivial) (.inl rfl) (λb u _ w=>w) ⟨_,e1⟩ ⟨ER _,hs,.nil,(λ_ h=>nomatch h),[],.nil,ep,e1⟩;rw[Ye]at this;exact this
def Ac(i:Nat):Dn->Out:=λδ=>.nx (δ.set i (.ow (.tuple [.dict [],.none])))
section
variable {P:o9}{w:x8}{K:i5}{mg:Str->Option g9}{base:BL}{X:Cx}{N:List Str}{sc:Scope}{k:Nat}{df:Bool}{E:EK}{pos p p2:Pos}{a:Expr}{x:Str}
def Fx(C:Cxt P w K mg base X N sc k df)(i:Nat)(ho:okSet N sc df i x=true)(hs:FT (.Dict [] [] p2) (some (.Name x p)) pos.line X.env=pure false:=by rfl):DS X E (.Assign [.Name x p] (.Dict [] [] p2) pos) (Ac i):=λG0 H0=>by
 obtain⟨h1,h2,h3,h4⟩:=okSet.ok C ho;refine PS.imp (Mv h1 h2 h3 oV hs h4) λD σ H hh q hq=>?_;obtain⟨G,δ,S,a⟩:=hh;have S1:=S.grow (Grow.own (o:=.dN []) S.sr.sub hq);exact a _ G _ (S1.set_ow (S.gr.h.free hq) (S.sr.sub.free hq) (show OwnK G _ q [.dict [],.none] from ⟨[],C8,rfl,rfl⟩) (Kv S hq))
end
def AftN(E:EK)(G H:Hp)(r:Res Kvs)(Q:VK):Prop:=match r with
 |.ok kvs=>∀p G' H',Grow G H G' H'->H p=none->G' p=none->OwnOk G' H' p (.tuple [.dict kvs,.none])->Q (.ref p) H'
 |.exc c=>∀G' H',Grow G H G' H'->E c H'
 |.no=>False
def tN(E:EK)(f:Dn->Res Kvs):TE:=λσ H Q=>∃G δ,SR G H σ δ/\AftN E G H (f δ) Q
abbrev DN(X:Cx)(E:EK)(e:Expr)(f:Dn->Res Kvs):Prop:=PE X e (tN E f)
def DSN(X:Cx)(E:EK)(sts:List GC)(g:Dn->Res Kvs):Prop:=∀G0 H0,PSs X sts (λD σ H=>∃G δ,SSt G0 H0 G H σ δ/\AftN E G0 H0 (g δ) D.rt)
def Vv(i:Nat):Dn->Res Kvs:=λδ=>match δ[i]? with
 |some (.ow (.tuple [.dict kvs,.none]))=>.ok kvs
 |_=>.no
def spN(n:Nat)(m:List f8->Res Kvs):Sp:=λvs H Q _=>∃G ds kvs,Same G H/\RepL G ds vs/\ds.length=n/\m ds=.ok kvs/\∀p G' H',Grow G H G' H'->H p=none->G' p=none->OwnOk G' H' p (.tuple [.dict kvs,.none])->Q (.ref p) H'
structure FnN(P:o9)(w:x8)(K:i5)(mg:Str->Option g9)(base:BL)(x:Str)(k n:Nat)(m:List f8->Res Kvs):Prop where
 ex:∃f fd ps,ps.length=n/\FnOk P w K mg base CX0 k f fd ps (spN n m)/\mg x=some (.ref f)/\BR K (.ref f)=true/\Binds K fd ps []
def U7(i:Nat)(f:Dn->Res Kvs):Dn->Out:=λδ=>K1 (f δ) λkvs=>.nx (δ.set i (.ow (.tuple [.dict kvs,.none])))
section
variable {P:o9}{w:x8}{K:i5}{mg:Str->Option g9}{base:BL}{X:Cx}{N:List Str}{sc:Scope}{k:Nat}{df:Bool}{E:EK}{pos p:Pos}{e:Expr}{es:List Expr}{fs:Dn->Res (List f8)}{fx:Dn->Res Kvs}{x:Str}{st:GC}{sts:List GC}{g1:Dn->Out}{g2:Dn->Res Kvs}
def cB(C:Cxt P w K mg base X N sc k df)(i:Nat)(h:okVar N sc i x=true):DSN X E [.Return (some (.Name x p)) pos] (Vv i):=λG0 H0=>by
 refine PSs.imp (Gd (Zc (okVar.pe C h))) λD σ H hh=>?_;obtain⟨G,δ,S,a⟩:=hh;unfold Vv at a;split at a
 .rename_i kvs hi
  obtain⟨q,hσ,hg,ho⟩:=S.sr.own hi;exact⟨.ref q,hσ,a q G H S.gr (S.fr i _ q hi (by rw[hσ];rfl)) hg ho⟩
 .exact(show False from a).elim
def Af(h1:DS X E st g1)(h2:DSN X E sts g2):DSN X E (st::sts) (Di g1 g2):=λG0 H0=>by
 refine PSs.imp (Lu (h1 G0 H0) (h2 G0 H0)) λD σ H hh=>?_;obtain⟨G,δ,S,a⟩:=hh;refine⟨G,δ,S,?_⟩;unfold Di at a;cases e:g1 δ with
 |nx δ'=>rw[e]at a;exact λσ' G' H' S'=>⟨G',δ',S',a⟩
 |exc d=>rw[e]at a;exact a
 |rt d=>rw[e]at a;exact(show False from a).elim
 |bk d=>rw[e]at a;exact(show False from a).elim
 |ct d=>rw[e]at a;exact(show False from a).elim
 |no=>rw[e]at a;exact(show False from a).elim
def vD{x:Str}{st:GC}{ps:List Str}{n:Nat}{go:Dn->Res Kvs}{m:List f8->Res Kvs}(F:Def K mg x st ps)(S:FnScope N ps (A5 st))(hn:ps.length=n)
 (body:∀X,Cxt P w K mg base X N (A5 st) k true->DSN X E0k (B6 st) go) (hm:m=fnW N go):FnN P w K mg base x (k+1) n m:=by
 obtain⟨f,fd,F,hmg,hb⟩:=F.ex;refine⟨f,fd,ps,hn,?_,hmg,F.kp,hb⟩;subst hm;refine F.ok S (λvs H Q E h=>?_) (λcdv A outer s H vs Q E hr h=>?_)
 .obtain⟨G,ds,d,_,r,hl,_⟩:=h
  rw[<-r.length,hl,hn]
 .obtain⟨G,ds,kvs,hG,r,hl,em,q⟩:=h
  refine⟨_,body _ ⟨rfl,rfl,rfl,rfl,rfl,rfl,rfl,rfl,hr,λ_ _=>rfl,GS⟩ G H,G,_,Lj hG r N,?_⟩;unfold fnW at em;rw[em];exact q
def Nd{x:Str}{j n:Nat}{m:List f8->Res Kvs}(C:Cxt P w K mg base X N sc k df)(F:FnN P w K mg base x j n m)(hj:j<=k)(h:okGl sc x=true)(ha:DA X E0k (e::es) n fs)
 (he:i8 (e::es) X.env=(false,eval e X.env)::i8 es X.env:=by rfl) (hpl:(CD pos (i8 es X.env)).any (·.1)=false:=by rfl):DN X E0k (.Call (.Name x p) (e::es) [] pos) (Ey fs m):=by
 obtain⟨f,fd,ps,hps,F,hm,hk,hb⟩:=F.ex;obtain⟨h1,h2,h3⟩:=okGl.gl C h;have F':FnOk X.prog X.w X.K X.mg X.base CX0 j f fd ps (spN n m):=by rw[C.hP,C.hw,C.hK,C.hmg,C.hb];exact F
 refine PE.imp (Dr F' (C.room.mono hj) h1 (by rw[C.hmg];exact hm) (by rw[C.hK];exact hk) (by rw[C.hK];exact hb) .nil (Sw (X:=X)) ha.pa h2 he hpl) λσ H Q hh=>?_;obtain⟨G,δ,S,aft⟩:=hh;have gw:∀{G H G' H':Hp} {r:Res Kvs},Grow G H G' H'->AftN E0k G H r Q->AftN E0k G' H' r Q:=λ{G H G' H' r} g a=>by
  cases r with
  |ok kvs=>exact λp G2 H2 g2 hp hp' ho=>a p G2 H2 (g.trans g2) (g.h.free hp) hp' ho
  |exc c=>exact λG2 H2 g2=>a G2 H2 (g.trans g2)
  |no=>exact a
 refine W7 (W:=λG H r=>AftN E0k G H r Q) S aft (λg a=>gw g a) (λc a=>a) (λa=>a) λds vs G1 H1 e g1 r1 S1 a1=>?_;rw[u8];cases q:m ds with
 |ok d=>rw[q]at a1;exact⟨G1,ds,d,S1.sub,r1,ha.len δ ds e,q,a1⟩
 |exc c=>rw[q]at a1;exact(a1 G1 H1 (Grow.refl S1.sub)).elim
 |no=>rw[q]at a1;exact a1.elim
def Es(C:Cxt P w K mg base X N sc k df)(i:Nat)(ho:okSet N sc df i x=true)(h:DN X E e fx)(hs:FT e (some (.Name x p)) pos.line X.env=pure false:=by rfl):DS X E (.Assign [.Name x p] e pos) (U7 i fx):=λG0 H0=>by
 obtain⟨h1,h2,h3,h4⟩:=okSet.ok C ho;refine PS.imp (Mv h1 h2 h3 h hs h4) λD σ H hh=>?_;obtain⟨G,δ,S,a⟩:=hh;refine⟨G,δ,S.sr,?_⟩;unfold U7 at a;cases q:fx δ with
 |ok kvs=>
  rw[q]at a;intro p G' H' g hp hp' ho;have S1:=S.grow g;exact a _ G' H' (S1.set_ow (S.gr.h.free hp) hp' ho (Kv S hp))
 |exc c=>rw[q]at a;exact λG' H' g=>a G' H' (S.gr.trans g)
 |no=>rw[q]at a;exact a
end
noncomputable def Ie(c:Dn->Res Bool)(body:Dn->Out):Nat->Dn->Out
 |0,_=>.no
 |n+1,δ=>K1 (c δ) λb=>if b=true then(match body δ with
  |.nx δ'=>Ie c body n δ'
  |.ct δ'=>Ie c body n δ'
  |.bk δ'=>.nx δ'
  |o=>o) else .nx δ
def nX(c:Dn->Res Bool)(body:Dn->Out):Dn->Out:=Ie c body 4096
def dS(i:Nat):Dn->Res Bool:=λδ=>match δ[i]? with
 |some (.ow (.list ds))=>.ok (!ds.isEmpty)
 |_=>.no
def kL(i j:Nat):Dn->Out:=λδ=>match δ[i]? with
 |some (.ow (.list ds))=>match ds[ds.length-1]? with
  |some d=>if i≠j then .nx ((δ.set i (.ow (.list ds.dropLast))).set j (.sh d)) else .no
  |none=>.no
 |_=>.no
def kN(i:Nat)(f:Dn->Res (List f8)):Dn->Out:=λδ=>match δ[i]? with
 |some (.ow (.list xs))=>K1 (f δ) λds=>if xs.length+ds.length<=100000 then .nx (δ.set i (.ow (.list (xs++ds)))) else .no
 |_=>.no
section
variable {P:o9}{w:x8}{K:i5}{mg:Str->Option g9}{base:BL}{X:Cx}{N:List Str}{sc:Scope}{k:Nat}{df:Bool}{E:EK}{pos p py apos cpos:Pos}{ce a:Expr}{sts:List GC}{c:Dn->Res Bool}{g1:Dn->Out}{fs:Dn->Res (List f8)}{x y:Str}
def sH(C:Cxt P w K mg base X N sc k df)(hc:DT X E ce c)(hb:DSs X E sts g1):DS X E (.While ce sts [] pos) (nX c g1):=λG0 H0=>by
 refine PS.imp (oK (pos:=pos) C.own hc (hb G0 H0)) λD σ H hh=>?_;obtain⟨G,δ,S,a⟩:=hh;refine⟨λm σ' H'=>∃G' δ',SSt G0 H0 G' H' σ' δ'/\Jp E G0 H0 (Ie c g1 m δ') D,⟨4096,G,δ,S,a⟩,λm σ' H' hw=>?_⟩;obtain⟨G',δ',S',a'⟩:=hw;cases m with
 |zero=>exact(show False from a').elim
 |succ m=>
  unfold Ie at a';refine rQ S' a' λb G1 H1 gr S1 a1=>?_;cases b with
  |false=>
   rw[ir (by decide)]at a1 ⊢;exact a1 σ' G1 H1 S1
  |true=>
   rw[iq rfl]at a1 ⊢;refine⟨λσ2 H2=>∃G' δ',SSt G0 H0 G' H2 σ2 δ'/\Jp E G0 H0 (Ie c g1 m δ') D,λσ2 H2 z=>⟨m,NI m,z⟩,G1,δ',S1,?_⟩;cases eo:g1 δ' with
   |nx δ2=>rw[eo]at a1;exact λσ3 G4 H4 S5=>⟨G4,δ2,S5,a1⟩
   |ct δ2=>rw[eo]at a1;exact λσ3 G4 H4 S5=>⟨G4,δ2,S5,a1⟩
   |bk δ2=>rw[eo]at a1;exact λσ3 G4 H4 S5=>a1 σ3 G4 H4 S5
   |rt d=>rw[eo]at a1;exact a1
   |exc d=>rw[eo]at a1;exact a1
   |no=>rw[eo]at a1;exact a1
def t_own(C:Cxt P w K mg base X N sc k df)(i:Nat)(h:okVar N sc i x=true)(he:∀whole,isTrue (.Name x p) X.env whole=(do let v <-whole;standAt (Expr.Name x p).pos;holding [v] (truthy v)):=by intro _;rfl):DT X E (.Name x p) (dS i):=by
 refine PT.imp (bN (okVar.pe C h) he) λσ H Q hh=>?_;obtain⟨G,δ,S,a⟩:=hh;unfold dS at a;split at a
 .rename_i ds hi
  obtain⟨q,hσ,hg,xs,hx,rl⟩:=S.own hi;have he:ds.isEmpty=xs.isEmpty:=by
   have:=rl.length;cases ds <;> cases xs <;> simp at this ⊢
  refine⟨.ref q,hσ,!xs.isEmpty,.inl ⟨xs,.inl (.inl hx),rfl⟩,?_⟩;rw[<-he];exact a G H (Grow.refl S.sub)
 .exact(show False from a).elim
def s_pop(C:Cxt P w K mg base X N sc k df)(i j:Nat)(h:okVar N sc i x=true)(ho:okSet N sc df j y=true)
 (hbase:FK (.Name x p) "pop" X.env (eval (.Name x p) X.env)=eval (.Name x p) X.env:=by rfl) (hline:(apos.endLine==cpos.line)=true:=by rfl)
 (hs:FT (.Call (.Attribute (.Name x p) "pop" apos) [] [] cpos) (some (.Name y py)) pos.line X.env=pure false:=by rfl):
 DS X E (.Assign [.Name y py] (.Call (.Attribute (.Name x p) "pop" apos) [] [] cpos) pos) (kL i j):=λG0 H0=>by
 obtain⟨h1,h2,h3,h4⟩:=okSet.ok C ho;refine PS.imp (Mv h1 h2 h3 (zB DP PySem.F.slot_list_pop PySem.F.type_list_pop zV (okVar.pe C h) hbase hline) hs h4) λD σ H hh=>?_;obtain⟨G,δ,S,a⟩:=hh;unfold kL at a;split at a
 .rename_i ds hi
  split at a
  .rename_i d hd
   split at a
   .rename_i hij
    obtain⟨q,hσ,hg,xs,hx,rl⟩:=S.sr.own hi;obtain⟨v,hv,rv⟩:=rl.get hd;rw[rl.length]at hv;refine⟨.ref q,hσ,.inl ⟨rfl,xs,.inl (.inl hx)⟩,q,xs,v,rfl,rfl,hx,hv,?_⟩;have S1:=S.write (o:=.lst xs.dropLast) (d':=.list ds.dropLast) hi (by rw[hσ];rfl) hg ⟨_,C8,rl.dropLast⟩;exact a _ G _ (S1.set_sh rv)
   .exact(show False from a).elim
  .exact(show False from a).elim
 .exact(show False from a).elim
def s_ext(C:Cxt P w K mg base X N sc k df)(i:Nat)(h:okVar N sc i x=true)(ha:DF X E a fs)
 (hbase:FK (.Name x p) "extend" X.env (eval (.Name x p) X.env)=eval (.Name x p) X.env:=by rfl)
 (hfew:((CD cpos (i8 [a] X.env)).all (λx=>!x.1)&&(HY cpos (FL [] X.env)).all (λx=>x.1.isSome)
  && decide ([a].length+([]:List GX).length+(if ([]:List GX).isEmpty then 0 else 1)<30))=true:=by rfl)
 (hline:(apos.endLine==cpos.line)=true:=by rfl) (hs:i8 [a] X.env=(false,eval a X.env)::i8 [] X.env:=by rfl) (hplain:(CD cpos (i8 [] X.env)).any (·.1)=false:=by rfl)
 (hsw:FT (.Call (.Attribute (.Name x p) "extend" apos) [a] [] cpos) none pos.line X.env=pure false:=by rfl):
 DS X E (.Expr (.Call (.Attribute (.Name x p) "extend" apos) [a] [] cpos) pos) (kN i fs):=λG0 H0=>by
 refine PS.imp (Qg (Lx DP PySem.F.slot_list_extend PySem.F.type_list_extend kZ (okVar.pe C h) (E8 ha N0 hs) hbase hfew hline hs hplain) hsw) λD σ H hh=>?_;obtain⟨G,δ,S,aft⟩:=hh;unfold kN at aft;split at aft
 .rename_i ds hi
  obtain⟨q,hσ,hg,xs,hx,rl⟩:=S.sr.own hi;refine⟨.ref q,hσ,.inl ⟨rfl,xs,.inl (.inl hx)⟩,?_⟩;refine gS S aft λes b zs G1 H1 g1 q1 q2 q3 q4 S1 a1=>?_;split at a1
  .rename_i hlen
   have hx1:=g1.h _ _ hx;have hqb:q≠b:=D9 hx q1;have hg1:G1 q=none:=g1.stay hg hx λys z=>by cases z
   have l1:=rl.length;have l2:=q4.length;refine⟨q,b,xs,zs,rfl,rfl,hx1,q3,l9 (by lia) (show 100000<=sizeLine by decide),?_⟩;exact a1 σ G1 _ (S1.write (o:=.lst (xs++zs)) (d':=.list (ds++es)) hi (by rw[hσ];rfl) hg1 ⟨_,C8,(rl.mono g1.g).append q4⟩)
  .exact(show False from a1).elim
 .exact(show False from aft).elim
end
section
variable {X:Cx}{pins:List (i9×Obj)}{σ:St}{H:Hp}{s:i6}{a:i9}{A:BO}{E:g9->i6->Prop}
def n_at{kvs:List (f8×V)}{xs:List (g9×g9)}{kd:f8}{w:x8}{i:Nat}{e:CL}(rel:DJ (PrN H) kvs xs)(hk:nkD kd=true)(nk:∀p∈kvs,nkD p.1=true)(nd:(kvs.map (·.1)).Nodup)(hi:(kvs.map (·.1))[i]?=some kd)(he:(V2 w kvs xs)[i]?=some e):
 ∃v,kvs[i]?=some (kd,v)/\U0 kvs kd=some v/\RelV v e.val:=by
 obtain⟨p,q,h1,h2,⟨_,h5⟩,rfl⟩:=Qk rel he;rw[BP,h1]at hi;have hp:p=(kd,p.2):=by
  grind
 rw[hp]at h1;exact⟨p.2,h1,Il hk nk nd h1,h5⟩
def zT{kvs:List (f8×V)}{kd:f8}{y v:V}{u:g9}{Q:g9->i6->Prop}(hu:A.units+16<EO)(I:Inv X pins σ H s)(e:Rd H a (.dN kvs))(rk:KRep H kd y)(hk:nkD kd=true)(ry:RelV y u)(hv:U0 kvs kd=some v)
 (h:∀w' s',Inv X pins σ H s'->RelV v w'->Q w' s'):wpAny (u7 X.prog X.w) A (JB (.ref a) u) Q E s:=by
 obtain⟨z,hd,nd,nk,xs,rel,ep,e1⟩:=e.ok I.hok;have hT:s.TypeIs (.ref a) "dict":=⟨_,e1,rfl⟩;have hm:kd∈kvs.map (·.1):=HI λz=>by rw[Mc hk nk z]at hv;cases hv
 unfold JB;try with_reducible refine CJ ?_
 refine f9 (IZ hT (by decide) ?_);refine f9 (DH (name:=FE "__getitem__") hT F.slot_dict_getitem ?_);refine NQ F.slot_dict_getitem hT F.entry_dict_getitem (F.args_dict_getitem_2 _ _) (cD a u) ⟨_,_,ep,kvs.map (·.1),kd,hu,e1,rfl,Tk I rel nk nd,Nc I rk ry hk,hm,λi e tk hi he=>?_⟩;obtain⟨v',_,h2,h3⟩:=n_at rel hk nk nd hi (by simpa using he);rw[hv]at h2;cases h2;exact i0 (h _ _ (I.tok _) h3)
def n_has{kvs:List (f8×V)}{kd:f8}(hk:nkD kd=true)(nk:∀p∈kvs,nkD p.1=true)(nd:(kvs.map (·.1)).Nodup)(hm:kd∈kvs.map (·.1)):(U0 kvs kd).isSome=true:=by
 obtain⟨⟨k',v⟩,hp,rfl⟩:=t8.mp hm;obtain⟨i,hi⟩:=LG.mp hp;rw[Il hk nk nd hi];rfl
def fJ{kvs:List (f8×V)}{kd:f8}{y:V}{u:g9}{Q:Bool->i6->Prop}(hu:A.units+16<EO)(I:Inv X pins σ H s)(e:Rd H a (.dN kvs))(rk:KRep H kd y)(hk:nkD kd=true)(ry:RelV y u)
 (h:∀s',Inv X pins σ H s'->Q (U0 kvs kd).isSome s'):wpAny (u7 X.prog X.w) A (contains (.ref a) u) Q E s:=by
 obtain⟨z,hd,nd,nk,xs,rel,ep,e1⟩:=e.ok I.hok;have hT:s.TypeIs (.ref a) "dict":=⟨_,e1,rfl⟩;unfold contains;try with_reducible refine CJ ?_
 refine f9 (EW hT F.slot_dict_contains.lookup ?_);show wpAny _ _ (if (some (Value.builtin "dict.__contains__")==some EU)=true then _ else _) _ _ s;rw[ir (by lia)];refine f9 (wpAny_callSpecialUnlessNone?_slot (name:=FE "__contains__") hT F.slot_dict_contains ?_);refine NQ F.slot_dict_contains hT F.entry_dict_contains (F.args_dict_contains_2 _ _) (lA a u hd) ⟨_,_,ep,kvs.map (·.1),kd,hu,e1,rfl,Tk I rel nk nd,Nc I rk ry hk,λtk hm=>?_,λtk hn=>?_⟩
 .have:=h _ (I.tok tk)
  rw[n_has hk nk nd hm]at this;exact ED this
 .have:=h _ (I.tok tk)
  rw[Mc hk nk hn]at this;exact ED this
end
def tNIx(td ty:TE):TE:=λσ H Q=>td σ H λx H1=>ty σ H1 λy H2=>∃a kvs kd v,x=.ref a/\Rd H2 a (.dN kvs)/\KRep H2 kd y/\nkD kd=true/\U0 kvs kd=some v/\Q v H2
def tNIn(b:Bool)(ty td:TE):TE:=λσ H Q=>ty σ H λy H1=>td σ H1 λx H2=>∃a kvs kd,x=.ref a/\Rd H2 a (.dN kvs)/\KRep H2 kd y/\nkD kd=true/\Q (.bl ((U0 kvs kd).isSome != b)) H2
section
variable {X:Cx}{o i:Expr}{pos:Pos}{td ty:TE}
def yZ(hu:X.A.units+16<EO)(ho:PE X o td)(hi:PE X i ty)(hs:BI i):PE X (.Subscript o i pos) (tNIx td ty):=by
 intro pins s σ H Q I h;refine sF PySem.F.slot_dict_getitem.lookup hs (thn (ho pins s σ H _ I h) λu s1 hY84=>?_);obtain⟨x,H1,I1,rx,q1⟩:=hY84;refine thn (hi pins s1 σ H1 _ I1 q1) λiv s2 hZ2=>?_;obtain⟨y,H2,I2,ry,a,kvs,kd,v,ex,g,rk,hk,hv,q2⟩:=hZ2;subst ex;obtain rfl:u=CU a:=rx;obtain⟨_,_,_,_,_,_,ep,e1⟩:=g.ok I2.hok;exact⟨⟨_,e1,rfl⟩,zT hu I2 g rk hk ry hv λw' s3 I3 rw'=>⟨v,H2,I3,rw',q2⟩⟩
def Wy(hu:X.A.units+16<EO)(hi:PE X i ty)(ho:PE X o td):PC X .NotIn i o (tNIn true ty td):=by
 intro pins s σ H Q I h;refine thn (hi pins s σ H _ I h) λiv s1 hY86=>?_;obtain⟨y,H1,I1,ry,q1⟩:=hY86;refine thn (ho pins s1 σ H1 _ I1 q1) λu s2 hZ2=>?_;obtain⟨x,H2,I2,rx,a,kvs,kd,ex,g,rk,hk,q2⟩:=hZ2;subst ex;obtain rfl:u=CU a:=rx;show wpAny _ _ (do return EF (!(<-contains (CU a) iv))) _ _ s2;rw[Bool.bne_true]at q2;exact f9 (fJ hu I2 g rk hk ry λs3 I3=>i0 ⟨.bl (!(U0 kvs kd).isSome),H2,I3,rfl,q2⟩)
end
def X7(i:Nat)(f:Dn->Res f8):Dn->Res f8:=λδ=>match kvN δ i with
 |some kvs=>(f δ).bind λkd=>if nkD kd=true then ofO (L0 kvs kd) else .no
 |none=>.no
def Bc(b:Bool)(i:Nat)(f:Dn->Res f8):Dn->Res f8:=λδ=>(f δ).bind λkd=>match kvN δ i with
 |some kvs=>if nkD kd=true then .ok (.bool ((L0 kvs kd).isSome != b)) else .no
 |none=>.no
section
variable {P:o9}{w:x8}{K:i5}{mg:Str->Option g9}{base:BL}{X:Cx}{N:List Str}{sc:Scope}{k:Nat}{df:Bool}{E:EK}{p pos:Pos}{a b:Expr}{f g:Dn->Res f8}{x:Str}
def Kg(C:Cxt P w K mg base X N sc k df)(i:Nat)(h:okVar N sc i x=true)(hk:DE X E a f)(hs:BI a:=by exact λ_ _=>rfl):DE X E (.Subscript (.Name x p) a pos) (X7 i f):=by
 refine PE.imp (yZ (by have:=C.hu;lia) (okVar.pe C h) hk hs) λσ H Q hY87=>?_;obtain⟨G,δ,S,aft⟩:=hY87;unfold X7 at aft;split at aft
 .rename_i kvs hi
  obtain⟨q,kk,hσ,hx,hkeys,hvals⟩:=S.kvN hi;refine⟨.ref q,hσ,?_⟩;refine K0 S aft λkd v G1 H1 g1 r1 S1 a1=>?_;split at a1
  .rename_i hn
   rcases Mb (k:=kd) hkeys hvals with⟨n1,n2⟩ |⟨d0,v0,n1,n2,rd⟩
   .rw[n1]at a1;exact a1.elim
   .rw[n1]at a1
    exact⟨q,kk,kd,v0,rfl,Rd.mono g1.h hx,Km S1.sub hn r1,hn,n2,a1 _ G1 H1 (Grow.refl S1.sub) (rd.mono g1.g)⟩
  .exact a1.elim
 .exact aft.elim
def iS{t:Bool}{i:Nat}{σ:St}{H:Hp}{Q:VK}(h:tD E (Bc t i f) σ H Q):tNIn t (tD E f) (Us i) σ H Q:=by
 obtain⟨G,δ,S,aft⟩:=h;refine K0 S aft λkd v G1 H1 g1 r1 S1 a1=>?_;split at a1
 .rename_i kvs hi
  split at a1
  .rename_i hn
   obtain⟨q,kk,hσ,hx,hkeys,hvals⟩:=S1.kvN hi;refine⟨.ref q,hσ,q,kk,kd,rfl,hx,Km S1.sub hn r1,hn,?_⟩;have:(U0 kk kd).isSome=(L0 kvs kd).isSome:=by
    rcases Mb (k:=kd) hkeys hvals with⟨n1,n2⟩ |⟨d0,v0,n1,n2,_⟩ <;> rw[n1,n2] <;> rfl
   rw[this];exact a1 _ G1 H1 (Grow.refl S1.sub) rfl
  .exact a1.elim
 .exact a1.elim
def qM{t:Bool}{i:Nat}{δ:Dn}{d:f8}(e:Bc t i f δ=.ok d):∃b,d=.bool b:=by
 unfold Bc Res.bind at e
 grind
def rL{t:Bool}{i:Nat}{G H:Hp}{δ:Dn}{Q:Bool->Hp->Prop}(aft:AftT E G H (C3 (Bc t i f) δ) Q):Aft E G H (Bc t i f δ) (λv H'=>∃b,v=.bl b/\Q b H'):=by
 unfold C3 at aft;cases e:Bc t i f δ with
 |ok d=>
  obtain⟨b,rfl⟩:=qM e;rw[e]at aft;intro v G' H' g r;exact⟨b,r,aft G' H' g⟩
 |exc c=>rw[e]at aft;exact aft
 |no=>rw[e]at aft;exact aft
def dA(C:Cxt P w K mg base X N sc k df)(i:Nat)(h:okVar N sc i x=true)(hk:DE X E a f)(hm:behindInMarks .NotIn (.Name x p)=false:=by with_unfolding_all rfl):DE X E (.Compare a [.NotIn] [.Name x p] pos) (Bc true i f):=
 PE.imp (zA (Wy (by have:=C.hu;lia) hk (okVar.pe C h)) hm) λ_ _ _ h=>iS h
def Lg(C:Cxt P w K mg base X N sc k df)(i:Nat)(h:okVar N sc i x=true)(hk:DE X E a f)(hm:behindInMarks .NotIn (.Name x p)=false:=by with_unfolding_all rfl):DT X E (.Compare a [.NotIn] [.Name x p] pos) (C3 (Bc true i f)):=by
 refine PT.imp (oJ (Wy (by have:=C.hu;lia) hk (okVar.pe C h)) hm) λσ H Q hY89=>?_;obtain⟨G,δ,S,aft⟩:=hY89;refine iS ⟨G,δ,S,?_⟩;exact rL aft
end
noncomputable def Q8{α:Type}:List (f8×α)->f8->α->List (f8×α)
 |[],k,v=>[(k,v)]
 |p::r,k,v=>if l6 p.1 k=true then(p.1,v)::r else p::Q8 r k v
def Fd{α:Type}{k:f8}{v:α}:∀(l:List (f8×α)),(Q8 l k v).length<=l.length+1:=by
 intro iN;induction iN with
 |nil=>skip;exact s0 _
 |cons p r ih=>
  skip
  unfold Q8
  grind
def sY{k:f8}{v:V}(hk:nkD k=true):∀{kk:List (f8×V)} {i:Nat} {v0:V},(∀p∈kk,nkD p.1=true)->(kk.map (·.1)).Nodup->kk[i]?=some (k,v0)->Q8 kk k v=kk.modify i λp=>(p.1,v):=by
 intro iN;induction iN with
 |nil=>simp_all
 |cons p kk ih=>
  intro i v0 hn nd h;unfold Q8;have hp:=Nj (V0 (hn p (.head _))).1 (V0 hk).1
  grind
def sX{k:f8}{v:V}(hk:nkD k=true):∀{kk:List (f8×V)},(∀p∈kk,nkD p.1=true)->k∉kk.map (·.1)->Q8 kk k v=kk++[(k,v)]:=by
 intro iN;induction iN with
 |nil=>intro _ _;exact rfl
 |cons p kk ih=>
  intro hn h;unfold Q8;rw[k6,j9,not_or]at h;rw[ir (λz=>h.1 ((Nj (V0 (hn p (.head _))).1 (V0 hk).1).mp z).symm),ih (λq hq=>hn q (.tail _ hq)) h.2];rfl
theorem So{G:Hp}{k d:f8}{v:V}(r:Rep G d v):∀{kvs:Kvs} {kk:List (f8×V)},kvs.map (·.1)=kk.map (·.1)->RepL G (kvs.map (·.2)) (kk.map (·.2))->(Q8 kvs k d).map (·.1)=(Q8 kk k v).map (·.1)/\RepL G ((Q8 kvs k d).map (·.2)) ((Q8 kk k v).map (·.2))
 |[],[],_,_=>⟨rfl,RepL.cons r rfl⟩
 |[],_::_,e,_=>by cases e
 |_::_,[],e,_=>by cases e
 |p::kvs,q::kk,e,l=>by
  simp only[k6,HV]at e;obtain⟨x,t,ex,rx,l⟩:=l;simp only[k6,HV]at ex;unfold Q8;rw[e.1];split
  .exact⟨by simp_all,RepL.cons r (by lia)⟩
  .obtain⟨h1,h2⟩:=So (k:=k) r e.2 (by lia)
   exact⟨by simp_all,RepL.cons (show Rep G p.2 q.2 by lia) h2⟩
theorem cU{w:x8}{v:V}{r:g9}:∀(kk:List (f8×V)) (xs:List (g9×g9)) (i:Nat),(V2 w kk xs).modify i (λe=>{e with val:=r})=V2 w (kk.modify i λp=>(p.1,v)) (xs.modify i λq=>(q.1,r))
 |[],xs,i=>by cases i <;> simp[V2]
 |_::_,[],i=>by cases i <;> simp[V2]
 |p::kk,q::xs,0=>rfl
 |p::kk,q::xs,i+1=>by
  have:=cU (w:=w) (v:=v) (r:=r) kk xs i;simp only[V2,List.zipWith_cons_cons,List.modify_succ_cons]at this ⊢;rw[this]
theorem Sx{α β:Type}{F:α->β->Prop}{f:α->α}{g:β->β}(h:∀a b,F a b->F (f a) (g b)):∀{l₁:List α} {l₂:List β} (i:Nat),DJ F l₁ l₂->DJ F (l₁.modify i f) (l₂.modify i g)
 |_,_,i,.nil=>by cases i <;> exact .nil
 |_,_,0,.cons r t=>.cons (h _ _ r) t
 |_,_,i+1,.cons r t=>.cons r (Sx h i t)
section
variable {prog:o9}{w:x8}{A:BO}{E:g9->i6->Prop}{s:i6}
def lZ{d:i9}{key v:g9}{L:List CL}{ep:Nat}{ks:List f8}{k:f8}{Q:Unit->i6->Prop}(hu:A.units+8<EO)(ho:s.heap.get? d=some {cls:=.type "dict",data:=.dict (List.toArray L) ep})(hz:L.length<=sizeLine)(N:EsN w s.heap L.toArray ks)(x:NAt s.heap key k)
 (h1:∀(i:Nat) (h':BL) (tk:Nat),ks[i]?=some k->(∀b o,b≠d->s.heap.get? b=some o->h'.get? b=some o)->h'.get? d=some {cls:=.type "dict",data:=.dict (L.modify i λe=>{e with val:=v}).toArray ep}->Q () {s with heap:=h',toks:=tk})
 (h0:∀(h':BL) (tk:Nat),k∉ks->(∀b o,b≠d->s.heap.get? b=some o->h'.get? b=some o)->h'.get? d=some {cls:=.type "dict",data:=.dict (L++[DictEntry.mk (Y1 w k) key v]).toArray (ep+1)}->Q () {s with heap:=h',toks:=tk}):
 wpAny (u7 prog w) A (dictSet d key v) Q E s:=by
 unfold dictSet;try with_reducible refine CJ ?_
 refine f9 (x.hash hu λtk=>?_);unfold dictSetHashed;try with_reducible refine CJ ?_
 refine f9 (fX (s:={s with toks:=tk}) hu ho rfl N x (λi hi=>?_) λhn=>?_)
 .refine f9 (EI (f9 (wpAny_updateDict (s:={s with toks:=tk}) ho rfl (wpAny_point (h1 i _ tk hi (λb o hb e=>?_) ?_)))))
  .exact(MA _ _ _ _ hb).trans e
  .have:=ET (Obj.mapDict λx=>x.modify i λe=>{e with val:=v}) ho (MD (Obj.data_mapDict rfl _))
   rw[this];simp[Obj.mapDict]
 .refine f9 (EI (wpAny_updateDictKeys (hz:=by simp_all) (s:={s with toks:=tk}) ho rfl (h0 _ tk hn (λb o hb e=>?_) ?_)))
  .exact(MA _ _ _ _ hb).trans e
  .have:=ET (LD λx=>x.push ⟨Y1 w k,key,v⟩) ho (MD (Obj.data_mapDictKeys rfl _))
   rw[this];simp[LD]
end
section
variable {X:Cx}{pins:List (i9×Obj)}{σ:St}{H:Hp}{s:i6}{a:i9}{A:BO}{E:g9->i6->Prop}
def Xa{kvs:List (f8×V)}{kd:f8}{y d:V}{u r:g9}{Q:Unit->i6->Prop}(hu:A.units+8<EO)(I:Inv X pins σ H s)(e:H a=some (.dN kvs))(rk:KRep H kd y)(hk:nkD kd=true)(hz:kvs.length<sizeLine)(ry:RelV y u)(rd:RelV d r)
 (h:∀s',Inv X pins σ (upd H a (.dN (Q8 kvs kd d))) s'->(∀b o,b≠a->s.heap.get? b=some o->s'.heap.get? b=some o)->Q () s'):wpAny (u7 X.prog X.w) A (dictSet a u r) Q E s:=by
 obtain⟨z,hd,nd,nk,xs,rel,ep,e1⟩:=I.hok a _ e;have hl:=Paired.len' rel;have hlen:(V2 X.w kvs xs).length<=sizeLine:=by
  unfold V2
  simp_all
 have ht:∀b ys,H b=some (.tup ys)->(upd H a (.dN (Q8 kvs kd d))) b=some (.tup ys):=λb ys z=>by
  rw[B7 (Ly z e (λz=>by cases z))];exact z
 refine lZ (ep:=ep) (ks:=kvs.map (·.1)) (k:=kd) hu e1 hlen (Tk I rel nk nd) (Nc I rk ry hk) (λi h' tk hi hkeep hnew=>?_) (λh' tk hn hkeep hnew=>?_)
 .refine h _ ?_ hkeep
  have hlt:i<kvs.length:=by grind
  have hp:kvs[i]?=some (kd,kvs[i].2):=by
   grind
  have ep':=sY (v:=d) hk nk nd hp;refine I.write (x:=a) (e:=a) (t':=tk) (by rw[e];exact trivial) (.inl rfl) (λb o hb q=>hkeep b o hb q) ⟨_,hnew⟩ ?_;have hkeys:(Q8 kvs kd d).map (·.1)=kvs.map (·.1):=by
   rw[ep'];apply HH
   grind
  refine⟨l9 (Fd kvs) hz,hd,by lia,λp hp=>?_,xs.modify i (λq=>(q.1,r)),?_,ep,?_⟩
  .have:p.1∈kvs.map (·.1):=by grind
   grind
  .rw[ep']
   exact Paired.mapP (Sx (λp q hZ2=>by simp_all) i rel) λp q hZ2=>by obtain⟨⟨v,z1,z2⟩,z3⟩:=hZ2;exact⟨⟨v,z1.mono (ep'▸ht),z2⟩,z3⟩
  .rw[ep',<-cU];exact hnew
 .refine h _ ?_ hkeep
  have ep':=sX (v:=d) hk nk hn;refine I.write (x:=a) (e:=a) (t':=tk) (by rw[e];exact trivial) (.inl rfl) (λb o hb q=>hkeep b o hb q) ⟨_,hnew⟩ ⟨l9 (Fd kvs) hz,hd,?_,?_,xs++[(u,r)],?_,ep+1,?_⟩
  .grind
  .grind
  .have:=Paired.app' (F:=PrN (upd H a (.dN (Q8 kvs kd d)))) (a:=(kd,d)) (b:=(u,r)) ⟨⟨y,rk.mono ht,ry⟩,rd⟩ (Paired.mapP rel λp q hZ2=>by obtain⟨⟨v,z1,z2⟩,z3⟩:=hZ2;exact⟨⟨v,z1.mono ht,z2⟩,z3⟩)
   lia
  .rw[ep',cV hl];exact hnew
def n_put{kvs:List (f8×V)}{kd:f8}{y d:V}{u r:g9}{Q:Unit->i6->Prop}(hu:A.units+16<EO)(I:Inv X pins σ H s)(e:H a=some (.dN kvs))(rk:KRep H kd y)(hk:nkD kd=true)(hz:kvs.length<sizeLine)(ry:RelV y u)(rd:RelV d r)
 (h:∀s',Inv X pins σ (upd H a (.dN (Q8 kvs kd d))) s'->Q () s'):wpAny (u7 X.prog X.w) A (setItem (.ref a) u r) Q E s:=by
 obtain⟨z,hd,nd,nk,xs,rel,ep,e1⟩:=I.hok a _ e;have hT:s.TypeIs (.ref a) "dict":=⟨_,e1,rfl⟩;unfold setItem;try with_reducible refine CJ ?_
 refine f9 (IZ hT (by decide) ?_);refine f9 (DH (name:=FE "__setitem__") hT F.slot_dict_setitem ?_);refine DR F.slot_dict_setitem hT F.entry_dict_setitem ?_ (F.args_dict_setitem_3 _ _ _);show wpAny _ _ (Builtin.Dict.notOrdered "__setitem__" ⟨[.ref a,u,r],[]⟩>>=_) _ _ s;refine f9 (JF hT ?_);show wpAny _ _ (dictSet a u r>>=_) _ _ s;exact f9 (Xa (hu8 hu) I e rk hk hz ry rd λs' I' _=>i0 ⟨.none,rfl,i0 (h s' I')⟩)
end
def sNPut(td ty tv:TE):TS:=λD σ H=>tv σ H λv H1=>td σ H1 λx H2=>ty σ H2 λy H3=>∃a kvs kd,x=.ref a/\H3 a=some (.dN kvs)/\KRep H3 kd y/\nkD kd=true/\kvs.length<sizeLine/\D.nx σ (upd H3 a (.dN (Q8 kvs kd v)))
def tH{X:Cx}{o i value:Expr}{pos pos':Pos}{td ty tv:TE}(hu:X.A.units+16<EO)(ho:PE X o td)(hi:PE X i ty)(hv:PE X value tv)(hs:FT value (some (.Subscript o i pos')) pos.line X.env=pure false):
 PS X (.Assign [.Subscript o i pos'] value pos) (sNPut td ty tv):=by
 intro pins s σ H D I h;refine wpAny_Assign_Subscript (thn (hv pins s σ H _ I h) λr s1 hY90=>?_) hs;obtain⟨v,H1,I1,rv,q1⟩:=hY90;refine thn (ho pins s1 σ H1 _ I1 q1) λu s2 hY91=>?_;obtain⟨x,H2,I2,rx,q2⟩:=hY91;refine thn (hi pins s2 σ H2 _ I2 q2) λiv s3 hY92=>?_;obtain⟨y,H3,I3,ry,a,kvs,kd,ex,g,rk,hk,hz,q3⟩:=hY92;subst ex;obtain rfl:u=CU a:=rx;exact n_put hu I3 g rk hk hz ry rv λs4 I4=>⟨σ,_,I4,q3⟩
def Z6(i:Nat)(fk fv:Dn->Res f8):Dn->Out:=λδ=>match δ[i]? with
 |some (.ow (.tuple [.dict kvs,.none]))=>K1 (fv δ) λv=>K1 (fk δ) λkd=>if nkD kd=true/\kvs.length<100000 then .nx (δ.set i (.ow (.tuple [.dict (Q8 kvs kd v),.none]))) else .no
 |_=>.no
section
variable {P:o9}{w:x8}{K:i5}{mg:Str->Option g9}{base:BL}{X:Cx}{N:List Str}{sc:Scope}{k:Nat}{df:Bool}{E:EK}{p p2 pos:Pos}{a b:Expr}{f g:Dn->Res f8}{x:Str}
def Mt(C:Cxt P w K mg base X N sc k df)(i:Nat)(h:okVar N sc i x=true)(hk:DE X E a f)(hv:DE X E b g)(hs:FT b (some (.Subscript (.Name x p) a p2)) pos.line X.env=pure false:=by rfl):DS X E (.Assign [.Subscript (.Name x p) a p2] b pos) (Z6 i f g):=λG0 H0=>by
 refine PS.imp (tH (by have:=C.hu;lia) (okVar.pe C h) hk hv hs) λD σ H hY93=>?_;obtain⟨G,δ,S,aft⟩:=hY93;unfold Z6 at aft;split at aft
 .rename_i kvs hi
  refine Lc S aft λv x1 G1 H1 g1 r1 S1 a1=>?_;obtain⟨q,hσ,hg,ho⟩:=S1.sr.own hi;refine⟨.ref q,hσ,?_⟩;refine Lc S1 a1 λkd x2 G2 H2 g2 r2 S2 a2=>?_;obtain⟨q',hσ',hg',ho'⟩:=S2.sr.own hi;rw[hσ]at hσ';cases hσ';obtain⟨kk,hx,hkeys,hvals⟩:=(show OwnK G2 H2 q [.dict kvs,.none] from ho');split at a2
  .rename_i hc
   have hl:kk.length=kvs.length:=by
    have:=congrArg GU hkeys;simpa using this.symm
   have hlen:kk.length<sizeLine:=by
    rw[hl];exact y9 hc.2 (by decide)
   refine⟨q,kk,kd,rfl,hx,Km S2.sr.sub hc.1 r2,hc.1,hlen,?_⟩;obtain⟨p1,p2⟩:=So (k:=kd) (r1.mono g2.g) hkeys hvals;exact a2 σ G2 _ (S2.write hi (by rw[hσ];rfl) hg' (show OwnK G2 _ q [.dict _,.none] from ⟨_,C8,p1,p2⟩))
  .exact(show False from a2).elim
 .exact(show False from aft).elim
end
def fzN(i:Nat)(δ:Dn):Dn:=match δ[i]? with
 |some (.ow (.tuple [.dict kvs,.none]))=>δ.set i (.fd ((.dict [],.none)::kvs))
 |_=>δ
theorem SSt.fzN{G0 H0 G H:Hp}{σ:St}{δ:Dn}(S:SSt G0 H0 G H σ δ)(i:Nat):∃G',SSt G0 H0 G' H σ (fzN i δ):=by
 unfold Sm.fzN;split
 .rename_i kvs hi
  obtain⟨p,hp,hg,ho⟩:=S.sr.sl i _ hi;obtain⟨kk,hx,hk,r⟩:=(show OwnK G H p [.dict kvs,.none] from ho);have h0:=S.fr i _ p hi hp;have sm:Same G (upd G p (.dN kk)):=Same.upd hg;have gh:Same (upd G p (.dN kk)) H:=λb u e=>by
   by_cases hb:b=p
   .subst hb;rw[C8]at e;cases e;exact hx
   .rw[B7 hb]at e;exact S.sr.sub _ _ e
  have gr:Grow G0 H0 (upd G p (.dN kk)) H:=⟨S.gr.g.trans sm,S.gr.h,gh,λb u e=>by
   by_cases hb:b=p
   .subst hb;exact .inr (.inl h0)
   .rw[B7 hb]at e;exact S.gr.fr b u e⟩
  have hil:i<δ.length:=(x4.mp hi).1;have key:∀(j:Nat) (d':f8),(δ.set i (.fd ((.dict [],.none)::kvs)))[j]?=some (.ow d')->δ[j]?=some (.ow d')/\j≠i:=λj d' e=>by
   rw[E7]at e;split at e
   .cases e
   .rename_i hn
    exact⟨e,λz=>by subst z;exact hn ⟨rfl,hil⟩⟩
  refine⟨_,gr,⟨gh,by simp[S.sr.len],λj s e=>?_,λj1 j2 a d1 d2 e1 e2 h1 h2=>S.sr.ap j1 j2 a d1 d2 (key j1 d1 e1).1 (key j2 d2 e2).1 h1 h2⟩,λj d' a e h=>S.fr j d' a (key j d' e).1 h⟩;by_cases hj:i=j/\i<δ.length
  .rw[E7,iq hj]at e
   cases e;rw[<-hj.1];exact⟨p,kk,hp,.inl C8,hk,r.mono sm⟩
  .have e2:=e
   rw[E7,ir hj]at e2;have hs:=S.sr.sl j s e2;cases s with
   |un=>trivial
   |sh d=>obtain⟨v,e1,r1⟩:=hs;exact⟨v,e1,r1.mono sm⟩
   |fd _=>exact FdOk.mono sm hs
   |ow d2=>
    obtain⟨a,e1,n1,ok⟩:=hs;have hne:a≠p:=by
     rintro rfl;exact(key j d2 e).2 (S.sr.ap j i a d2 _ e2 hi e1 hp)
    exact⟨a,e1,by rw[B7 hne];exact n1,ok.monoG sm⟩
 .exact⟨G,S⟩
def kM(i:Nat)(g:Dn->Out):Dn->Out:=λδ=>g (fzN i δ)
def nV{X:Cx}{E:EK}{st:GC}{g1:Dn->Out}(i:Nat)(h:DS X E st g1):DS X E st (kM i g1):=λG0 H0=>PS.imp (h G0 H0) λD σ H hZ3=>by
 obtain⟨G,δ,S,a⟩:=hZ3;obtain⟨G',S'⟩:=S.fzN i;exact⟨G',_,S',a⟩
def SlV(G:Hp)(v:V):Sl->Prop
 |.sh d=>Rep G d v
 |.fd kvs=>FdOk G (some v) kvs
 |_=>False
noncomputable def SlL(G:Hp):List Sl->List V->Prop
 |[],vs=>vs=[]
 |s::ss,vs=>∃v r,vs=v::r/\SlV G v s/\SlL G ss r
theorem SlL.length{G:Hp}:∀{ss:List Sl} {vs:List V},SlL G ss vs->ss.length=vs.length:=by
 intro iN;induction iN with
 |nil=>intro vs h;rw[show vs=[] from h];rfl
 |cons _ _ ih=>intro _ h;obtain⟨v,r,rfl,_,l⟩:=h;simp[ih l]
theorem SlL.get{G:Hp}:∀{ss:List Sl} {vs:List V} {i:Nat} {s:Sl},SlL G ss vs->ss[i]?=some s->∃v,vs[i]?=some v/\SlV G v s
 |[],_,i,_,_,e=>by simp at e
 |_::_,_,0,_,h,e=>by obtain⟨v,r,rfl,q,_⟩:=h;simp_all
 |_::_,_,i+1,_,h,e=>by obtain⟨v,r,rfl,_,l⟩:=h;exact SlL.get (i:=i) l (by simpa using e)
def Fs(N:List Str)(ss:List Sl):Dn:=ss++u6 (N.length-ss.length) .un
def aU{G H:Hp}(hG:Same G H){ss:List Sl}{vs:List V}(r:SlL G ss vs)(N:List Str):SSt G H G H (Aq N vs) (Fs N ss):=by
 have hl:=r.length;have noow:∀(i:Nat) (d:f8),(Fs N ss)[i]?≠some (.ow d):=λi d e=>by
  unfold Fs at e;by_cases hi:i<ss.length
  .rw[CT hi]at e
   obtain⟨_,_,z⟩:=r.get e;exact z
  .rw[DB (GD.mp hi),IE]at e
   split at e <;> cases e
 refine⟨Grow.refl hG,⟨hG,by unfold L2.Aq Fs;simp[hl],λi s e=>?_,λi j a d d' e _ _ _=>absurd e (noow i d)⟩,λi d a e _=>absurd e (noow i d)⟩;unfold Fs at e;by_cases hi:i<ss.length
 .rw[CT hi]at e
  obtain⟨v,e1,rv⟩:=r.get e;unfold L2.Aq;rw[CT (by rw[i7,<-hl];exact hi),BP,e1];cases s with
  |sh d=>exact⟨v,rfl,rv⟩
  |fd kvs=>exact rv
  |un=>exact rv.elim
  |ow d=>exact rv.elim
 .rw[DB (GD.mp hi),IE]at e
  split at e <;> cases e
  trivial
def spS(n:Nat)(m:List Sl->Res f8):Sp:=λvs H Q _=>∃G ss d,Same G H/\SlL G ss vs/\ss.length=n/\m ss=.ok d/\∀v G' H',Grow G H G' H'->Rep G' d v->Q v H'
structure FnS(P:o9)(w:x8)(K:i5)(mg:Str->Option g9)(base:BL)(x:Str)(k n:Nat)(m:List Sl->Res f8):Prop where
 ex:∃f fd ps,ps.length=n/\FnOk P w K mg base CX0 k f fd ps (spS n m)/\mg x=some (.ref f)/\BR K (.ref f)=true/\Binds K fd ps []
def fnS(N:List Str)(g:Dn->Out):List Sl->Res f8:=λss=>match g (Fs N ss) with
 |.rt d=>.ok d
 |.nx _=>.ok .none
 |.exc c=>.exc c
 |_=>.no
def spSN(n:Nat)(m:List Sl->Res Kvs):Sp:=λvs H Q _=>∃G ss kvs,Same G H/\SlL G ss vs/\ss.length=n/\m ss=.ok kvs/\∀p G' H',Grow G H G' H'->H p=none->G' p=none->OwnOk G' H' p (.tuple [.dict kvs,.none])->Q (.ref p) H'
structure FnSN(P:o9)(w:x8)(K:i5)(mg:Str->Option g9)(base:BL)(x:Str)(k n:Nat)(m:List Sl->Res Kvs):Prop where
 ex:∃f fd ps,ps.length=n/\FnOk P w K mg base CX0 k f fd ps (spSN n m)/\mg x=some (.ref f)/\BR K (.ref f)=true/\Binds K fd ps []
def vE(N:List Str)(g:Dn->Res Kvs):List Sl->Res Kvs:=λss=>g (Fs N ss)
def Yb(f:Dn->Res f8)(i:Nat)(m:List Sl->Res Kvs):Dn->Res Kvs:=λδ=>(f δ).bind λd=>match δ[i]? with
 |some (.fd kvs)=>m [.sh d,.fd kvs]
 |_=>.no
def Dl(i:Nat)(f:Dn->Res f8)(m:List Sl->Res f8):Dn->Res f8:=λδ=>match δ[i]? with
 |some (.fd kvs)=>(f δ).bind λd=>m [.fd kvs,.sh d]
 |_=>.no
def FdOk.is{G:Hp}{o:Option V}{kvs:Kvs}(h:FdOk G o kvs):∃a,o=some (.ref a):=by
 unfold FdOk at h;split at h
 .obtain⟨dx,v0,v1,v2,v3,v4,h1,_⟩:=h;simp_all
 all_goals grind
def SR.fdV{G H:Hp}{σ:St}{δ:Dn}{i:Nat}{kvs:Kvs}(S:SR G H σ δ)(hi:δ[i]?=some (.fd kvs)):∃v,σ[i]?=some (some v)/\FdOk G (some v) kvs:=by
 have h:FdOk G (σ[i]?.join) kvs:=S.sl i _ hi;obtain⟨a,e⟩:=h.is
 grind
section
variable {P:o9}{w:x8}{K:i5}{mg:Str->Option g9}{base:BL}{X:Cx}{N:List Str}{sc:Scope}{k:Nat}{df:Bool}{E:EK}{pos p p1:Pos}{a e:Expr}{f:Dn->Res f8}{x y:Str}
def fn_S{x:Str}{st:GC}{ps:List Str}{n:Nat}{go:Dn->Out}{m:List Sl->Res f8}(F:Def K mg x st ps)(S:FnScope N ps (A5 st))(hn:ps.length=n)
 (body:∀X,Cxt P w K mg base X N (A5 st) k true->DSs X E0k (B6 st) go) (hm:m=fnS N go):FnS P w K mg base x (k+1) n m:=by
 obtain⟨f,fd,F,hmg,hb⟩:=F.ex;refine⟨f,fd,ps,hn,?_,hmg,F.kp,hb⟩;subst hm;refine F.ok S (λvs H Q E h=>?_) (λcdv A outer s H vs Q E hr h=>?_)
 .obtain⟨G,ss,d,_,r,hl,_⟩:=h
  rw[<-r.length,hl,hn]
 .obtain⟨G,ss,d,hG,r,hl,em,q⟩:=h
  refine⟨_,body _ ⟨rfl,rfl,rfl,rfl,rfl,rfl,rfl,rfl,hr,λ_ _=>rfl,GS⟩ G H,G,_,aU hG r N,?_⟩;unfold fnS at em;cases eg:go (Fs N ss) with
  |rt d'=>rw[eg]at em;cases em;exact λv G' H' g r'=>q v G' H' g r'
  |nx δ=>rw[eg]at em;cases em;exact λσ G' H' S'=>q _ G' H' S'.gr rfl
  |bk _=>rw[eg]at em;cases em
  |ct _=>rw[eg]at em;cases em
  |exc _=>rw[eg]at em;cases em
  |no=>rw[eg]at em;cases em
def fn_SN{x:Str}{st:GC}{ps:List Str}{n:Nat}{go:Dn->Res Kvs}{m:List Sl->Res Kvs}(F:Def K mg x st ps)(S:FnScope N ps (A5 st))(hn:ps.length=n)
 (body:∀X,Cxt P w K mg base X N (A5 st) k true->DSN X E0k (B6 st) go) (hm:m=vE N go):FnSN P w K mg base x (k+1) n m:=by
 obtain⟨f,fd,F,hmg,hb⟩:=F.ex;refine⟨f,fd,ps,hn,?_,hmg,F.kp,hb⟩;subst hm;refine F.ok S (λvs H Q E h=>?_) (λcdv A outer s H vs Q E hr h=>?_)
 .obtain⟨G,ss,d,_,r,hl,_⟩:=h
  rw[<-r.length,hl,hn]
 .obtain⟨G,ss,kvs,hG,r,hl,em,q⟩:=h
  refine⟨_,body _ ⟨rfl,rfl,rfl,rfl,rfl,rfl,rfl,rfl,hr,λ_ _=>rfl,GS⟩ G H,G,_,aU hG r N,?_⟩;unfold vE at em;rw[em];exact q
def AftN.grow{G H G' H':Hp}{r:Res Kvs}{Q:VK}(g:Grow G H G' H')(a:AftN E G H r Q):AftN E G' H' r Q:=by
 cases r with
 |ok kvs=>exact λp G2 H2 g2 hp hp' ho=>a p G2 H2 (g.trans g2) (g.h.free hp) hp' ho
 |exc c=>exact λG2 H2 g2=>a G2 H2 (g.trans g2)
 |no=>exact a
def rR{G H:Hp}{σ:St}{δ:Dn}{k:f8->Res Kvs}{Q R:VK}(S:SR G H σ δ)(a:AftN E G H ((f δ).bind k) Q)
 (h:∀d v G1 H1,Grow G H G1 H1->Rep G1 d v->SR G1 H1 σ δ->AftN E G1 H1 (k d) Q->R v H1):tD E f σ H R:=by
 refine⟨G,δ,S,?_⟩;cases e:f δ with
 |ok d=>rw[e]at a;exact λv G' H' g r=>h d v G' H' g r (S.grow g) (a.grow g)
 |exc c=>rw[e]at a;exact a
 |no=>rw[e]at a;exact a
def pP{j:Nat}{m:List Sl->Res Kvs}(C:Cxt P w K mg base X N sc k df)(F:FnSN P w K mg base y j 2 m)(hj:j<=k)(h:okGl sc y=true)(ha:DE X E0k e f)(i:Nat)(hv:okVar N sc i x=true)
 (he:i8 [e,.Name x p1] X.env=(false,eval e X.env)::i8 [.Name x p1] X.env:=by rfl) (he2:i8 [.Name x p1] X.env=(false,eval (.Name x p1) X.env)::i8 [] X.env:=by rfl) (hpl:(CD pos (i8 [.Name x p1] X.env)).any (·.1)=false:=by rfl):
 DN X E0k (.Call (.Name y p) [e,.Name x p1] [] pos) (Yb f i m):=by
 obtain⟨fa,fd,ps,hps,F,hm,hk,hb⟩:=F.ex;obtain⟨h1,h2,h3⟩:=okGl.gl C h;have F':FnOk X.prog X.w X.K X.mg X.base CX0 j fa fd ps (spSN 2 m):=by rw[C.hP,C.hw,C.hK,C.hmg,C.hb];exact F
 refine PE.imp (Dr F' (C.room.mono hj) h1 (by rw[C.hmg];exact hm) (by rw[C.hK];exact hk) (by rw[C.hK];exact hb) .nil (Sw (X:=X)) (E8 ha (E8 (okVar.pe C hv) N0 he2) he) h2 he hpl) λσ H Q hh=>?_;obtain⟨G,δ,S,aft⟩:=hh;refine rR S aft λd v G1 H1 g1 r1 S1 a1=>?_;split at a1
 .rename_i kvs hi
  obtain⟨u,hσ,fo⟩:=S1.fdV hi;refine⟨u,hσ,?_⟩;cases em:m [.sh d,.fd kvs] with
  |ok r=>rw[em]at a1;exact⟨G1,[.sh d,.fd kvs],r,S1.sub,⟨v,_,rfl,r1,u,_,rfl,fo,rfl⟩,rfl,em,a1⟩
  |exc c=>rw[em]at a1;exact(a1 G1 H1 (Grow.refl S1.sub)).elim
  |no=>rw[em]at a1;exact a1.elim
 .exact(show False from a1).elim
def dF{j:Nat}{m:List Sl->Res f8}(C:Cxt P w K mg base X N sc k df)(F:FnS P w K mg base y j 2 m)(hj:j<=k)(h:okGl sc y=true)(i:Nat)(hv:okVar N sc i x=true)(ha:DE X E0k e f)
 (he:i8 [.Name x p1,e] X.env=(false,eval (.Name x p1) X.env)::i8 [e] X.env:=by rfl) (he2:i8 [e] X.env=(false,eval e X.env)::i8 [] X.env:=by rfl) (hpl:(CD pos (i8 [e] X.env)).any (·.1)=false:=by rfl):
 DE X E0k (.Call (.Name y p) [.Name x p1,e] [] pos) (Dl i f m):=by
 obtain⟨fa,fd,ps,hps,F,hm,hk,hb⟩:=F.ex;obtain⟨h1,h2,h3⟩:=okGl.gl C h;have F':FnOk X.prog X.w X.K X.mg X.base CX0 j fa fd ps (spS 2 m):=by rw[C.hP,C.hw,C.hK,C.hmg,C.hb];exact F
 refine PE.imp (Dr F' (C.room.mono hj) h1 (by rw[C.hmg];exact hm) (by rw[C.hK];exact hk) (by rw[C.hK];exact hb) .nil (Sw (X:=X)) (E8 (okVar.pe C hv) (E8 ha N0 he2) he) h2 he hpl) λσ H Q hh=>?_;obtain⟨G,δ,S,aft⟩:=hh;unfold Dl at aft;split at aft
 .rename_i kvs hi
  obtain⟨u,hσ,_⟩:=S.fdV hi;refine⟨u,hσ,?_⟩;refine K0 S aft λd v G1 H1 g1 r1 S1 a1=>?_;obtain⟨u',hσ',fo⟩:=S1.fdV hi;rw[hσ]at hσ';cases hσ';cases em:m [.fd kvs,.sh d] with
  |ok r=>rw[em]at a1;exact⟨G1,[.fd kvs,.sh d],r,S1.sub,⟨u,_,rfl,fo,v,_,rfl,r1,rfl⟩,rfl,em,a1⟩
  |exc c=>rw[em]at a1;exact(a1 G1 H1 (Grow.refl S1.sub)).elim
  |no=>rw[em]at a1;exact a1.elim
 .exact(show False from aft).elim
end
def kY{X:Cx}(hu:X.A.units+64<EO):MtR X "list.index" (λx vs H Q=>∃G ds v d,∃j:Nat,Same G H/\Rep G (.list ds) x/\vs=[v]/\Rep G d v/\ds.findIdx? (λy=>l6 y d)=some j/\ds.length<=100000/\d.depth<=40/\Q (.int j) H):=by
 rintro pins s σ H x vs v us Q I rx rv ⟨G,ds,v1,d,j,hG,rl,e1,rd,hj,hn,hdp,q⟩;subst e1;obtain⟨u,rfl,ru⟩:=rv.one;obtain⟨as,r1⟩:=rl.reads I hG rx;obtain⟨bs,r2⟩:=rd.reads I hG ru;have hxs:EJ ds=true:=by have:=rl.lay;simpa[PyData.canLay0] using this
 obtain⟨hjl,hit,hno⟩:=List.findIdx?_eq_some_iff_getElem.mp hj;cases r1 with
 |@list a o vs n _ _ h1 h2 h3 h4=>
  have hm:=SeqAt.readsAll_map ds _ _ hxs h4;have hlen:vs.size=ds.length:=by have:=congrArg GU hm;simpa using this
  have at':∀(i:Nat) (hi:i<vs.size),SeqAt.readOf s.heap vs[i]=ds[i]'(by lia):=λi hi=>by
   have:=congrArg (λl=>l[i]?) hm;simp only[BP]at this;rw[BY (by simpa using hi),BY (by lia)]at this;simpa using this
  have hd:=SeqAt.items_eqAt (A:=X.A) h4 r2 hxs rd.lay (by have:=DX (CI ds) d.depth;lia);obtain⟨c0,d0,da0,sl0⟩:=o;simp only at h2 h3;subst h2 h3;refine JJ F.slot_list_index ⟨_,h1,rfl⟩ F.entry_list_index (F.args_list_index_2 _ _) (SeqAt.list_indexAt a vs n d0 sl0 u (λy=>l6 (SeqAt.readOf s.heap y) d) j (by lia) (by lia) ?_ λm hm' hmj=>?_) ⟨h1,hd,?_⟩
  .rw[at' j (by lia)];exact hit
  .have:=hno m hmj
   rw[at' m hm'];simpa using this
  .exact⟨.int j,H,I.tok _,⟨_,rfl⟩,q⟩
def Fm(g f:Dn->Res f8):Dn->Res f8:=λδ=>(g δ).bind λz=>match z with
 |.list ds=>(f δ).bind λd=>match ds.findIdx? (λy=>l6 y d) with
  |some j=>if ds.length<=100000/\d.depth<=40 then .ok (.int (j:Nat)) else .no
  |none=>.no
 |_=>.no
section
variable {P:o9}{w:x8}{K:i5}{mg:Str->Option g9}{base:BL}{X:Cx}{N:List Str}{sc:Scope}{k:Nat}{df:Bool}{E:EK}{a b:Expr}{f g:Dn->Res f8}
def dB{apos cpos:Pos}(C:Cxt P w K mg base X N sc k df)(hb:DE X E b g)(ha:DE X E a f)(hbase:FK b "index" X.env (eval b X.env)=eval b X.env:=by rfl)
 (hfew:((CD cpos (i8 [a] X.env)).all (λx=>!x.1)&&(HY cpos (FL [] X.env)).all (λx=>x.1.isSome)
  && decide ([a].length+([]:List GX).length+(if ([]:List GX).isEmpty then 0 else 1)<30))=true:=by rfl)
 (hline:(apos.endLine==cpos.line)=true:=by rfl) (hs:i8 [a] X.env=(false,eval a X.env)::i8 [] X.env:=by rfl) (hplain:(CD cpos (i8 [] X.env)).any (·.1)=false:=by rfl):
 DE X E (.Call (.Attribute b "index" apos) [a] [] cpos) (Fm g f):=by
 refine PE.imp (Lx DP PySem.F.slot_list_index PySem.F.type_list_index (kY C.hu) hb (E8 ha N0 hs) hbase hfew hline hs hplain) λσ H Q hZ3=>?_;obtain⟨G,δ,S,aft⟩:=hZ3;refine K0 S aft λd0 v0 G0 H0 g0 r0 S0 a0=>?_;split at a0
 .rename_i ds
  obtain⟨l,xs,rfl,hl,ll⟩:=r0;refine⟨.inl ⟨rfl,xs,.inl (Rd.mono S0.sub hl)⟩,?_⟩;refine K0 S0 a0 λd v G1 H1 g1 r1 S1 a1=>?_;split at a1
  .rename_i j hj
   split at a1
   .rename_i hc
    exact⟨G1,ds,v,d,j,S1.sub,⟨l,xs,rfl,Rd.mono g1.g hl,ll.mono g1.g⟩,rfl,r1,hj,hc.1,hc.2,a1 _ G1 H1 (Grow.refl S1.sub) rfl⟩
   .exact a1.elim
  .exact a1.elim
 .exact a0.elim
end
def Tb{α:Type}(acc prs:List (f8×α)):List (f8×α):=prs.foldl (λacc kv=>Q8 acc kv.1 kv.2) acc
def PairN(H:Hp)(y:V)(kv:f8×V):Prop:=∃t k,y=.ref t/\H t=some (.tup [k,kv.2])/\KRep H kv.1 k/\nkD kv.1=true
theorem PairN.mono{H H':Hp}{y:V}{kv:f8×V}(h:PairN H y kv)(k:∀b xs,H b=some (.tup xs)->H' b=some (.tup xs)):PairN H' y kv:=by
 obtain⟨t,b,e,h1,h2,h3⟩:=h;exact⟨t,b,e,k _ _ h1,h2.mono k,h3⟩
def qY{P:o9}{w:x8}{H:Hp}(h:BL)(hb:FX<h.objs.size):ObjOk P w H (h.push {cls:=.type "dict",data:=.dict #[]}) h.objs.size (.dN []):=
 ⟨ER _,beq_eq_false_iff_ne.mpr (Ne.symm (z8 hb)),.nil,(λ_ h=>nomatch h),[],.nil,0,x5 _ rfl⟩
section
variable {X:Cx}{pins:List (i9×Obj)}{σ:St}
def fZ{A:BO}{a d it:i9}(hh:A.handled=none)(hu:A.units+16<EO){ys:List V}{R:Result->i6->Prop}:∀(n i:Nat) (s:i6) (H:Hp) (acc:List (f8×V)) (prs:List (f8×V)),n=prs.length ->
 Inv X pins σ H s->H d=some (.dN acc)->Rd H a (.lst ys)->s.heap.IsListIter it a i->Nw X pins H it->DJ (PairN H) (ys.drop i) prs->i+prs.length=ys.length->acc.length+prs.length<10000->ys.length<10000 ->
 (∀s',Inv X pins σ (upd H d (.dN (Tb acc prs))) s'->R (.ok (.ret .none)) s') ->
 IJ (u7 X.prog X.w) A (.builtin "dict.update.loop" ⟨[.ref d,.ref it,HF i,.none],[]⟩) R s:=by
 intro n;induction n with
 |zero=>
  intro i s H acc prs hn I hd hl st fp hp hlen hacc hys hR;have:prs=[]:=CO.mp hn.symm;subst this;refine II Hl ?_;rw[HK Hj _];obtain⟨its,rv,p,hz⟩:=I.list (.inl hl);have hl':=rv.length;simp only[BM,Nat.add_zero]at hlen;show wpAny _ A.in1 (KL (.ref it)>>=_) _ _ s;obtain⟨f0,f1,f2,f3,f4,f5⟩:=fp;refine f9 (wpAny_pyNext_list_end hh st p.isList (by simp;lia) λh' eb=>?_);have I1:Inv X pins σ H {s with heap:=h'}:=I.turned (t':=s.toks) (λb o hb e=>eb b o hb e) f0 f1 f3 f4 f5;have hsame:upd H d (.dN (Tb acc []))=H:=by
   funext b
   unfold upd;split
   .rename_i e;rw[e,hd];rfl
   .rfl
  rw[hsame]at hR;show wpAny _ A.in1 (Builtin.Dict.addKeywords d []>>=_) _ _ _;exact f9 (i0 (i0 (hR _ I1)))
 |succ n ih=>
  intro i s H acc prs hn I hd hl st fp hp hlen hacc hys hR;cases prs with
  |nil=>simp at hn
  |cons kv prs=>
   simp only[l7]at hn hlen hacc;have hi:i<ys.length:=by lia
   have hdrop:ys.drop i=ys[i]::ys.drop (i+1):=EA hi;rw[hdrop]at hp;cases hp with
   |cons h0 hp=>
    obtain⟨t,kk,ey,ht,hb,hnk⟩:=h0;refine II Hl ?_;rw[HK Hj _];obtain⟨its,rv,p,hz⟩:=I.list (.inl hl);obtain⟨u,hu',ru⟩:=rv.get (BY hi);rw[ey]at ru;cases (show u=CU t from ru);obtain⟨f0,f1,f2,f3,f4,f5⟩:=fp;show wpAny _ A.in1 (KL (.ref it)>>=_) _ _ s;refine f9 (wpAny_pyNext_list_item st p.isList (x:=.ref t) (by simpa using hu') λh' st' sb=>?_);have I1:Inv X pins σ H {s with heap:=h'}:=I.turned (t':=s.toks) (λb o hb e=>(sb.2 b hb).trans e) f0 f1 f3 f4 f5;obtain⟨its2,rv2,p2,_⟩:=I1.tuple (.inl (.inl ht));cases rv2 with
    |@cons _ u1 _ _ r1 rr=>
     cases rr with
     |@cons _ u2 _ _ r2 rr2=>
      cases rr2;obtain⟨ot,hot,hotc,nt,hotd⟩:=p2;obtain⟨c0,d0,da0,sl0⟩:=ot;simp only at hotc hotd;subst hotc hotd;refine f9 (CJ (f9 (wpAny_tryCatch ?_)));unfold Builtin.Dict.pairItems;have hT:({s with heap:=h'}:i6).TypeIs (.ref t) "tuple":=⟨_,hot,rfl⟩;generalize hDS:dictSet=DS
      repeat (any_goals (first |assumption |wp_step))
      subst hDS;refine Xa (A:=A.in1) (by show A.units+1+8<EO;lia) I1 hd hb hnk (y9 (show acc.length<10000 by lia) (by decide)) r1 r2 λs3 I3 sb3=>?_;have hne:it≠d:=λz=>by rw[z,hd]at f0;cases f0
      have hne2:∀c xs,H c=some (.tup xs)->upd H d (.dN (Q8 acc kv.1 kv.2)) c=some (.tup xs):=λc xs e=>by rw[B7 (Ly e hd (λz=>nomatch z))];exact e
      refine i0 ⟨MJ _ (by decide+kernel),?_⟩;refine ih (i+1) s3 _ (Q8 acc kv.1 kv.2) prs (by lia) I3 C8 ?_ (st'.at λo e=>sb3 it o hne e) ⟨by rw[B7 hne];exact f0,f1,f2,f3,f4,f5⟩ (Paired.mapP hp λ_ _ z=>z.mono hne2) (by lia) (by have:=Fd (k:=kv.1) (v:=kv.2) acc;lia) hys λs' J=>?_
      .rcases hl with z |⟨o,z⟩
       .exact .inl (by rw[B7 (Ly z hd (λz=>nomatch z))];exact z)
       .exact .inr ⟨o,by rw[B7 (Ly z hd (λz=>nomatch z))];exact z⟩
      .rw[Ye]at J
       exact hR s' J
def gK(hh:X.A.handled=none)(hu:X.A.units+64<EO):Bb X (.type "dict") (λvs H Q=>∃a ys prs,vs=[.ref a]/\Rd H a (.lst ys)/\DJ (PairN H) ys prs/\ys.length<1000/\∀p,H p=none->Q (.ref p) (upd H p (.dN (Tb [] prs)))):=by
 rintro pins s σ H xs us Q I r ⟨a,ys,prs,e0,hl,hp,hn,q⟩;subst e0;cases r with
 |cons r0 rr=>
  cases rr;obtain⟨rfl⟩:=(show _=CU a from r0);refine OW (Q₁:=λobj s₁=>obj=.ref s.heap.objs.size/\s₁={s with heap:=s.heap.push {cls:=.type "dict",data:=.dict #[]}}) F.kt_called_dict (F.kt_typeCall_dict_1 _) F.entry_dict_init (kt_code_dict_new _ ⟨rfl,rfl⟩) ?_;rintro obj s₁ ⟨rfl,rfl⟩;have hfr:=I.hok.fresh (s0 s.heap.objs.size);have I1:=I.laid (a:=s.heap.objs.size) (o:=.dN []) (h':=s.heap.push {cls:=.type "dict",data:=.dict #[]}) (t':=s.toks) (λ_ _ q=>l8 _ q) (s0 _) (qY s.heap I.big);have hTd:({s with heap:=s.heap.push {cls:=.type "dict",data:=.dict #[]}}:i6).TypeIs (.ref s.heap.objs.size) "dict":=⟨_,x5 _ rfl,rfl⟩;refine⟨hTd,F.args_dict_init_2 _ _,?_⟩;have hl1:Rd (upd H s.heap.objs.size (.dN [])) a (.lst ys):=by
   rcases hl with z |⟨o,z⟩
   .exact .inl (by rw[B7 (D9 z hfr)];exact z)
   .exact .inr ⟨o,by rw[B7 (D9 z hfr)];exact z⟩
  obtain⟨_,its,nn,rv,hobj⟩:=(show ObjOk X.prog X.w _ _ a (.lst ys) from hl1.ok I1.hok);unfold EM.«dict.__init__»;refine f9 ?_;unfold Builtin.Dict.selfAndRest;refine f9 (JF hTd ?_);show wpAny _ _ (pure (s.heap.objs.size,[CU a])) _ _ _;refine i0 ?_;show wpAny _ _ (MW "dict.__init__" s.heap.objs.size (.ref a) [] .none) _ _ _;unfold MW;refine f9 (JY (T:="list") ⟨_,hobj,rfl⟩ ?_);rw[iq (by decide)];refine f9 (lL hh hobj λh1 tk1 kp=>?_);rw[iq (by rfl)];have I2:Inv X pins σ (upd H s.heap.objs.size (.dN [])) {s with heap:=h1,toks:=tk1}:=I1.kept (t':=tk1) kp;refine f9 (EI ?_);obtain⟨its2,rv2,p2,_⟩:=I2.list (.inl hl1);refine f9 (wpAny_pyIter_list p2.isList ?_);have I3:Inv X pins σ (upd H s.heap.objs.size (.dN [])) {s with heap:=h1.push {cls:=.type "list_iterator",data:=.fields #[.ref a,.int 0 0]},toks:=tk1}:=I2.kept (t':=tk1) λb o e=>l8 _ e
  have hpz:DJ (PairN (upd H s.heap.objs.size (.dN []))) ys prs:=Paired.mapP hp λ_ _ z=>z.mono λb xs e=>by rw[B7 (D9 e hfr)];exact e
  have hle:prs.length=ys.length:=(Paired.len' hp).symm;refine i0 ⟨MJ _ (by decide+kernel),?_⟩;refine fZ (A:=X.A.in1) hh (by show X.A.units+1+16<EO;lia) (ys:=ys) prs.length 0 _ _ [] prs rfl I3 C8 hl1 ⟨_,x5 _ rfl,rfl,rfl⟩ (I2.fpOk (s0 _) (I2.hok.fresh (s0 _))) hpz (by lia) (by simp;lia) (by lia) λs' J=>?_;rw[Ye]at J;exact⟨rfl,.ref s.heap.objs.size,_,J,rfl,q _ hfr⟩
end
noncomputable def Gf:List f8->Kvs->Option Kvs
 |[],kvs=>some kvs
 |.tuple [kd,v]::ds,kvs=>if nkD kd=true then Gf ds (Q8 kvs kd v) else none
 |_::_,_=>none
def fH{G:Hp}:∀(ds:List f8) (ys:List V) (kvs kvs':Kvs) (kv:List (f8×V)),RepL G ds ys->Gf ds kvs=some kvs'->kvs.map (·.1)=kv.map (·.1)->RepL G (kvs.map (·.2)) (kv.map (·.2)) ->
 ∃prs,DJ (PairN G) ys prs/\kvs'.map (·.1)=(Tb kv prs).map (·.1)/\RepL G (kvs'.map (·.2)) ((Tb kv prs).map (·.2)):=by
 intro iN;induction iN with
 |nil=>
  intro ys kvs kvs' kv r e h1 h2;cases (show _=_ from r);cases e;exact⟨[],.nil,h1,h2⟩
 |cons d ds ih=>
  intro ys kvs kvs' kv r e h1 h2;obtain⟨y,t,rfl,rd,rl⟩:=r;unfold Gf at e;split at e
  .rename_i heq
   cases heq
  .rename_i kd v ds' heq
   cases heq;split at e
   .rename_i ek
    obtain⟨p,xs,rfl,hp,lp⟩:=rd;obtain⟨v1,v2,rfl,r1,r2⟩:=oC lp;obtain⟨p1,p2⟩:=So (k:=kd) r2 h1 h2;obtain⟨prs,q1,q2,q3⟩:=ih t _ kvs' _ rl e p1 p2;exact⟨(kd,v2)::prs,.cons ⟨p,v1,rfl,hp,Km (Same.refl G) ek r1,ek⟩ q1,q2,q3⟩
   .cases e
  .cases e
def Ta(f:Dn->Res f8):Dn->Res Kvs:=λδ=>(f δ).bind λd=>match d with
 |.list ds=>if ds.length<1000 then ofO (Gf ds []) else .no
 |_=>.no
section
variable {P:o9}{w:x8}{K:i5}{mg:Str->Option g9}{base:BL}{X:Cx}{N:List Str}{sc:Scope}{k:Nat}{df:Bool}{E:EK}{p2 cp:Pos}{e:Expr}{f:Dn->Res f8}
def iK(C:Cxt P w K mg base X N sc k df)(hd:okGl sc "dict"=true)(hm:mg "dict"=none)(hf:DE X E e f)(hst:Zh e=true:=by rfl)
 (he:i8 [e] X.env=(false,eval e X.env)::i8 [] X.env:=by rfl) (hpl:(CD cp (i8 [] X.env)).any (·.1)=false:=by rfl):
 DN X E (.Call (.Name "dict" p2) [e] [] cp) (Ta f):=by
 obtain⟨k1,k2,k3⟩:=okGl.gl C hd;refine PE.imp (Wx (gK C.room.hd C.hu) k1 (by rw[C.hmg];exact hm) (by rfl) (E8 hf N0 he) k3 k2 he hpl) λσ H Q hh=>?_;obtain⟨G,δ,S,aft⟩:=hh;refine rR S aft λd v G1 H1 g1 r1 S1 a1=>?_;split at a1
 .rename_i ds
  split at a1
  .rename_i hlen
   cases ek:Gf ds [] with
   |none=>rw[ek]at a1;exact(show False from a1).elim
   |some kvs=>
    rw[ek]at a1;obtain⟨a,ys,rfl,ha,la⟩:=r1;obtain⟨prs,q1,q2,q3⟩:=fH ds ys [] kvs [] la ek rfl rfl;refine⟨a,ys,prs,rfl,Rd.mono S1.sub ha,Paired.mapP q1 λ_ _ z=>z.mono λb xs e=>S1.sub _ _ e,by rw[<-la.length];exact hlen,λq hq=>?_⟩;exact a1 q G1 _ (Grow.own S1.sub hq) hq (S1.sub.free hq) (show OwnK G1 _ q [.dict kvs,.none] from ⟨_,C8,q2,q3⟩)
  .exact(show False from a1).elim
 .exact(show False from a1).elim
end
end Sm
end
section
namespace Sm
open PySem PySem.Spec PyProof.Rows PySem.W L2
section
variable {prog:o9}{w:x8}{A:BO}{E:g9->i6->Prop}{s:i6}
def eE(hh:A.handled=none)(I d:i9)(hne:d≠I)(od:Obj)(es:Array CL)(ep:Nat)(hdd:od.data=.dict es ep):
 Walks prog w A I [I,d] [I] es.size (λi v=>∃e,es[i]?=some e/\v=e.key) (λi h=>h.IsKeyIter I d i es.size ep/\h.get? d=some od) where
 sub:=λb hb=>by simp_all
 frame:=λ_ _ _ st hk=>⟨st.1.at λo e=>hk I (by simp) o e,hk d (by simp) _ st.2⟩
 item:=λi s Q E hi st hQ=>by
  refine pM st.1 st.2 hdd hi λh' n hs=>?_;exact hQ _ h' s.toks ⟨es[i],by simp[hi],rfl⟩ ⟨n,hs.extBut d _ hne st.2⟩ λb o hb e=>hs.extBut b o (λz=>hb (by simp[z])) e
 done:=λs Q E st hQ=>vI hh (s0 _) st.1 st.2 hdd λh' he=>hQ h' s.toks λb o hb e=>he b o (λz=>hb (by simp[z])) e
 self:=λ_ _ _ _ st hQ=>wpAny_pyIter_keyiter st.1 hQ
def kH{d:i9}{od:Obj}{es:Array CL}{ep:Nat}(lo:(d==FX)=false)(hcl:od.cls=.type "dict")(hdd:od.data=.dict es ep):
 KdlSrc prog w "dict" d d es.size (λi v=>∃e,es[i]?=some e/\v=e.key) (λh=>h.get? d=some od) where
 type:=λ_ hm=>⟨od,hm,hcl⟩
 there:=λ_ hm=>⟨q9 hm,q9 hm⟩
 keep:=λ_ _ hm hk=>hk d (.inr rfl) _ hm
 notList:=by decide
 notTuple:=by decide
 hint:=λ_ _ _ _ hm hq=>kdl_hint_dict ⟨od,hm,hcl⟩ hq
 iter:=λ_ _ hh hm=>⟨_,_,(λ_ _ hq=>qK lo ⟨od,hm,hcl⟩ hm hdd hq),eE hh _ d (z8 (q9 hm)) od es ep hdd,⟨⟨_,x5 _ rfl,rfl,rfl⟩,l8 _ hm⟩⟩
def nQ{d:i9}{od:Obj}{es:Array CL}{ep:Nat}{ss:List Str}{Q:g9->i6->Prop}(lo:(d==FX)=false)(hcl:od.cls=.type "dict")(hdd:od.data=.dict es ep)(hh:A.handled=none)(hd:s.heap.get? d=some od)
 (hS:OL (es.toList.map (·.key)) ss) (h64:es.size<64)
 (h:∀(h1:BL) tk (out:Array g9) (ss':List Str),(∀b o,s.heap.get? b=some o->h1.get? b=some o)->OL out.toList ss'->ss'.Perm ss->sortedS ss'=true ->
  Q (.ref h1.objs.size) {s with heap:=sortedHeap (h1.push (seqObj "list" (es.toList.map (·.key)).toArray 0)) h1.objs.size (es.toList.map (·.key)) out,toks:=tk}):
 wpAny (u7 prog w) A (call (.builtin "sorted") [.ref d]) Q E s:=by
 refine Calls.call_function_entry kind_sorted plain_sorted entry_sorted (args_sorted1 _) (f9 (m:=checkCount "sorted" 1 1 _) (i0 (f9 (aB (kH lo hcl hdd) hh hd (by rw[KS];lia) λh1 tk acc hk hacc=>?_))));have hacc2:acc.toList=es.toList.map (·.key):=by
  apply HH;intro j;by_cases hj:j<es.size
  .have hja:j<acc.size:=by rw[hacc.1];exact hj
   obtain⟨e,e1,e2⟩:=hacc.2 j acc[j] (by simp[hja])
   simp_all
  .rw[IV (by simpa[hacc.1] using GD.mp hj),IV (by simp_all)]
 rw[hacc2];generalize hvs:es.toList.map (·.key)=vs at *;have hvl:vs.length=es.size:=by grind
 refine f9 (wpAny_newList ?_ (by rw[KS];lia));have hoL:(h1.push (seqObj "list" vs.toArray 0)).get? h1.objs.size=some (seqObj "list" vs.toArray 0):=x5 _ rfl;show wpAny _ _ _ _ _ {s with heap:=h1.push (seqObj "list" vs.toArray 0),toks:=tk};refine f9 (CJ (DR slot_list_sort ⟨_,hoL,rfl⟩ entry_list_sort (list_sort_treeK strKind_oneLt hoL hS.keysOf (λv₁ v₂ T4 e=>keyKind_strs (by rw[<-e];exact hS)) (by lia) λst' hp hs=>⟨_,rfl,?_⟩) (args_list_sort _)));obtain⟨ss',k1,k2,k3⟩:=sorted_out_str hS hp hs;exact i0 ⟨_,rfl,h h1 tk _ ss' hk k1 k2 k3⟩
end
noncomputable def ltS(a b:Str):Bool:=ltCps a.cps.toList b.cps.toList
noncomputable def lO(p:Str):List Str->List Str
 |[]=>[p]
 |q::r=>if ltS q p=true then q::lO p r else p::q::r
noncomputable def Bw:List Str->List Str
 |[]=>[]
 |p::r=>lO p (Bw r)
noncomputable def V4:List f8->Option (List Str)
 |[]=>some []
 |.str x::r=>(V4 r).map (x::·)
 |_::_=>none
noncomputable def leX(a b:Str):Prop:=¬b.cps.toList<a.cps.toList
def xA{a b:Str}:ltS b a=false↔leX a b:=by unfold ltS leX;rw[ltCps_eq];simp
def leX.trans{a b c:Str}(h1:leX a b)(h2:leX b c):leX a c:=List.le_trans (l₁:=a.cps.toList) (l₂:=b.cps.toList) (l₃:=c.cps.toList) h1 h2
def leX.anti{a b:Str}(h1:leX a b)(h2:leX b a):a=b:=by
 have:=List.le_antisymm (as:=a.cps.toList) (bs:=b.cps.toList) h1 h2;obtain⟨⟨x⟩⟩:=a
 simp_all
theorem Wr:∀(p:Str) (l:List Str),risingS p l=true->(p::l).Pairwise leX
 |p,[],_=>GO _ _
 |p,x::r,h=>by
  have h':(!ltCps x.cps.toList p.cps.toList&&risingS x r)=true:=h;rw[x3]at h';have ih:=Wr x r h'.2;have hx:leX p x:=xA.mp (by have:=h'.1;unfold ltS;lia);refine BV.mpr ⟨λy hy=>?_,ih⟩;rcases j9.mp hy with rfl |hy
  .exact hx
  .exact hx.trans ((BV.mp ih).1 y hy)
def eR:∀{l:List Str},sortedS l=true->l.Pairwise leX:=by
 intro iN;induction iN with
 |nil=>simp_all
 |cons x r ih=>intro h;exact Wr x r h
theorem Sn:∀{l m:List Str},l.Perm m->l.Pairwise leX->m.Pairwise leX->l=m
 |[],m,h,_,_=>(List.Perm.nil_eq h)
 |a::l,[],h,_,_=>absurd h.length_eq (by simp)
 |a::l,b::m,h,h1,h2=>by
  rw[BV]at h1 h2;have e:a=b:=by
   rcases j9.mp (h.mem_iff.mp (EG (a:=a) (l:=l)))with e |e
   .exact e
   .rcases j9.mp (h.mem_iff.mpr (EG (a:=b) (l:=m)))with e' |e'
    .exact e'.symm
    .exact(h1.1 b e').anti (h2.1 a e)
  subst e;rw[Sn (List.Perm.cons_inv h) h1.2 h2.2]
def Xf(p:Str):∀l,(lO p l).Perm (p::l):=by
 intro iN;induction iN with
 |nil=>rfl
 |cons q r ih=>
  skip
  unfold lO
  grind
def T3:∀l,(Bw l).Perm l:=by
 intro iN;induction iN with
 |nil=>rfl
 |cons p r ih=>skip;exact(Xf p (Bw r)).trans ((ih).cons p)
def vA(p:Str):∀l,l.Pairwise leX->(lO p l).Pairwise leX:=by
 intro iN;induction iN with
 |nil=>intro _;exact GO _ _
 |cons q r ih=>
  intro h;rw[BV]at h;unfold lO;split
  .rename_i c
   refine BV.mpr ⟨λx hx=>?_,ih h.2⟩;rcases j9.mp ((Xf p r).mem_iff.mp hx)with rfl |hx
   .unfold ltS at c;rw[ltCps_eq]at c;exact List.lt_asymm (of_decide_eq_true c)
   simp_all
  .rename_i c
   have hq:leX p q:=xA.mp (by simpa using c);refine BV.mpr ⟨λx hx=>?_,BV.mpr h⟩;rcases j9.mp hx with rfl |hx
   .exact hq
   .exact hq.trans (h.1 x hx)
def Ry:∀l,(Bw l).Pairwise leX:=by
 intro iN;induction iN with
 |nil=>skip;exact .nil
 |cons p r ih=>skip;exact vA p _ (ih)
def Qt:∀{ds:List f8} {ss:List Str},V4 ds=some ss->ds=ss.map .str:=by
 intro iN;induction iN with
 |nil=>intro ss e;cases e;rfl
 |cons d ds ih=>
  intro ss e;cases d with
  |str x=>
   obtain⟨r,e1,e2⟩:=FN.mp (show(V4 ds).map (x::·)=some ss from e)
   grind
  |_=>cases e
section
variable {X:Cx}
def yS(xs:List V)(H:Hp)(Q:VK):Prop:=∃d,∃kk:List (f8×V),∃ss:List Str,xs=[.ref d]/\Rd H d (.dN kk)/\kk.map (·.1)=ss.map .str/\ss.length<64 /\
 ∀l,H l=none->Q (.ref l) (upd H l (.lst ((Bw ss).map .str)))
theorem Tm{w:x8}{H:Hp}:∀{kk:List (f8×V)} {xs:List (g9×g9)} {ss:List Str},DJ (λ(p:f8×V) (q:g9×g9)=>(∃v,KRep H p.1 v/\RelV v q.1)/\RelV p.2 q.2) kk xs->kk.map (·.1)=ss.map BU->OL ((V2 w kk xs).map (·.key)) ss
 |_,_,[],r,e=>by
  cases r with
  |nil=>exact .nil
  |cons _ _=>cases e
 |_,_,x::ss,r,e=>by
  cases r with
  |nil=>cases e
  |@cons p q kk xs h r=>
   injection e with e1 e2
   obtain⟨⟨v,h1,h2⟩,_⟩:=h;rw[show p.1=BU x from e1]at h1;obtain⟨rfl,_⟩:=h1;obtain⟨t,ht⟩:=h2;show OL (q.1::(V2 w kk xs).map (·.key)) (x::ss);rw[ht];exact .cons x t (Tm r e2)
theorem Qq:∀{vs:List g9} {ss:List Str},OL vs ss->Vals (ss.map V.str) vs
 |_,_,.nil=>.nil
 |_,_,.cons x t h=>.cons ⟨t,rfl⟩ (Qq h)
def gG(hh:X.A.handled=none):Bb X (.builtin "sorted") yS:=by
 rintro pins s σ H xs us Q I r ⟨d,kk,ss,hx,hd,hkk,h64,q⟩;subst hx;obtain⟨u,rfl,ru⟩:=Vals.one r;cases (show u=CU d from ru);obtain⟨z,lo,nd,nk,ys,rel,ep,ho⟩:=hd.ok I.hok;have hS:=Tm (w:=X.w) rel hkk;have hlen:(V2 X.w kk ys).length=ss.length:=by
  have:=hS.strs;rw[<-this];simp
 refine nQ (ss:=ss) lo rfl rfl hh ho hS (by rw[m8];exact HA (Nat.le_of_eq hlen) h64) λh1 tk out ss' hk k1 k2 k3=>?_;have hsrt:ss'=Bw ss:=Sn (k2.trans (T3 ss).symm) (eR k3) (Ry ss);subst hsrt;have I1:Inv X pins σ H {s with heap:=h1,toks:=tk}:=I.kept (t':=tk) hk;have ho1:(h1.push (seqObj "list" ((V2 X.w kk ys).toArray.toList.map (·.key)).toArray 0)).get? h1.objs.size=some (seqObj "list" ((V2 X.w kk ys).toArray.toList.map (·.key)).toArray 0):=x5 _ rfl;obtain⟨ee,hat⟩:=sortedHeap_at (out:=out) ho1;have hfr:H h1.objs.size=none:=I1.hok.fresh (s0 _)
 refine⟨.ref h1.objs.size,_,I1.laid (o:=.lst ((Bw ss).map .str)) (t':=tk) (λb o e=>?_) (s0 _) ⟨?_,out.toList,ee,Qq k1,hat⟩,rfl,q _ hfr⟩
 .have hlt:b<h1.objs.size:=q9 e
  rw[sortedHeap_old (z8 hlt) (by rw[size_push'];exact Nat.lt_succ_of_lt hlt)];exact l8 _ e
 .rw[i7,(T3 ss).length_eq,KS];lia
end
def Z7(i:Nat):Dn->Res f8:=λδ=>match kvN δ i with
 |some kvs=>match V4 (kvs.map (·.1)) with
  |some ss=>if ss.length<64/\(ss.all λx=>z0 x&&decide (x.length<=1000))=true then .ok (.list ((Bw ss).map .str)) else .no
  |none=>.no
 |none=>.no
section
variable {P:o9}{w:x8}{K:i5}{mg:Str->Option g9}{base:BL}{X:Cx}{N:List Str}{sc:Scope}{k:Nat}{df:Bool}{E:EK}{pos p p1:Pos}{x:Str}
def fD{G:Hp}:∀(ss:List Str),(∀x∈ss,z0 x=true/\x.length<=sizeLine)->RepL G (ss.map .str) (ss.map .str):=by
 intro iN;induction iN with
 |nil=>intro _;exact rfl
 |cons x ss ih=>intro h;exact RepL.cons ⟨rfl,h x (.head _)⟩ (ih λy hy=>h y (.tail _ hy))
def Ql(C:Cxt P w K mg base X N sc k df)(h:okGl sc "sorted"=true)(hm:mg "sorted"=none)(i:Nat)(hv:okVar N sc i x=true)
 (he:i8 [.Name x p1] X.env=(false,eval (.Name x p1) X.env)::i8 [] X.env:=by rfl) (hpl:(CD pos (i8 [] X.env)).any (·.1)=false:=by rfl):
 DE X E (.Call (.Name "sorted" p) [.Name x p1] [] pos) (Z7 i):=by
 obtain⟨h1,h2,h3⟩:=okGl.gl C h;intro pins s σ H Q I q;refine(PE.imp (Lw (gG (I.ok.hd C.calm)) h1 (by rw[C.hmg];exact hm) (by decide+kernel) (E8 (okVar.pe C hv (p:=p1)) N0 he) h3 h2 he hpl) λσ H Q hY94=>?_) pins s σ H Q I q;obtain⟨G,δ,S,aft⟩:=hY94;unfold Z7 at aft;split at aft
 .rename_i kvs hi
  split at aft
  .rename_i ss eps
   split at aft
   .rename_i hc
    obtain⟨d,kk,hσ,hx,hkeys,hvals⟩:=S.kvN hi;refine⟨.ref d,hσ,d,kk,ss,rfl,hx,by rw[<-hkeys];exact Qt eps,hc.1,λl hl=>?_⟩;have hG:G l=none:=S.sub.free hl;refine aft _ (upd G l (.lst ((Bw ss).map .str))) _ (Grow.new S.sub hl) ⟨l,_,rfl,.inl C8,?_⟩;refine fD _ λy hy=>?_;have:=EZ.mp hc.2 y ((T3 ss).mem_iff.mp hy);rw[x3]at this;exact⟨this.1,l9 (of_decide_eq_true this.2) (by decide)⟩
   .exact aft.elim
  .exact aft.elim
 .exact aft.elim
end
end Sm
end
section
namespace Sm
open PySem PySem.Spec PyProof.Rows L2
noncomputable def vW:f8->Option f8
 |.tuple ds=>some (.tuple ds.reverse)
 |_=>none
def AM{α β:Type}(f:α->Option β)(g:α->β):∀l:List α,(∀a∈l,f a=some (g a))->l.filterMap f=l.map g:=by
 intro iN;induction iN with
 |nil=>intro _;exact rfl
 |cons a l ih=>
  intro h;rw[EN,h a EG,k6,ih λb hb=>h b (FF _ hb)]
def bR(xs:List g9):((CK xs.length).filterMap λ(m:Nat)=>xs.toArray[(((xs.length:Int)-1)+(m:Int)*(-1)).toNat]?).toArray=xs.reverse.toArray:=by
 have e:((CK xs.length).filterMap λ(m:Nat)=>xs.toArray[(((xs.length:Int)-1)+(m:Int)*(-1)).toNat]?)=(CK xs.length).map λm=>xs.getD (xs.length-1-m) .none:=by
  refine AM _ _ _ λm hm=>?_;have hm':=EL.mp hm;have e:(((xs.length:Int)-1)+(m:Int)*(-1)).toNat=xs.length-1-m:=by omega
  rw[e,List.getElem?_toArray,HR,BY (by omega)];rfl
 rw[e];congr 1;apply HH;intro i;rw[BP];by_cases hi:i<xs.length
 .rw[List.getElem?_range hi,LH hi,IA,HR,BY (by omega)]
  rfl
 .rw[IV (by simpa using GD.mp hi),IV (by simpa using GD.mp hi)]
  rfl
def Me{prog:o9}{w:x8}{A:BO}{E:g9->i6->Prop}{s:i6}{t sl:i9}{its:List g9}{tk:Tok}{Q:g9->i6->Prop}(ht:LP s.heap t its.toArray)(hs:s.heap.IsSliceOf sl .none .none (.int (-1) tk))(hsz:its.length<=sizeLine)
 (h:Q (.ref s.heap.objs.size) {s with heap:=s.heap.push {cls:=.type "tuple",data:=.seq its.reverse.toArray}}):wpAny (u7 prog w) A (JB (.ref t) (.ref sl)) Q E s:=by
 obtain⟨os,hos,hcs,hds⟩:=id hs;have hTs:s.TypeIs (.ref sl) "slice":=⟨os,hos,hcs⟩;have htake:sizeOk (.seq its.reverse.toArray):=by
  show its.reverse.toArray.size<=sizeLine;rw[m8,CQ];exact hsz
 unfold JB;try with_reducible refine CJ ?_
 first |refine f9 (i0 ?_) |skip
 refine f9 (IZ ht.typeIs (by decide) ?_);refine f9 (DH (name:=FE "__getitem__") ht.typeIs BZ
  (DR BZ ht.typeIs MR ?_ (NF _ _)))
 show wpAny _ _ (GV (.ref t)>>=_) _ _ s;refine f9 (tupleItemsOf_ ht ?_);refine f9 (JY hTs ?_);rw[iq (by decide)];have hz:its.toArray.size=its.length:=m8;have hap:∀{Q:Int×Int×Nat->i6->Prop},Q ((its.length:Int)-1,-1,its.length) s->wpAny (u7 prog w) A.in1 (GW (.ref sl) (pure (its.toArray.size:Int))) Q E s:=λ{Q} hQ=>by
  unfold GW ML;refine f9 (f9 (GL hos hds (x:=.none) rfl (f9 (GL hos hds (x:=.none) rfl (f9 (GL hos hds (x:=.int (-1) tk) rfl (i0 ?_)))))));refine f9 (slicePart_int ?_);show wpAny _ _ (if ((-1:Int)==0)=true then _ else _) _ _ s;rw[ir (by decide)];refine f9 (MM (f9 (MM (f9 (i0 ?_)))));show wpAny _ _ (match FP none none (-1) (its.toArray.size:Int)with | (lo,hi)=>pure (lo,(-1:Int),CY lo hi (-1))) _ _ s
  have ea:FP none none (-1) (its.toArray.size:Int)=((its.length:Int)-1,-1):=by
   rw[hz];rfl
  rw[ea];show wpAny _ _ (pure ((its.length:Int)-1,(-1:Int),CY ((its.length:Int)-1) (-1) (-1))) _ _ s;have ep:CY ((its.length:Int)-1) (-1) (-1)=its.length:=by
   unfold CY;rw[ir (by decide)];split
   .have : ((its.length : Int)-1 - -1-1)/(- -1) = (its.length : Int)-1:= by
     rw[show(- -1:Int)=1 by decide,PF];omega
    rw[this];omega
   .omega
  rw[ep];exact i0 hQ
 refine f9 (hap ?_);show wpAny _ _ (if (((its.length:Int)-1==0&&(-1:Int)==1&&its.length==its.toArray.size)=true) then _ else _) _ _ s;rw[ir (by simp),bR];first
  |exact f9 (m:=DK _) (BX (i0 ⟨_,rfl,i0 h⟩) htake)
  |exact f9 (m:=DK _) (BX (f9 (i0 (i0 ⟨_,rfl,i0 h⟩))) htake)
  |exact f9 (f9 (m:=DK _) (BX (i0 (i0 ⟨_,rfl,i0 h⟩)) htake))
  |exact f9 (f9 (m:=DK _) (BX (i0 ⟨_,rfl,i0 h⟩) htake))
section
variable {w:x8}{X:Cx}{E:EK}{pos p1 p2 p3:Pos}{a b:Expr}{f:Dn->Res f8}{x:Str}{i:Nat}
def d_rev{j:Nat}(ha:DE X E a f):DE X E (.Subscript a (.Slice none none (some (.UnaryOp .USub (.Constant (.int 1) j p1) p2)) p3) pos) (b1 f vW):=by
 rintro pins s σ H Q I ⟨G,δ,S,aft⟩;have hh:tD E f σ H (λv H1=>∃G1 d,Same G1 H1/\Rep G1 d v/\Aft E G1 H1 (ofO (vW d)) Q):=K0 S aft λd v G1 H1 g1 r1 S1 a1=>⟨G1,d,S1.sub,r1,a1⟩;refine NG (thn (ha pins s σ H _ I hh) λv s1 hZ2=>?_);obtain⟨x,H1,I1,rx,G1,d,hG,rd,a1⟩:=hZ2;refine wpAny_Slice ?_;rw[MX];refine i0 (i0 ?_);rw[evalPart_some];refine thn ((iF Yf (Kp (i:=1) (j:=j) (pos:=p1))) pins s1 σ H1 (λv H2=>v=.int (-1)/\H2=H1) I1 ⟨1,rfl,rfl,rfl⟩) λu s2 hZ2=>?_;obtain⟨y,H2,I2,ry,ey,eh⟩:=hZ2;subst ey eh;obtain⟨tk,rfl⟩:=ry;cases d with
 |tuple ds=>
  obtain⟨q,xs,rfl,h1,l1⟩:=rd;cases rx;have I3:Inv X pins σ H2 {s2 with heap:=s2.heap.push {cls:=.type "slice",data:=.fields #[.none,.none,.int (-1) tk]}}:=I2.kept (t':=s2.toks) λb ob q=>l8 _ q;obtain⟨z,its,rv,ht⟩:=Kn I3 hG h1;show wpAny (u7 X.prog X.w) X.A (KZ a _ (.ref q) (.ref s2.heap.objs.size)) (EP X pins σ Q) X.xe {s2 with heap:=s2.heap.push {cls:=.type "slice",data:=.fields #[.none,.none,.int (-1) tk]}};refine tail_any (ops:=[.ref q,.ref s2.heap.objs.size]) ht.typeIs BZ.lookup (Me ht (KQ ..) (by rw[<-rv.length];exact z) ?_) (by with_unfolding_all rfl)
  exact Zu (t':=s2.toks) I3 hG rv.reverse l1.reverse (by rw[CQ];exact z) a1
 |_=>exact(show False from a1).elim
end
noncomputable def okS(x:Str):Bool:=z0 x&&decide (x.length<=sizeLine)
section
def okS.out{x:Str}(h:okS x=true):z0 x=true/\x.length<=sizeLine:=by
 unfold okS at h;lia
end
end Sm
end
section
namespace Sm
open PySem PySem.Spec PyProof.Rows L2
noncomputable def Tv(x:Str)(lo hi:Option Int):Str:=if (((CG lo hi 1 x.length).length==x.length)=true) then x else ⟨((CG lo hi 1 x.length).filterMap (x.cps[·]?)).toArray⟩
def xL(d:f8)(lo hi:Option Int):Option f8:=match d with
 |.str x=>if okS (Tv x lo hi)=true then some (.str (Tv x lo hi)) else none
 |_=>none
def iH{v:g9}{o:Option Int}(h:LX v o):∃l:Option (Int×Tok),v=partValue l/\l.map (·.1)=o:=by
 cases h with
 |none=>exact⟨none,rfl,rfl⟩
 |int i t=>exact⟨some (i,t),rfl,rfl⟩
section
variable {X:Cx}
def rSlS:V->Option Int->Option Int->Hp->VK->Prop:=λx lo hi H Q=>∃z,x=.str z/\(Tv z lo hi).length<=sizeLine/\Q (.str (Tv z lo hi)) H
def sl_S:SlR X rSlS:=by
 rintro pins s σ H x v vl vu lo hi sl Q I rx hs pl pu ⟨z,e,hl,q⟩;subst e;obtain⟨t,rfl⟩:=rx;obtain⟨l,rfl,rfl⟩:=iH pl;obtain⟨u,rfl,rfl⟩:=iH pu;refine⟨"str",_,F.slot_str_getitem.lookup,typeIs_str _ _ _,?_⟩;refine wpAny_getItem_str_slice (l:=l) (u:=u) (st:=none) hs rfl ?_;unfold sliceMade slicePicked;unfold Tv at q hl;show(if ((1:Int)==1&&(CG (l.map (·.1)) (u.map (·.1)) 1 z.length).length==z.length)=true then Made.val (.str z t) else .str ⟨((CG (l.map (·.1)) (u.map (·.1)) 1 z.length).filterMap (z.cps[·]?)).toArray⟩).post _ s;have e1:((1:Int)==1)=true:=rfl
 rw[e1,OF];split
 .rename_i h
  rw[iq h]at q;exact⟨.str z,H,I,⟨_,rfl⟩,q⟩
 .rename_i h
  rw[ir h]at q hl;exact⟨hl,.str _,H,I.tok _,⟨_,rfl⟩,q⟩
def Ml(f:Dn->Res f8)(fl fh:Dn->Res (Option Int)):Dn->Res f8:=λδ=>(f δ).bind λd=>(fl δ).bind λl=>(fh δ).bind λu=>ofO (xL d l u)
def Mf{E:EK}{e:Expr}{lo hi:Option Expr}{f:Dn->Res f8}{fl fh:Dn->Res (Option Int)}{p2 pos:Pos}(he:DE X E e f)(hl:DO X E lo fl)(hu:DO X E hi fh):DE X E (.Subscript e (.Slice lo hi none p2) pos) (Ml f fl fh):=by
 refine PE.imp (bS sl_S he hl hu) λσ H Q hZ3=>?_;obtain⟨G,δ,S,aft⟩:=hZ3;refine K0 S aft λd v G1 H1 g1 r1 S1 a1=>?_;refine Mj (W:=λG H r=>Aft E G H r Q) S1 a1 (λg a=>Aft.grow g a) (λc a=>a) (λa=>a) λl G2 H2 g2 S2 a2=>?_;refine Mj (W:=λG H r=>Aft E G H r Q) S2 a2 (λg a=>Aft.grow g a) (λc a=>a) (λa=>a) λu G3 H3 g3 S3 a3=>?_;cases d with
 |str z=>
  simp only[xL]at a3;split at a3
  .rename_i ok
   exact⟨z,r1.1,(okS.out ok).2,a3 _ G3 H3 (Grow.refl S3.sub) ⟨rfl,okS.out ok⟩⟩
  .exact(show False from a3).elim
 |_=>exact(show False from a3).elim
end
noncomputable def rngD2(lo:Int)(n:Nat):List f8:=(CK n).map λ(i:Nat)=>DZ (lo+i*2)
def rng3:List f8->Res (List f8)
 |[.int i,.int j,.int 2]=>if 0<=i/\i<100000/\0<=j/\j<100000 then .ok (rngD2 i ((j-i+1)/2).toNat) else .no
 |_=>.no
section
variable {P:o9}{w:x8}{K:i5}{mg:Str->Option g9}{base:BL}{X:Cx}{N:List Str}{sc:Scope}{k:Nat}{df:Bool}{E:EK}{pos p px py pz tp:Pos}{a b c d e iter:Expr}{sts:List GC}{g1:Dn->Out}{src:Dn->Res (List f8)}{x y z:Str}
def st3(i j l:Nat):f8->Dn->Option Dn:=λd δ=>match d with
 |.tuple [a,b,c]=>some (((δ.set i (.sh a)).set j (.sh b)).set l (.sh c))
 |_=>none
def tg3(i j l:Nat):BG K (fU K 3 (Ax (O1 i) (Ax (O1 j) (Ax (O1 l) fV)))) (st3 i j l):=λG0 H0 G H σ δ δ1 d x Q S r e h=>by
 cases d with
 |tuple ds=>
  match ds,e with
  |[a,b,c],e=>
   cases e;obtain⟨p,xs,rfl,e1,l1⟩:=r;obtain⟨v,t,rfl,r1,l2⟩:=l1;obtain⟨v',v'',rfl,r2,r3⟩:=oC l2;exact⟨p,_,rfl,.inl (.inl (S.sr.sub _ _ e1)),rfl,v,[v',v''],rfl,v',[v''],rfl,v'',[],rfl,rfl,h _ (((S.set_sh r1).set_sh r2).set_sh r3)⟩
 |_=>cases e
def fB{x1:Nat}(C:Cxt P w K mg base X N sc k df)(i j l:Nat)(hi':okSet N sc df i x=true)(hj:okSet N sc df j y=true)(hl:okSet N sc df l z=true)(hi:DI X E (.Tuple [.Name x px,.Name y py,.Name z pz] x1 tp) iter src)(hb:DSs X E sts g1)(hs:∀x,CB iter X.env x=pure x:=by intro _;rfl):
 DS X E (.For (.Tuple [.Name x px,.Name y py,.Name z pz] x1 tp) iter sts [] pos) (K7 src (st3 i j l) g1):=by
 obtain⟨h1',h2,h3,h4⟩:=okSet.ok C hi';obtain⟨_,q2,q3,q4⟩:=okSet.ok C hj;obtain⟨_,u2,u3,u4⟩:=okSet.ok C hl;have pg:=Zd (n:=3) (k:=x1) (pos:=tp) C.calm (U9 (O8 (pos:=px) h1' h2 h3 h4) (U9 (O8 (pos:=py) h1' q2 q3 q4) (U9 (O8 (pos:=pz) h1' u2 u3 u4) Qi)));rw[C.hK]at pg;exact nW C hi pg (tg3 i j l) hb hs
end
section
variable {P:o9}{w:x8}{K:i5}{mg:Str->Option g9}{base:BL}{X:Cx}{N:List Str}{sc:Scope}{k:Nat}{df:Bool}{E:EK}{pos:Pos}{a b c d e:Expr}{f g f':Dn->Res f8}
def Ho(C:Cxt P w K mg base X N sc k df)(ha:DE X E a f)(hb:DE X E b g)(hc:DE X E c f')(hm:KD [.LtE,.Lt] [b,c]=false:=by with_unfolding_all rfl):
 DT X E (.Compare a [.LtE,.Lt] [b,c] pos) (C3 (K6 f g f' (E6 .LtE) (E6 .Lt))):=by
 have hr:OpR X (CH .LtE) (bL .LtE):=Gg (.inr rfl) C.hu;have hr':OpR X (CH .Lt) (bL .Lt):=Gg (.inl rfl) C.hu;refine PT.imp (bO hr hr' ha hb hc hm) λσ H Q hZ3=>?_;obtain⟨G,δ,S,aft⟩:=hZ3;have aft':AftT E G H ((f δ).bind λx=>(g δ).bind λy=>(ofO (E6 .LtE x y)).bind λz=>(match z with
  |.bool true=>(f' δ).bind λu=>ofO (E6 .Lt y u)
  |.bool false=>.ok (.bool false)
  |_=>.no).bind λd=>ofO (Qs d)) Q:=by
  unfold C3 K6 at aft;simp only[Res.bind_assoc]at aft;exact aft
 refine U3 S aft' λd1 v1 G1 H1 g1 r1 S1 a1=>?_;refine U3 S1 a1 λd2 v2 G2 H2 g2 r2 S2 a2=>?_;cases e:E6 .LtE d1 d2 with
 |none=>rw[e]at a2;exact a2.elim
 |some d=>
  rw[e]at a2;obtain⟨kk,rfl⟩:=Fh _ _ _ e;refine Dt G2 H2 v1 v2 d1 d2 _ _ S2.sub (r1.mono g2.g) r2 e λv G3 H3 g3 r3=>⟨kk,r3,?_⟩;have S3:=S2.grow g3;cases kk with
  |false=>rw[ir (by decide)];exact⟨false,rfl,a2 G3 H3 g3⟩
  |true=>
   rw[iq rfl];have a3:AftT E G3 H3 ((f' δ).bind λu=>(ofO (E6 .Lt d2 u)).bind λd=>ofO (Qs d)) Q:=by
    have h0:AftT E G3 H3 (((f' δ).bind λu=>ofO (E6 .Lt d2 u)).bind λd=>ofO (Qs d)) Q:=AftT.grow g3 a2;rw[Res.bind_assoc]at h0;exact h0
   refine U3 S3 a3 λd4 v4 G4 H4 g4 r4 S4 a4=>?_;cases e':E6 .Lt d2 d4 with
   |none=>rw[e']at a4;exact a4.elim
   |some d=>
    rw[e']at a4;obtain⟨k2,rfl⟩:=Fh _ _ _ e';exact Dt G4 H4 v2 v4 d2 d4 _ _ S4.sub (r2.mono (g3.g.trans g4.g)) r4 e' λv G5 H5 g5 r5=>⟨k2,r5,a4 G5 H5 g5⟩
end
end Sm
end
section
namespace Sm
open PySem PySem.Spec PyProof.Rows PySem.W L2
section
variable {P:o9}{w:x8}{K:i5}{mg:Str->Option g9}{base:BL}{X:Cx}{N:List Str}{sc:Scope}{k:Nat}{df:Bool}{E:EK}{p px pl ap1 cp1 ap2 cp2 ep pos:Pos}{ke ve iter:Expr}{fk fv:Dn->Res f8}{src:Dn->Res (List f8)}{x y:Str}
def yI(C:Cxt P w K mg base X N sc k df)(i t:Nat)(ht:okSet N sc df t y=true)(h:okVar N sc i x=true)(hi:DI X E (.Name y px) iter src)(hk:DE X E ke fk)(hv:DE X E ve fv)
 (m2:M2 X (.Name x p) "setdefault" ap1 ke (.List [] pl) cp1) (hs:∀x,CB iter X.env x=pure x)
 (hbase:FK (.Call (.Attribute (.Name x p) "setdefault" ap1) [ke,.List [] pl] [] cp1) "append" X.env (eval (.Call (.Attribute (.Name x p) "setdefault" ap1) [ke,.List [] pl] [] cp1) X.env)=eval (.Call (.Attribute (.Name x p) "setdefault" ap1) [ke,.List [] pl] [] cp1) X.env)
 (hfew:((CD cp2 (i8 [ve] X.env)).all (λx=>!x.1)&&(HY cp2 (FL [] X.env)).all (λx=>x.1.isSome)&&decide ([ve].length+([]:List GX).length+(if ([]:List GX).isEmpty then 0 else 1)<30))=true)
 (hline:(ap2.endLine==cp2.line)=true) (hst:i8 [ve] X.env=(false,eval ve X.env)::i8 [] X.env) (hplain:(CD cp2 (i8 [] X.env)).any (·.1)=false)
 (hsw:FT (.Call (.Attribute (.Call (.Attribute (.Name x p) "setdefault" ap1) [ke,.List [] pl] [] cp1) "append" ap2) [ve] [] cp2) none ep.line X.env=pure false):
 DS X E (.For (.Name y px) iter [.Expr (.Call (.Attribute (.Call (.Attribute (.Name x p) "setdefault" ap1) [ke,.List [] pl] [] cp1) "append" ap2) [ve] [] cp2) ep] [] pos) (bH i t src M5 fk fv):=λG0 H0=>by
 obtain⟨d1,d2,d3,d4⟩:=okSet.ok C ht;have app:=Qg (pos:=ep) (Lx DP JU JT Jg (bT (by have:=C.hu;omega) (okVar.pe C h (p:=p)) hk (Sv (pos:=pl) N0) m2) (E8 hv N0 hst) hbase hfew hline hst hplain) hsw;refine PS.imp (fE (pos:=pos) C.own C.calm hi (O8 d1 d2 d3 d4) (Gd app) hs) λD σ H hh=>?_;obtain⟨G,δ,S,aft⟩:=hh;unfold bH at aft;split at aft
 .rename_i hsl
  obtain⟨q,hσ,hgq,ho⟩:=S.sr.own hsl;obtain⟨kk0,hx,hkeys,_⟩:=(show OwnK G H q [.dict [],.none] from ho);have hk0:kk0=[]:=by
   cases kk0 with
   |nil=>rfl
   |cons _ _=>cases hkeys
  subst hk0;have hil:i<δ.length:=(x4.mp hsl).1;have hq0:H0 q=none:=S.fr i _ q hsl (by rw[hσ];rfl);refine gR (S.forget i) aft λds J G1 H1 gr W S1 a1=>?_;split at a1
  .rename_i hcond
   obtain⟨hlen,hit⟩:=hcond;have g01:=S1.gr;cases eout:Gh ((δ.set i .un).set t .un) t M5 fk fv ds [] with
   |ok out=>
    rw[eout]at a1;have S2:=(S1.forget t).rebase g01 (Same.refl _);generalize hδv:(δ.set i .un).set t .un=δv at *;have apv:∀(j:Nat) (d:f8) (a:i9),δv[j]?=some (.ow d)->δ[j]?=some (.ow d)/\j≠i:=λj d a e=>by
     rw[<-hδv,E7]at e;split at e
     .cases e
     .rw[E7]at e
      split at e
      .cases e
      .rename_i hn
       exact⟨e,λz=>by subst z;exact hn ⟨rfl,hil⟩⟩
    have hG1q:G1 q=none:=by
     cases z:G1 q with
     |none=>rfl
     |some u=>
      rcases gr.fr q u z with y |y |⟨ys,rfl⟩
      .rw[hgq]at y;cases y
      .rw[hx]at y;cases y
      .have:=gr.gh _ _ z;rw[gr.h _ _ hx]at this;cases this
    refine⟨λn m τ Hc=>m=ds.length-n/\n<=ds.length/\∃kvs,GrpAt G1 H0 H1 i q δv n τ Hc kvs/\Gh δv t M5 fk fv (ds.drop n) kvs=.ok out,⟨_,rfl,ER _,[],⟨⟨G1,[],S2,hG1q,gr.h _ _ hx,trivial,.nil,s0 _,λ_ h=>nomatch h⟩,hσ,λj d a e1 e2=>?_,λb o e=>⟨o,e⟩⟩,by rw[IN];exact eout⟩,?_⟩
    .obtain⟨e3,hne⟩:=apv j d a e1
     refine⟨λz=>hne (S.sr.ap j i q d _ e3 hsl (z▸e2) (by rw[hσ];rfl)),?_⟩;obtain⟨a',h1,_,h3⟩:=S.sr.sl j _ e3;rw[e2]at h1;cases h1;obtain⟨o,z⟩:=h3.some;exact⟨o,gr.h _ _ z⟩
    rintro n m τ Hc ⟨rfl,hn,kvs,⟨⟨Gc,kk,Sc,gq,dq,nl,nd,kl,rl⟩,hτ,ap,kp⟩,eg⟩;by_cases hlt:n<ds.length
    .have hd:ds[n]?=some ds[n]:=BY hlt
     rw[EA hlt]at eg;unfold Gh at eg;refine .inr ⟨W.go n Hc hlt (Sc.gr.g.trans Sc.sr.sub),λτ2 H2=>∃kvs,GrpAt G1 H0 H1 i q δv (n+1) τ2 H2 kvs/\Gh δv t M5 fk fv (ds.drop (n+1)) kvs=.ok out,λτ2 H2 z=>⟨_,by omega,rfl,hlt,z⟩,λv H'' hy=>?_⟩;obtain⟨G3,g3,r3⟩:=W.yld n _ Gc Hc v H'' hd Sc.gr.g Sc.sr.sub hy;have S3:=(Sc.grow g3).set_sh (i:=t) r3;have nl3:=nl.grow g3;have dq3:=g3.h _ _ dq;have gq3:G3 q=none:=g3.stay gq dq λys z=>by cases z
     have h01:Same H0 H1:=S1.gr.h;have hback:((δv.set t (.sh ds[n])).set t .un)=δv:=by rw[<-hδv];simp
     have hτp:(τ.set t (some v))[i]?=some (some (.ref q)):=by rw[FG (Ne.symm hit)];exact hτ
     have htv:∀(j:Nat) (d:f8),δv[j]?=some (.ow d)->j≠t:=λj d e z=>by
      subst z;rw[<-hδv,E7]at e;split at e
      .cases e
      .rename_i hn
       have:=(x4.mp e).1;rw[LB]at this;exact hn ⟨rfl,by rw[LB];exact this⟩
     have ap':∀(j:Nat) (d:f8) (a:i9),δv[j]?=some (.ow d)->(τ.set t (some v))[j]?.join=some (.ref a)->a≠q/\∃o,H1 a=some o:=λj d a e1 e2=>by
      rw[FG (Ne.symm (htv j d e1))]at e2;exact ap j d a e1 e2
     have apb:∀(j:Nat) (d:f8) (a:i9),(δv.set t (.sh ds[n]))[j]?=some (.ow d)->(τ.set t (some v))[j]?.join=some (.ref a)->a≠q/\∃o,H1 a=some o:=λj d a e1 e2=>by
      rw[E7]at e1;split at e1
      .cases e1
      .exact ap' j d a e1 e2
     generalize hδb:δv.set t (.sh ds[n])=δb at *;have fin:∀(Gz Hz:Hp) (kz:List (f8×f8)) (kkz:List (f8×i9×List V)),SSt G1 H0 Gz Hz (τ.set t (some v)) δb->Gz q=none->Hz q=some (.dN (prs kkz))->NL Gz Hz H1 kz kkz->(kkz.map (·.2.1)).Nodup->kkz.length<=n+1->(∀r∈kkz,r.2.2.length<=n+1)->(∀b o,H1 b=some o->∃o',Hz b=some o')->GrpAt G1 H0 H1 i q δv (n+1) (τ.set t (some v)) Hz kz:=λGz Hz kz kkz s1 s2 s3 s4 s5 s6 s7 s8=>by
      have:=s1.forget t;rw[hback]at this;exact⟨⟨Gz,kkz,this,s2,s3,s4,s5,s6,s7⟩,hτp,ap',s8⟩
     rw[show M5 δb=.ok true from rfl]at eg;have g4:Grow G3 H'' G3 H'':=Grow.refl S3.sr.sub;have S4:=S3.grow g4;have nl4:=nl3.grow g4;have dq4:=g4.h _ _ dq3;have kp4:=K5 g4.h (K5 g3.h kp);have gq4:G3 q=none:=g4.stay gq3 dq3 λys z=>by cases z
     .skip
      .dsimp only at eg
       cases efk:fk δb with
       |exc _=>rw[efk]at eg;cases eg
       |no=>rw[efk]at eg;cases eg
       |ok kd=>
        rw[efk]at eg;dsimp only at eg;cases efv:fv δb with
        |exc _=>rw[efv]at eg;cases eg
        |no=>rw[efv]at eg;cases eg
        |ok vd=>
         rw[efv]at eg;dsimp only at eg;split at eg
         .rename_i hnk
          refine⟨.ref q,hτp,q,prs kk,rfl,dq4,G3,δb,S4.sr,?_⟩;rw[efk];intro y5 G5 H5 g5 r5;have S5:=S4.grow g5;refine⟨ER _,λp hp=>?_⟩;have g6:Grow G5 H5 G5 (upd H5 p (.lst [])):=Grow.own S5.sr.sub hp;have S6:=S5.grow g6;have nl6:=(nl4.grow g5).grow g6;have dq5:=g5.h _ _ dq4;have hpq:q≠p:=D9 dq5 hp;have dq6:(upd H5 p (.lst [])) q=some (.dN (prs kk)):=g6.h _ _ dq5;have gq5:G5 q=none:=g5.stay gq4 dq4 λys z=>by cases z
          have hz:(prs kk).length<sizeLine:=by
           have:(1000:Nat)<=sizeLine:=by decide
           rw[i7];omega
          refine⟨prs kk,kd,dq6,Km S6.sr.sub hnk r5,hnk,hz,λv0 hv0=>?_,λhn0=>?_⟩
          .obtain⟨l,xs,e1,⟨r0,m0,e0⟩,_⟩:=NL.put nl6 nd hv0
           subst e1;have hm6:=nl6.mem r0 m0;rw[e0]at hm6;refine⟨.inl ⟨rfl,xs,.inl (.inl hm6.1)⟩,G5,δb,S6.sr,?_⟩;rw[efv];intro y7 G7 H7 g7 r7;have S7:=S6.grow g7;have nl7:=nl6.grow g7;have dq7:=g7.h _ _ dq6;have gq7:G7 q=none:=g7.stay gq5 dq6 λys z=>by cases z
           have hm7:=nl7.mem r0 m0;rw[e0]at hm7;have hxs:xs.length<=n:=by have:=rl r0 m0;rw[e0]at this;exact this
           have hql:q≠l:=Ly dq7 hm7.1 λz=>by cases z
           obtain⟨l',xs',e1',⟨r1,m1,e1r⟩,kp⟩:=NL.put nl7 nd hv0;cases e1';have hm1:=nl7.mem r1 m1;rw[e1r]at hm1;have exs:xs'=xs:=by have:=hm1.1.symm.trans hm7.1;cases this;rfl
           subst exs;obtain⟨kk',k1,k2,k3,k4⟩:=kp y7 vd r7;refine⟨l,xs',y7,rfl,rfl,hm7.1,HA hxs (y9 (show n<1000 by omega) (by decide)),Iy kvs kd vd,fin G7 _ _ kk' (S7.off (T9 S7.gr.h (h01.free hm7.2.2)) (T9 S7.sr.sub hm7.2.1) λj d a z1 z2=>?_) gq7 (by rw[B7 hql,k1];exact dq7) k4 (by rw[k2];exact nd) ?_ (λr hr=>?_) (Fb (K5 g7.h (K5 g6.h (K5 g5.h kp4)))),eg⟩
           .obtain⟨_,o,ho⟩:=apb j d a z1 z2
            rw[B7 (D9 ho hm7.2.2)]
           .have:=congrArg GU k2
            rw[i7,i7]at this;omega
           .rcases k3 r hr with z |z
            .omega
            .exact GJ (rl r z)
          .have hH1p : H1 p = none:= by
            cases z:H1 p with
            |none=>rfl
            |some u=>
             obtain⟨o',w⟩:=K5 g5.h kp4 p u z;rw[hp]at w;cases w
           have hG5p:G5 p=none:=S5.sr.sub.free hp;have hp6:(upd H5 p (.lst [])) p=some (.lst []):=C8;have S7:SSt G1 H0 G5 (upd (upd H5 p (.lst [])) q (.dN (prs kk++[(kd,.ref p)]))) (τ.set t (some v)) δb:=S6.off (T9 S6.gr.h hq0) (T9 S6.sr.sub gq5) λj d a z1 z2=>by rw[B7 (apb j d a z1 z2).1]
           have hp7:(upd (upd H5 p (.lst [])) q (.dN (prs kk++[(kd,.ref p)]))) p=some (.lst []):=by rw[B7 (Ne.symm hpq)];exact hp6
           refine⟨.inl ⟨rfl,[],.inl (.inl hp7)⟩,G5,δb,S7.sr,?_⟩;rw[efv];intro y8 G8 H8 g8 r8;have S8:=S7.grow g8;have hp8:=g8.h _ _ hp7;have gp8:G8 p=none:=g8.stay hG5p hp7 λys z=>by cases z
           have dq7:(upd (upd H5 p (.lst [])) q (.dN (prs kk++[(kd,.ref p)]))) q=some (.dN (prs kk++[(kd,.ref p)])):=C8;have dq8:=g8.h _ _ dq7;have gq8:G8 q=none:=g8.stay gq5 dq7 λys z=>by cases z
           have nl7:NL G5 (upd (upd H5 p (.lst [])) q (.dN (prs kk++[(kd,.ref p)]))) H1 kvs kk:=nl6.keep (Same.refl _) λr _ e n _=>⟨by rw[B7 (Ly e dq6 λz=>by cases z)];exact e,n⟩;have hne:∀r∈kk,r.2.1≠p:=λr hr=>D9 ((nl4.grow g5).mem r hr).1 hp;have nl9:NL G8 (upd H8 p (.lst [y8])) H1 kvs kk:=(nl7.grow g8).keep (Same.refl _) λr hr e n _=>⟨by rw[B7 (hne r hr)];exact e,n⟩;refine⟨p,[],y8,rfl,rfl,hp8,by show 0<sizeLine;decide,Iy kvs kd vd,fin G8 _ _ (kk++[(kd,p,[y8])]) (S8.off (T9 S8.gr.h (h01.free hH1p)) (T9 S8.sr.sub gp8) λj d a z1 z2=>?_) gq8 ?_ (NL.new r8 ⟨C8,gp8,hH1p⟩ nl9 hn0) ?_ (by rw[k7];show _+1<=_;omega) (λr hr=>?_) (Fb (K5 g8.h (Fb (K5 g6.h (K5 g5.h kp4))))),eg⟩
           .obtain⟨_,o,ho⟩:=apb j d a z1 z2
            show(upd H8 p (.lst ([]++[y8]))) a=H8 a;rw[B7 (D9 ho hH1p)]
           .show(upd H8 p (.lst ([]++[y8]))) q=_
            rw[B7 hpq,dq8];unfold prs;rw[z4];rfl
           .rw[z4,KB]
            refine⟨nd,by simp,λa ha b hb=>?_⟩;obtain⟨r,hr,rfl⟩:=t8.mp ha;have:b=p:=by simpa using hb
            subst this;exact hne r hr
           .rcases m6.mp hr with hr |hr
            .exact GJ (rl r hr)
            .rw[m9.mp hr];show 1<=n+1;omega
         .cases eg
    .refine .inl ⟨W.stop n Hc (GD.mp hlt) (Sc.gr.g.trans Sc.sr.sub),?_⟩
     rw[FV (GD.mp hlt)]at eg;cases eg;have hq':q∉kk.map (·.2.1):=λz=>by
      obtain⟨r,hr,e⟩:=t8.mp z;have:=(nl.mem r hr).1;rw[e,dq]at this;cases this
     have Su:=Sc.unbase g01;have sm:=nl.same;have gh:Same (shG (kk.map (·.2.1)) Gc Hc) Hc:=λb u e=>by
      by_cases m:b∈kk.map (·.2.1)
      .rw[eT m]at e;exact e
      .rw[Ca m]at e;exact Sc.sr.sub _ _ e
     refine a1 τ (shG (kk.map (·.2.1)) Gc Hc) Hc ⟨⟨Su.gr.g.trans sm,Su.gr.h,gh,λb o e=>?_⟩,⟨gh,?_,λj s e=>?_,λj1 j2 a e1' e2' z1 z2 h1 h2=>?_⟩,λj d a e h=>?_⟩
     .by_cases m:b∈kk.map (·.2.1)
      .obtain⟨r,hr,rfl⟩:=t8.mp m
       exact .inr (.inl (S1.gr.h.free (nl.mem r hr).2.2))
      .rw[Ca m]at e;exact Su.gr.fr b o e
     .have:=Sc.sr.len
      rw[<-hδv]at this;simpa using this
     .rw[E7]at e
      split at e
      .cases e;trivial
      .rename_i hjt
       rw[E7]at e;split at e
       .rename_i hji
        cases e;rw[<-hji.1,hτ];exact⟨q,rfl,by rw[Ca hq'];exact gq,prs kk,dq,nl.keys,nl.vals sm λr hr=>BW hr⟩
       .rename_i hji
        have ev:δv[j]?=some s:=by
         rw[<-hδv,E7,ir (by simpa using hjt),E7,ir hji];exact e
        have hs:=Sc.sr.sl j s ev;cases s with
        |un=>trivial
        |sh d=>obtain⟨v,e1,r1⟩:=hs;exact⟨v,e1,r1.mono sm⟩
        |fd _=>exact FdOk.mono sm hs
        |ow d=>
         obtain⟨a,e1,n1,ok⟩:=hs;have hna:a∉kk.map (·.2.1):=λz=>by
          obtain⟨r,hr,er⟩:=t8.mp z;obtain⟨_,o,ho⟩:=ap j d a ev e1;have:=(nl.mem r hr).2.2;rw[er,ho]at this;cases this
         exact⟨a,e1,by rw[Ca hna];exact n1,ok.monoG sm⟩
     .have key : ∀ (j : Nat) (d : f8),((δ.set i (.ow (.tuple [.dict out,.none]))).set t .un)[j]? = some (.ow d) -> j = i \/ δv[j]? = some (.ow d):= λj d e => by
       rw[E7]at e;split at e
       .cases e
       .rename_i hjt
        rw[E7]at e;split at e
        .rename_i hji;exact .inl hji.1.symm
        .rename_i hji
         exact .inr (by rw[<-hδv,E7,ir (by simpa using hjt),E7,ir hji];exact e)
      rcases key j1 _ z1 with rfl |y1
      .rcases key j2 _ z2 with rfl |y2
       .rfl
       .rw[hτ]at h1;cases h1
        exact absurd rfl (ap j2 _ _ y2 h2).1
      .rcases key j2 _ z2 with rfl |y2
       .rw[hτ]at h2;cases h2
        exact absurd rfl (ap j1 _ _ y1 h1).1
       .exact Sc.sr.ap j1 j2 a _ _ y1 y2 h1 h2
     .rw[E7]at e
      split at e
      .cases e
      .rename_i hjt
       rw[E7]at e;split at e
       .rename_i hji
        rw[<-hji.1,hτ]at h;cases h;exact hq0
       .rename_i hji
        exact Sc.fr j d a (by rw[<-hδv,E7,ir (by simpa using hjt),E7,ir hji];exact e) h
   |exc _=>rw[eout]at a1;exact(show False from a1).elim
   |no=>rw[eout]at a1;exact(show False from a1).elim
  .exact(show False from a1).elim
 .exact(show False from aft).elim
end
noncomputable def flB(i:Nat):List Bool:=[i==0,i==1,i==2]
abbrev flV(i:Nat):List V:=(flB i).map .bl
section
variable {X:Cx}
theorem Yc:∀{bs:List Bool} {us:List g9},Vals (bs.map V.bl) us->us=bs.map EF
 |[],_,h=>by cases h;rfl
 |b::bs,_,h=>by
  cases h with
  |cons hq q=>rw[show _=EF b from hq,Yc q];rfl
noncomputable def isT(v:g9):Bool:=match v with
 |.bool b=>b
 |_=>false
def xI{bs:List Bool}{y:g9}(h:y∈(bs.map EF).toArray)(A:BO)(s:i6):SeqAt.EqAt A s y (.bool true) (isT y):=by
 obtain⟨b,_,rfl⟩:=t8.mp (List.mem_toArray.mp h);have:=SeqAt.EqAt.bool_bool (A:=A) (s:=s) b true;cases b <;> exact this
def rCnt3(i:Nat):V->List V->Hp->VK->Prop:=λx xs H Q=>∃l,x=.ref l/\xs=[.bl true]/\H l=some (.lst (flV i))/\Q (.int 1) H
def cnt3{i:Nat}(hi:i<3):((flB i).map EF).countP isT=1:=by
 match i,hi with
 |0,_=>rfl
 |1,_=>rfl
 |2,_=>rfl
def uI{i:Nat}(hi:i<3):MtR X "list.count" (rCnt3 i):=by
 rintro pins s σ H x vs v us Q I rx rv ⟨l,hx,hxs,hH,q⟩;subst hx hxs;cases (show v=CU l from rx);obtain⟨u,rfl,ru⟩:=rv.one;cases (show u=EF true from ru);obtain⟨z,its,n,r,e⟩:=X3 I (Same.refl _) (.inl hH);have hz:=Yc r;subst hz;refine JJ F.slot_list_count ⟨_,e,rfl⟩ F.entry_list_count (F.args_list_count_2 _ _) (SeqAt.list_countAt l ((flB i).map EF).toArray n none #[] (.bool true) isT) ⟨e,λy hy=>xI hy _ _,?_⟩;have hc:(((flB i).map EF).toArray.toList.countP isT:Nat)=1:=cnt3 hi;rw[hc];exact⟨.int 1,H,I.tok _,⟨_,rfl⟩,q⟩
def rIdx3(i:Nat):V->List V->Hp->VK->Prop:=λx xs H Q=>∃l,x=.ref l/\xs=[.bl true]/\H l=some (.lst (flV i))/\Q (.int (i:Int)) H
def idx3{i:Nat}(hi:i<3):isT (((flB i).map EF).toArray[i]'(show i<3 from hi))=true/\∀m (hm:m<((flB i).map EF).toArray.size),m<i->isT (((flB i).map EF).toArray[m])=false:=by
 match i,hi with
 |0,_=>exact⟨rfl,λm _ h=>absurd h (Nat.not_lt_zero _)⟩
 |1,_=>exact⟨rfl,λm _ h=>by match m,h with |0,_=>rfl⟩
 |2,_=>exact⟨rfl,λm _ h=>by match m,h with |0,_=>rfl |1,_=>rfl⟩
def uH{i:Nat}(hi:i<3):MtR X "list.index" (rIdx3 i):=by
 rintro pins s σ H x vs v us Q I rx rv ⟨l,hx,hxs,hH,q⟩;subst hx hxs;cases (show v=CU l from rx);obtain⟨u,rfl,ru⟩:=rv.one;cases (show u=EF true from ru);obtain⟨z,its,n,r,e⟩:=X3 I (Same.refl _) (.inl hH);have hz:=Yc r;subst hz;refine JJ F.slot_list_index ⟨_,e,rfl⟩ F.entry_list_index (F.args_list_index_2 _ _) (SeqAt.list_indexAt l ((flB i).map EF).toArray n none #[] (.bool true) isT i (show i<3 from hi) (by lia) (idx3 hi).1 (idx3 hi).2) ⟨e,λy hy=>xI hy _ _,?_⟩;exact⟨.int (i:Int),H,I.tok _,⟨_,rfl⟩,q⟩
end
def gU(CN:i9)(i:Nat):TS:=λD σ H=>∃a,σ.length=2/\σ[0]?=some (some (.ref a))/\H a=some (.ext (ExcAt' a CN))/\∀l p,H l=none->(upd H l (.lst (flV i))) p=none->D.rt (.ref p) (upd (upd H l (.lst (flV i))) p (.tup [.str "refused",.int (i:Int)]))
noncomputable def offX(X:Cx)(A:BO):Cx:={X with A:=A,calm:=false,xe:=λ_ _=>False}
noncomputable abbrev Xy(A:BO):BO:={A with handled:=none}
theorem Inv.offX{X:Cx}{pins:List (i9×Obj)}{σ:St}{H:Hp}{s:i6}(I:Inv X pins σ H s)(A1:BO)(hf:A1.frames=X.A.frames):Inv (offX X A1) pins σ H s:=
 ⟨⟨I.ok.mod,I.ok.kind,I.ok.glob,I.ok.blt,I.ok.above,I.ok.inj,I.ok.has,I.ok.cab,(λz=>by cases z),hf.trans I.ok.frames,I.ok.stk,I.ok.exf,I.ok.bs,I.ok.bsz,I.ok.noex,I.ok.exfs,I.ok.funs,I.ok.frf⟩,I.os,I.bare,I.base,I.loc,I.cell,I.free,I.freeC,I.pin,I.hok,I.len⟩
def yN{P:o9}{w:x8}{K:i5}{mg:Str->Option g9}{base:BL}{k:Nat}{f CN:i9}{i:Nat}{name qual:Str}{params:Arguments}{body:List GC}{scope:Scope}{dV kV doc pm cdv ct oc:g9}{an od:Option i9}
 {osl:Array (Option g9)} {N ps:List Str} (lk:K.lookup f=some ⟨oc,od,.func (CF name qual params body scope dV kV doc pm an cdv ct),osl⟩) (hcd:FD K cdv qual=true) (S:FnScope N ps scope) (hN:N.length=2) (hps:ps.length=1)
 (hbody:∀X A1,Cxt P w K mg base X N scope k true->PSs (offX X A1) body (gU CN i)) {A:BO} {outer:List Env} {s:i6} {H:Hp} {args:Args} {us:List g9} {a:i9} {Q:VK} {E:XK}
 (hr:Room (k+1) (Xy A)) (e0:Env0 P w K mg base A outer s H) (hb:OQ s (CF name qual params body scope dV kV doc pm an cdv ct) args (ps.zip us)) (r:Vals [.ref a] us) (hH:H a=some (.ext (ExcAt' a CN)))
 (q:∀l p,H l=none->(upd H l (.lst (flV i))) p=none->Q (.ref p) (upd (upd H l (.lst (flV i))) p (.tup [.str "refused",.int (i:Int)]))):
 IJ (u7 P w) A (.call (.ref f) args) (CR CX0 outer P w H s Q E) s:=by
 have e0':Env0 P w K mg base (Xy A) outer s H:=⟨e0.frames,e0.mod,e0.bs,e0.bsz,e0.funs,e0.frf,e0.hok,e0.bare⟩;have KX:K.In s.heap:=e0.mod.kin.keeps λb o e=>(e0.bs b o e).1;have lim:s.heap.NoLimit:=e0.mod.nolimit.keeps λb o e=>(e0.bs b o e).1;have hkind:∀y∈ps.zip us,scope.names.lookup y.1=some .local\/(scope.names.lookup y.1=some .cell/\((cellsFrom (s.heap.objs.size+1) scope.names []).lookup y.1).isSome=true):=λ⟨n,v⟩ hy=>by
  rcases S.par n (LA hy).1 with z |z
  .exact .inl z
  .exact .inr ⟨z,KN _ _ _ (.inl z)⟩
 refine codeAny_call_function (show A.depth<OU from hr.depth) (KX _ _ lk) rfl S.co S.gen rfl (OY KX hcd) (hb _ _ _ _ ?_);refine OR S.kind hkind λenv he s1 x=>?_;subst he;refine⟨lim.keeps x.toInCall.keep,codeAny_func ?_⟩;have I0:Inv (Zz CX0 P w K mg base N qual scope f cdv (Xy A) outer s H E) [] (Aq N [.ref a]) H s1:=Xe S rfl e0' (by rw[hps];rfl) r x;have I:=Sm.Inv.offX I0 (A.deeper (envOfC qual scope s.heap.objs.size f cdv)) rfl;have C0:Cxt P w K mg base (Zz CX0 P w K mg base N qual scope f cdv (Xy A) outer s H E).nox N scope k true:=⟨rfl,rfl,rfl,rfl,rfl,rfl,rfl,rfl,hr.deeper _,λ_ _=>rfl,GS⟩
 refine DG (hbody _ (A.deeper (envOfC qual scope s.heap.objs.size f cdv)) C0 [] s1 (Aq N [.ref a]) H {nx:=λ_ H'=>Q .non H',rt:=Q} I ⟨a,?_,rfl,hH,q⟩) (λfl s' hs=>?_) (λ_ _ z=>z.elim)
 .unfold L2.Aq;simp[hN]
 .cases fl with
  |ret u=>
   obtain⟨v,σ',H',J,rv,q'⟩:=hs;exact⟨v,H',J.os,J.bare,J.base,J.hok,rv,q'⟩
  |next=>
   obtain⟨σ',H',J,q'⟩:=hs;exact⟨V.non,H',J.os,J.bare,J.base,J.hok,rfl,q'⟩
  |brk=>obtain⟨σ',H',J,q'⟩:=hs;exact(show False from q').elim
  |cont=>obtain⟨σ',H',J,q'⟩:=hs;exact(show False from q').elim
structure FnE3(P:o9)(w:x8)(K:i5)(mg:Str->Option g9)(base:BL)(CN:i9)(i:Nat)(x:Str)(k:Nat):Prop where
 ex:∃f fd ps,ps.length=1/\mg x=some (.ref f)/\BR K (.ref f)=true/\Binds K fd ps []/\∀{A:BO} {outer:List Env} {s:i6} {H:Hp} {args:Args} {us:List g9} {a:i9} {Q:VK} {E:XK},
  Room k (Xy A)->Env0 P w K mg base A outer s H->OQ s fd args (ps.zip us)->Vals [.ref a] us->H a=some (.ext (ExcAt' a CN)) ->
  (∀l p,H l=none->(upd H l (.lst (flV i))) p=none->Q (.ref p) (upd (upd H l (.lst (flV i))) p (.tup [.str "refused",.int (i:Int)])))->IJ (u7 P w) A (.call (.ref f) args) (CR CX0 outer P w H s Q E) s
section
variable {P:o9}{w:x8}{K:i5}{mg:Str->Option g9}{base:BL}{X:Cx}{N:List Str}{k:Nat}{CN:i9}{i:Nat}
def qS{x:Str}{st:GC}{ps:List Str}(F:Def K mg x st ps)(S:FnScope N ps (A5 st))(hN:N.length=2)(hps:ps.length=1)(hbody:∀X A1,Cxt P w K mg base X N (A5 st) k true->PSs (offX X A1) (B6 st) (gU CN i)):FnE3 P w K mg base CN i x (k+1):=by
 obtain⟨f,fd,F,hmg,hb⟩:=F.ex;have kp:=F.kp;obtain⟨oc,od,kV,doc,pm,an,cdv,ct,osl,rfl,lk,hcd⟩:=F.ex;exact⟨f,_,ps,hps,hmg,kp,hb,λhr e0 hb' r hH q=>yN lk hcd S hN hps hbody hr e0 hb' r hH q⟩
end
noncomputable def U8(i:Nat):f8:=.tuple [.str "refused",.int (i:Int)]
def rK{X:Cx}{CX:CXT}{j:Nat}{f:i9}{fd:IB}{ps:List Str}{sp:Sp}{E:XK}{pos:Pos}{e:Expr}{es:List Expr}{t:TA}{pins:List (i9×Obj)}{σ:St}{H:Hp}{s:i6}{Q:VK}
 (F:FnOk X.prog X.w X.K X.mg X.base CX j f fd ps sp) (hr:Room j X.A) (hk:BR X.K (.ref f)=true) (hb:Binds X.K fd ps []) (ha:PA X (e::es) t) (I:Inv X pins σ H s) (h:t σ H λvs H1=>sp vs H1 Q E)
 (hx:∀H1 s1 e s',Inv X pins σ H1 s1->CX X.stack H1 s1 E e s'->X.xe e s') (he:i8 (e::es) X.env=(false,eval e X.env)::i8 es X.env) (hpl:(CD pos (i8 es X.env)).any (·.1)=false):
 wpAny (u7 X.prog X.w) X.A (callWith pos (.ref f) [] (CD pos (i8 (e::es) X.env)) (HY pos (FL [] X.env))) (EP X pins σ Q) X.xe s:=by
 refine LV (h₀:=X.base) I.ok.mod.kin hk (thn (ha pos pins s σ H _ I h) λus s1 hY1=>?_) he hpl;obtain⟨vs,H1,I1,r,q⟩:=hY1;refine⟨I1.kIn,?_⟩;have hl:(us++[]).length=ps.length:=by rw[u8,<-r.length];exact F.len _ _ _ _ q
 have hbt:=hb s1 us I1.kIn hl;rw[u8]at hbt;refine NC (JZ (F.run X.A X.stack s1 H1 ⟨us,[]⟩ us vs Q E hr I1.env0 hbt r q) λr s' hq=>?_);cases r with
 |error e=>exact hx H1 s1 e s' I1 hq
 |ok fl=>
  cases fl with
  |ret u=>exact I1.after hq
  |next=>exact GA hq
  |brk=>exact GA hq
  |cont=>exact GA hq
def rJ{M:NR}{A:BO}{E:g9->i6->Prop}{s:i6}{v sl:Expr}{p pos:Pos}{args:List Expr}{env:Env}{Q:g9->i6->Prop}(h:wpAny M A (eval (.Subscript v sl p) env) (λf s1=>wpAny M A (callWith pos f [] (CD pos (i8 args env)) (HY pos (FL [] env))) Q E s1) E s):
 wpAny M A (eval (.Call (.Subscript v sl p) args [] pos) env) Q E s:=by
 show wpAny M A (eval (.Subscript v sl p) env>>=λf=>callWith pos f [] (CD pos (i8 args env)) (HY pos (FL [] env))) Q E s;exact f9 h
end Sm
end
section
namespace Sm
open PySem PySem.Spec PyProof.Rows L2
noncomputable def Y9:f8->Bool
 |.none=>true
 |.int i=>decide (i.natAbs.log2<1920)&&decide ((FE (toString i)).length<=1000)
 |.str x=>decide ((reprText x).length<=1000)
 |_=>false
def Dq(y:Str)(f:Dn->Res f8):Dn->Out:=λδ=>K1 (f δ) λd=>if Na d=true\/Y9 d=true then .exc y else .no
section
variable {P:o9}{w:x8}{K:i5}{mg:Str->Option g9}{base:BL}{X:Cx}{N:List Str}{sc:Scope}{k:Nat}{df:Bool}{pos p p2:Pos}{a:Expr}{f:Dn->Res f8}{CN:i9}{Ex:XK}
def Si{z y:Str}{j:Nat}{np cpos p3 p4:Pos}(C:Cxt P w K mg base X N sc k df)(L:Lv X Ex)(hex:X.ex=[])(hgd:X.A.guards=some [])(O:ExcAt K mg y CN)(h:okGl sc y=true)(ha:DE X (eX CN Ex) a f)(hz:z.length<=1000:=by decide+kernel):
 DS X (eX CN Ex) (.Raise (some (.Call (.Name y np) [.JoinedStr [.Constant (.str z) j p,.FormattedValue a 114 none p2] p3] [] cpos)) none pos) (Dq y f):=λG0 H0 pins s σ H D I hZ8=>by
 obtain⟨G,δ,S,aft⟩:=hZ8;obtain⟨g1,g2,g3⟩:=okGl.gl C h;have KX:X.K=K:=C.hK;obtain⟨bm,Nn,nm,q,bs,hdct,sn,sub,ab,col,dd,k0,k1,k2,k3,k5,mN,hC,hN,hni,T⟩:=(O.own (h:=X.base) (by rw[<-KX];exact I.mod.kin)).obj;have FB:=NH;refine wpAny_Raise_call_subT (C:=CN) (nm:=nm) (q:=q) (N:=Nn) (bs:=bs) (bm:=bm) (hdct:=hdct) (sn:=sn) (sub:=sub) (ab:=ab) (col:=col) (dd:=dd) (k0:=k0) (k1:=k1) (k2:=k2) (k3:=k3) (k5:=k5) FB (mN:=mN) (T.hasType FB.hasBase) (I.ok.hd C.calm) rfl hni (Dv I g1 (by rw[C.hmg];exact O.bound) ⟨rfl,?_⟩ g2);refine HN (EV ?_);rw[ir (by decide)]
 refine JoinedStr_many (pos:=p3) (MN (ME ?_));have sz:(2000:Nat)<=sizeLine:=by decide
 have l0:(GQ++z).length<=1000:=by rw[JG];exact(show GQ.length+z.length<=1000 from by have:GQ.length=0:=rfl;omega)
 refine⟨by omega,MN (xH ?_)⟩;refine thn (ha pins _ σ H (λv H1=>∃G1 d,Rep G1 d v/\SSt G0 H0 G1 H1 σ δ/\(Na d=true\/Y9 d=true)/\∀G' H',Grow G0 H0 G' H'->Ex (.ref CN) none H') (I.tok _) (Lc S aft λd v G1 H1 g1 r1 S1 a1=>?_)) λu s1 ⟨v,H1,I1,rv,G1,d,rd,S1,ok,hE⟩=>?_
 .split at a1
  .rename_i ok
   exact⟨G1,d,r1,S1,ok,λG' H' g=>a1 G' H' g⟩
  .exact(show False from a1).elim
 .suffices tail : ∀ (y : Str) (u : Tok) (s2 : i6),y.length <= 1000 -> Inv X pins σ H1 s2 -> wpAny (u7 X.prog X.w) _ (formatField (.str y u) GQ) _ _ s2 by
   rcases ok with ok |ok
   .unfold Na at ok
    simp only[x3,DQ,decide_eq_true_eq]at ok;obtain⟨⟨⟨⟨o1,o2⟩,o3⟩,o4⟩,o5⟩:=ok;obtain⟨as,rr⟩:=rd.reads I1 S1.sr.sub rv;obtain⟨aa,rfl⟩:=isRef_of_reads rr o1;exact pyReprObj_of_reads rr o2 (PyData.noDict_hsm o3) hgd (by have:=C.hu;omega) (λ_ _ e=>e) (λh1 u2 tk hk=>tail _ _ _ o4 (I1.kept hk)) (by omega)
   .cases d with
    |none=>
     cases (show v=.non from rd);cases (show u=EU from rv);exact pyReprObj_none (tail _ _ _ (by decide) (I1.tok _))
    |int i=>
     cases (show v=.int i from rd);obtain⟨t,rfl⟩:=(show ∃t,u=OC i t from rv);unfold Y9 at ok;simp only[x3,decide_eq_true_eq]at ok;exact pyReprObj_int ok.1 (tail _ _ _ ok.2 (I1.tok _))
    |str x=>
     cases (show v=.str x from rd.1);obtain⟨t,rfl⟩:=(show ∃t,u=MS x t from rv);unfold Y9 at ok;simp only[decide_eq_true_eq]at ok;exact pyReprObj_str (tail _ _ _ ok (I1.tok _)) (by omega)
    |_=>cases ok
  intro y u s2 o4 I2;refine formatField_str (λt2 tk2=>?_) (by omega);have l1:(GQ++z++y).length<=2000:=by rw[JG];omega
  refine⟨by omega,joinParts_nil ?_ (by omega)⟩;have I2:Inv X pins σ H1 {s2 with toks:=tk2+1}:=I2.tok _;refine HE ⟨rfl,(show(1:Nat)<=sizeLine by decide),I2.bk _ _ hC,hN.keeps I2.bk,T.keeps I2.bk,λh2 e2 mk=>?_⟩;have I3:Inv X pins σ H1 {s2 with heap:=h2,toks:=tk2+1}:=I2.kept mk.keeps;refine L pins σ H1 _ e2 (.ref CN) I3 (.inl ?_) (hE G1 H1 S1.gr);obtain⟨t,ht,_,_⟩:=mk.there;refine⟨_,_,.ref t,ht,rfl,rfl,rfl,?_,HOk.gone I2.hok mk.new,rfl⟩;cases q:X.s₀.heap.get? e2 with
  |none=>rfl
  |some o=>
   obtain⟨o',z'⟩:=I2.base.there e2 o q (by rw[hex];simp);have:=mk.new;rw[z']at this;cases this
end
def Inv.adopt{X:Cx}{pins:List (i9×Obj)}{σ:St}{H:Hp}{s:i6}{a:i9}{o:HO}(I:Inv X pins σ H s)(f:Nw X pins H a)(hb:X.s₀.heap.objs.size<=a)(new:ObjOk X.prog X.w (upd H a o) s.heap a o):Inv X pins σ (upd H a o) s:=by
 obtain⟨f0,f1,f2,f3,f4,f5⟩:=f;have Hold:∀b u,H b=some u->b≠a:=λb u q z=>by lia
 have base':Un X.fs X.ex X.H₀ (upd H a o) X.s₀.heap s.heap:=by
  have B:=I.base;have ne0:∀b u,X.s₀.heap.get? b=some u->b≠a:=λb u q=>z8 (y9 (q9 q) hb);exact⟨B.keep,B.slot,λb u q n hx=>by rw[B7 (ne0 b u q)];exact B.free b u q n hx,B.there,λb ys q=>by rw[B7 (Hold b _ (B.tups b ys q))];exact B.tups b ys q,
   λb o' u' q=>by rw[B7 (Hold b _ (B.frzs b o' u' q))];exact B.frzs b o' u' q,λb ps q=>by obtain⟨m,q'⟩:=B.tbls b ps q;exact⟨m,by rw[B7 (Hold b _ q')];exact q'⟩⟩
 have hok':HOk X.prog X.w (upd H a o) s.heap:=λb u q=>by
  by_cases hb:b=a
  .subst hb
   rw[C8]at q;lia
  .rw[B7 hb]at q
   exact(I.hok b u q).stay (λ_ _ _ q'=>q') (λc q'=>by rw[B7 (Hold c _ q')];exact q') λc ys q'=>by rw[B7 (Hold c _ q')];exact q'
 refine⟨I.ok,I.os,I.bare,base',I.loc,I.cell,?_,λy c q=>?_,λp hp=>?_,hok',I.len⟩
 .rw[B7 (Ne.symm f1)];exact I.free
 .rw[B7 (f4 y c q)];exact I.freeC y c q
 .obtain⟨q1,q2,q3,q4,q5⟩:=I.pin p hp
  refine⟨q1,?_,q3,q4,q5⟩;rw[B7 (f5 p hp)];exact q2
section
variable {P:o9}{w:x8}{K:i5}{mg:Str->Option g9}{base:BL}{X:Cx}{N:List Str}{sc:Scope}{k:Nat}{df:Bool}{E:EK}{pos p:Pos}{e:Expr}{es:List Expr}{f:Dn->Res f8}{fs:Dn->Res (List f8)}{x:Str}
def noXK(r:Res Kvs):Res Kvs:=match r with
 |.ok d=>.ok d
 |_=>.no
def Zj(fs:Dn->Res (List f8))(m:List f8->Res Kvs):Dn->Res Kvs:=λδ=>(fs δ).bind λds=>noXK (m ds)
def uE{j n:Nat}{m:List f8->Res Kvs}(C:Cxt P w K mg base X N sc k df)(F:FnN P w K mg base x j n m)(hj:j<=k)(h:okGl sc x=true)(ha:DA X E (e::es) n fs)
 (he:i8 (e::es) X.env=(false,eval e X.env)::i8 es X.env:=by rfl) (hpl:(CD pos (i8 es X.env)).any (·.1)=false:=by rfl):DN X E (.Call (.Name x p) (e::es) [] pos) (Zj fs m):=by
 obtain⟨f,fd,ps,hps,F,hm,hk,hb⟩:=F.ex;obtain⟨h1,h2,h3⟩:=okGl.gl C h;have F':FnOk X.prog X.w X.K X.mg X.base CX0 j f fd ps (spN n m):=by rw[C.hP,C.hw,C.hK,C.hmg,C.hb];exact F
 refine PE.imp (Dr F' (C.room.mono hj) h1 (by rw[C.hmg];exact hm) (by rw[C.hK];exact hk) (by rw[C.hK];exact hb) .nil (Sw (X:=X)) ha.pa h2 he hpl) λσ H Q hh=>?_;obtain⟨G,δ,S,aft⟩:=hh;refine W7 (W:=λG H r=>AftN E G H r Q) S aft (λg a=>AftN.grow g a) (λc a=>a) (λa=>a) λds vs G1 H1 e g1 r1 S1 a1=>?_;rw[u8];cases q:m ds with
 |ok d=>rw[q]at a1;exact⟨G1,ds,d,S1.sub,r1,ha.len δ ds e,q,a1⟩
 |exc c=>rw[q]at a1;exact(show False from a1).elim
 |no=>rw[q]at a1;exact(show False from a1).elim
end
end Sm
end
section
namespace Sm
open PySem PySem.Spec PyProof.Rows PySem.W L2
noncomputable def Iv:f8->Res (List Sl)
 |.tuple [a,b,c]=>.ok [.sh a,.sh b,.sh c]
 |_=>.no
def gok3{K:i5}:GOk (fU K 3 (Ax (O1 0) (Ax (O1 1) (Ax (O1 2) fV)))) 3 Iv:=by
 intro G H d x sl τ Q hG r e h;cases d with
 |tuple ds=>
  match ds,e with
  |[a,b,c],e=>
   cases e;obtain⟨p,xs,rfl,h1,l1⟩:=r;obtain⟨v,t1,rfl,r1,l2⟩:=l1;obtain⟨v',v'',rfl,r2,r3⟩:=oC l2;refine⟨p,_,rfl,.inl (.inl (hG _ _ h1)),rfl,v,[v',v''],rfl,v',[v''],rfl,v'',[],rfl,rfl,?_⟩;exact h [v,v',v''] rfl rfl λi s hs=>by
    match i with
    |0=>cases hs;exact⟨⟨v,rfl,r1⟩,a,rfl⟩
    |1=>cases hs;exact⟨⟨v',rfl,r2⟩,b,rfl⟩
    |2=>cases hs;exact⟨⟨v'',rfl,r3⟩,c,rfl⟩
    |i+3=>simp at hs
 |_=>cases e
section
variable {P:o9}{w:x8}{K:i5}{mg:Str->Option g9}{base:BL}{X:Cx}{N:List Str}{sc scope:Scope}{k:Nat}{df:Bool}{E:EK}{pos tp px py pz:Pos}{iter elt:Expr}{ifs:List Expr}{src:Dn->Res (List f8)}{tt:Dn->Res Bool}{el:Dn->Res f8}
def vF{x y z:Str}{x1:Nat}(C:Cxt P w K mg base X N sc k df)(cap:List Nat)(capN:List Str)(ho:okComp N sc scope [x,y,z] capN cap=true)(hi:DI X E (.Tuple [.Name x px,.Name y py,.Name z pz] x1 tp) iter src)
 (ht:∀X',Cxt P w K mg base X' ([x,y,z]++capN) (Fc scope sc) k false->DTs X' E0k ifs tt) (he:∀X',Cxt P w K mg base X' ([x,y,z]++capN) (Fc scope sc) k false->DE X' E0k elt el)
 (hs:∀x,CB iter X.env x=pure x:=by intro _;rfl):DF X E (.ListComp elt [⟨.Tuple [.Name x px,.Name y py,.Name z pz] x1 tp,iter,ifs,0⟩] scope pos) (G6 src Iv cap tt el):=by
 have o:=okComp.ok ho;refine PE.imp (iG (g:=fU K 3 (Ax (O1 0) (Ax (O1 1) (Ax (O1 2) fV)))) C.calm (Ak C o) hi (λX' B=>?_) (λX' B=>ht X' (C.blk B)) (λX' B=>he X' (C.blk B)) hs) λσ H Q h=>Jc (m:=3) rfl o.h10 gok3 h;have C':=C.blk B;have hl:∀u∈[x,y,z],X'.env.scope.names.lookup u=some .local:=λu hu=>by rw[C'.hs];exact o.h9 u hu
 have nd:X'.N.Nodup:=by rw[C'.hN];exact o.h8
 have p1:PG X' (.Name x px) (O1 0):=O8 nd (by rw[C'.hN];rfl) (.inl (hl x (by simp))) (.inr (hl x (by simp)));have p2:PG X' (.Name y py) (O1 1):=O8 nd (by rw[C'.hN];rfl) (.inl (hl y (by simp))) (.inr (hl y (by simp)));have p3:PG X' (.Name z pz) (O1 2):=O8 nd (by rw[C'.hN];rfl) (.inl (hl z (by simp))) (.inr (hl z (by simp)));have:=Zd (n:=3) (k:=x1) (pos:=tp) C'.calm (U9 p1 (U9 p2 (U9 p3 Qi)));rw[C'.hK]at this;exact this
end
end Sm
end
section
namespace Sm
open PySem PySem.Spec PyProof.Rows PySem.W L2
section
variable {P:o9}{w:x8}{K:i5}{mg:Str->Option g9}{base:BL}{X:Cx}{N:List Str}{sc scope:Scope}{k:Nat}{df:Bool}{E:EK}{pos tp px py pz pt spos:Pos}{iter elt:Expr}{ifs:List Expr}{src:Dn->Res (List f8)}{tt:Dn->Res Bool}{el:Dn->Res f8}{capN:List Str}{cap:List Nat}
def eY{x1:Nat}{t x y z:Str}(C:Cxt P w K mg base X N sc k df)(i:Nat)(hset:okSet N sc df i t=true)(hsw:Et sc scope t pt.line pos.line=true)(cap:List Nat)(capN:List Str)(ho:okComp N sc scope [x,y,z] capN cap=true)(hi:DI X E (.Tuple [.Name x px,.Name y py,.Name z pz] x1 tp) iter src)
 (ht:∀X',Cxt P w K mg base X' ([x,y,z]++capN) (Fc scope sc) k false->DTs X' E0k ifs tt) (he:∀X',Cxt P w K mg base X' ([x,y,z]++capN) (Fc scope sc) k false->DE X' E0k elt el)
 (hs:∀x,CB iter X.env x=pure x:=by intro _;rfl):DS X E (.Assign [.Name t pt] (.ListComp elt [⟨.Tuple [.Name x px,.Name y py,.Name z pz] x1 tp,iter,ifs,0⟩] scope pos) spos) (Ic i (G6 src Iv cap tt el)):=λG0 H0=>by
 obtain⟨h1,h2,h3,h4⟩:=okSet.ok C hset;have o:=okComp.ok ho;have hl:X.env.scope.names.lookup t=some .local:=by
  rw[C.hs];unfold Et at hsw;simp only[x3,decide_eq_true_eq]at hsw;exact hsw.1.1.2
 refine PS.imp (Ge (g:=fU K 3 (Ax (O1 0) (Ax (O1 1) (Ax (O1 2) fV)))) C.calm (Ak C o) hi (λX' B=>?_) (λX' B=>ht X' (C.blk B)) (λX' B=>he X' (C.blk B)) h1 h2 hl (Jd C hsw) hs) λD σ H h=>Jc (m:=3) rfl o.h10 gok3 (Zi h);have C':=C.blk B;have hl:∀u∈[x,y,z],X'.env.scope.names.lookup u=some .local:=λu hu=>by rw[C'.hs];exact o.h9 u hu
 have nd:X'.N.Nodup:=by rw[C'.hN];exact o.h8
 have p1:PG X' (.Name x px) (O1 0):=O8 nd (by rw[C'.hN];rfl) (.inl (hl x (by simp))) (.inr (hl x (by simp)));have p2:PG X' (.Name y py) (O1 1):=O8 nd (by rw[C'.hN];rfl) (.inl (hl y (by simp))) (.inr (hl y (by simp)));have p3:PG X' (.Name z pz) (O1 2):=O8 nd (by rw[C'.hN];rfl) (.inl (hl z (by simp))) (.inr (hl z (by simp)));have:=Zd (n:=3) (k:=x1) (pos:=tp) C'.calm (U9 p1 (U9 p2 (U9 p3 Qi)));rw[C'.hK]at this;exact this
end
end Sm
end
section
namespace Sm
open PySem PySem.Spec PyProof.Rows L2
section
variable {P:o9}{w:x8}{K:i5}{mg:Str->Option g9}{base:BL}{X:Cx}{N:List Str}{sc:Scope}{k:Nat}{df:Bool}{pos p p2:Pos}{a:Expr}{f:Dn->Res f8}{CN:i9}{Ex:XK}
def kK{z y:Str}{j:Nat}{np cpos p3 p4:Pos}(C:Cxt P w K mg base X N sc k df)(L:Lv X Ex)(hex:X.ex=[])(hgd:X.A.guards=some [])(O:ExcAt K mg y CN)(h:okGl sc y=true)(ha:DE X (eX CN Ex) a f)(hz:z.length<=1000:=by decide+kernel):
 DS X (eX CN Ex) (.Raise (some (.Call (.Name y np) [.JoinedStr [.FormattedValue a 114 none p2,.Constant (.str z) j p] p3] [] cpos)) none pos) (Dq y f):=λG0 H0 pins s σ H D I hZ8=>by
 obtain⟨G,δ,S,aft⟩:=hZ8;obtain⟨g1,g2,g3⟩:=okGl.gl C h;have KX:X.K=K:=C.hK;obtain⟨bm,Nn,nm,q,bs,hdct,sn,sub,ab,col,dd,k0,k1,k2,k3,k5,mN,hC,hN,hni,T⟩:=(O.own (h:=X.base) (by rw[<-KX];exact I.mod.kin)).obj;have FB:=NH;refine wpAny_Raise_call_subT (C:=CN) (nm:=nm) (q:=q) (N:=Nn) (bs:=bs) (bm:=bm) (hdct:=hdct) (sn:=sn) (sub:=sub) (ab:=ab) (col:=col) (dd:=dd) (k0:=k0) (k1:=k1) (k2:=k2) (k3:=k3) (k5:=k5) FB (mN:=mN) (T.hasType FB.hasBase) (I.ok.hd C.calm) rfl hni (Dv I g1 (by rw[C.hmg];exact O.bound) ⟨rfl,?_⟩ g2);refine HN (EV ?_);rw[ir (by decide)]
 refine JoinedStr_many (pos:=p3) (MN (xH ?_));have sz:(2000:Nat)<=sizeLine:=by decide
 refine thn (ha pins _ σ H (λv H1=>∃G1 d,Rep G1 d v/\SSt G0 H0 G1 H1 σ δ/\(Na d=true\/Y9 d=true)/\∀G' H',Grow G0 H0 G' H'->Ex (.ref CN) none H') I (Lc S aft λd v G1 H1 g1 r1 S1 a1=>?_)) λu s1 ⟨v,H1,I1,rv,G1,d,rd,S1,ok,hE⟩=>?_
 .split at a1
  .rename_i ok
   exact⟨G1,d,r1,S1,ok,λG' H' g=>a1 G' H' g⟩
  .exact(show False from a1).elim
 .suffices tail : ∀ (y : Str) (u : Tok) (s2 : i6),y.length <= 1000 -> Inv X pins σ H1 s2 -> wpAny (u7 X.prog X.w) _ (formatField (.str y u) GQ) _ _ s2 by
   rcases ok with ok |ok
   .unfold Na at ok
    simp only[x3,DQ,decide_eq_true_eq]at ok;obtain⟨⟨⟨⟨o1,o2⟩,o3⟩,o4⟩,o5⟩:=ok;obtain⟨as,rr⟩:=rd.reads I1 S1.sr.sub rv;obtain⟨aa,rfl⟩:=isRef_of_reads rr o1;exact pyReprObj_of_reads rr o2 (PyData.noDict_hsm o3) hgd (by have:=C.hu;omega) (λ_ _ e=>e) (λh1 u2 tk hk=>tail _ _ _ o4 (I1.kept hk)) (by omega)
   .cases d with
    |none=>
     cases (show v=.non from rd);cases (show u=EU from rv);exact pyReprObj_none (tail _ _ _ (by decide) (I1.tok _))
    |int i=>
     cases (show v=.int i from rd);obtain⟨t,rfl⟩:=(show ∃t,u=OC i t from rv);unfold Y9 at ok;simp only[x3,decide_eq_true_eq]at ok;exact pyReprObj_int ok.1 (tail _ _ _ ok.2 (I1.tok _))
    |str x=>
     cases (show v=.str x from rd.1);obtain⟨t,rfl⟩:=(show ∃t,u=MS x t from rv);unfold Y9 at ok;simp only[decide_eq_true_eq]at ok;exact pyReprObj_str (tail _ _ _ ok (I1.tok _)) (by omega)
    |_=>cases ok
  intro y u s2 o4 I2;refine formatField_str (λt2 tk2=>?_) (by omega);have e0:GQ.length=0:=rfl;have l0:(GQ++y).length<=1000:=by rw[JG];lia
  have l1:(GQ++y++z).length<=2000:=by rw[JG];lia
  refine⟨by lia,MN (ME ?_)⟩;refine⟨by lia,joinParts_nil ?_ (by lia)⟩;have I2:Inv X pins σ H1 {s2 with toks:=tk2+1+1}:=I2.tok _;refine HE ⟨rfl,(show(1:Nat)<=sizeLine by decide),I2.bk _ _ hC,hN.keeps I2.bk,T.keeps I2.bk,λh2 e2 mk=>?_⟩;have I3:Inv X pins σ H1 {s2 with heap:=h2,toks:=tk2+1+1}:=I2.kept mk.keeps;refine L pins σ H1 _ e2 (.ref CN) I3 (.inl ?_) (hE G1 H1 S1.gr);obtain⟨t,ht,_,_⟩:=mk.there;refine⟨_,_,.ref t,ht,rfl,rfl,rfl,?_,HOk.gone I2.hok mk.new,rfl⟩;cases q:X.s₀.heap.get? e2 with
  |none=>rfl
  |some o=>
   obtain⟨o',z'⟩:=I2.base.there e2 o q (by rw[hex];simp);have:=mk.new;rw[z']at this;cases this
end
end Sm
end
section
namespace Sm
open PySem PySem.Spec PySem.W PyProof.Rows L2
noncomputable def ltP(a b:Str×Str):Bool:=if a.1=b.1 then(if a.2=b.2 then false else decide (a.2.cps.toList<b.2.cps.toList)) else decide (a.1.cps.toList<b.1.cps.toList)
abbrev upP(a b:Str×Str):Prop:=ltP a b=true/\ltP b a=false
instance (a b:Str×Str):Decidable (upP a b):=inferInstanceAs (Decidable (_/\_))
end Sm
end
section
namespace Sm
open PySem PySem.Spec PyProof.Rows PySem.W L2
structure Alb where
 bk:Kvs
 st:List f8
 tk:List f8
structure AlbL where
 x:i9
 dx:i9
 db:i9
 ds:i9
 dt:i9
structure En where
 P:i9->Prop
 xs:List i9
 G:Hp
 H:Hp
abbrev FQ:=Dn->List Alb->Option (f8×List Alb)
abbrev FQT:=Dn->List Alb->Option (Bool×List Alb)
def q2(f g:FQ)(op:f8->f8->Option f8):FQ:=λδ als=>match f δ als with
 |some (x,a1)=>match g δ a1 with
  |some (y,a2)=>match op x y with
   |some d=>some (d,a2)
   |none=>none
  |none=>none
 |none=>none
noncomputable abbrev FM:=List f8->Alb->Option (f8×Alb)
inductive OutQ where
 |nx (δ:Dn) (als:List Alb)
 |rt (d:f8) (als:List Alb)
 |no
abbrev FS:=Dn->List Alb->OutQ
def yC(N:List Str)(p:Nat)(ds:List f8):Dn:=((ds.map Sl.sh).take p++Sl.un::(ds.map Sl.sh).drop p)++u6 (N.length-(ds.length+1)) .un
def mA(N:List Str)(p:Nat)(go:FS):FM:=λds A=>match go (yC N p ds) [A] with
 |.rt d [A']=>some (d,A')
 |.nx _ [A']=>some (.none,A')
 |_=>none
end Sm
end
section
namespace Sm
open PySem PySem.Spec PyProof.Rows PySem.W L2
structure Hd where
 x:Nat
 fs:List f8
 wt:Option f8
 dn:Option (List f8)
 un:Option (List f8)
structure HdL where
 dx:i9
 v2:V
 v3:V
 v4:V
def rm(G:Hp)(x:i9):Hp:=λb=>if b=x then none else G b
inductive OutH where
 |nx (δ:Dn) (h:Hd)
 |rt (d:f8) (h:Hd)
 |no
abbrev FH:=Dn->Hd->OutH
abbrev FHQ:=Dn->Hd->Option (f8×Hd)
structure HdC(K:i5)(C:i9):Prop where
 cl:Cls K C
 nl:Uk K C "letter"
 nb:Uk K C "book"
 nw:Uk K C "waiting"
 nd:Uk K C "done"
 nu:Uk K C "undos"
end Sm
end
section
namespace Sm
open PySem PySem.Spec PyProof.Rows L2
def qA:KJ (.type "list_reverseiterator") "__len__"=pure none:=by rw[JS,HS];kernel_rfl
def Zm:Slot "list_reverseiterator" "__length_hint__" "list_reverseiterator.__length_hint__":=
 .of (owner:="list_reverseiterator") (n:="__length_hint__") (by rfl) (by rfl) (by rfl) (by rfl) (by first |exact .inl (by decide+kernel) |exact .inr (by rfl)) (by rfl)
section
variable {prog:o9}{w:x8}{A:BO}{E:g9->i6->Prop}{s:i6}{items:Array g9}{l:i9}
def uQ{it:i9}{i:Int}{Q:Bool->i6->Prop}(hit:s.heap.IsRevIter it l i)(q:Q false s):wpAny (u7 prog w) A (MF (.ref it)) Q E s:=by
 unfold MF;refine f9 (EW hit.typeIs qA ?_);show wpAny _ A (specialOf (CU it) (FE "__length_hint__")>>=_) _ _ _;refine f9 (EW hit.typeIs Zm.lookup ?_);generalize hid:("list_reverseiterator.__length_hint__" : String)=id0
 wp_delta
 rw[show splitId id0=some ("list_reverseiterator","__length_hint__") from by subst hid;rfl];subst hid;refine f9 (JH (T:="list_reverseiterator") (b:=true) hit.typeIs (by rfl) ?_);refine LY (λhab=>absurd hab (by decide)) (λ_=>?_);refine LY (λ_=>?_) (λhab=>absurd (show _=true by decide+kernel) hab);refine LY (λhab=>absurd hab (by decide+kernel)) (λ_=>i0 q)
def lE{R:Result->i6->Prop}(hh:A.handled=none){r S:i9}(hr:s.heap.IsRevIter r l ((items.size:Int)-1))(hl:s.heap.IsList l items)(hz:items.size<=1000)(hSr:S≠r)(hlr:l≠r)(hSl:l≠S)(res:g9)(c₀:Nat)(hS:s.heap.get? S=some {cls:=.type "list",data:=.seq #[] c₀})
 (hR:∀h' tk acc' c',(∀b o,b≠S->b≠r->s.heap.get? b=some o->h'.get? b=some o)->h'.get? S=some {cls:=.type "list",dict:=none,data:=.seq acc' c',slots:=#[]} ->
  OM (λi v=>items[items.size-1-i]?=some v) acc' items.size->R (.ok (.ret res)) {s with heap:=h',toks:=tk}):
 wpAny (u7 prog w) A.in1 (IT (.ref S) (.ref r) res)
  (λfin s'=>match fin with |.done f=>R (.ok f) s' |.again c'=>c'.quiet=true/\IJ (u7 prog w) A c' R s') (λe s'=>R (.error e) s') s:=by
 have sz:(1000:Nat)<=sizeLine:=by decide
 have hSf:S∉[r,l]:=by simp[hSr,Ne.symm hSl]
 have W:=(Walks.listRev (prog:=prog) (w:=w) (A:=A.in1) hh r l hlr items).toS;unfold IT;refine f9 (JY hr.typeIs ?_);have h1:MQ (.ref S) (.ref r)=false:=by simp[MQ,hSr]
 have h2:(IU "list_reverseiterator"== IU "list")=false:=by decide
 have h3:(IU "list_reverseiterator"== IU "tuple")=false:=by decide
 simp only[h1,h2,h3,KH,FC,if_false];refine f9 (wpAny_pyIter_revIter hr ?_);refine f9 (CJ (uQ hr ?_));refine LY (λhab=>absurd hab (by decide+kernel)) (λ_=>i0 ⟨plainId_quiet F.plain_extend_loop _,?_⟩);refine codeAny_extend_loopS W (show items.size<=sizeLine from l9 hz sz) S hSf res items.size 0 _ #[] c₀ rfl (ER _) ⟨ER _,by show s.heap.IsRevIter r l (((items.size:Nat):Int)-1-((0:Nat):Int));rw[show((items.size:Nat):Int)-1-((0:Nat):Int)=(items.size:Int)-1 by lia];exact hr,hl⟩ hS (ItemsOf.nil _) λs' acc' c' hm hS' hacc=>?_
 rw[Moved.eq_with hm];exact hR s'.heap s'.toks acc' c' (λb o hb hb2 e=>hm.heap b o (by simp_all) e) hS' hacc
def uP{R:Result->i6->Prop}(hh:A.handled=none){r S:i9}(hr:s.heap.IsRevIter r l ((items.size:Int)-1))(hl:s.heap.IsList l items)(hz:items.size<=1000)(hSr:S≠r)(hlr:l≠r)(hSl:l≠S)(hS:s.heap.get? S=some {cls:=.type "list",data:=.seq #[]})
 (hR:∀h' tk acc' c',(∀b o,b≠S->b≠r->s.heap.get? b=some o->h'.get? b=some o)->h'.get? S=some {cls:=.type "list",dict:=none,data:=.seq acc' c',slots:=#[]} ->
  OM (λi v=>items[items.size-1-i]?=some v) acc' items.size->R (.ok (.ret .none)) {s with heap:=h',toks:=tk}):
 wpAny (u7 prog w) A.in1 (EM.«list.__init__» ⟨[.ref S,.ref r],[]⟩)
  (λfin s'=>match fin with |.done f=>R (.ok f) s' |.again c'=>c'.quiet=true/\IJ (u7 prog w) A c' R s') (λe s'=>R (.error e) s') s:=by
 show wpAny _ _ (do let was <-NB (.ref S);Builtin.List.listUpdate (.ref S) (λ_=>#[]);letGo was.toList.reverse;IT (.ref S) (.ref r) .none) _ _ s;refine f9 ?_;unfold NB;refine f9 (wpAny_seqItems hS rfl (i0 ?_));show wpAny _ A.in1 (updateSeq S (λ_=>#[])>>=λ_=>letGo (#[]:Array g9).toList.reverse>>=λ_=>_) _ _ s;refine f9 (wpAny_updateSeq hS rfl ?_);have hS₂:=ET (OA (λ_=>(#[]:Array g9))) hS rfl;have oth:∀b o,b≠S->s.heap.get? b=some o->(s.heap.update S (OA (λ_=>(#[]:Array g9)))).get? b=some o:=
  λb o hb e=>(OO _ _ (Ne.symm hb)).trans e
 refine f9 (wpAny_letGo ?_);refine lE hh (hr.at λo e=>oth r o (Ne.symm hSr) e) (hl.at λo e=>oth l o hSl e) hz hSr hlr hSl .none _ hS₂ λh' tk acc' c' hk hS' hacc=>?_;exact hR h' tk acc' c' (λb o hb hb2 e=>hk b o hb hb2 (oth b o hb e)) hS' hacc
def uO{Q:g9->i6->Prop}(hh:A.handled=none){r:i9}(hr:s.heap.IsRevIter r l ((items.size:Int)-1))(hl:s.heap.IsList l items)(hz:items.size<=1000)(hlr:l≠r)
 (hQ:∀h' tk acc' c',(∀b o,b≠r->s.heap.get? b=some o->h'.get? b=some o)->h'.get? s.heap.objs.size=some {cls:=.type "list",dict:=none,data:=.seq acc' c',slots:=#[]} ->
  OM (λi v=>items[items.size-1-i]?=some v) acc' items.size->Q (.ref s.heap.objs.size) {s with heap:=h',toks:=tk}):
 wpAny (u7 prog w) A (call (.type "list") [.ref r]) Q E s:=by
 refine OW (Q₁:=λobj s₁=>obj=.ref s.heap.objs.size/\s₁={s with heap:=s.heap.push {cls:=.type "list",data:=.seq #[]}}) F.called_list (F.typeCall_list_1 _) F.entry_list_init
  (code_list_new _ ⟨rfl,rfl⟩) λobj s₁ h₁=>?_
 obtain⟨rfl,rfl⟩:=h₁;have hS:(s.heap.push {cls:=.type "list",data:=.seq #[]}).get? s.heap.objs.size=some {cls:=.type "list",data:=.seq #[]}:=x5 _ rfl;have hlt:r<s.heap.objs.size:=by obtain⟨o,e,_⟩:=hr;exact q9 e
 have hlt2:l<s.heap.objs.size:=by obtain⟨o,e,_⟩:=hl;exact q9 e
 refine⟨⟨_,hS,rfl⟩,F.args_list_init_2 _ _,uP (A:=A.in1) hh (hr.at λo e=>l8 _ e) (hl.at λo e=>l8 _ e) hz (IQ hlt) hlr (z8 hlt2) hS λh' tk acc' c' hk hS' hacc=>?_⟩;exact⟨rfl,hQ h' tk acc' c' (λb o hb e=>hk b o (z8 (q9 e)) hb (l8 _ e)) hS' hacc⟩
end
def lN{its:List g9}{acc:Array g9}(h:OM (λi v=>its.toArray[its.toArray.size-1-i]?=some v) acc its.toArray.size):acc.toList=its.reverse:=by
 obtain⟨h1,h2⟩:=h;have hs:its.toArray.size=its.length:=by simp
 rw[hs]at h1;apply HH;intro j;by_cases hj:j<its.length
 .have e1:acc[j]?=some (acc[j]'(by lia)):=ES (by lia)
  have e2:its.toArray[its.toArray.size-1-j]?=some (acc[j]'(by lia)):=h2 j _ e1;rw[hs]at e2;rw[LC,e1,LH hj,<-e2];simp
 .grind
def Jb(f:Dn->Res f8):Dn->Res f8:=λδ=>(f δ).bind λd=>match d with
 |.list ds=>if ds.length<=1000 then .ok (.list ds.reverse) else .no
 |_=>.no
section
variable {P:o9}{w:x8}{K:i5}{mg:Str->Option g9}{base:BL}{X:Cx}{N:List Str}{sc:Scope}{k:Nat}{df:Bool}{E:EK}{pos cp p p2:Pos}{a b c:Expr}{f g f':Dn->Res f8}
def gA(C:Cxt P w K mg base X N sc k df)(hL:okGl sc "list"=true)(hmL:mg "list"=none)(h:okGl sc "reversed"=true)(hm:mg "reversed"=none)(ha:DE X E a f)(he:i8 [a] X.env=(false,eval a X.env)::i8 [] X.env:=by rfl)(hpl:(CD cp (i8 [] X.env)).any (·.1)=false:=by rfl)
 (he2:i8 [.Call (.Name "reversed" p2) [a] [] cp] X.env=(false,eval (.Call (.Name "reversed" p2) [a] [] cp) X.env)::i8 [] X.env:=by rfl) (hpl2:(CD pos (i8 [] X.env)).any (·.1)=false:=by rfl):
 DE X E (.Call (.Name "list" p) [.Call (.Name "reversed" p2) [a] [] cp] [] pos) (Jb f):=by
 intro pins s σ H Q I hZ;obtain⟨G,δ,S,aft⟩:=hZ;obtain⟨h1,h2,h3⟩:=okGl.gl C h;obtain⟨l1,l2,l3⟩:=okGl.gl C hL;have hh:=Mi (R:=λv H1=>∃v0 G1 d,[v]=[v0]/\Same G1 H1/\Rep G1 d v0/\Aft E G1 H1 (match d with |.list ds=>if ds.length<=1000 then .ok (.list ds.reverse) else .no |_=>.no) Q) (W:=λG H r=>Aft E G H r Q) S aft (λg a=>Aft.grow g a) (λc a=>a) (λa=>a) λd v G1 H1 g1 r1 S1 a1=>⟨v,G1,d,rfl,S1.sub,r1,a1⟩;refine DV (Ij I l1 (by rw[C.hmg];exact hmL) boot_list ?_ l3 l2);refine EB ?_ he2 hpl2;rw[he2];refine EV ?_;refine DV (Ij I h1 (by rw[C.hmg];exact hm) (show GN "reversed"=some (.type "reversed") by rfl) ?_ h3 h2)
 refine EB (thn ((E8 ha N0 he) cp pins s σ H (λvs H1=>∃v G1 d,vs=[v]/\Same G1 H1/\Rep G1 d v/\Aft E G1 H1 (match d with |.list ds=>if ds.length<=1000 then .ok (.list ds.reverse) else .no |_=>.no) Q) I hh) λus s1 hY=>?_) he hpl;obtain⟨vs,H1,I1,rx,v,G1,d,ev,hG,rd,a1⟩:=hY;subst ev;obtain⟨u,rfl,ru⟩:=Vals.one rx;cases d with
 |list ds=>
  obtain⟨la,xs,rfl,hla,lr⟩:=rd;cases ru;dsimp only at a1;split at a1
  .rename_i hlen
   have szl:(1000:Nat)<=sizeLine:=by decide
   obtain⟨zz,its,n,rv,e3⟩:=X3 I1 hG hla;have hxl:=lr.length;have hil:=rv.length;have hIL:s1.heap.IsList la its.toArray:=⟨_,e3,rfl,n,rfl⟩;have hisz:its.toArray.size=its.length:=by simp
   refine call_reversed_list hIL (HE ?_);have hhd:X.A.handled=none:=I.ok.hd C.calm;have hlal:la<s1.heap.objs.size:=q9 e3;refine uO (s:={s1 with heap:=s1.heap.push (revObj la ((its.toArray.size:Int)-1))}) (items:=its.toArray) (l:=la) hhd ⟨_,x5 _ rfl,rfl,rfl⟩ (hIL.at λo e=>l8 _ e) (by rw[hisz];lia) (z8 hlal) λh' tk2 acc' c' hk hS hacc=>?_;obtain⟨ha1,ha2⟩:=hacc;have I3:Inv X pins σ H1 {s1 with heap:=h',toks:=tk2}:=I1.kept λb o e=>hk b o (z8 (q9 e)) (l8 _ e);have hsz:(s1.heap.objs.size:Nat)<=(s1.heap.push (revObj la ((its.toArray.size:Int)-1))).objs.size:=by simp_all
   have fS:Nw X pins H1 (s1.heap.push (revObj la ((its.toArray.size:Int)-1))).objs.size:=I1.fpOk hsz (I1.hok.fresh hsz);have ea:acc'.toList=its.reverse:=lN ⟨ha1,ha2⟩;have ra:Vals xs.reverse acc'.toList:=by rw[ea];exact rv.reverse
   have J2:=Sm.Inv.adopt (o:=.lst xs.reverse) I3 fS (l9 I1.sz hsz) ⟨by rw[CQ];lia,acc'.toList,c',ra,by simp only[PH];exact hS⟩;have g2:=Grow.new (o:=.lst xs.reverse) hG fS.1;exact⟨.ref _,_,J2,rfl,a1 _ _ _ g2 ⟨_,_,rfl,.inl C8,lr.reverse.mono (Same.upd (hG.free fS.1))⟩⟩
  .exact a1.elim
 |_=>exact(show False from a1).elim
def dC(C:Cxt P w K mg base X N sc k df)(ha:DE X E a f)(hb:DE X E b g)(hc:DE X E c f')(hm:KD [.Lt,.Eq] [b,c]=false:=by with_unfolding_all rfl):DE X E (.Compare a [.Lt,.Eq] [b,c] pos) (K6 f g f' (E6 .Lt) dEq):=
 Tr (Gg (.inl rfl) C.hu) Dt (My C.hu) Mz ha hb hc hm
def dE(C:Cxt P w K mg base X N sc k df)(ha:DE X E a f)(hb:DE X E b g)(hc:DE X E c f')(hm:KD [.Eq,.Eq] [b,c]=false:=by with_unfolding_all rfl):DE X E (.Compare a [.Eq,.Eq] [b,c] pos) (K6 f g f' dEq dEq):=
 Tr (My C.hu) Mz (My C.hu) Mz ha hb hc hm
def dD(C:Cxt P w K mg base X N sc k df)(ha:DE X E a f)(hb:DE X E b g)(hc:DE X E c f')(hm:KD [.Eq,.Lt] [b,c]=false:=by with_unfolding_all rfl):DE X E (.Compare a [.Eq,.Lt] [b,c] pos) (K6 f g f' dEq (E6 .Lt)):=
 Tr (My C.hu) Mz (Gg (.inl rfl) C.hu) Dt ha hb hc hm
end
end Sm
end
section
namespace Sm
open PySem PySem.Spec PyProof.Rows PySem.W L2
def pJ(N:List Str)(sc:Scope)(df:Bool):Bool:=okVar N sc 0 "_law_e"&&okVar N sc 1 "_law_flags"&&okSet N sc df 1 "_law_flags"&&okGl sc "isinstance"&&okGl sc "NoSign"&&okGl sc "ValueError"&&okGl sc "NoPlace"&&okGl sc "NoName"
structure XSet4(K:i5)(mg:Str->Option g9)(C0 C1 C2 CN CM:i9)(i:Nat):Prop where
 i3:i<3
 mM:mg "MarkError"=some (.ref CM)
 m0:mg "NoSign"=some (.ref C0)
 m1:mg "NoPlace"=some (.ref C1)
 m2:mg "NoName"=some (.ref C2)
 mi:mg "isinstance"=none
 mV:mg "ValueError"=none
 xc:XCls K CN
 k1:PySem.W.subIn K (.ref CN) (.ref CM)=some true
 k2:PySem.W.instIn K (.ref CM) (.type "tuple")=some false
 k3:(PySem.W.clsIn K CM).isSome=true
 k4:PySem.W.subIn K (.ref CM) (.type "BaseException")=some true
 t0:JL K (.ref CN) (.ref C0)=some (i==0)
 t1:JL K (.ref CN) (.ref C1)=some (i==1)
 t2:JL K (.ref CN) (.ref C2)=some (i==2)
 t4:JL K (.ref CN) (.type "ValueError")=some true
section
variable {P:o9}{w:x8}{K:i5}{mg:Str->Option g9}{base:BL}{X:Cx}{N:List Str}{sc:Scope}{k:Nat}{df:Bool}{CN CM C0 C1 C2:i9}{i:Nat}
def aV{n1 n2 n3 n4 n5 n6 n7 n8 p1 p2 p3 p4 p5 p6 p7 p8 p9 p10 p11 p12 p13 p14 p15 p16 p17 p18 p19 p20 p21 p22 p23 p24 p25 p26 p27 p28 p29 p30 p31 p32 p33:Pos}{j1 j2 j3 j4 j5 j6 j7 j8:Nat}(C:Cxt P w K mg base X N sc k df)(A1:BO)(XX:XSet4 K mg C0 C1 C2 CN CM i)(ok:pJ N sc df=true)
 (l1:(p10.endLine==p12.line)=true) (l2:(p29.endLine==p31.line)=true):
 PSs (offX X A1) [.Assign [.Name "_law_flags" p1] (.List [.Call (.Name "isinstance" p2) [.Name "_law_e" p3,.Name "NoSign" p4] [] p5,.Call (.Name "isinstance" n1) [.Name "_law_e" n2,.Name "NoPlace" n3] [] n4,.Call (.Name "isinstance" n5) [.Name "_law_e" n6,.Name "NoName" n7] [] n8] p6) p7,
  .If (.BoolOp .Or [.Compare (.Call (.Attribute (.Name "_law_flags" p8) "count" p10) [.Constant (.bool true) j1 p11] [] p12) [.NotEq] [.Constant (.int 1) j2 p13] p14,.UnaryOp .Not (.Call (.Name "isinstance" p15) [.Name "_law_e" p16,.Name "ValueError" p17] [] p18) p19] p20)
   [.Return (some (.Tuple [.Constant (.str "refused") j3 p21,.UnaryOp .USub (.Constant (.int 1) j4 p22) p23] j5 p24)) p25] [] p26,
  .Return (some (.Tuple [.Constant (.str "refused") j6 p27,.Call (.Attribute (.Name "_law_flags" p28) "index" p29) [.Constant (.bool true) j7 p30] [] p31] j8 p32)) p33] (gU CN i):=by
 unfold pJ at ok;simp only[x3]at ok;obtain⟨⟨⟨⟨⟨⟨⟨o1,o2⟩,o3⟩,o4⟩,o5⟩,o6⟩,o7⟩,o8⟩:=ok;obtain⟨s1,s2,s3,s4⟩:=okSet.ok C o3;have gl:∀{x:Str},okGl sc x=true->Gl (offX X A1) x/\(x==("__debug__" : Str))=false/\x≠"__name__":=λh=>okGl.gl C h;have xc:XCls (offX X A1).K CN:=by show XCls X.K CN;rw[C.hK];exact XX.xc
 have hmg:(offX X A1).mg=mg:=C.hmg;have hKK:(offX X A1).K=K:=C.hK;obtain⟨e1,e2,e3,e4⟩:=okVar.at o1;obtain⟨f1,f2,f3,f4⟩:=okVar.at o2;have pE:∀{q:Pos},PE (offX X A1) (.Name "_law_e" q) (Us 0):=Ko (X:=offX X A1) (by show X.N[0]?=_;rw[C.hN];exact e1) (by show Vis X.env.scope _;rw[C.hs];exact e2) e3 e4;have pF:∀{q:Pos},PE (offX X A1) (.Name "_law_flags" q) (Us 1):=Ko (X:=offX X A1) (by show X.N[1]?=_;rw[C.hN];exact f1) (by show Vis X.env.scope _;rw[C.hs];exact f2) f3 f4;have cl:∀{a CC:i9} {y:Str} {q0 q1 q2 q3:Pos},okGl sc y=true->mg y=some (.ref CC)->PE (offX X A1) (.Call (.Name "isinstance" q0) [.Name "_law_e" q1,.Name y q2] [] q3) (tCB (yT (offX X A1).K a CN) (Qv (Us 0) (Qv (tC (.ref CC)) sD))):=λ{a CC y q0 q1 q2 q3} oy hy=>
  Lw (dR xc) (gl o4).1 (by rw[hmg];exact XX.mi) (by decide+kernel) (E8 pE (E8 (Zf (gl oy).1 (by rw[hmg];exact hy) rfl (gl oy).2.1) N0))
 have cv:∀{a:i9} {q0 q1 q2 q3:Pos},PE (offX X A1) (.Call (.Name "isinstance" q0) [.Name "_law_e" q1,.Name "ValueError" q2] [] q3) (tCB (yT (offX X A1).K a CN) (Qv (Us 0) (Qv (tC (.ty "ValueError")) sD))):=λ{a}=>
  Lw (dR xc) (gl o4).1 (by rw[hmg];exact XX.mi) (by decide+kernel) (E8 pE (E8 (tP (gl o6).1 (by rw[hmg];exact XX.mV) (by decide+kernel) rfl) N0))
 intro pins s σ H D I ⟨a,hl,hσ,hH,q⟩;have st1:=Mv (X:=offX X A1) (i:=1) (pos:=p7) (pos':=p1) s1 s2 s3 (Sv (pos:=p6) (E8 (cl (a:=a) (q0:=p2) (q1:=p3) (q2:=p4) (q3:=p5) o5 XX.m0) (E8 (cl (a:=a) (q0:=n1) (q1:=n2) (q2:=n3) (q3:=n4) o7 XX.m1) (E8 (cl (a:=a) (q0:=n5) (q1:=n6) (q2:=n7) (q3:=n8) o8 XX.m2) N0)))) rfl s4;have cnt:=Lx (X:=offX X A1) (apos:=p10) (cpos:=p12) DP F.slot_list_count F.type_list_count (uI XX.i3) (pF (q:=p8)) (E8 (oX (b:=true) (j:=j1) (pos:=p11)) N0) rfl rfl l1;have idx:=Lx (X:=offX X A1) (apos:=p29) (cpos:=p31) DP F.slot_list_index F.type_list_index (uH XX.i3) (pF (q:=p28)) (E8 (oX (b:=true) (j:=j7) (pos:=p30)) N0) rfl rfl l2
 have tst:=PW.pt (wT (pos:=p20) (Za (pos:=p14) op_ne cnt (Kp (i:=1) (j:=j2) (pos:=p13)) (Ih _)) (oF (pos:=p20) (oI (pos:=p19) (yW (cv (a:=a) (q0:=p15) (q1:=p16) (q2:=p17) (q3:=p18))))));have st2:=oM (X:=offX X A1) (pos:=p26) tst (Gd (Zc (pos:=p25) (fG (pos:=p24) (x1:=j5) (E8 (Ze (x:="refused") (j:=j3) (pos:=p21)) (E8 (iF (pos:=p23) Yf (Kp (i:=1) (j:=j4) (pos:=p22))) N0))))) Zb;have st3:=Zc (X:=offX X A1) (pos:=p33) (fG (pos:=p32) (x1:=j8) (E8 (Ze (x:="refused") (j:=j6) (pos:=p27)) (E8 idx N0)));have B:=Lu st1 (Lu st2 (Gd st3));refine B pins s σ H D I ⟨.ref a,hσ,.ref C0,.ref C0,i==0,rfl,rfl,hH,by rw[hKK];exact XX.t0,.ref a,hσ,.ref C1,.ref C1,i==1,rfl,rfl,hH,by rw[hKK];exact XX.t1,.ref a,hσ,.ref C2,.ref C2,i==2,rfl,rfl,hH,by rw[hKK];exact XX.t2,(show 3<=sizeLine by decide),λl hl0=>?_⟩
 have hne:a≠l:=D9 hH hl0;have j1':(σ.set 1 (some (V.ref l)))[1]?=some (some (.ref l)):=by rw[IM (by lia)]
 have j0':(σ.set 1 (some (V.ref l)))[0]?=some (some (.ref a)):=by rw[FG (by decide)];exact hσ
 have hL:upd H l (.lst (flV i)) l=some (.lst (flV i)):=C8;have hA:upd H l (.lst (flV i)) a=some (.ext (ExcAt' a CN)):=by rw[B7 hne];exact hH
 refine⟨.ref l,j1',.inl ⟨rfl,_,.inl (.inl hL)⟩,l,rfl,rfl,hL,rfl,_,rfl,?_⟩;have hd1:(!decide (V.int 1=V.int 1))=false:=by simp
 rw[hd1];dsimp only;rw[ir z6];refine⟨.ref a,j0',.ty "ValueError",.type "ValueError",true,rfl,rfl,hA,by rw[hKK];exact XX.t4,true,rfl,?_⟩;refine⟨.ref l,j1',.inl ⟨rfl,_,.inl (.inl hL)⟩,l,rfl,rfl,hL,(show 2<=sizeLine by decide),λp hp=>q l p hl0 hp⟩
def sE{a:i9}{j:Nat}{pa pb pc pd:Pos}(C:Cxt P w K mg base X N sc k df)(F:FnE3 P w K mg base CN i "_law_refused" j)(hj:j<=k)(o1:okVar N sc 4 "_law_e"=true)(o2:okGl sc "_law_refused"=true){pins:List (i9×Obj)}{σ:St}{H:Hp}{s:i6}
 (I:Inv (inX X a) pins σ H s) (hσ:σ[4]?=some (some (.ref a))) (hH:H a=some (.ext (ExcAt' a CN))) (he:i8 [.Name "_law_e" pb] X.env=(false,eval (.Name "_law_e" pb) X.env)::i8 [] X.env) (hpl:(CD pc (i8 [] X.env)).any (·.1)=false):
 wpAny (u7 X.prog X.w) (X.A.mark (some (.ref a))) (execs [.Return (some (.Call (.Name "_law_refused" pa) [.Name "_law_e" pb] [] pc)) pd] X.env)
  (λf s'=>∃l p H' ,f=.ret (.ref p)/\Inv (inX X a) pins σ H' s'/\H l=none/\(upd H l (.lst (flV i))) p=none/\H'=upd (upd H l (.lst (flV i))) p (.tup [.str "refused",.int (i:Int)])) (λ_ _=>False) s:=by
 obtain⟨f,fd,ps,hps,hm,hk,hb,run⟩:=F.ex;obtain⟨g1,g2,g3⟩:=okGl.gl C o2;obtain⟨e1,e2,e3,e4⟩:=okVar.at o1;have pE:PE (inX X a) (.Name "_law_e" pb) (Us 4):=Ko (X:=inX X a) (by show X.N[4]?=_;rw[C.hN];exact e1) (by show Vis X.env.scope _;rw[C.hs];exact e2) e3 e4;refine GE (JA ?_);refine DV (Dv (X:=inX X a) I g1 (by show X.mg _=_;rw[C.hmg];exact hm) ?_ g2);have hk':BR (inX X a).K (.ref f)=true:=by show BR X.K _=_;rw[C.hK];exact hk
 have hb':Binds (inX X a).K fd ps []:=by show Binds X.K fd ps [];rw[C.hK];exact hb
 refine LV (h₀:=X.base) I.ok.mod.kin hk' (thn ((E8 pE N0 he) pc pins s σ H (λvs H1=>vs=[.ref a]/\H1=H) I ⟨.ref a,hσ,rfl,rfl⟩) λus s1 hY3=>?_) he hpl;obtain⟨vs,H1,I1,r,ev,eH⟩:=hY3;refine⟨I1.kIn,?_⟩;subst ev eH;have hl:(us++[]).length=ps.length:=by rw[u8,<-r.length,hps];rfl
 have hbt:=hb' s1 us I1.kIn hl;rw[u8]at hbt;have rm:Room j (Xy (X.A.mark (some (.ref a)))):=by
  have:=C.room.mono hj;exact⟨rfl,this.dp,this.un,this.gd⟩
 have e0:Env0 P w K mg base (X.A.mark (some (.ref a))) X.stack s1 H1:=by
  have:=I1.env0;rw[<-C.hP,<-C.hw,<-C.hK,<-C.hmg,<-C.hb];exact this
 refine NC (JZ (M:=u7 X.prog X.w) (by rw[C.hP,C.hw];exact run (Q:=λv H'=>∃l p,v=.ref p/\H1 l=none/\(upd H1 l (.lst (flV i))) p=none/\H'=upd (upd H1 l (.lst (flV i))) p (.tup [.str "refused",.int (i:Int)])) (E:=λ_ _ _=>False) rm e0 hbt r hH λl p h1 h2=>⟨l,p,rfl,h1,h2,rfl⟩) λr s' hq=>?_);cases r with
 |error e=>exact(show False from hq).elim
 |ok fl=>
  cases fl with
  |ret u=>
   have hq':CE X.stack X.prog X.w H1 s1 (λv H'=>∃l p,v=.ref p/\H1 l=none/\(upd H1 l (.lst (flV i))) p=none/\H'=upd (upd H1 l (.lst (flV i))) p (.tup [.str "refused",.int (i:Int)])) u s':=by
    rw[C.hP,C.hw];exact hq
   obtain⟨v,H',J,rv,l,p,e1,h1,h2,h3⟩:=I1.after hq';subst e1;cases (show u=CU p from rv);exact⟨l,p,H',rfl,J,h1,h2,h3⟩
  |next=>exact(show False from hq).elim
  |brk=>exact(show False from hq).elim
  |cont=>exact(show False from hq).elim
end
def Fi(i:Nat)(r:Res f8):Out:=match r with
 |.ok d=>.rt d
 |.exc _=>.rt (U8 i)
 |.no=>.no
def nY(m0 m1 m2 m3:List f8->Res f8):Dn->Out:=λδ=>K1 (A0 0 δ) λwy=>match wy with
 |.int 0=>K1 ((A2 (A0 1) (A2 (A0 2) A7)) δ) λds=>Fi 0 (m0 ds)
 |.int 1=>K1 ((A2 (A0 1) (A2 (A0 2) (A2 (A0 3) A7))) δ) λds=>Fi 1 (m1 ds)
 |.int 2=>K1 ((A2 (A0 1) (A2 (A0 2) A7)) δ) λds=>Fi 2 (m2 ds)
 |.int 3=>K1 ((A2 (A0 1) (A2 (A0 2) A7)) δ) λds=>Fi 1 (m3 ds)
 |_=>.no
def pH(N:List Str)(sc:Scope)(df:Bool):Bool:=okVar N sc 0 "_law_way"&&okVar N sc 1 "_law_book_here"&&okVar N sc 2 "_law_thing"&&okVar N sc 3 "_law_side"&&okGl sc "place_of"&&okGl sc "anchor_at"&&okGl sc "marked"&&okGl sc "names_at"&&okGl sc "MarkError"&&okGl sc "_law_refused"&&okSet N sc df 4 "_law_e"&&okVar N sc 4 "_law_e"&&decide (sc.names.lookup ("_law_e" : Str)=some NameKind.local)
section
variable {P:o9}{w:x8}{K:i5}{mg:Str->Option g9}{base:BL}{X:Cx}{N:List Str}{sc:Scope}{k:Nat}{df:Bool}{CS CP CNm CM:i9}
def yH{m0 m1 m2 m3:List f8->Res f8}{j0 j1 j2 j3 j4 x0 x1 x2:Nat}{a1 a2 a3 a4 a5 a6 a7 a8 a9 b1 b2 b3 b4 b5 b6 b7 b8 b9 b10 c1 c2 c3 c4 c5 c6 c7 c8 c9 c10 c11 q10 q11 q12 q13 q14 q15 pos:Pos}(C:Cxt P w K mg base X N sc k df)(hst:X.stack=X.env::X.outer/\X.env.frame=some X.env.locals)(hex:X.ex=[])(XS:XSet4 K mg CS CP CNm CS CM 0)(XP:XSet4 K mg CS CP CNm CP CM 1)(XN:XSet4 K mg CS CP CNm CNm CM 2)
 (F0:FnX P w K mg base CS "place_of" j0 2 m0) (h0:j0<=k) (F1:FnX P w K mg base CP "anchor_at" j1 3 m1) (h1:j1<=k) (F2:FnX P w K mg base CNm "marked" j3 2 m2) (h2:j3<=k) (F3:FnX P w K mg base CP "names_at" j4 2 m3) (h3:j4<=k)
 (RS:FnE3 P w K mg base CS 0 "_law_refused" j2) (RP:FnE3 P w K mg base CP 1 "_law_refused" j2) (RN:FnE3 P w K mg base CNm 2 "_law_refused" j2) (hj2:j2<=k) (ok:pH N sc df=true)
 (he:i8 [.Name "_law_e" q12] X.env=(false,eval (.Name "_law_e" q12) X.env)::i8 [] X.env:=by rfl) (hpl:(CD q13 (i8 [] X.env)).any (·.1)=false:=by rfl):
 DS X E0k (.Try [.If (.Compare (.Name "_law_way" a1) [.Eq] [.Constant (.int 0) x0 a2] a3) [.Return (some (.Call (.Name "place_of" a4) [.Name "_law_book_here" a5,.Name "_law_thing" a6] [] a7)) a8] [] a9,
  .If (.Compare (.Name "_law_way" b1) [.Eq] [.Constant (.int 1) x1 b2] b3) [.Return (some (.Call (.Name "anchor_at" b4) [.Name "_law_book_here" b5,.Name "_law_thing" b6,.Name "_law_side" b7] [] b8)) b9] [] b10,
  .Return (some (.Call (.Subscript (.List [.Name "marked" c1,.Name "names_at" c2] c3) (.BinOp (.Name "_law_way" c4) .Sub (.Constant (.int 2) x2 c5) c6) c7) [.Name "_law_book_here" c8,.Name "_law_thing" c9] [] c10)) c11]
  [.ExceptHandler (some (.Name "MarkError" q10)) (some "_law_e") [.Return (some (.Call (.Name "_law_refused" q11) [.Name "_law_e" q12] [] q13)) q14] q15] [] [] pos) (nY m0 m1 m2 m3):=λG0 H0 pins s σ H D I hZ8=>by
 obtain⟨G,δ,S,aft⟩:=hZ8;unfold pH at ok;simp only[x3,decide_eq_true_eq]at ok;obtain⟨⟨⟨⟨⟨⟨⟨⟨⟨⟨⟨⟨o0,o1⟩,o2⟩,o3⟩,p0⟩,p1⟩,p2⟩,p3⟩,om⟩,orf⟩,os⟩,oe⟩,olc⟩:=ok;obtain⟨w1,w2,w3,w4⟩:=okVar.at o0;obtain⟨u1,u2,u3,u4⟩:=okVar.at o1;obtain⟨v1,v2,v3,v4⟩:=okVar.at o2;obtain⟨y1,y2,y3,y4⟩:=okVar.at o3;obtain⟨d1,d2,d3⟩:=okGl.gl C p0;obtain⟨e1,e2,e3⟩:=okGl.gl C p1;obtain⟨f1',f2',f3'⟩:=okGl.gl C p2;obtain⟨g1',g2',g3'⟩:=okGl.gl C p3;obtain⟨m1',m2',m3'⟩:=okGl.gl C om;obtain⟨t1,t2,t3,t4⟩:=okSet.ok C os;obtain⟨f0,fd0,ps0,hps0,Ff0,hm0,hk0,hb0⟩:=F0.ex;obtain⟨f1,fd1,ps1,hps1,Ff1,hm1,hk1,hb1⟩:=F1.ex
 obtain⟨f2,fd2,ps2,hps2,Ff2,hm2,hk2,hb2⟩:=F2.ex;obtain⟨f3,fd3,ps3,hps3,Ff3,hm3,hk3,hb3⟩:=F3.ex;refine wpAny_Try_except ?_;generalize hEw:(λ(e:g9) (s₁:i6)=>wpAny (u7 X.prog X.w) X.A (noteFrame e X.env) (λ_ s₂=>wpAny (u7 X.prog X.w) X.A (setFlight e none) (λ_ s₃=>wpAny (u7 X.prog X.w) X.A (handleBy e X.env _) (SP X pins D) X.xe s₃) X.xe s₂) X.xe s₁)=Ew;have vr:∀{i:Nat} {x:Str} {q:Pos},N[i]?=some x->Vis sc x->(x==("__debug__" : Str))=false->(x==("__classdict__" : Str))=false->DE (X.wish Ew) E0k (.Name x q) (A0 i):=λ{i x q} k1 k2 k3 k4=>
  rA (X:=X.wish Ew) (by show X.N[i]?=_;rw[C.hN];exact k1) (by show Vis X.env.scope _;rw[C.hs];exact k2) k3 k4
 have da2:∀{qa qb:Pos},DA (X.wish Ew) E0k [.Name "_law_book_here" qa,.Name "_law_thing" qb] 2 (A2 (A0 1) (A2 (A0 2) A7)):=λ{qa qb}=>
  A4 (vr u1 u2 u3 u4) (A4 (vr v1 v2 v3 v4) A9)
 have da3:∀{qa qb qc:Pos},DA (X.wish Ew) E0k [.Name "_law_book_here" qa,.Name "_law_thing" qb,.Name "_law_side" qc] 3 (A2 (A0 1) (A2 (A0 2) (A2 (A0 3) A7))):=λ{qa qb qc}=>
  A4 (vr u1 u2 u3 u4) (A4 (vr v1 v2 v3 v4) (A4 (vr y1 y2 y3 y4) A9))
 have I0:Inv (X.wish Ew) pins σ H s:=I.wish Ew;have call : ∀ {CN : i9} {i : Nat} {f : i9} {fd : IB} {ps' : List Str} {m : List f8 -> Res f8} {j n : Nat} {H1 : Hp} {s1 : i6} {ds : List f8} {e0 : Expr} {es : List Expr} {fs : Dn -> Res (List f8)} {q8 : Pos},XSet4 K mg CS CP CNm CN CM i -> FnE3 P w K mg base CN i "_law_refused" j2 -> FnOk P w K mg base (CXe P w) j f fd ps' (spX n m CN) -> j <= k -> BR K (.ref f) = true -> Binds K fd ps' [] -> DA (X.wish Ew) E0k (e0::es) n fs -> i8 (e0::es) X.env = (false,eval e0 X.env)::i8 es X.env -> (CD q8 (i8 es X.env)).any (·.1) = false -> Inv (X.wish Ew) pins σ H1 s1 -> SSt G0 H0 G H1 σ δ -> fs δ = .ok ds ->
  (match m ds with |.ok d=>∀v G' H',Grow G0 H0 G' H'->Rep G' d v->D.rt v H' |.exc _=>∀v G' H',Grow G0 H0 G' H'->Rep G' (U8 i) v->D.rt v H' |.no=>False) ->
  wpAny (u7 X.prog X.w) X.A (callWith q8 (.ref f) [] (CD q8 (i8 (e0::es) X.env)) (HY q8 (FL [] X.env))) (EP (X.wish Ew) pins σ D.rt) Ew s1:=by
  intro CN i f fd ps' m j n H1 s1 ds e0 es fs q8 XX FR Ff hj hk hb da hes hpls I1 S1 ef am;have F':FnOk (X.wish Ew).prog (X.wish Ew).w (X.wish Ew).K (X.wish Ew).mg (X.wish Ew).base (CXe P w) j f fd ps' (spX n m CN):=by
   show FnOk X.prog X.w X.K X.mg X.base (CXe P w) j f fd ps' (spX n m CN);rw[C.hP,C.hw,C.hK,C.hmg,C.hb];exact Ff
  refine rK (X:=X.wish Ew) (E:=λc _ H'=>c=.ref CN/\∃G',Grow G0 H0 G' H'/\∀v G2 H2,Grow G0 H0 G2 H2->Rep G2 (U8 i) v->D.rt v H2) F' (C.room.mono hj) (by show BR X.K _=_;rw[C.hK];exact hk) (by show Binds X.K fd ps' [];rw[C.hK];exact hb) da.pa I1 ?_ ?_ hes hpls
  .refine⟨G,δ,S1.sr,?_⟩
   rw[ef];intro vs G1 H2 g1 r1;refine⟨G1,ds,(S1.grow g1).sr.sub,r1,da.len δ ds ef,?_⟩;cases em:m ds with
   |ok d=>rw[em]at am;exact λv G' H' g r=>am v G' H' ((S1.grow g1).gr.trans g) r
   |exc c=>rw[em]at am;exact λG' H' g=>⟨rfl,G',(S1.grow g1).gr.trans g,am⟩
   |no=>rw[em]at am;exact(show False from am).elim
  .rintro H1 s1 e s' I1 ⟨a,c,H',e1,e2,e3,Fl,ec,G',gr,fin⟩
   subst e1 ec;show Ew (.ref a) s';rw[<-hEw];have I1x:Inv X pins σ H1 s1:=I1.unwish;have hk:∀{Hx:Hp} {hx:BL},HOk P w Hx hx->HOk X.prog X.w Hx hx:=λz=>by rw[C.hP,C.hw];exact z
   have I2:Inv X pins σ H' s':=I1x.call' (ch:=[]) e2 Fl.un (hk Fl.hok) e3 (λb z=>absurd z (by simp));have hfr:X.A.frames=some (X.env::X.outer):=by rw[<-hst.1];exact I2.ok.frames
   have hl:s'.heap.FunFrames X.base (X.env::X.outer):=by rw[<-hst.1];exact I2.stack
   have hfree:∀b∈frs (X.env::X.outer),H' b=none:=by rw[<-hst.1];exact I2.stkFree
   have hfs:∀b∈frs (X.env::X.outer),b∈frs X.stack\/s1.heap.get? b=none:=λb hb=>.inl (by rw[hst.1];exact hb);refine mF (P:=P) (w:=w) hfr hl hst.2 Fl hfree hfs λh3 F3 ff3=>?_;have I3:Inv X pins σ H' {s' with heap:=h3}:=I1x.call' (s':={s' with heap:=h3}) (ch:=[]) e2 F3.un (hk F3.hok) e3 (λb z=>absurd z (by simp));have xa:ExcAt' a CN h3:=by
    obtain⟨oe,vs,a0,T,oT,ts,z1,z2,_⟩:=F3.fly;exact⟨oe,z1,z2⟩
   refine wpAny_handleBy_cons (codeAny_handlers_test (Dv (X:=inX X a) (Sm.Inv.inX I3 a) m1' (by show X.mg _=_;rw[C.hmg];exact XX.mM) ?_ m2')) (by intro q;cases q);refine cS (K:=K) (by have:=I3.kIn;rw[C.hK]at this;exact this) xa XX.k1 XX.k2 XX.k3 XX.k4 ?_;refine codeAny_handlers_suite_as ?_;refine qD (P:=P) (w:=w) (l:=X.env::X.outer) (base:=X.base) ff3 F3 hfree hfs λh4 F4=>?_;obtain⟨u4,k4⟩:=cR F4;have I4:Inv X pins σ (upd H' a (.ext (ExcAt' a CN))) {s' with heap:=h4}:=I1x.call' (s':={s' with heap:=h4}) (ch:=[]) e2 u4 (hk k4) e3 (λb z=>absurd z (by simp));have hl3:4<σ.length:=by
    rw[I1x.len,C.hN];exact(x4.mp (okVar.at oe).1).1
   refine Rg (X:=inX X a) (Sm.Inv.inX I4 a) t1 t2 t3 (v:=.ref a) rfl (λs5 I5=>?_) t4;refine DG (sE C FR hj2 oe orf I5 (by rw[IM hl3]) C8 he hpl) (λf s6 ⟨l,p,H6,ef,J,hl0,hp0,eH⟩=>?_) (λ_ _ z=>z.elim);subst ef;obtain⟨m0,hn0,_⟩:=J.loc;have kl:X.env.kindOf "_law_e"=some .local:=by show X.env.scope.names.lookup _=_;rw[C.hs];exact olc
   refine wpAny_nameGoes kl hn0 (by rw[I1x.ok.kind];rfl) λh7 m7 hn7 sb7=>?_;have g1:Grow G' H' G' (upd H' a (.ext (ExcAt' a CN))):=Grow.own gr.gh F4.fly.none.2;have g2:Grow G' (upd H' a (.ext (ExcAt' a CN))) G' (upd (upd H' a (.ext (ExcAt' a CN))) l (.lst (flV i))):=Grow.own g1.gh hl0;have g3:=Grow.new (o:=.tup [.str "refused",.int (i:Int)]) g2.gh hp0;subst eH;refine⟨.ref p,_,_,Sm.Inv.forget (Sm.Inv.outX J I1x.ok) hn7 sb7,rfl,fin (.ref p) (upd G' p (.tup [.str "refused",.int (i:Int)])) _ (((gr.trans g1).trans g2).trans g3) ?_⟩;exact⟨p,_,rfl,C8,RepL.cons ⟨rfl,by decide+kernel,by decide+kernel⟩ (RepL.cons rfl rfl)⟩
 have pw:∀{q:Pos},PE (X.wish Ew) (.Name "_law_way" q) (Us 0):=λ{q}=>Ko (X:=X.wish Ew) (by show X.N[0]?=_;rw[C.hN];exact w1) (by show Vis X.env.scope _;rw[C.hs];exact w2) w3 w4;have gl2:∀{x:Str} {f:i9} {q:Pos},Gl X x->(x==("__debug__" : Str))=false->mg x=some (.ref f)->PE (X.wish Ew) (.Name x q) (tC (.ref f)):=λ{x f q} k1 k2 k3=>Zf k1 (by show X.mg _=_;rw[C.hmg];exact k3) rfl k2;have tst:∀{n i:Int} {j:Nat} {qa qb qc:Pos} {Q:Bool->i6->Prop} {s1:i6},Inv (X.wish Ew) pins σ H s1->σ[0]?=some (some (.int n))->(∀s2,Inv (X.wish Ew) pins σ H s2->Q (decide (n=i)) s2)->wpAny (u7 X.prog X.w) X.A (isTrue (.Compare (.Name "_law_way" qa) [.Eq] [.Constant (.int i) j qb] qc) X.env (eval (.Compare (.Name "_law_way" qa) [.Eq] [.Constant (.int i) j qb] qc) X.env)) Q Ew s1:=λ{n i j qa qb qc Q s1} J hσ hQ=>by
  have pt:=Za (X:=X.wish Ew) (pos:=qc) op_eq (pw (q:=qa)) (Kp (X:=X.wish Ew) (i:=i) (j:=j) (pos:=qb)) (Ih _);refine thn (pt pins s1 σ H (λb H1=>b=decide (n=i)/\H1=H) J ⟨.int n,hσ,rfl,_,rfl,?_,rfl⟩) λb s2 hz=>?_
  .rw[Zx,CZ,beq_iff_eq,decide_eq_true_eq]
  .obtain⟨H1,I1,rfl,rfl⟩:=hz
   exact hQ s2 I1
 have pl:PE (X.wish Ew) (.List [.Name "marked" c1,.Name "names_at" c2] c3) (tLst (Qv (tC (.ref f2)) (Qv (tC (.ref f3)) sD))):=Sv (E8 (gl2 f1' f2' hm2) (E8 (gl2 g1' g2' hm3) N0));have px:=wX (pos:=c7) (iR (X:=X.wish Ew)) pl (wW (X:=X.wish Ew) (pos:=c6) pA (pw (q:=c4)) (Kp (X:=X.wish Ew) (i:=2) (j:=x2) (pos:=c5))) (λ_ _=>rfl);unfold nY at aft;cases ew:A0 0 δ with
 |exc c=>rw[ew]at aft;exact(show False from aft G H S.gr).elim
 |no=>rw[ew]at aft;exact(show False from aft).elim
 |ok wy=>
  rw[ew]at aft;simp only[K1]at aft;have hsl:∃v,σ[0]?=some (some v)/\Rep G wy v:=by
   unfold A0 at ew;split at ew
   .rename_i d e
    cases ew;obtain⟨v,e1,r⟩:=S.sr.sl 0 _ e;refine⟨v,?_,r⟩;cases q:σ[0]? with
    |none=>rw[q]at e1;cases e1
    |some z=>rw[q]at e1;rw[show z=some v from e1]
   .cases ew
  obtain⟨v,hσ,rv⟩:=hsl;have fin4:∀{i:Nat} {m:List f8->Res f8} {ds:List f8},Jp E0k G0 H0 (Fi i (m ds)) D->(match m ds with |.ok d=>∀v G' H',Grow G0 H0 G' H'->Rep G' d v->D.rt v H' |.exc _=>∀v G' H',Grow G0 H0 G' H'->Rep G' (U8 i) v->D.rt v H' |.no=>False):=λ{i m ds} z=>by
   unfold Fi at z;cases em:m ds <;> rw[em]at z <;> exact z
  have args:∀{fs:Dn->Res (List f8)} {h:List f8->Out},Jp E0k G0 H0 (K1 (fs δ) h) D->∃ds,fs δ=.ok ds/\Jp E0k G0 H0 (h ds) D:=λ{fs h} z=>by
   cases ef:fs δ with
   |exc c=>rw[ef]at z;exact(show False from z G H S.gr).elim
   |no=>rw[ef]at z;exact(show False from z).elim
   |ok ds=>rw[ef]at z;exact⟨ds,rfl,z⟩
  cases wy with
  |int n=>
   obtain rfl:=(show v=.int n from rv);refine GE (wpAny_If (tst I0 hσ λs1 I1=>?_));by_cases n0:n=0
   .subst n0
    rw[decide_eq_true rfl,iq rfl];obtain⟨ds,ef,am⟩:=args (fs:=A2 (A0 1) (A2 (A0 2) A7)) (h:=λds=>Fi 0 (m0 ds)) aft;refine GE (JA (thn (Q:=EP (X.wish Ew) pins σ D.rt) ?_ λu s2 hZ2=>?_))
    .exact DV (Dv (X:=X.wish Ew) I1 d1 (by show X.mg _=_;rw[C.hmg];exact hm0) (call XS RS Ff0 h0 hk0 hb0 da2 rfl rfl I1 S ef (fin4 am)) d2)
    .obtain⟨v,H1,I1,rv,q⟩:=hZ2
     exact⟨v,σ,H1,I1.unwish,rv,q⟩
   .rw[decide_eq_false n0,ir (by decide)]
    refine IH (GE (wpAny_If (tst I1 hσ λs2 I2=>?_)));by_cases n1:n=1
    .subst n1
     rw[decide_eq_true rfl,iq rfl];obtain⟨ds,ef,am⟩:=args (fs:=A2 (A0 1) (A2 (A0 2) (A2 (A0 3) A7))) (h:=λds=>Fi 1 (m1 ds)) aft;refine GE (JA (thn (Q:=EP (X.wish Ew) pins σ D.rt) ?_ λu s2 hZ2=>?_))
     .exact DV (Dv (X:=X.wish Ew) I2 e1 (by show X.mg _=_;rw[C.hmg];exact hm1) (call XP RP Ff1 h1 hk1 hb1 da3 rfl rfl I2 S ef (fin4 am)) e2)
     .obtain⟨v,H1,I1,rv,q⟩:=hZ2
      exact⟨v,σ,H1,I1.unwish,rv,q⟩
    .rw[decide_eq_false n1,ir (by decide)]
     refine IH (GE (JA (thn (Q:=EP (X.wish Ew) pins σ D.rt) (rJ ?_) λu s2 hZ2=>?_)))
     .by_cases n2:n=2
      .subst n2
       obtain⟨ds,ef,am⟩:=args (fs:=A2 (A0 1) (A2 (A0 2) A7)) (h:=λds=>Fi 2 (m2 ds)) aft;refine thn (px pins s2 σ H (λv H1=>v=.ref f2/\∃l,H l=none/\H1=upd H l (.lst [.ref f2,.ref f3])) I2 ⟨(show 2<=sizeLine by decide),λl hl=>⟨.int 2,hσ,2,2,rfl,rfl,l,_,0,.ref f2,rfl,rfl,.inl (.inl C8),rfl,rfl,l,hl,rfl⟩⟩) λfv s3 hZ2=>?_;obtain⟨v,H1,I3,rv,ev,l,hl,eH⟩:=hZ2;subst ev eH;cases (show fv=CU f2 from rv);exact call XN RN Ff2 h2 hk2 hb2 da2 rfl rfl I3 (S.grow (Grow.own S.sr.sub hl)) ef (fin4 am)
      .by_cases n3:n=3
       .subst n3
        obtain⟨ds,ef,am⟩:=args (fs:=A2 (A0 1) (A2 (A0 2) A7)) (h:=λds=>Fi 1 (m3 ds)) aft;refine thn (px pins s2 σ H (λv H1=>v=.ref f3/\∃l,H l=none/\H1=upd H l (.lst [.ref f2,.ref f3])) I2 ⟨(show 2<=sizeLine by decide),λl hl=>⟨.int 3,hσ,3,2,rfl,rfl,l,_,1,.ref f3,rfl,rfl,.inl (.inl C8),rfl,rfl,l,hl,rfl⟩⟩) λfv s3 hZ2=>?_;obtain⟨v,H1,I3,rv,ev,l,hl,eH⟩:=hZ2;subst ev eH;cases (show fv=CU f3 from rv);exact call XP RP Ff3 h3 hk3 hb3 da2 rfl rfl I3 (S.grow (Grow.own S.sr.sub hl)) ef (fin4 am)
       .exfalso
        split at aft
        .rename_i z;cases z;exact n0 rfl
        .rename_i z;cases z;exact n1 rfl
        .rename_i z;cases z;exact n2 rfl
        .rename_i z;cases z;exact n3 rfl
        .exact aft
     .obtain⟨v,H1,I1,rv,q⟩:=hZ2
      exact⟨v,σ,H1,I1.unwish,rv,q⟩
  |_=>exact(show False from aft).elim
end
def Hn(i:Nat)(f:Dn->Res f8)(m:List Sl->Res f8):Dn->Res f8:=λδ=>match δ[i]? with
 |some (.fd kvs)=>(f δ).bind λd=>noX (m [.fd kvs,.sh d])
 |_=>.no
section
variable {P:o9}{w:x8}{K:i5}{mg:Str->Option g9}{base:BL}{X:Cx}{N:List Str}{sc:Scope}{k:Nat}{df:Bool}{E:EK}{pos p p1:Pos}{e:Expr}{f:Dn->Res f8}{x y:Str}
def mB{j:Nat}{m:List Sl->Res f8}(C:Cxt P w K mg base X N sc k df)(F:FnS P w K mg base y j 2 m)(hj:j<=k)(h:okGl sc y=true)(i:Nat)(hv:okVar N sc i x=true)(ha:DE X E e f)
 (he:i8 [.Name x p1,e] X.env=(false,eval (.Name x p1) X.env)::i8 [e] X.env:=by rfl) (he2:i8 [e] X.env=(false,eval e X.env)::i8 [] X.env:=by rfl) (hpl:(CD pos (i8 [e] X.env)).any (·.1)=false:=by rfl):
 DE X E (.Call (.Name y p) [.Name x p1,e] [] pos) (Hn i f m):=by
 obtain⟨fa,fd,ps,hps,F,hm,hk,hb⟩:=F.ex;obtain⟨h1,h2,h3⟩:=okGl.gl C h;have F':FnOk X.prog X.w X.K X.mg X.base CX0 j fa fd ps (spS 2 m):=by rw[C.hP,C.hw,C.hK,C.hmg,C.hb];exact F
 refine PE.imp (Dr F' (C.room.mono hj) h1 (by rw[C.hmg];exact hm) (by rw[C.hK];exact hk) (by rw[C.hK];exact hb) .nil (Sw (X:=X)) (E8 (okVar.pe C hv) (E8 ha N0 he2) he) h2 he hpl) λσ H Q hh=>?_;obtain⟨G,δ,S,aft⟩:=hh;unfold Hn at aft;split at aft
 .rename_i kvs hi
  obtain⟨u,hσ,_⟩:=S.fdV hi;refine⟨u,hσ,?_⟩;refine K0 S aft λd v G1 H1 g1 r1 S1 a1=>?_;obtain⟨u',hσ',fo⟩:=S1.fdV hi;rw[hσ]at hσ';cases hσ';cases em:m [.fd kvs,.sh d] with
  |ok r=>rw[em]at a1;exact⟨G1,[.fd kvs,.sh d],r,S1.sub,⟨u,_,rfl,fo,v,_,rfl,r1,rfl⟩,rfl,em,a1⟩
  |exc c=>rw[em]at a1;exact(show False from a1).elim
  |no=>rw[em]at a1;exact(show False from a1).elim
 .exact(show False from aft).elim
end
end Sm
end
section
namespace Sm
open PySem PySem.Spec PyProof.Rows L2
noncomputable def jB:f8->Option f8
 |.list ds=>some (.list ds.reverse)
 |_=>none
def Vg(its:List g9):slicePick its.toArray none none (some (-1))=its.reverse.toArray:=by
 rw[<-bR];unfold slicePick;have hb:IR none none (some (-1)) its.toArray.size=((its.length:Int)-1,-1,-1):=by
  rw[m8];rfl
 rw[hb];show((sliceRange ((its.length:Int)-1) (-1) (-1)).filterMap (its.toArray[·]?)).toArray=_;unfold sliceRange;have hn:(if (-1:Int)>0 then(if (its.length:Int)-1 < -1 then(-1-((its.length:Int)-1) + -1-1) / -1 else 0) else if (its.length:Int)-1 > -1 then((its.length:Int)-1 - -1 - -1-1)/(- -1) else 0)=(its.length:Int):=by
  rw[ir (by decide)];split
  .rw[show(- -1:Int)=1 by decide,PF];lia
  .lia
 simp only[hn];rw[KG,List.filterMap_map];congr 2;funext k;show its.toArray[((its.length:Int)-1 + -1*(k:Int)).toNat]?=_;rw[Int.mul_comm]
section
variable {w:x8}{X:Cx}{E:EK}{pos p1 p2 p3:Pos}{a:Expr}{f:Dn->Res f8}
def AT{j:Nat}(ha:DE X E a f):DE X E (.Subscript a (.Slice none none (some (.UnaryOp .USub (.Constant (.int 1) j p1) p2)) p3) pos) (b1 f jB):=by
 rintro pins s σ H Q I ⟨G,δ,S,aft⟩;have hh:tD E f σ H (λv H1=>∃G1 d,Same G1 H1/\Rep G1 d v/\Aft E G1 H1 (ofO (jB d)) Q):=K0 S aft λd v G1 H1 g1 r1 S1 a1=>⟨G1,d,S1.sub,r1,a1⟩;refine NG (thn (ha pins s σ H _ I hh) λv s1 hZ2=>?_);obtain⟨x,H1,I1,rx,G1,d,hG,rd,a1⟩:=hZ2;refine wpAny_Slice ?_;rw[MX];refine i0 (i0 ?_);rw[evalPart_some];refine thn ((iF Yf (Kp (i:=1) (j:=j) (pos:=p1))) pins s1 σ H1 (λv H2=>v=.int (-1)/\H2=H1) I1 ⟨1,rfl,rfl,rfl⟩) λu s2 hZ2=>?_;obtain⟨y,H2,I2,ry,ey,eh⟩:=hZ2;subst ey eh;obtain⟨tk,rfl⟩:=ry;cases d with
 |list ds=>
  obtain⟨q,xs,rfl,h1,l1⟩:=rd;cases rx;have I3:Inv X pins σ H2 {s2 with heap:=s2.heap.push {cls:=.type "slice",data:=.fields #[.none,.none,.int (-1) tk]}}:=I2.kept (t':=s2.toks) λb ob q=>l8 _ q;obtain⟨z,its,n,rv,e1⟩:=X3 I3 hG h1;have hl:Heap.IsList _ q its.toArray:=⟨_,e1,rfl,n,rfl⟩;show wpAny (u7 X.prog X.w) X.A (KZ a _ (.ref q) (.ref s2.heap.objs.size)) (EP X pins σ Q) X.xe {s2 with heap:=s2.heap.push {cls:=.type "slice",data:=.fields #[.none,.none,.int (-1) tk]}};have hlen:=rv.length;refine tail_any (ops:=[.ref q,.ref s2.heap.objs.size]) hl.typeIs KR.lookup (KY hl (KQ ..) .none .none (.int _ _) (by decide) ?_ (by rw[m8];lia)) (by with_unfolding_all rfl)
  rw[Vg];exact Qj (t':=s2.toks) I3 hG rv.reverse l1.reverse (by rw[CQ];exact z) a1
 |_=>exact(show False from a1).elim
end
def stm(i j:Nat):GC:=(B6 (top i)).getD j (.Pass ⟨0,0,0,0⟩)
structure Txt(mg:Str->Option g9):Prop where
 b_ValueError:mg "ValueError"=none
 b_dict:mg "dict"=none
 b_enumerate:mg "enumerate"=none
 b_int:mg "int"=none
 b_isinstance:mg "isinstance"=none
 b_len:mg "len"=none
 b_list:mg "list"=none
 b_max:mg "max"=none
 b_range:mg "range"=none
 b_reversed:mg "reversed"=none
 b_sorted:mg "sorted"=none
 b_tuple:mg "tuple"=none
 c_SIDES:∃t,mg "SIDES"=some (.str "lr" t)
noncomputable def W8:List Str:=["deed"]
def X2:Dn->Out:=(L5 (vIf (C3 (b2 (b2 (A0 0) (vC (.int 0)) dIx) (vC (.str "add")) dEq)) (vFn (A2 (b2 (A0 0) (vC (.int 3)) dIx) A7) Q3) (vC (.int 0))))
def L6:List f8->Res f8:=fnD W8 X2
noncomputable def Am:List Str:=["book","behind","deed"]
def Bs:Dn->Res Kvs:=(Di (Ac 1) (Di (bH 1 2 (λδ=>((A0 0) δ).bind D8) (C3 (b2 (C9 (A2 (A0 2) A7) L6) (vC (.int 0)) (Fg .Gt))) (b2 (A0 2) (vC (.int 2)) dIx) (A0 2)) (Vv 1)))
def U2:List f8->Res Kvs:=fnW Am Bs
noncomputable def T5:List Str:=["book","behind","waiting","told","step","deed","number","sign"]
def Ef:Dn->Out:=(U7 1 (Ey (A2 (A0 0) A7) U2))
def Ee:Dn->Out:=(Lo 2 (G6 (λδ=>((Jq 1 (vC .none) (K8 A7)) δ).bind D8) F7 [] M5 (E5 (A2 (A0 0) (A2 (vC (.int 0)) A7)))))
def Js:Dn->Out:=(Lo 3 A7)
def Ed:Dn->Out:=(nX (dS 2) (C5 (kL 2 4) (C5 (E4 5 (b2 (A0 4) (vC (.int 0)) dIx)) (C5 (E4 6 (b2 (A0 4) (vC (.int 1)) dIx)) (C5 (E4 7 (E5 (A2 (b2 (A0 5) (vC (.int 1)) dIx) (A2 (A0 6) A7)))) (C5 (Dj 3 (E5 (A2 (A0 7) (A2 (b2 (b2 (A0 5) (vC (.int 3)) dIx) (A0 6) dIx) A7)))) (C5 (sIf (C3 (b2 (b2 (A0 6) (vC (.int 1)) C7) (vFn (A2 (b2 (A0 5) (vC (.int 3)) dIx) A7) Q3) (E6 .Lt))) (Dj 2 (E5 (A2 (A0 5) (A2 (b2 (A0 6) (vC (.int 1)) C7) A7)))) F8) (kN 2 (G6 (λδ=>((Jq 1 (A0 7) (K8 A7)) δ).bind D8) F7 [] M5 (E5 (A2 (A0 0) (A2 (vC (.int 0)) A7))))))))))))
def Jr:Dn->Out:=(sFz 3 (L5 (A0 3)))
def Ft:Dn->Out:=(C5 Ef (C5 Ee (C5 Js (C5 Ed Jr))))
def Ag:List f8->Res f8:=fnD T5 Ft
noncomputable def Dw:List Str:=["book","undone","deed"]
def Ej:Dn->Res Kvs:=(Di (Ac 1) (Di (K7 (λδ=>((A0 0) δ).bind bI) (st1 2) (sIf (O5 (C3 (b2 (b2 (A0 2) (vC (.int 0)) dIx) (vC (.str "undo")) dEq)) (C3 (Bc true 1 (b2 (A0 2) (vC (.int 1)) dIx)))) (Z6 1 (b2 (A0 2) (vC (.int 2)) dIx) (vC (.bool true))) F8)) (Vv 1)))
def N7:List f8->Res Kvs:=fnW Dw Ej
noncomputable def Cc:List Str:=["book","undone","dropped","deed","sign"]
def Cz:Dn->Res Kvs:=(Di (Ac 2) (Di (K7 (λδ=>((A0 0) δ).bind D8) (st1 3) (sIf (O5 (C3 (b2 (b2 (A0 3) (vC (.int 0)) dIx) (vC (.str "drop")) dEq)) (C3 (Bc true 1 (b2 (A0 3) (vC (.int 1)) dIx)))) (K7 (λδ=>((b2 (A0 3) (vC (.int 2)) dIx) δ).bind D8) (st1 4) (Z6 2 (A0 4) (vC (.bool true)))) F8)) (Vv 2)))
def P0:List Sl->Res Kvs:=vE Cc Cz
noncomputable def M8:List Str:=["book","undone","dropped","told","pair"]
def Z9:Dn->Out:=(U7 1 (Ey (A2 (A0 0) A7) N7))
def Z8:Dn->Out:=(kM 1 (U7 2 (Yb (A0 0) 1 P0)))
def Fa:Dn->Out:=(Lo 3 A7)
def V5:Dn->Out:=(K7 (λδ=>((C9 (A2 (A0 0) A7) Ag) δ).bind D8) (st1 4) (Dj 3 (E5 (A2 (A0 4) (A2 (mU (Bc true 1 (b2 (b2 (A0 4) (vC (.int 0)) dIx) (vC (.int 0)) dIx)) (Bc true 2 (b2 (A0 4) (vC (.int 0)) dIx))) A7)))))
def Ez:Dn->Out:=(sFz 3 (L5 (A0 3)))
def Br:Dn->Out:=(C5 Z9 (C5 Z8 (C5 Fa (C5 V5 Ez))))
def N8:List f8->Res f8:=fnD M8 Br
noncomputable def Go:List Str:=["book"]
def Fu:Dn->Out:=(L5 (K8 (G6 (λδ=>((C9 (A2 (A0 0) A7) N8) δ).bind D8) F7 [] (C3 (b2 (A0 0) (vC (.int 1)) dIx)) (b2 (A0 0) (vC (.int 0)) dIx))))
def L8:List f8->Res f8:=fnD Go Fu
noncomputable def Jl:List Str:=["book"]
def Hy:Dn->Out:=(L5 (Gs "" (K8 (G6 (λδ=>((C9 (A2 (A0 0) A7) L8) δ).bind D8) F7 [] M5 (b2 (A0 0) (vC (.int 1)) dIx)))))
def Q7:List f8->Res f8:=fnD Jl Hy
noncomputable def Dx:List Str:=["book","places","behind","step","ahead"]
def Ek:Dn->Res Kvs:=(Di (Ac 1) (Di (E4 2 (vC (.int 0))) (Di (K7 (λδ=>((C9 (A2 (A0 0) A7) N8) δ).bind D8) (st1 3) (C5 (E4 4 (A0 2)) (C5 (sIf (C3 (b2 (A0 3) (vC (.int 1)) dIx)) (E4 2 (b2 (A0 4) (vC (.int 1)) C7)) F8) (Z6 1 (b2 (b2 (A0 3) (vC (.int 0)) dIx) (vC (.int 0)) dIx) (E5 (A2 (A0 2) (A2 (A0 4) A7))))))) (Di (Z6 1 (vC .none) (E5 (A2 (vC (.int 0)) (A2 (A0 2) A7)))) (Vv 1)))))
def O9:List f8->Res Kvs:=fnW Dx Ek
noncomputable def Gr:List Str:=["places","anchor"]
def Fv:Dn->Out:=(L5 (b2 (X7 0 (b2 (A0 1) (vC (.int 0)) dIx)) (Qb (vC (.str "lr")) (b2 (A0 1) (vC (.int 1)) dIx)) dIx))
def M1:List Sl->Res f8:=fnS Gr Fv
noncomputable def Le:List Str:=["book","anchor","places"]
def V6:Dn->Out:=(C5 (U7 2 (Zj (A2 (A0 0) A7) O9)) (C5 (sIf (C3 (Bc true 2 (b2 (A0 1) (vC (.int 0)) dIx))) (Dq "NoSign" (A0 1)) F8) (kM 2 (L5 (Hn 2 (A0 1) M1)))))
def X8:List f8->Res f8:=fnD Le V6
noncomputable def R0:List Str:=["book","place","side","shown","number"]
def Y4:Dn->Out:=(E4 3 (Fp (A2 (A0 0) A7) L8))
def Cj:Dn->Out:=(sIf (mH (C3 (K6 (vC (.int 0)) (A0 1) (vFn (A2 (A0 3) A7) Q3) (E6 .LtE) (E6 .LtE)))) (Dq "NoPlace" (A0 1)) F8)
def Ci:Dn->Out:=(E4 4 (vIf (C3 (b2 (A0 2) (vC (.str "l")) dEq)) (b2 (A0 1) (vC (.int 1)) rD) (A0 1)))
def Hr:Dn->Out:=(sIf (mH (C3 (K6 (vC (.int 0)) (A0 4) (vFn (A2 (A0 3) A7) Q3) (E6 .LtE) (E6 .Lt)))) (L5 (E5 (A2 (vC .none) (A2 (A0 2) A7)))) F8)
def Hq:Dn->Out:=(L5 (E5 (A2 (b2 (b2 (A0 3) (A0 4) dIx) (vC (.int 0)) dIx) (A2 (A0 2) A7))))
def Ka:Dn->Out:=(C5 Y4 (C5 Cj (C5 Ci (C5 Hr Hq))))
def N9:List f8->Res f8:=fnD R0 Ka
noncomputable def P9:List Str:=["book","undone","last","deed"]
def Bg:Dn->Out:=(U7 1 (Ey (A2 (A0 0) A7) N7))
def Gu:Dn->Out:=(Ac 2)
def Bf:Dn->Out:=(K7 (λδ=>((A0 0) δ).bind D8) (st1 3) (sIf (O5 (C3 (b2 (b2 (A0 3) (vC (.int 0)) dIx) (E5 (A2 (vC (.str "mark")) (A2 (vC (.str "unmark")) A7))) (dIn false))) (C3 (Bc true 1 (b2 (A0 3) (vC (.int 1)) dIx)))) (Z6 2 (b2 (A0 3) (vC (.int 2)) dIx) (A0 3)) F8))
def Be:Dn->Out:=(L5 (K8 (G6 (λδ=>((Z7 2) δ).bind D8) F7 [2] (C3 (b2 (b2 (X7 1 (A0 0)) (vC (.int 0)) dIx) (vC (.str "mark")) dEq)) (X7 1 (A0 0)))))
def Cw:Dn->Out:=(C5 Bg (C5 Gu (C5 Bf Be)))
def M0:List f8->Res f8:=fnD P9 Cw
noncomputable def X9:List Str:=["book","places","told","deed","begin"]
def Eh:Dn->Out:=(U7 1 (Ey (A2 (A0 0) A7) O9))
def Ju:Dn->Out:=(Lo 2 A7)
def Eg:Dn->Out:=(kM 1 (K7 (λδ=>((C9 (A2 (A0 0) A7) M0) δ).bind D8) (st1 3) (C5 (E4 4 (Dl 1 (b2 (A0 3) (vC (.int 3)) dIx) M1)) (Dj 2 (E5 (A2 (b2 (A0 3) (vC (.int 2)) dIx) (A2 (A0 4) (A2 (vFn (A2 (A0 4) (A2 (Dl 1 (b2 (A0 3) (vC (.int 4)) dIx) M1) A7)) dI) A7))))))))
def Jt:Dn->Out:=(sFz 2 (L5 (A0 2)))
def Ll:Dn->Out:=(C5 Eh (C5 Ju (C5 Eg Jt)))
def L9:List f8->Res f8:=fnD X9 Ll
noncomputable def Gq:List Str:=["marks","name","mark"]
def Y5:Dn->Out:=(C5 (K7 (λδ=>((A0 0) δ).bind D8) (st1 2) (sIf (C3 (b2 (b2 (A0 2) (vC (.int 0)) dIx) (A0 1) dEq)) (L5 (A0 2)) F8)) (Dq "NoName" (A0 1)))
def Z2:List f8->Res f8:=fnD Gq Y5
noncomputable def Ul:List Str:=["book","name","mark"]
def Aa:Dn->Out:=(C5 (E4 2 (C9 (A2 (Fp (A2 (A0 0) A7) L9) (A2 (A0 1) A7)) Z2)) (L5 (Ml (Fp (A2 (A0 0) A7) Q7) (M7 (b2 (A0 2) (vC (.int 1)) dIx)) (M7 (b2 (A0 2) (vC (.int 2)) dIx)))))
def Ar:List f8->Res f8:=fnD Ul Aa
noncomputable def Bv:List Str:=["marks","begin","end"]
def Dm:Dn->Out:=(L5 (K8 (G6 (λδ=>((A0 0) δ).bind D8) F7 [1,2] (O5 (C3 (b2 (b2 (A0 0) (vC (.int 1)) dIx) (A0 1) (E6 .LtE))) (C3 (b2 (A0 2) (b2 (A0 0) (vC (.int 2)) dIx) (E6 .LtE)))) (b2 (A0 0) (vC (.int 0)) dIx))))
def X5:List f8->Res f8:=fnD Bv Dm
noncomputable def Lf:List Str:=["book","place"]
def V7:Dn->Out:=(C5 (sIf (mH (C3 (K6 (vC (.int 0)) (A0 1) (vFn (A2 (Fp (A2 (A0 0) A7) Q7) A7) Q3) (E6 .LtE) (E6 .Lt)))) (Dq "NoPlace" (A0 1)) F8) (L5 (Fp (A2 (Fp (A2 (A0 0) A7) L9) (A2 (A0 1) (A2 (b2 (A0 1) (vC (.int 1)) C7) A7))) X5)))
def V1:List f8->Res f8:=fnD Lf V7
noncomputable def Y0:List Str:=["marks","place","ended","empty","begun"]
def Jy:Dn->Out:=(Ic 2 (G6 (λδ=>((A0 0) δ).bind D8) F7 [1] (O5 (C3 (b2 (b2 (A0 0) (vC (.int 1)) dIx) (A0 1) (E6 .Lt))) (C3 (b2 (b2 (A0 0) (vC (.int 2)) dIx) (A0 1) dEq))) (b2 (vC (.str "<")) (b2 (A0 0) (vC (.int 0)) dIx) C7)))
def Jx:Dn->Out:=(Ic 3 (G6 (λδ=>((A0 0) δ).bind D8) F7 [1] (O5 (C3 (b2 (b2 (A0 0) (vC (.int 1)) dIx) (A0 1) dEq)) (C3 (b2 (b2 (A0 0) (vC (.int 2)) dIx) (A0 1) dEq))) (b2 (b2 (A0 0) (vC (.int 0)) dIx) (vC (.str "|")) C7)))
def Jw:Dn->Out:=(Ic 4 (G6 (λδ=>((A0 0) δ).bind D8) F7 [1] (O5 (C3 (b2 (b2 (A0 0) (vC (.int 1)) dIx) (A0 1) dEq)) (C3 (b2 (b2 (A0 0) (vC (.int 2)) dIx) (A0 1) (Fg .Gt)))) (b2 (b2 (A0 0) (vC (.int 0)) dIx) (vC (.str ">")) C7)))
def Jv:Dn->Out:=(L5 (Gs "" (b2 (b2 (Jb (A0 2)) (A0 3) C7) (A0 4) C7)))
def Lm:Dn->Out:=(C5 Jy (C5 Jx (C5 Jw Jv)))
def Ah:List f8->Res f8:=fnD Y0 Lm
noncomputable def Jm:List Str:=["book","text","marks"]
def Ra:Dn->Out:=(E4 1 (C9 (A2 (A0 0) A7) Q7))
def Qz:Dn->Out:=(E4 2 (C9 (A2 (A0 0) A7) L9))
def Qy:Dn->Out:=(L5 (Gs "" (K8 (G6 (λδ=>((A2 (b2 (vFn (A2 (A0 1) A7) Q3) (vC (.int 1)) C7) A7) δ).bind Dh) F7 [2,1] M5 (b2 (C9 (A2 (A0 1) (A2 (A0 0) A7)) Ah) (Ml (A0 2) (M7 (A0 0)) (M7 (b2 (A0 0) (vC (.int 1)) C7))) C7)))))
def Wq:Dn->Out:=(C5 Ra (C5 Qz Qy))
def Lz:List f8->Res f8:=fnD Jm Wq
noncomputable def Cb:List Str:=["book","names","deed"]
def Cy:Dn->Out:=(C5 (Ac 1) (C5 (bH 1 2 (λδ=>((C9 (A2 (A0 0) A7) M0) δ).bind D8) M5 (b2 (b2 (A0 2) (vC (.int 1)) dIx) (vC (.int 1)) dIx) (b2 (A0 2) (vC (.int 2)) dIx)) (L5 (K8 (G6 (λδ=>((Z7 1) δ).bind D8) F7 [1] M5 (E5 (A2 (A0 0) (A2 (X7 1 (A0 0)) A7))))))))
def V8:List f8->Res f8:=fnD Cb Cy
noncomputable def Ea:List Str:=["_law_script","_law_k"]
def Ep:Dn->Out:=(C5 (sIf (C3 (b2 (A0 0) (K8 A7) dEq)) (L5 (b2 (vC (.int 7)) (A0 1) O6)) F8) (L5 (b2 (b2 (A0 0) (b2 (A0 1) (vFn (A2 (A0 0) A7) Q3) Vy) dIx) (b2 (vC (.int 6553)) (b2 (A0 1) (vFn (A2 (A0 0) A7) Q3) Ob) O6) C7)))
def Au:List f8->Res f8:=fnD Ea Ep
noncomputable def Cf:List Str:=["_law_script","_law_k","_law_many","_law_cell_here"]
def Dg:Dn->Out:=(C5 (E4 3 (b2 (b2 (b2 (b2 (C9 (A2 (A0 0) (A2 (A0 1) A7)) Au) (vC (.int 2147483563)) Vy) (vC (.int 69069)) O6) (b2 (vC (.int 104723)) (b2 (A0 1) (vC (.int 1)) C7) O6) C7) (vC (.int 2147483563)) Vy)) (C5 (E4 3 (b2 (b2 (b2 (A0 3) (A0 3) O6) (b2 (A0 3) (vC (.int 3)) Ob) C7) (vC (.int 2147483399)) Vy)) (L5 (b2 (b2 (b2 (b2 (b2 (A0 3) (A0 3) O6) (b2 (A0 3) (vC (.int 7)) Ob) C7) (vC (.int 2147483647)) Vy) (vC (.int 11)) Ob) (A0 2) Vy))))
def B5:List f8->Res f8:=fnD Cf Dg
noncomputable def T7:List Str:=["_law_script","_law_at","_law_found","_law_k","_law_word"]
def Bm:Dn->Out:=(Lo 2 A7)
def Bl:Dn->Out:=(K7 (λδ=>((A2 (vC (.int 3)) A7) δ).bind Dh) (st1 3) (C5 (E4 4 (b2 (b2 (vC (.str "abcdefghijklmnopqrstuvwxyz")) (C9 (A2 (A0 0) (A2 (b2 (A0 1) (b2 (vC (.int 2)) (A0 3) O6) C7) (A2 (vC (.int 26)) A7))) B5) dIx) (C9 (A2 (A0 0) (A2 (b2 (b2 (A0 1) (b2 (vC (.int 2)) (A0 3) O6) C7) (vC (.int 1)) C7) (A2 (vC (.int 2)) A7))) B5) O6)) (Dj 2 (b2 (K8 (A2 (b2 (A0 4) (b2 (vC (.str "xyz")) (A0 3) dIx) C7) (A2 (b2 (b2 (vC (.str "xyz")) (A0 3) dIx) (A0 4) C7) A7))) (C9 (A2 (A0 0) (A2 (b2 (A0 1) (vC (.int 6)) C7) (A2 (vC (.int 2)) A7))) B5) dIx))))
def Bj:Dn->Out:=(sFz 2 (L5 (A0 2)))
def De:Dn->Out:=(C5 Bm (C5 Bl Bj))
def W1:List f8->Res f8:=fnD T7 De
noncomputable def Cd:List Str:=["_law_script","_law_at"]
def Da:Dn->Out:=(L5 (Gs "" (K8 (G6 (λδ=>((A2 (b2 (vC (.int 1)) (C9 (A2 (A0 0) (A2 (b2 (A0 1) (vC (.int 4)) C7) (A2 (vC (.int 4)) A7))) B5) C7) A7) δ).bind Dh) F7 [0,1] M5 (b2 (vC (.str "ab cd~ <")) (C9 (A2 (A0 1) (A2 (b2 (A0 2) (A0 0) C7) (A2 (vC (.int 8)) A7))) B5) dIx)))))
def V9:List f8->Res f8:=fnD Cd Da
noncomputable def Ce:List Str:=["_law_book_here","_law_found","_law_deed_here"]
def Dc:Dn->Out:=(C5 (E4 1 (K8 A7)) (C5 (K7 (λδ=>((A0 0) δ).bind D8) (st1 2) (sIf (C3 (b2 (b2 (A0 2) (vC (.int 0)) dIx) (vC (.str "add")) dEq)) (E4 1 (b2 (A0 1) (K8 (G6 (λδ=>((A2 (vFn (A2 (b2 (A0 2) (vC (.int 3)) dIx) A7) Q3) A7) δ).bind Dh) F7 [2] M5 (E5 (A2 (b2 (A0 1) (vC (.int 1)) dIx) (A2 (A0 0) A7))))) C7)) F8)) (L5 (A0 1))))
def W0:List f8->Res f8:=fnD Ce Dc
noncomputable def An:List Str:=["_law_script","_law_at","_law_signs_here","_law_sign"]
def Bt:Dn->Out:=(C5 (E4 3 (b2 (b2 (K8 (A2 (vC .none) A7)) (A0 2) C7) (C9 (A2 (A0 0) (A2 (A0 1) (A2 (b2 (vFn (A2 (A0 2) A7) Q3) (vC (.int 1)) C7) A7))) B5) dIx)) (L5 (E5 (A2 (A0 3) (A2 (b2 (vC (.str "lr")) (C9 (A2 (A0 0) (A2 (b2 (A0 1) (vC (.int 1)) C7) (A2 (vC (.int 2)) A7))) B5) dIx) A7)))))
def Q2:List f8->Res f8:=fnD An Bt
noncomputable def M6:List Str:=["_law_script","_law_at","_law_one","_law_known","_law_names_here","_law_signs_here","_law_way","_law_behind","_law_some","_law_ends"]
def Cr:Dn->Out:=(E4 5 (C9 (A2 (A0 3) A7) W0))
def Cq:Dn->Out:=(E4 6 (C9 (A2 (A0 0) (A2 (A0 1) (A2 (vC (.int 12)) A7))) B5))
def Cp:Dn->Out:=(sIf (O5 (C3 (b2 (A0 6) (vC (.int 2)) (E6 .Lt))) (C3 (b2 (A0 5) (K8 A7) dNe))) (C5 (Ic 8 (G6 (λδ=>((A2 (A0 5) A7) δ).bind Tl) Oc [0,1] (C3 (b2 (C9 (A2 (A0 2) (A2 (b2 (b2 (A0 3) (vC (.int 20)) C7) (A0 0) C7) (A2 (vC (.int 4)) A7))) B5) (vC (.int 0)) dEq)) (A0 1))) (L5 (E5 (A2 (vC (.str "drop")) (A2 (A0 2) (A2 (vFn (A2 (b2 (A0 8) (b2 (vSl (A0 5) Du (M7 (vC (.int 1)))) (vFn (A2 (b2 (A0 8) (K8 A7) dEq) A7) Az) O6) C7) A7) Kh) A7)))))) F8)
def Co:Dn->Out:=(sIf (C3 (b2 (A0 6) (vC (.int 5)) (E6 .Lt))) (C5 (E4 9 (E5 (A2 (C9 (A2 (A0 0) (A2 (b2 (A0 1) (vC (.int 1)) C7) (A2 (A0 5) A7))) Q2) (A2 (C9 (A2 (A0 0) (A2 (b2 (A0 1) (vC (.int 3)) C7) (A2 (A0 5) A7))) Q2) A7)))) (L5 (b2 (E5 (A2 (vC (.str "mark")) (A2 (A0 2) (A2 (b2 (A0 4) (C9 (A2 (A0 0) (A2 (b2 (A0 1) (vC (.int 5)) C7) (A2 (vC (.int 3)) A7))) B5) dIx) A7)))) (A0 9) C7))) F8)
def Cn:Dn->Out:=(sIf (C3 (b2 (A0 6) (vC (.int 5)) dEq)) (L5 (E5 (A2 (vC (.str "unmark")) (A2 (A0 2) (A2 (b2 (A0 4) (C9 (A2 (A0 0) (A2 (b2 (A0 1) (vC (.int 5)) C7) (A2 (vC (.int 3)) A7))) B5) dIx) A7))))) F8)
def Cm:Dn->Out:=(sIf (O5 (C3 (b2 (A0 6) (vC (.int 8)) (E6 .Lt))) (C3 (b2 (A0 3) (E5 A7) dNe))) (L5 (E5 (A2 (vC (.str "undo")) (A2 (A0 2) (A2 (b2 (b2 (A0 3) (C9 (A2 (A0 0) (A2 (b2 (A0 1) (vC (.int 6)) C7) (A2 (vFn (A2 (A0 3) A7) Q3) A7))) B5) dIx) (vC (.int 1)) dIx) A7))))) F8)
def Cl:Dn->Out:=(E4 7 (b2 (b2 (b2 (K8 (A2 (vC .none) A7)) (A0 5) C7) (vSl (A0 5) (M7 (b1 (vC (.int 3)) gC)) Du) C7) (C9 (A2 (A0 0) (A2 (b2 (A0 1) (vC (.int 7)) C7) (A2 (b2 (b2 (vFn (A2 (A0 5) A7) Q3) (vC (.int 1)) C7) (vFn (A2 (vSl (A0 5) (M7 (b1 (vC (.int 3)) gC)) Du) A7) Q3) C7) A7))) B5) dIx))
def Ck:Dn->Out:=(L5 (E5 (A2 (vC (.str "add")) (A2 (A0 2) (A2 (A0 7) (A2 (C9 (A2 (A0 0) (A2 (b2 (A0 1) (vC (.int 8)) C7) A7)) V9) A7))))))
def Eo:Dn->Out:=(C5 Cr (C5 Cq (C5 Cp (C5 Co (C5 Cn (C5 Cm (C5 Cl Ck)))))))
def Q9:List f8->Res f8:=fnD M6 Eo
noncomputable def S9:List Str:=["_law_script","_law_at","_law_most","_law_names_here","_law_found","_law_one","_law_k","_law_time","_law_hand","_law_known"]
def Cv:Dn->Out:=(E4 4 (E5 A7))
def Cu:Dn->Out:=(E4 5 (E5 (A2 (vC (.int 1)) (A2 (vC (.str "a")) A7))))
def Ct:Dn->Out:=(K7 (λδ=>((A2 (C9 (A2 (A0 0) (A2 (A0 1) (A2 (b2 (A0 2) (vC (.int 1)) C7) A7))) B5) A7) δ).bind Dh) (st1 6) (C5 (E4 7 (b2 (b2 (A0 5) (vC (.int 0)) dIx) (C9 (A2 (A0 0) (A2 (b2 (b2 (A0 1) (vC (.int 1)) C7) (b2 (vC (.int 60)) (A0 6) O6) C7) (A2 (vC (.int 2)) A7))) B5) C7)) (C5 (E4 8 (b2 (vC (.str "abc")) (C9 (A2 (A0 0) (A2 (b2 (b2 (A0 1) (vC (.int 2)) C7) (b2 (vC (.int 60)) (A0 6) O6) C7) (A2 (vC (.int 3)) A7))) B5) dIx)) (C5 (sIf (O5 (C3 (b2 (A0 4) (E5 A7) dNe)) (C3 (b2 (E5 (A2 (A0 7) (A2 (A0 8) A7))) (A0 5) (E6 .LtE)))) (E4 7 (b2 (b2 (A0 5) (vC (.int 0)) dIx) (vC (.int 1)) C7)) F8) (C5 (E4 5 (E5 (A2 (A0 7) (A2 (A0 8) A7)))) (C5 (E4 9 (vFn (A2 (K8 (G6 (λδ=>((A0 4) δ).bind D8) F7 [7] (C3 (b2 (b2 (b2 (A0 0) (vC (.int 1)) dIx) (vC (.int 0)) dIx) (A0 1) (E6 .Lt))) (A0 0))) A7) Kh)) (E4 4 (b2 (A0 4) (E5 (A2 (C9 (A2 (A0 0) (A2 (b2 (b2 (A0 1) (vC (.int 3)) C7) (b2 (vC (.int 60)) (A0 6) O6) C7) (A2 (A0 5) (A2 (A0 9) (A2 (A0 3) A7))))) Q9) A7)) C7))))))))
def Cs:Dn->Out:=(L5 (A0 4))
def Er:Dn->Out:=(C5 Cv (C5 Cu (C5 Ct Cs)))
def Av:List f8->Res f8:=fnD S9 Er
noncomputable def T6:List Str:=["_law_book_here","_law_found","_law_deed_here","_law_at"]
def Ha:Dn->Out:=(E4 1 (K8 A7))
def Bi:Dn->Out:=(K7 (λδ=>((A0 0) δ).bind D8) (st1 2) (sIf (C3 (b2 (b2 (A0 2) (vC (.int 0)) dIx) (vC (.str "add")) dEq)) (C5 (E4 3 (vIf (λδ=>((b2 (A0 2) (vC (.int 2)) dIx) δ).bind λd=>.ok (Ni d)) (vC (.int 0)) (b2 (Fm (A0 1) (b2 (A0 2) (vC (.int 2)) dIx)) (vC (.int 1)) C7))) (E4 1 (b2 (b2 (vSl (A0 1) Du (M7 (A0 3))) (K8 (G6 (λδ=>((A2 (vFn (A2 (b2 (A0 2) (vC (.int 3)) dIx) A7) Q3) A7) δ).bind Dh) F7 [2] M5 (E5 (A2 (b2 (A0 1) (vC (.int 1)) dIx) (A2 (A0 0) A7))))) C7) (vSl (A0 1) (M7 (A0 3)) Du) C7))) F8))
def Gy:Dn->Out:=(L5 (A0 1))
def Dd:Dn->Out:=(C5 Ha (C5 Bi Gy))
def J3:List f8->Res f8:=fnD T6 Dd
noncomputable def Z4:List Str:=["_law_book_here","_law_off","_law_deed_here"]
def Ab:Dn->Out:=(C5 (Lo 1 A7) (C5 (K7 (λδ=>((b1 (A0 0) vW) δ).bind D8) (st1 2) (sIf (cFz 1 (O5 (C3 (b2 (b2 (A0 2) (vC (.int 0)) dIx) (vC (.str "undo")) dEq)) (C3 (b2 (b2 (A0 2) (vC (.int 1)) dIx) (A0 1) (dIn true))))) (Dj 1 (b2 (A0 2) (vC (.int 2)) dIx)) F8)) (sFz 1 (L5 (K8 (G6 (λδ=>((A0 0) δ).bind D8) F7 [1] (C3 (b2 (b2 (A0 0) (vC (.int 1)) dIx) (A0 1) (dIn true))) (b2 (A0 0) (vC (.int 1)) dIx)))))))
def N1:List f8->Res f8:=fnD Z4 Ab
noncomputable def Q0:List Str:=["_law_book_here","_law_there_here","_law_gone","_law_deed_here"]
def Gx:Dn->Out:=(E4 1 (C9 (A2 (A0 0) A7) N1))
def Gw:Dn->Out:=(E4 2 (K8 A7))
def Bh:Dn->Out:=(K7 (λδ=>((A0 0) δ).bind D8) (st1 3) (sIf (O5 (C3 (b2 (b2 (A0 3) (vC (.int 0)) dIx) (vC (.str "drop")) dEq)) (C3 (b2 (b2 (A0 3) (vC (.int 1)) dIx) (A0 1) (dIn false)))) (E4 2 (b2 (A0 2) (vFn (A2 (b2 (A0 3) (vC (.int 2)) dIx) A7) Nm) C7)) F8))
def Gv:Dn->Out:=(L5 (K8 (G6 (λδ=>((C9 (A2 (A0 0) A7) J3) δ).bind D8) F7 [1,2] (O5 (C3 (b2 (b2 (A0 0) (vC (.int 0)) dIx) (A0 1) (dIn false))) (C3 (b2 (A0 0) (A0 2) (dIn true)))) (A0 0))))
def Db:Dn->Out:=(C5 Gx (C5 Gw (C5 Bh Gv)))
def M3:List f8->Res f8:=fnD Q0 Db
noncomputable def Dy:List Str:=["_law_book_here","_law_signs_here","_law_texts"]
def El:Dn->Out:=(C5 (U7 2 (Ta (K8 (G6 (λδ=>((A0 0) δ).bind D8) F7 [] (C3 (b2 (b2 (A0 0) (vC (.int 0)) dIx) (vC (.str "add")) dEq)) (E5 (A2 (b2 (A0 0) (vC (.int 1)) dIx) (A2 (b2 (A0 0) (vC (.int 3)) dIx) A7))))))) (L5 (Gs "" (K8 (G6 (λδ=>((A0 1) δ).bind D8) F7 [2] M5 (b2 (X7 1 (b2 (A0 0) (vC (.int 0)) dIx)) (b2 (A0 0) (vC (.int 1)) dIx) dIx))))))
def P1:List f8->Res f8:=fnD Dy El
noncomputable def Q1:List Str:=["_law_order_here","_law_there_here","_law_anchor_here","_law_at"]
def X1:Dn->Out:=(sIf (λδ=>((b2 (A0 2) (vC (.int 0)) dIx) δ).bind λd=>.ok (Ni d)) (L5 (b2 (K8 (A2 (vC (.int 0)) (A2 (vFn (A2 (A0 1) A7) Q3) A7))) (vFn (A2 (b2 (b2 (A0 2) (vC (.int 1)) dIx) (vC (.str "r")) dEq) A7) Az) dIx)) F8)
def X0:Dn->Out:=(E4 3 (b2 (Fm (A0 0) (b2 (A0 2) (vC (.int 0)) dIx)) (vFn (A2 (b2 (b2 (A0 2) (vC (.int 1)) dIx) (vC (.str "l")) dEq) A7) Az) C7))
def W9:Dn->Out:=(L5 (vFn (A2 (K8 (G6 (λδ=>((vSl (A0 0) Du (M7 (A0 3))) δ).bind D8) F7 [1] (C3 (b2 (A0 0) (A0 1) (dIn false))) (A0 0))) A7) Q3))
def Y6:Dn->Out:=(C5 X1 (C5 X0 W9))
def E1:List f8->Res f8:=fnD Q1 Y6
noncomputable def Dz:List Str:=["_law_book_here","_law_there_here","_law_found","_law_deed_here"]
def Em:Dn->Res Kvs:=(Di (E4 1 (C9 (A2 (A0 0) A7) N1)) (Di (Ac 2) (Di (K7 (λδ=>((A0 0) δ).bind D8) (st1 3) (sIf (O5 (C3 (b2 (b2 (A0 3) (vC (.int 0)) dIx) (E5 (A2 (vC (.str "mark")) (A2 (vC (.str "unmark")) A7))) (dIn false))) (C3 (b2 (b2 (A0 3) (vC (.int 1)) dIx) (A0 1) (dIn false)))) (Z6 2 (b2 (A0 3) (vC (.int 2)) dIx) (A0 3)) F8)) (Vv 2))))
def O0:List f8->Res Kvs:=fnW Dz Em
noncomputable def M9:List Str:=["_law_book_here","_law_order_here","_law_there_here","_law_last_here","_law_found","_law_name","_law_start"]
def Hg:Dn->Out:=(E4 1 (C9 (A2 (A0 0) A7) J3))
def Hf:Dn->Out:=(E4 2 (C9 (A2 (A0 0) A7) M3))
def Bo:Dn->Out:=(U7 3 (Ey (A2 (A0 0) A7) O0))
def He:Dn->Out:=(Lo 4 A7)
def Bn:Dn->Out:=(K7 (λδ=>((Z7 3) δ).bind D8) (st1 5) (sIf (C3 (b2 (b2 (X7 3 (A0 5)) (vC (.int 0)) dIx) (vC (.str "mark")) dEq)) (C5 (E4 6 (C9 (A2 (A0 1) (A2 (A0 2) (A2 (b2 (X7 3 (A0 5)) (vC (.int 3)) dIx) A7))) E1)) (Dj 4 (E5 (A2 (A0 5) (A2 (A0 6) (A2 (vFn (A2 (A0 6) (A2 (C9 (A2 (A0 1) (A2 (A0 2) (A2 (b2 (X7 3 (A0 5)) (vC (.int 4)) dIx) A7))) E1) A7)) dI) A7)))))) F8))
def Hb:Dn->Out:=(sFz 4 (L5 (A0 4)))
def Df:Dn->Out:=(C5 Hg (C5 Hf (C5 Bo (C5 He (C5 Bn Hb)))))
def P2:List f8->Res f8:=fnD M9 Df
noncomputable def Ja:List Str:=["_law_e","_law_flags"]
noncomputable def Iz:List Str:=["_law_way","_law_book_here","_law_thing","_law_side","_law_e"]
def Kb:Dn->Out:=(nY X8 N9 Ar V1)
def C6:List f8->Res f8:=fnD Iz Kb
noncomputable def N3:List Str:=["_law_text_here","_law_marks_here","_law_found","_law_place_here","_law_name","_law_start","_law_end"]
def Ap:Dn->Out:=(E4 2 (vC (.str "")))
def U6:Dn->Out:=(K7 (λδ=>((A2 (b2 (vFn (A2 (A0 0) A7) Q3) (vC (.int 1)) C7) A7) δ).bind Dh) (st1 3) (C5 (K7 (λδ=>((b1 (A0 1) jB) δ).bind D8) (st3 4 5 6) (E4 2 (b2 (A0 2) (b2 (b2 (vC (.str "<")) (A0 4) C7) (vFn (A2 (K6 (A0 5) (A0 3) (A0 6) (E6 .Lt) dEq) A7) Az) O6) C7))) (C5 (K7 (λδ=>((A0 1) δ).bind D8) (st3 4 5 6) (E4 2 (b2 (A0 2) (b2 (b2 (A0 4) (vC (.str "|")) C7) (vFn (A2 (K6 (A0 5) (A0 3) (A0 6) dEq dEq) A7) Az) O6) C7))) (C5 (K7 (λδ=>((A0 1) δ).bind D8) (st3 4 5 6) (E4 2 (b2 (A0 2) (b2 (b2 (A0 4) (vC (.str ">")) C7) (vFn (A2 (K6 (A0 5) (A0 3) (A0 6) dEq (E6 .Lt)) A7) Az) O6) C7))) (E4 2 (b2 (A0 2) (Ml (A0 0) (M7 (A0 3)) (M7 (b2 (A0 3) (vC (.int 1)) C7))) C7))))))
def Ao:Dn->Out:=(L5 (A0 2))
def Bx:Dn->Out:=(C5 Ap (C5 U6 Ao))
def P3:List f8->Res f8:=fnD N3 Bx
noncomputable def T8:List Str:=["_law_book_here","_law_last_here","_law_found","_law_hand","_law_names_here"]
def Bq:Dn->Out:=(U7 1 (Ey (A2 (A0 0) A7) O0))
def Hi:Dn->Out:=(Lo 2 A7)
def Bp:Dn->Out:=(K7 (λδ=>((vC (.str "abc")) δ).bind D8) (st1 3) (C5 (Ic 4 (G6 (λδ=>((Z7 1) δ).bind D8) F7 [1,3] (O5 (C3 (b2 (b2 (X7 1 (A0 0)) (vC (.int 0)) dIx) (vC (.str "mark")) dEq)) (C3 (b2 (b2 (b2 (X7 1 (A0 0)) (vC (.int 1)) dIx) (vC (.int 1)) dIx) (A0 2) dEq))) (A0 0))) (sIf (C3 (b2 (A0 4) (K8 A7) dNe)) (Dj 2 (E5 (A2 (A0 3) (A2 (A0 4) A7)))) F8)))
def Hh:Dn->Out:=(sFz 2 (L5 (A0 2)))
def Ia:Dn->Out:=(C5 Bq (C5 Hi (C5 Bp Hh)))
def W2:List f8->Res f8:=fnD T8 Ia
noncomputable def Ba:List Str:=["_law_script","_law_names_here","_law_book_here","_law_order_here","_law_there_here","_law_marks_here","_law_text_here","_law_sign","_law_place_here","_law_told_here","_law_name","_law_some","_law_side","_law_due"]
def aR:Dn->Out:=(E4 1 (C9 (A2 (A0 0) (A2 (vC (.int 0)) A7)) W1))
def aQ:Dn->Out:=(E4 2 (C9 (A2 (A0 0) (A2 (vC (.int 10)) (A2 (vC (.int 9)) (A2 (A0 1) A7)))) Av))
def aP:Dn->Out:=(E4 3 (C9 (A2 (A0 2) A7) J3))
def aO:Dn->Out:=(E4 4 (C9 (A2 (A0 2) A7) M3))
def aN:Dn->Out:=(E4 5 (C9 (A2 (A0 2) A7) P2))
def aM:Dn->Out:=(E4 6 (C9 (A2 (A0 2) (A2 (A0 4) A7)) P1))
def Qx:Dn->Out:=(K7 (λδ=>((b2 (A0 3) (K8 (A2 (vC .none) A7)) C7) δ).bind D8) (st1 7) (K7 (λδ=>((vC (.str "lr")) δ).bind D8) (st1 12) (sIf (C3 (b2 (C9 (A2 (vC (.int 0)) (A2 (A0 2) (A2 (E5 (A2 (A0 7) (A2 (A0 12) A7))) (A2 (vC .none) A7)))) C6) (C9 (A2 (A0 3) (A2 (A0 4) (A2 (E5 (A2 (A0 7) (A2 (A0 12) A7))) A7))) E1) dNe)) (L5 (vC (.bool false))) F8)))
def Qw:Dn->Out:=(K7 (λδ=>((A2 (b2 (vFn (A2 (A0 6) A7) Q3) (vC (.int 1)) C7) A7) δ).bind Dh) (st1 8) (C5 (E4 13 (K8 (A2 (E5 (A2 (b2 (b2 (K8 (A2 (vC .none) A7)) (A0 4) C7) (A0 8) dIx) (A2 (vC (.str "l")) A7))) (A2 (E5 (A2 (b2 (b2 (A0 4) (K8 (A2 (vC .none) A7)) C7) (A0 8) dIx) (A2 (vC (.str "r")) A7))) A7)))) (C5 (sIf (C3 (b2 (K8 (A2 (C9 (A2 (vC (.int 1)) (A2 (A0 2) (A2 (A0 8) (A2 (vC (.str "l")) A7)))) C6) (A2 (C9 (A2 (vC (.int 1)) (A2 (A0 2) (A2 (A0 8) (A2 (vC (.str "r")) A7)))) C6) A7))) (A0 13) dNe)) (L5 (vC (.bool false))) F8) (C5 (Ic 11 (G6 (λδ=>((A0 5) δ).bind D8) Iv [8] (C3 (K6 (A0 1) (A0 3) (A0 2) (E6 .LtE) (E6 .Lt))) (A0 0))) (sIf (C3 (b2 (C9 (A2 (vC (.int 3)) (A2 (A0 2) (A2 (A0 8) (A2 (vC .none) A7)))) C6) (vIf (C3 (b2 (A0 8) (vFn (A2 (A0 6) A7) Q3) (E6 .Lt))) (A0 11) (E5 (A2 (vC (.str "refused")) (A2 (vC (.int 1)) A7)))) dNe)) (L5 (vC (.bool false))) F8)))))
def aL:Dn->Out:=(sIf (cOr (C3 (b2 (C9 (A2 (A0 2) A7) L9) (A0 5) dNe)) (cOr (C3 (b2 (C9 (A2 (A0 2) A7) Lz) (C9 (A2 (A0 6) (A2 (A0 5) A7)) P3) dNe)) (C3 (b2 (C9 (A2 (A0 2) A7) V8) (C9 (A2 (A0 2) A7) W2) dNe)))) (L5 (vC (.bool false))) F8)
def Li:Dn->Out:=(U7 9 (Ta (K8 (G6 (λδ=>((A0 5) δ).bind D8) Iv [6] M5 (E5 (A2 (A0 0) (A2 (Ml (A0 3) (M7 (A0 1)) (M7 (A0 2))) A7)))))))
def Mm:Dn->Out:=(K7 (λδ=>((b2 (A0 1) (K8 (A2 (vC (.str "zzzzzz")) A7)) C7) δ).bind D8) (st1 10) (sIf (C3 (b2 (C9 (A2 (vC (.int 2)) (A2 (A0 2) (A2 (A0 10) (A2 (vC .none) A7)))) C6) (Jq 9 (A0 10) (E5 (A2 (vC (.str "refused")) (A2 (vC (.int 2)) A7)))) dNe)) (L5 (vC (.bool false))) F8))
def Wo:Dn->Out:=(E4 11 (K8 (A2 (C9 (A2 (vC (.int 0)) (A2 (A0 2) (A2 (E5 (A2 (E5 (A2 (E5 (A2 (vC (.int 99)) (A2 (vC (.str "a")) A7))) (A2 (vC (.int 0)) A7))) (A2 (vC (.str "l")) A7))) (A2 (vC .none) A7)))) C6) (A2 (C9 (A2 (vC (.int 1)) (A2 (A0 2) (A2 (b1 (vC (.int 1)) gC) (A2 (vC (.str "l")) A7)))) C6) A7))))
def Wn:Dn->Out:=(E4 11 (b2 (A0 11) (K8 (A2 (C9 (A2 (vC (.int 1)) (A2 (A0 2) (A2 (b2 (vFn (A2 (A0 6) A7) Q3) (vC (.int 1)) C7) (A2 (vC (.str "r")) A7)))) C6) (A2 (C9 (A2 (vC (.int 3)) (A2 (A0 2) (A2 (b1 (vC (.int 1)) gC) (A2 (vC .none) A7)))) C6) A7))) C7))
def Wm:Dn->Out:=(L5 (b2 (A0 11) (K8 (G6 (λδ=>((K8 (A2 (vC (.int 0)) (A2 (vC (.int 1)) (A2 (vC (.int 1)) (A2 (vC (.int 1)) A7))))) δ).bind D8) F7 [] M5 (E5 (A2 (vC (.str "refused")) (A2 (A0 0) A7))))) dEq))
def hJ:Dn->Out:=(C5 aR (C5 aQ (C5 aP (C5 aO (C5 aN (C5 aM (C5 Qx (C5 Qw (C5 aL (C5 Li (C5 Mm (C5 Wo (C5 Wn Wm)))))))))))))
def iO:List f8->Res f8:=fnD Ba hJ
variable {P:o9}{w:x8}{K:i5}{mg:Str->Option g9}{base:BL}{X:Cx}
def Se:FnScope W8 ["deed"] (A5 (top 2)):=⟨rfl,rfl,rfl,by decide+kernel,rfl,by decide+kernel,by decide+kernel⟩
def Nq (T:Txt mg)(C:Cxt P w K mg base X W8 (A5 (top 2)) 0 true):DSs X E0k (B6 (top 2)) X2:=
 (B8 (I9 (Qm (Ec C (D7 (A3 C 0 ⋯) A8) F9) (Y2 C ⋯ T.b_len (A4 (D7 (A3 C 0 ⋯) A8) A9)) A8)))
def Sg:FnScope Am ["book"] (A5 (top 9)):=⟨rfl,rfl,rfl,by decide+kernel,rfl,by decide+kernel,by decide+kernel⟩
def Nt (T:Txt mg)(qz:Fn P w K mg base "signs_added" 1 1 L6)(C:Cxt P w K mg base X Am (A5 (top 9)) 1 true):DSN X E0k (B6 (top 9)) Bs:=
 (Af (Fx C 1 ⋯) (Af (s_grp C 1 2 ⋯ ⋯ (K9 (A3 C 0 ⋯)) (t_gt C (D3 C qz (by decide) ⋯ (A4 (A3 C 2 ⋯) A9)) A8) (D7 (A3 C 2 ⋯) A8) (A3 C 2 ⋯) ⟨rfl,rfl,rfl,rfl⟩ (λ_=>rfl) rfl rfl rfl rfl rfl rfl) (cB C 1 ⋯)))
def bA:FnScope T5 ["book"] (A5 (top 10)):=⟨rfl,rfl,rfl,by decide+kernel,rfl,by decide+kernel,by decide+kernel⟩
def Ux (T:Txt mg)(qh:FnN P w K mg base "adds_behind" 2 1 U2)(C:Cxt P w K mg base X T5 (A5 (top 10)) 2 true):DS X E0k (stm 10 0) Ef:=
 (Es C 1 ⋯ (Nd C qh (by decide) ⋯ (A4 (A3 C 0 ⋯) A9)))
def Uw (T:Txt mg)(C:Cxt P w K mg base X T5 (A5 (top 10)) 2 true):DS X E0k (stm 10 1) Ee:=
 (eW C 2 ⋯ ⋯ [] [] ⋯ (K9 (gB C 1 ⋯ Aj (M4 (P5 A9)))) (λX' C'=>Ch) (λX' C'=>(K2 (A4 (A3 C' 0 ⋯) (A4 A8 A9)))))
def Uv (T:Txt mg)(C:Cxt P w K mg base X T5 (A5 (top 10)) 2 true):DS X E0k (stm 10 2) Js:=
 (Sj C 3 ⋯ (P5 A9))
def Uu (T:Txt mg)(C:Cxt P w K mg base X T5 (A5 (top 10)) 2 true):DS X E0k (stm 10 3) Ed:=
 (sH C (t_own C 2 ⋯) (B0 (s_pop C 2 4 ⋯ ⋯) (B0 (F5 C 5 ⋯ (D7 (A3 C 4 ⋯) A8)) (B0 (F5 C 6 ⋯ (D7 (A3 C 4 ⋯) A8)) (B0 (F5 C 7 ⋯ (K2 (A4 (D7 (A3 C 5 ⋯) A8) (A4 (A3 C 6 ⋯) A9)))) (B0 (Nx C 3 ⋯ (K2 (A4 (A3 C 7 ⋯) (A4 (D7 (D7 (A3 C 5 ⋯) A8) (A3 C 6 ⋯)) A9)))) (B0 (Y7 (eL C (D5 (A3 C 6 ⋯) A8) (Y2 C ⋯ T.b_len (A4 (D7 (A3 C 5 ⋯) A8) A9))) (B8 (Nx C 2 ⋯ (K2 (A4 (A3 C 5 ⋯) (A4 (D5 (A3 C 6 ⋯) A8) A9))))) L7) (B8 (s_ext C 2 ⋯ (P6 C [] [] ⋯ (K9 (gB C 1 ⋯ (A3 C 7 ⋯) (M4 (P5 A9)))) (λX' C'=>Ch) (λX' C'=>(K2 (A4 (A3 C' 0 ⋯) (A4 A8 A9))))))))))))))
def Ut (T:Txt mg)(C:Cxt P w K mg base X T5 (A5 (top 10)) 2 true):DS X E0k (stm 10 4) Jr:=
 (fA 3 (I9 (A3 C 3 ⋯)))
def Wa (T:Txt mg)(qh:FnN P w K mg base "adds_behind" 2 1 U2)(C:Cxt P w K mg base X T5 (A5 (top 10)) 2 true):DSs X E0k (B6 (top 10)) Ft:=by
 have h:B6 (top 10)=[stm 10 0,stm 10 1,stm 10 2,stm 10 3,stm 10 4]:=by kernel_rfl
 rw[h];exact(B0 (Ux T qh C) (B0 (Uw T C) (B0 (Uv T C) (B0 (Uu T C) (B8 (Ut T C))))))
def Ym:FnScope Dw ["book"] (A5 (top 11)):=⟨rfl,rfl,rfl,by decide+kernel,rfl,by decide+kernel,by decide+kernel⟩
def Tz (T:Txt mg)(C:Cxt P w K mg base X Dw (A5 (top 11)) 0 true):DSN X E0k (B6 (top 11)) Ej:=
 (Af (Fx C 1 ⋯) (Af (O7 C 2 ⋯ (i_rev C ⋯ T.b_reversed (A3 C 0 ⋯)) (B8 (Y7 (w_t (Cg (Ec C (D7 (A3 C 2 ⋯) A8) F9) (X6 (Lg C 1 ⋯ (D7 (A3 C 2 ⋯) A8))))) (B8 (Mt C 1 ⋯ (D7 (A3 C 2 ⋯) A8) Kx)) L7))) (cB C 1 ⋯)))
def Vk:FnScope Cc ["book","undone"] (A5 (top 12)):=⟨rfl,rfl,rfl,by decide+kernel,rfl,by decide+kernel,by decide+kernel⟩
def Pp (T:Txt mg)(C:Cxt P w K mg base X Cc (A5 (top 12)) 0 true):DSN X E0k (B6 (top 12)) Cz:=
 (Af (Fx C 2 ⋯) (Af (O7 C 3 ⋯ (K9 (A3 C 0 ⋯)) (B8 (Y7 (w_t (Cg (Ec C (D7 (A3 C 3 ⋯) A8) F9) (X6 (Lg C 1 ⋯ (D7 (A3 C 3 ⋯) A8))))) (B8 (O7 C 4 ⋯ (K9 (D7 (A3 C 3 ⋯) A8)) (B8 (Mt C 2 ⋯ (A3 C 4 ⋯) Kx)))) L7))) (cB C 2 ⋯)))
def Sf:FnScope M8 ["book"] (A5 (top 13)):=⟨rfl,rfl,rfl,by decide+kernel,rfl,by decide+kernel,by decide+kernel⟩
def Mr (T:Txt mg)(fq:FnN P w K mg base "undone_in" 1 1 N7)(C:Cxt P w K mg base X M8 (A5 (top 13)) 3 true):DS X E0k (stm 13 0) Z9:=
 (Es C 1 ⋯ (Nd C fq (by decide) ⋯ (A4 (A3 C 0 ⋯) A9)))
def Mq (T:Txt mg)(qj:FnSN P w K mg base "dropped_in" 1 2 P0)(C:Cxt P w K mg base X M8 (A5 (top 13)) 3 true):DS X E0k (stm 13 1) Z8:=
 (nV 1 (Es C 2 ⋯ (pP C qj (by decide) ⋯ (A3 C 0 ⋯) 1 ⋯)))
def Mp (T:Txt mg)(C:Cxt P w K mg base X M8 (A5 (top 13)) 3 true):DS X E0k (stm 13 2) Fa:=
 (Sj C 3 ⋯ (P5 A9))
def Mo (T:Txt mg)(qk:Fn P w K mg base "signs_of" 3 1 Ag)(C:Cxt P w K mg base X M8 (A5 (top 13)) 3 true):DS X E0k (stm 13 3) V5:=
 (O7 C 4 ⋯ (K9 (D3 C qk (by decide) ⋯ (A4 (A3 C 0 ⋯) A9))) (B8 (Nx C 3 ⋯ (K2 (A4 (A3 C 4 ⋯) (A4 (d_and (dA C 1 ⋯ (D7 (D7 (A3 C 4 ⋯) A8) A8)) (d_one (dA C 2 ⋯ (D7 (A3 C 4 ⋯) A8)))) A9))))))
def Mn (T:Txt mg)(C:Cxt P w K mg base X M8 (A5 (top 13)) 3 true):DS X E0k (stm 13 4) Ez:=
 (fA 3 (I9 (A3 C 3 ⋯)))
def Nr (T:Txt mg)(qj:FnSN P w K mg base "dropped_in" 1 2 P0)(qk:Fn P w K mg base "signs_of" 3 1 Ag)(fq:FnN P w K mg base "undone_in" 1 1 N7)(C:Cxt P w K mg base X M8 (A5 (top 13)) 3 true):DSs X E0k (B6 (top 13)) Br:=by
 have h:B6 (top 13)=[stm 13 0,stm 13 1,stm 13 2,stm 13 3,stm 13 4]:=by kernel_rfl
 rw[h];exact(B0 (Mr T fq C) (B0 (Mq T qj C) (B0 (Mp T C) (B0 (Mo T qk C) (B8 (Mn T C))))))
def bB:FnScope Go ["book"] (A5 (top 14)):=⟨rfl,rfl,rfl,by decide+kernel,rfl,by decide+kernel,by decide+kernel⟩
def Wb (T:Txt mg)(qf:Fn P w K mg base "presence_in" 4 1 N8)(C:Cxt P w K mg base X Go (A5 (top 14)) 4 true):DSs X E0k (B6 (top 14)) Fu:=
 (B8 (I9 (M4 (P6 C [] [] ⋯ (K9 (D3 C qf (by decide) ⋯ (A4 (A3 C 0 ⋯) A9))) (λX' C'=>(Y3 (wK (D7 (A3 C' 0 ⋯) A8)))) (λX' C'=>(D7 (A3 C' 0 ⋯) A8))))))
def eV:FnScope Jl ["book"] (A5 (top 15)):=⟨rfl,rfl,rfl,by decide+kernel,rfl,by decide+kernel,by decide+kernel⟩
def aF (T:Txt mg)(fc:Fn P w K mg base "shown_in" 5 1 L8)(C:Cxt P w K mg base X Jl (A5 (top 15)) 5 true):DSs X E0k (B6 (top 15)) Hy:=
 (B8 (I9 (Tq (M4 (P6 C [] [] ⋯ (K9 (D3 C fc (by decide) ⋯ (A4 (A3 C 0 ⋯) A9))) (λX' C'=>Ch) (λX' C'=>(D7 (A3 C' 0 ⋯) A8)))))))
def Yn:FnScope Dx ["book"] (A5 (top 17)):=⟨rfl,rfl,rfl,by decide+kernel,rfl,by decide+kernel,by decide+kernel⟩
def Ua (T:Txt mg)(qf:Fn P w K mg base "presence_in" 4 1 N8)(C:Cxt P w K mg base X Dx (A5 (top 17)) 4 true):DSN X E0k (B6 (top 17)) Ek:=
 (Af (Fx C 1 ⋯) (Af (F5 C 2 ⋯ A8) (Af (O7 C 3 ⋯ (K9 (D3 C qf (by decide) ⋯ (A4 (A3 C 0 ⋯) A9))) (B0 (F5 C 4 ⋯ (A3 C 2 ⋯)) (B0 (Y7 (wK (D7 (A3 C 3 ⋯) A8)) (B8 (F5 C 2 ⋯ (D5 (A3 C 4 ⋯) A8))) L7) (B8 (Mt C 1 ⋯ (D7 (D7 (A3 C 3 ⋯) A8) A8) (K2 (A4 (A3 C 2 ⋯) (A4 (A3 C 4 ⋯) A9)))))))) (Af (Mt C 1 ⋯ Aj (K2 (A4 A8 (A4 (A3 C 2 ⋯) A9)))) (cB C 1 ⋯)))))
def bG:FnScope Gr ["places","anchor"] (A5 (top 18)):=⟨rfl,rfl,rfl,by decide+kernel,rfl,by decide+kernel,by decide+kernel⟩
def Wh (T:Txt mg)(C:Cxt P w K mg base X Gr (A5 (top 18)) 0 true):DSs X E0k (B6 (top 18)) Fv:=
 (B8 (I9 (D7 (Kg C 0 ⋯ (D7 (A3 C 1 ⋯) A8)) (rC (vS (z:="lr") C ⋯ T.c_SIDES) (D7 (A3 C 1 ⋯) A8)))))
def bC:FnScope Le ["book","anchor"] (A5 (top 19)):=⟨rfl,rfl,rfl,by decide+kernel,rfl,by decide+kernel,by decide+kernel⟩
def Wc {CN:i9}{Ex:XK}(O:ExcAt K mg "NoSign" CN)(L:Lv X Ex)(hex:X.ex=[])(T:Txt mg)(fw:FnS P w K mg base "anchored" 1 2 M1)(fy:FnN P w K mg base "places_in" 5 1 O9)(C:Cxt P w K mg base X Le (A5 (top 19)) 5 true):DSs X (eX CN Ex) (B6 (top 19)) V6:=
 (B0 (Es C 2 ⋯ (uE C fy (by decide) ⋯ (A4 (A3 C 0 ⋯) A9))) (B0 (Y7 (Lg C 2 ⋯ (D7 (A3 C 1 ⋯) A8)) (B8 (Si (p4:=⟨0,0,0,0⟩) C L hex C.room.gd O ⋯ (A3 C 1 ⋯))) L7) (B8 (nV 2 (I9 (mB C fw (by decide) ⋯ 2 ⋯ (A3 C 1 ⋯)))))))
def Yo:FnScope R0 ["book","place","side"] (A5 (top 20)):=⟨rfl,rfl,rfl,by decide+kernel,rfl,by decide+kernel,by decide+kernel⟩
def Rl {CN:i9}{Ex:XK}(O:ExcAt K mg "NoPlace" CN)(L:Lv X Ex)(hex:X.ex=[])(T:Txt mg)(fc:Fn P w K mg base "shown_in" 5 1 L8)(C:Cxt P w K mg base X R0 (A5 (top 20)) 5 true):DS X (eX CN Ex) (stm 20 0) Y4:=
 (F5 C 3 ⋯ (Jk C fc (by decide) ⋯ (A4 (A3 C 0 ⋯) A9)))
def Rk {CN:i9}{Ex:XK}(O:ExcAt K mg "NoPlace" CN)(L:Lv X Ex)(hex:X.ex=[])(T:Txt mg)(fc:Fn P w K mg base "shown_in" 5 1 L8)(C:Cxt P w K mg base X R0 (A5 (top 20)) 5 true):DS X (eX CN Ex) (stm 20 1) Cj:=
 (Y7 (nB (kA C A8 (A3 C 1 ⋯) (Y2 C ⋯ T.b_len (A4 (A3 C 3 ⋯) A9)))) (B8 (Si (p4:=⟨0,0,0,0⟩) C L hex C.room.gd O ⋯ (A3 C 1 ⋯))) L7)
def Rj {CN:i9}{Ex:XK}(O:ExcAt K mg "NoPlace" CN)(L:Lv X Ex)(hex:X.ex=[])(T:Txt mg)(fc:Fn P w K mg base "shown_in" 5 1 L8)(C:Cxt P w K mg base X R0 (A5 (top 20)) 5 true):DS X (eX CN Ex) (stm 20 2) Ci:=
 (F5 C 4 ⋯ (Qm (Ec C (A3 C 2 ⋯) F9) (d_sub (A3 C 1 ⋯) A8) (A3 C 1 ⋯)))
def Ri {CN:i9}{Ex:XK}(O:ExcAt K mg "NoPlace" CN)(L:Lv X Ex)(hex:X.ex=[])(T:Txt mg)(fc:Fn P w K mg base "shown_in" 5 1 L8)(C:Cxt P w K mg base X R0 (A5 (top 20)) 5 true):DS X (eX CN Ex) (stm 20 3) Hr:=
 (Y7 (nB (Ho C A8 (A3 C 4 ⋯) (Y2 C ⋯ T.b_len (A4 (A3 C 3 ⋯) A9)))) (B8 (I9 (K2 (A4 Aj (A4 (A3 C 2 ⋯) A9))))) L7)
def Rh {CN:i9}{Ex:XK}(O:ExcAt K mg "NoPlace" CN)(L:Lv X Ex)(hex:X.ex=[])(T:Txt mg)(fc:Fn P w K mg base "shown_in" 5 1 L8)(C:Cxt P w K mg base X R0 (A5 (top 20)) 5 true):DS X (eX CN Ex) (stm 20 4) Hq:=
 (I9 (K2 (A4 (D7 (D7 (A3 C 3 ⋯) (A3 C 4 ⋯)) A8) (A4 (A3 C 2 ⋯) A9))))
def Ub {CN:i9}{Ex:XK}(O:ExcAt K mg "NoPlace" CN)(L:Lv X Ex)(hex:X.ex=[])(T:Txt mg)(fc:Fn P w K mg base "shown_in" 5 1 L8)(C:Cxt P w K mg base X R0 (A5 (top 20)) 5 true):DSs X (eX CN Ex) (B6 (top 20)) Ka:=by
 have h:B6 (top 20)=[stm 20 0,stm 20 1,stm 20 2,stm 20 3,stm 20 4]:=by kernel_rfl
 rw[h];exact(B0 (Rl O L hex T fc C) (B0 (Rk O L hex T fc C) (B0 (Rj O L hex T fc C) (B0 (Ri O L hex T fc C) (B8 (Rh O L hex T fc C))))))
def Vi:FnScope P9 ["book"] (A5 (top 21)):=⟨rfl,rfl,rfl,by decide+kernel,rfl,by decide+kernel,by decide+kernel⟩
def Oh (T:Txt mg)(fq:FnN P w K mg base "undone_in" 1 1 N7)(C:Cxt P w K mg base X P9 (A5 (top 21)) 1 true):DS X E0k (stm 21 0) Bg:=
 (Es C 1 ⋯ (Nd C fq (by decide) ⋯ (A4 (A3 C 0 ⋯) A9)))
def Og (T:Txt mg)(C:Cxt P w K mg base X P9 (A5 (top 21)) 1 true):DS X E0k (stm 21 1) Gu:=
 (Fx C 2 ⋯)
def Oe (T:Txt mg)(C:Cxt P w K mg base X P9 (A5 (top 21)) 1 true):DS X E0k (stm 21 2) Bf:=
 (O7 C 3 ⋯ (K9 (A3 C 0 ⋯)) (B8 (Y7 (w_t (Cg (jZ C (D7 (A3 C 3 ⋯) A8) (K2 (A4 F9 (A4 F9 A9)))) (X6 (Lg C 1 ⋯ (D7 (A3 C 3 ⋯) A8))))) (B8 (Mt C 2 ⋯ (D7 (A3 C 3 ⋯) A8) (A3 C 3 ⋯))) L7)))
def Od (T:Txt mg)(C:Cxt P w K mg base X P9 (A5 (top 21)) 1 true):DS X E0k (stm 21 3) Be:=
 (I9 (M4 (P6 C [2] ["last"] ⋯ (K9 (Ql C ⋯ T.b_sorted 2 ⋯)) (λX' C'=>(Y3 (Ec C' (D7 (Kg C' 1 ⋯ (A3 C' 0 ⋯)) A8) F9))) (λX' C'=>(Kg C' 1 ⋯ (A3 C' 0 ⋯))))))
def Pn (T:Txt mg)(fq:FnN P w K mg base "undone_in" 1 1 N7)(C:Cxt P w K mg base X P9 (A5 (top 21)) 1 true):DSs X E0k (B6 (top 21)) Cw:=by
 have h:B6 (top 21)=[stm 21 0,stm 21 1,stm 21 2,stm 21 3]:=by kernel_rfl
 rw[h];exact(B0 (Oh T fq C) (B0 (Og T C) (B0 (Oe T C) (B8 (Od T C)))))
def bE:FnScope X9 ["book"] (A5 (top 22)):=⟨rfl,rfl,rfl,by decide+kernel,rfl,by decide+kernel,by decide+kernel⟩
def Vb (T:Txt mg)(fy:FnN P w K mg base "places_in" 5 1 O9)(C:Cxt P w K mg base X X9 (A5 (top 22)) 5 true):DS X E0k (stm 22 0) Eh:=
 (Es C 1 ⋯ (Nd C fy (by decide) ⋯ (A4 (A3 C 0 ⋯) A9)))
def Va (T:Txt mg)(C:Cxt P w K mg base X X9 (A5 (top 22)) 5 true):DS X E0k (stm 22 1) Ju:=
 (Sj C 2 ⋯ (P5 A9))
def Uz (T:Txt mg)(fw:FnS P w K mg base "anchored" 1 2 M1)(qd:Fn P w K mg base "mark_deeds" 2 1 M0)(C:Cxt P w K mg base X X9 (A5 (top 22)) 5 true):DS X E0k (stm 22 2) Eg:=
 (nV 1 (O7 C 3 ⋯ (K9 (D3 C qd (by decide) ⋯ (A4 (A3 C 0 ⋯) A9))) (B0 (F5 C 4 ⋯ (dF C fw (by decide) ⋯ 1 ⋯ (D7 (A3 C 3 ⋯) A8))) (B8 (Nx C 2 ⋯ (K2 (A4 (D7 (A3 C 3 ⋯) A8) (A4 (A3 C 4 ⋯) (A4 (xK C ⋯ T.b_max (A4 (A3 C 4 ⋯) (A4 (dF C fw (by decide) ⋯ 1 ⋯ (D7 (A3 C 3 ⋯) A8)) A9))) A9)))))))))
def Uy (T:Txt mg)(C:Cxt P w K mg base X X9 (A5 (top 22)) 5 true):DS X E0k (stm 22 3) Jt:=
 (fA 2 (I9 (A3 C 2 ⋯)))
def We (T:Txt mg)(fw:FnS P w K mg base "anchored" 1 2 M1)(qd:Fn P w K mg base "mark_deeds" 2 1 M0)(fy:FnN P w K mg base "places_in" 5 1 O9)(C:Cxt P w K mg base X X9 (A5 (top 22)) 5 true):DSs X E0k (B6 (top 22)) Ll:=by
 have h:B6 (top 22)=[stm 22 0,stm 22 1,stm 22 2,stm 22 3]:=by kernel_rfl
 rw[h];exact(B0 (Vb T fy C) (B0 (Va T C) (B0 (Uz T fw qd C) (B8 (Uy T C)))))
def Vh:FnScope Gq ["marks","name"] (A5 (top 23)):=⟨rfl,rfl,rfl,by decide+kernel,rfl,by decide+kernel,by decide+kernel⟩
def Pm {CN:i9}{Ex:XK}(O:ExcAt K mg "NoName" CN)(L:Lv X Ex)(hex:X.ex=[])(T:Txt mg)(C:Cxt P w K mg base X Gq (A5 (top 23)) 0 true):DSs X (eX CN Ex) (B6 (top 23)) Y5:=
 (B0 (O7 C 2 ⋯ (K9 (A3 C 0 ⋯)) (B8 (Y7 (Ec C (D7 (A3 C 2 ⋯) A8) (A3 C 1 ⋯)) (B8 (I9 (A3 C 2 ⋯))) L7))) (B8 (kK (p4:=⟨0,0,0,0⟩) C L hex C.room.gd O ⋯ (A3 C 1 ⋯))))
def kJ:FnScope Ul ["book","name"] (A5 (top 24)):=⟨rfl,rfl,rfl,by decide+kernel,rfl,by decide+kernel,by decide+kernel⟩
def dU {CN:i9}{Ex:XK}(O:ExcAt K mg "NoName" CN)(L:Lv X Ex)(hex:X.ex=[])(T:Txt mg)(ja:FnX P w K mg base CN "mark_named" 1 2 Z2)(fe:Fn P w K mg base "marks_of" 6 1 L9)(fi:Fn P w K mg base "text_of" 6 1 Q7)(C:Cxt P w K mg base X Ul (A5 (top 24)) 6 true):DSs X (eX CN Ex) (B6 (top 24)) Aa:=
 (B0 (F5 C 2 ⋯ (vU C L hex ja (by decide) ⋯ (A4 (Jk C fe (by decide) ⋯ (A4 (A3 C 0 ⋯) A9)) (A4 (A3 C 1 ⋯) A9)))) (B8 (I9 (Mf (Jk C fi (by decide) ⋯ (A4 (A3 C 0 ⋯) A9)) (Z0 (D7 (A3 C 2 ⋯) A8)) (Z0 (D7 (A3 C 2 ⋯) A8))))))
def Ms:FnScope Bv ["marks","begin","end"] (A5 (top 25)):=⟨rfl,rfl,rfl,by decide+kernel,rfl,by decide+kernel,by decide+kernel⟩
def La (T:Txt mg)(C:Cxt P w K mg base X Bv (A5 (top 25)) 0 true):DSs X E0k (B6 (top 25)) Dm:=
 (B8 (I9 (M4 (P6 C [1,2] ["begin","end"] ⋯ (K9 (A3 C 0 ⋯)) (λX' C'=>(Y3 (w_t (Cg (xW C' (D7 (A3 C' 0 ⋯) A8) (A3 C' 1 ⋯)) (X6 (xW C' (A3 C' 2 ⋯) (D7 (A3 C' 0 ⋯) A8))))))) (λX' C'=>(D7 (A3 C' 0 ⋯) A8))))))
def bD:FnScope Lf ["book","place"] (A5 (top 26)):=⟨rfl,rfl,rfl,by decide+kernel,rfl,by decide+kernel,by decide+kernel⟩
def Wd {CN:i9}{Ex:XK}(O:ExcAt K mg "NoPlace" CN)(L:Lv X Ex)(hex:X.ex=[])(T:Txt mg)(fe:Fn P w K mg base "marks_of" 6 1 L9)(jb:Fn P w K mg base "names_holding" 1 3 X5)(fi:Fn P w K mg base "text_of" 6 1 Q7)(C:Cxt P w K mg base X Lf (A5 (top 26)) 6 true):DSs X (eX CN Ex) (B6 (top 26)) V7:=
 (B0 (Y7 (nB (Ho C A8 (A3 C 1 ⋯) (Y2 C ⋯ T.b_len (A4 (Jk C fi (by decide) ⋯ (A4 (A3 C 0 ⋯) A9)) A9)))) (B8 (Si (p4:=⟨0,0,0,0⟩) C L hex C.room.gd O ⋯ (A3 C 1 ⋯))) L7) (B8 (I9 (Jk C jb (by decide) ⋯ (A4 (Jk C fe (by decide) ⋯ (A4 (A3 C 0 ⋯) A9)) (A4 (A3 C 1 ⋯) (A4 (D5 (A3 C 1 ⋯) A8) A9)))))))
def bF:FnScope Y0 ["marks","place"] (A5 (top 27)):=⟨rfl,rfl,rfl,by decide+kernel,rfl,by decide+kernel,by decide+kernel⟩
def Vf (T:Txt mg)(C:Cxt P w K mg base X Y0 (A5 (top 27)) 0 true):DS X E0k (stm 27 0) Jy:=
 (Fw C 2 ⋯ ⋯ [1] ["place"] ⋯ (K9 (A3 C 0 ⋯)) (λX' C'=>(Y3 (w_t (Cg (eL C' (D7 (A3 C' 0 ⋯) A8) (A3 C' 1 ⋯)) (X6 (Ec C' (D7 (A3 C' 0 ⋯) A8) (A3 C' 1 ⋯))))))) (λX' C'=>(D5 F9 (D7 (A3 C' 0 ⋯) A8))))
def Ve (T:Txt mg)(C:Cxt P w K mg base X Y0 (A5 (top 27)) 0 true):DS X E0k (stm 27 1) Jx:=
 (Fw C 3 ⋯ ⋯ [1] ["place"] ⋯ (K9 (A3 C 0 ⋯)) (λX' C'=>(Y3 (w_t (Cg (Ec C' (D7 (A3 C' 0 ⋯) A8) (A3 C' 1 ⋯)) (X6 (Ec C' (D7 (A3 C' 0 ⋯) A8) (A3 C' 1 ⋯))))))) (λX' C'=>(D5 (D7 (A3 C' 0 ⋯) A8) F9)))
def Vd (T:Txt mg)(C:Cxt P w K mg base X Y0 (A5 (top 27)) 0 true):DS X E0k (stm 27 2) Jw:=
 (Fw C 4 ⋯ ⋯ [1] ["place"] ⋯ (K9 (A3 C 0 ⋯)) (λX' C'=>(Y3 (w_t (Cg (Ec C' (D7 (A3 C' 0 ⋯) A8) (A3 C' 1 ⋯)) (X6 (t_gt C' (D7 (A3 C' 0 ⋯) A8) (A3 C' 1 ⋯))))))) (λX' C'=>(D5 (D7 (A3 C' 0 ⋯) A8) F9)))
def Vc (T:Txt mg)(C:Cxt P w K mg base X Y0 (A5 (top 27)) 0 true):DS X E0k (stm 27 3) Jv:=
 (I9 (Tq (D5 (D5 (gA C ⋯ T.b_list ⋯ T.b_reversed (A3 C 2 ⋯)) (A3 C 3 ⋯)) (A3 C 4 ⋯))))
def Wg (T:Txt mg)(C:Cxt P w K mg base X Y0 (A5 (top 27)) 0 true):DSs X E0k (B6 (top 27)) Lm:=by
 have h:B6 (top 27)=[stm 27 0,stm 27 1,stm 27 2,stm 27 3]:=by kernel_rfl
 rw[h];exact(B0 (Vf T C) (B0 (Ve T C) (B0 (Vd T C) (B8 (Vc T C)))))
def nS:FnScope Jm ["book"] (A5 (top 28)):=⟨rfl,rfl,rfl,by decide+kernel,rfl,by decide+kernel,by decide+kernel⟩
def eQ (T:Txt mg)(fi:Fn P w K mg base "text_of" 6 1 Q7)(C:Cxt P w K mg base X Jm (A5 (top 28)) 6 true):DS X E0k (stm 28 0) Ra:=
 (F5 C 1 ⋯ (D3 C fi (by decide) ⋯ (A4 (A3 C 0 ⋯) A9)))
def eP (T:Txt mg)(fe:Fn P w K mg base "marks_of" 6 1 L9)(C:Cxt P w K mg base X Jm (A5 (top 28)) 6 true):DS X E0k (stm 28 1) Qz:=
 (F5 C 2 ⋯ (D3 C fe (by decide) ⋯ (A4 (A3 C 0 ⋯) A9)))
def eO (T:Txt mg)(ql:Fn P w K mg base "drawn_at" 1 2 Ah)(C:Cxt P w K mg base X Jm (A5 (top 28)) 6 true):DS X E0k (stm 28 2) Qy:=
 (I9 (Tq (M4 (P6 C [2,1] ["marks","text"] ⋯ (Aw C ⋯ T.b_range (A4 (D5 (Y2 C ⋯ T.b_len (A4 (A3 C 1 ⋯) A9)) A8) A9)) (λX' C'=>Ch) (λX' C'=>(D5 (D3 C' ql (by decide) ⋯ (A4 (A3 C' 1 ⋯) (A4 (A3 C' 0 ⋯) A9))) (Mf (A3 C' 2 ⋯) (Z0 (A3 C' 0 ⋯)) (Z0 (D5 (A3 C' 0 ⋯) A8)))))))))
def gN (T:Txt mg)(ql:Fn P w K mg base "drawn_at" 1 2 Ah)(fe:Fn P w K mg base "marks_of" 6 1 L9)(fi:Fn P w K mg base "text_of" 6 1 Q7)(C:Cxt P w K mg base X Jm (A5 (top 28)) 6 true):DSs X E0k (B6 (top 28)) Wq:=by
 have h:B6 (top 28)=[stm 28 0,stm 28 1,stm 28 2]:=by kernel_rfl
 rw[h];exact(B0 (eQ T fi C) (B0 (eP T fe C) (B8 (eO T ql C))))
def Vj:FnScope Cb ["book"] (A5 (top 29)):=⟨rfl,rfl,rfl,by decide+kernel,rfl,by decide+kernel,by decide+kernel⟩
def Po (T:Txt mg)(qd:Fn P w K mg base "mark_deeds" 2 1 M0)(C:Cxt P w K mg base X Cb (A5 (top 29)) 2 true):DSs X E0k (B6 (top 29)) Cy:=
 (B0 (Fx C 1 ⋯) (B0 (yI C 1 2 ⋯ ⋯ (K9 (D3 C qd (by decide) ⋯ (A4 (A3 C 0 ⋯) A9))) (D7 (D7 (A3 C 2 ⋯) A8) A8) (D7 (A3 C 2 ⋯) A8) ⟨rfl,rfl,rfl,rfl⟩ (λ_=>rfl) rfl rfl rfl rfl rfl rfl) (B8 (I9 (M4 (P6 C [1] ["names"] ⋯ (K9 (Ql C ⋯ T.b_sorted 1 ⋯)) (λX' C'=>Ch) (λX' C'=>(K2 (A4 (A3 C' 0 ⋯) (A4 (Kg C' 1 ⋯ (A3 C' 0 ⋯)) A9))))))))))
def Yt:FnScope Ea ["_law_script","_law_k"] (A5 (top 31)):=⟨rfl,rfl,rfl,by decide+kernel,rfl,by decide+kernel,by decide+kernel⟩
def Ug (T:Txt mg)(C:Cxt P w K mg base X Ea (A5 (top 31)) 0 true):DSs X E0k (B6 (top 31)) Ep:=
 (B0 (Y7 (Ec C (A3 C 0 ⋯) (M4 (P5 A9))) (B8 (I9 (Bz A8 (A3 C 1 ⋯)))) L7) (B8 (I9 (D5 (D7 (A3 C 0 ⋯) (Xm (A3 C 1 ⋯) (Y2 C ⋯ T.b_len (A4 (A3 C 0 ⋯) A9)))) (Bz A8 (Zy (A3 C 1 ⋯) (Y2 C ⋯ T.b_len (A4 (A3 C 0 ⋯) A9))))))))
def Vt:FnScope Cf ["_law_script","_law_k","_law_many"] (A5 (top 32)):=⟨rfl,rfl,rfl,by decide+kernel,rfl,by decide+kernel,by decide+kernel⟩
def Qa (T:Txt mg)(jc:Fn P w K mg base "_law_cell" 1 2 Au)(C:Cxt P w K mg base X Cf (A5 (top 32)) 1 true):DSs X E0k (B6 (top 32)) Dg:=
 (B0 (F5 C 3 ⋯ (Xm (D5 (Bz (Xm (D3 C jc (by decide) ⋯ (A4 (A3 C 0 ⋯) (A4 (A3 C 1 ⋯) A9))) A8) A8) (Bz A8 (D5 (A3 C 1 ⋯) A8))) A8)) (B0 (F5 C 3 ⋯ (Xm (D5 (Bz (A3 C 3 ⋯) (A3 C 3 ⋯)) (Zy (A3 C 3 ⋯) A8)) A8)) (B8 (I9 (Xm (Zy (Xm (D5 (Bz (A3 C 3 ⋯) (A3 C 3 ⋯)) (Zy (A3 C 3 ⋯) A8)) A8) A8) (A3 C 2 ⋯))))))
def Vq:FnScope T7 ["_law_script","_law_at"] (A5 (top 33)):=⟨rfl,rfl,rfl,by decide+kernel,rfl,by decide+kernel,by decide+kernel⟩
def Ow (T:Txt mg)(C:Cxt P w K mg base X T7 (A5 (top 33)) 2 true):DS X E0k (stm 33 0) Bm:=
 (Sj C 2 ⋯ (P5 A9))
def Ov (T:Txt mg)(FI:Fn P w K mg base "_law_drawn" 2 3 B5)(C:Cxt P w K mg base X T7 (A5 (top 33)) 2 true):DS X E0k (stm 33 1) Bl:=
 (O7 C 3 ⋯ (Aw C ⋯ T.b_range (A4 A8 A9)) (B0 (F5 C 4 ⋯ (Bz (D7 F9 (D3 C FI (by decide) ⋯ (A4 (A3 C 0 ⋯) (A4 (D5 (A3 C 1 ⋯) (Bz A8 (A3 C 3 ⋯))) (A4 A8 A9))))) (D3 C FI (by decide) ⋯ (A4 (A3 C 0 ⋯) (A4 (D5 (D5 (A3 C 1 ⋯) (Bz A8 (A3 C 3 ⋯))) A8) (A4 A8 A9)))))) (B8 (Nx C 2 ⋯ (D7 (M4 (P5 (A4 (D5 (A3 C 4 ⋯) (D7 F9 (A3 C 3 ⋯))) (A4 (D5 (D7 F9 (A3 C 3 ⋯)) (A3 C 4 ⋯)) A9)))) (D3 C FI (by decide) ⋯ (A4 (A3 C 0 ⋯) (A4 (D5 (A3 C 1 ⋯) A8) (A4 A8 A9)))))))))
def Ou (T:Txt mg)(C:Cxt P w K mg base X T7 (A5 (top 33)) 2 true):DS X E0k (stm 33 2) Bj:=
 (fA 2 (I9 (A3 C 2 ⋯)))
def Px (T:Txt mg)(FI:Fn P w K mg base "_law_drawn" 2 3 B5)(C:Cxt P w K mg base X T7 (A5 (top 33)) 2 true):DSs X E0k (B6 (top 33)) De:=by
 have h:B6 (top 33)=[stm 33 0,stm 33 1,stm 33 2]:=by kernel_rfl
 rw[h];exact(B0 (Ow T C) (B0 (Ov T FI C) (B8 (Ou T C))))
def Vl:FnScope Cd ["_law_script","_law_at"] (A5 (top 34)):=⟨rfl,rfl,rfl,by decide+kernel,rfl,by decide+kernel,by decide+kernel⟩
def Ps (T:Txt mg)(FI:Fn P w K mg base "_law_drawn" 2 3 B5)(C:Cxt P w K mg base X Cd (A5 (top 34)) 2 true):DSs X E0k (B6 (top 34)) Da:=
 (B8 (I9 (Tq (M4 (P6 C [0,1] ["_law_script","_law_at"] ⋯ (Aw C ⋯ T.b_range (A4 (D5 A8 (D3 C FI (by decide) ⋯ (A4 (A3 C 0 ⋯) (A4 (D5 (A3 C 1 ⋯) A8) (A4 A8 A9))))) A9)) (λX' C'=>Ch) (λX' C'=>(D7 F9 (D3 C' FI (by decide) ⋯ (A4 (A3 C' 1 ⋯) (A4 (D5 (A3 C' 2 ⋯) (A3 C' 0 ⋯)) (A4 A8 A9)))))))))))
def Vn:FnScope Ce ["_law_book_here"] (A5 (top 35)):=⟨rfl,rfl,rfl,by decide+kernel,rfl,by decide+kernel,by decide+kernel⟩
def Pu (T:Txt mg)(C:Cxt P w K mg base X Ce (A5 (top 35)) 0 true):DSs X E0k (B6 (top 35)) Dc:=
 (B0 (F5 C 1 ⋯ (M4 (P5 A9))) (B0 (O7 C 2 ⋯ (K9 (A3 C 0 ⋯)) (B8 (Y7 (Ec C (D7 (A3 C 2 ⋯) A8) F9) (B8 (F5 C 1 ⋯ (D5 (A3 C 1 ⋯) (M4 (P6 C [2] ["_law_deed_here"] ⋯ (Aw C ⋯ T.b_range (A4 (Y2 C ⋯ T.b_len (A4 (D7 (A3 C 2 ⋯) A8) A9)) A9)) (λX' C'=>Ch) (λX' C'=>(K2 (A4 (D7 (A3 C' 1 ⋯) A8) (A4 (A3 C' 0 ⋯) A9))))))))) L7))) (B8 (I9 (A3 C 1 ⋯)))))
def Sh:FnScope An ["_law_script","_law_at","_law_signs_here"] (A5 (top 36)):=⟨rfl,rfl,rfl,by decide+kernel,rfl,by decide+kernel,by decide+kernel⟩
def Nu (T:Txt mg)(FI:Fn P w K mg base "_law_drawn" 2 3 B5)(C:Cxt P w K mg base X An (A5 (top 36)) 2 true):DSs X E0k (B6 (top 36)) Bt:=
 (B0 (F5 C 3 ⋯ (D7 (D5 (M4 (P5 (A4 Aj A9))) (A3 C 2 ⋯)) (D3 C FI (by decide) ⋯ (A4 (A3 C 0 ⋯) (A4 (A3 C 1 ⋯) (A4 (D5 (Y2 C ⋯ T.b_len (A4 (A3 C 2 ⋯) A9)) A8) A9)))))) (B8 (I9 (K2 (A4 (A3 C 3 ⋯) (A4 (D7 F9 (D3 C FI (by decide) ⋯ (A4 (A3 C 0 ⋯) (A4 (D5 (A3 C 1 ⋯) A8) (A4 A8 A9))))) A9))))))
def Ys:FnScope M6 ["_law_script","_law_at","_law_one","_law_known","_law_names_here"] (A5 (top 37)):=⟨rfl,rfl,rfl,by decide+kernel,rfl,by decide+kernel,by decide+kernel⟩
def Rt (T:Txt mg)(qm:Fn P w K mg base "_law_signs" 1 1 W0)(C:Cxt P w K mg base X M6 (A5 (top 37)) 3 true):DS X E0k (stm 37 0) Cr:=
 (F5 C 5 ⋯ (D3 C qm (by decide) ⋯ (A4 (A3 C 3 ⋯) A9)))
def Rs (T:Txt mg)(FI:Fn P w K mg base "_law_drawn" 2 3 B5)(C:Cxt P w K mg base X M6 (A5 (top 37)) 3 true):DS X E0k (stm 37 1) Cq:=
 (F5 C 6 ⋯ (D3 C FI (by decide) ⋯ (A4 (A3 C 0 ⋯) (A4 (A3 C 1 ⋯) (A4 A8 A9)))))
def Rr (T:Txt mg)(FI:Fn P w K mg base "_law_drawn" 2 3 B5)(C:Cxt P w K mg base X M6 (A5 (top 37)) 3 true):DS X E0k (stm 37 2) Cp:=
 (Y7 (w_t (Cg (eL C (A3 C 6 ⋯) A8) (X6 (Qu C (A3 C 5 ⋯) (M4 (P5 A9)))))) (B0 (eZ C 8 ⋯ ⋯ [0,1] ["_law_script","_law_at"] ⋯ (AJ C ⋯ T.b_enumerate (A4 (A3 C 5 ⋯) A9)) (λX' C'=>(Y3 (Ec C' (D3 C' FI (by decide) ⋯ (A4 (A3 C' 2 ⋯) (A4 (D5 (D5 (A3 C' 3 ⋯) A8) (A3 C' 0 ⋯)) (A4 A8 A9)))) A8))) (λX' C'=>(A3 C' 1 ⋯))) (B8 (I9 (K2 (A4 F9 (A4 (A3 C 2 ⋯) (A4 (rB C ⋯ T.b_tuple (A4 (D5 (A3 C 8 ⋯) (Bz (Jj (A3 C 5 ⋯) Nb (Z0 A8)) (Nl C ⋯ T.b_int (A4 (vT C (A3 C 8 ⋯) (M4 (P5 A9))) A9)))) A9)) A9))))))) L7)
def Rq (T:Txt mg)(qg:Fn P w K mg base "_law_anchor" 3 3 Q2)(FI:Fn P w K mg base "_law_drawn" 2 3 B5)(C:Cxt P w K mg base X M6 (A5 (top 37)) 3 true):DS X E0k (stm 37 3) Co:=
 (Y7 (eL C (A3 C 6 ⋯) A8) (B0 (F5 C 9 ⋯ (K2 (A4 (D3 C qg (by decide) ⋯ (A4 (A3 C 0 ⋯) (A4 (D5 (A3 C 1 ⋯) A8) (A4 (A3 C 5 ⋯) A9)))) (A4 (D3 C qg (by decide) ⋯ (A4 (A3 C 0 ⋯) (A4 (D5 (A3 C 1 ⋯) A8) (A4 (A3 C 5 ⋯) A9)))) A9)))) (B8 (I9 (D5 (K2 (A4 F9 (A4 (A3 C 2 ⋯) (A4 (D7 (A3 C 4 ⋯) (D3 C FI (by decide) ⋯ (A4 (A3 C 0 ⋯) (A4 (D5 (A3 C 1 ⋯) A8) (A4 A8 A9))))) A9)))) (A3 C 9 ⋯))))) L7)
def Rp (T:Txt mg)(FI:Fn P w K mg base "_law_drawn" 2 3 B5)(C:Cxt P w K mg base X M6 (A5 (top 37)) 3 true):DS X E0k (stm 37 4) Cn:=
 (Y7 (Ec C (A3 C 6 ⋯) A8) (B8 (I9 (K2 (A4 F9 (A4 (A3 C 2 ⋯) (A4 (D7 (A3 C 4 ⋯) (D3 C FI (by decide) ⋯ (A4 (A3 C 0 ⋯) (A4 (D5 (A3 C 1 ⋯) A8) (A4 A8 A9))))) A9)))))) L7)
def Ro (T:Txt mg)(FI:Fn P w K mg base "_law_drawn" 2 3 B5)(C:Cxt P w K mg base X M6 (A5 (top 37)) 3 true):DS X E0k (stm 37 5) Cm:=
 (Y7 (w_t (Cg (eL C (A3 C 6 ⋯) A8) (X6 (Qu C (A3 C 3 ⋯) (K2 A9))))) (B8 (I9 (K2 (A4 F9 (A4 (A3 C 2 ⋯) (A4 (D7 (D7 (A3 C 3 ⋯) (D3 C FI (by decide) ⋯ (A4 (A3 C 0 ⋯) (A4 (D5 (A3 C 1 ⋯) A8) (A4 (Y2 C ⋯ T.b_len (A4 (A3 C 3 ⋯) A9)) A9))))) A8) A9)))))) L7)
def Rn (T:Txt mg)(FI:Fn P w K mg base "_law_drawn" 2 3 B5)(C:Cxt P w K mg base X M6 (A5 (top 37)) 3 true):DS X E0k (stm 37 6) Cl:=
 (F5 C 7 ⋯ (D7 (D5 (D5 (M4 (P5 (A4 Aj A9))) (A3 C 5 ⋯)) (Jj (A3 C 5 ⋯) (Z0 (jA A8)) Nb)) (D3 C FI (by decide) ⋯ (A4 (A3 C 0 ⋯) (A4 (D5 (A3 C 1 ⋯) A8) (A4 (D5 (D5 (Y2 C ⋯ T.b_len (A4 (A3 C 5 ⋯) A9)) A8) (Y2 C ⋯ T.b_len (A4 (Jj (A3 C 5 ⋯) (Z0 (jA A8)) Nb) A9))) A9))))))
def Rm (T:Txt mg)(qo:Fn P w K mg base "_law_words" 3 2 V9)(C:Cxt P w K mg base X M6 (A5 (top 37)) 3 true):DS X E0k (stm 37 7) Ck:=
 (I9 (K2 (A4 F9 (A4 (A3 C 2 ⋯) (A4 (A3 C 7 ⋯) (A4 (D3 C qo (by decide) ⋯ (A4 (A3 C 0 ⋯) (A4 (D5 (A3 C 1 ⋯) A8) A9))) A9))))))
def Uf (T:Txt mg)(qg:Fn P w K mg base "_law_anchor" 3 3 Q2)(FI:Fn P w K mg base "_law_drawn" 2 3 B5)(qm:Fn P w K mg base "_law_signs" 1 1 W0)(qo:Fn P w K mg base "_law_words" 3 2 V9)(C:Cxt P w K mg base X M6 (A5 (top 37)) 3 true):DSs X E0k (B6 (top 37)) Eo:=by
 have h:B6 (top 37)=[stm 37 0,stm 37 1,stm 37 2,stm 37 3,stm 37 4,stm 37 5,stm 37 6,stm 37 7]:=by kernel_rfl
 rw[h];exact(B0 (Rt T qm C) (B0 (Rs T FI C) (B0 (Rr T FI C) (B0 (Rq T qg FI C) (B0 (Rp T FI C) (B0 (Ro T FI C) (B0 (Rn T FI C) (B8 (Rm T qo C)))))))))
def Yu:FnScope S9 ["_law_script","_law_at","_law_most","_law_names_here"] (A5 (top 38)):=⟨rfl,rfl,rfl,by decide+kernel,rfl,by decide+kernel,by decide+kernel⟩
def Rx (T:Txt mg)(C:Cxt P w K mg base X S9 (A5 (top 38)) 4 true):DS X E0k (stm 38 0) Cv:=
 (F5 C 4 ⋯ (K2 A9))
def Rw (T:Txt mg)(C:Cxt P w K mg base X S9 (A5 (top 38)) 4 true):DS X E0k (stm 38 1) Cu:=
 (F5 C 5 ⋯ (K2 (A4 A8 (A4 F9 A9))))
def Rv (T:Txt mg)(qp:Fn P w K mg base "_law_deed" 4 5 Q9)(FI:Fn P w K mg base "_law_drawn" 2 3 B5)(C:Cxt P w K mg base X S9 (A5 (top 38)) 4 true):DS X E0k (stm 38 2) Ct:=
 (O7 C 6 ⋯ (Aw C ⋯ T.b_range (A4 (D3 C FI (by decide) ⋯ (A4 (A3 C 0 ⋯) (A4 (A3 C 1 ⋯) (A4 (D5 (A3 C 2 ⋯) A8) A9)))) A9)) (B0 (F5 C 7 ⋯ (D5 (D7 (A3 C 5 ⋯) A8) (D3 C FI (by decide) ⋯ (A4 (A3 C 0 ⋯) (A4 (D5 (D5 (A3 C 1 ⋯) A8) (Bz A8 (A3 C 6 ⋯))) (A4 A8 A9)))))) (B0 (F5 C 8 ⋯ (D7 F9 (D3 C FI (by decide) ⋯ (A4 (A3 C 0 ⋯) (A4 (D5 (D5 (A3 C 1 ⋯) A8) (Bz A8 (A3 C 6 ⋯))) (A4 A8 A9)))))) (B0 (Y7 (w_t (Cg (Qu C (A3 C 4 ⋯) (K2 A9)) (X6 (xW C (K2 (A4 (A3 C 7 ⋯) (A4 (A3 C 8 ⋯) A9))) (A3 C 5 ⋯))))) (B8 (F5 C 7 ⋯ (D5 (D7 (A3 C 5 ⋯) A8) A8))) L7) (B0 (F5 C 5 ⋯ (K2 (A4 (A3 C 7 ⋯) (A4 (A3 C 8 ⋯) A9)))) (B0 (F5 C 9 ⋯ (rB C ⋯ T.b_tuple (A4 (M4 (P6 C [7] ["_law_time"] ⋯ (K9 (A3 C 4 ⋯)) (λX' C'=>(Y3 (eL C' (D7 (D7 (A3 C' 0 ⋯) A8) A8) (A3 C' 1 ⋯)))) (λX' C'=>(A3 C' 0 ⋯)))) A9))) (B8 (F5 C 4 ⋯ (D5 (A3 C 4 ⋯) (K2 (A4 (D3 C qp (by decide) ⋯ (A4 (A3 C 0 ⋯) (A4 (D5 (D5 (A3 C 1 ⋯) A8) (Bz A8 (A3 C 6 ⋯))) (A4 (A3 C 5 ⋯) (A4 (A3 C 9 ⋯) (A4 (A3 C 3 ⋯) A9)))))) A9)))))))))))
def Ru (T:Txt mg)(C:Cxt P w K mg base X S9 (A5 (top 38)) 4 true):DS X E0k (stm 38 3) Cs:=
 (I9 (A3 C 4 ⋯))
def Uh (T:Txt mg)(qp:Fn P w K mg base "_law_deed" 4 5 Q9)(FI:Fn P w K mg base "_law_drawn" 2 3 B5)(C:Cxt P w K mg base X S9 (A5 (top 38)) 4 true):DSs X E0k (B6 (top 38)) Er:=by
 have h:B6 (top 38)=[stm 38 0,stm 38 1,stm 38 2,stm 38 3]:=by kernel_rfl
 rw[h];exact(B0 (Rx T C) (B0 (Rw T C) (B0 (Rv T qp FI C) (B8 (Ru T C)))))
def Vp:FnScope T6 ["_law_book_here"] (A5 (top 39)):=⟨rfl,rfl,rfl,by decide+kernel,rfl,by decide+kernel,by decide+kernel⟩
def Ot (T:Txt mg)(C:Cxt P w K mg base X T6 (A5 (top 39)) 0 true):DS X E0k (stm 39 0) Ha:=
 (F5 C 1 ⋯ (M4 (P5 A9)))
def Os (T:Txt mg)(C:Cxt P w K mg base X T6 (A5 (top 39)) 0 true):DS X E0k (stm 39 1) Bi:=
 (O7 C 2 ⋯ (K9 (A3 C 0 ⋯)) (B8 (Y7 (Ec C (D7 (A3 C 2 ⋯) A8) F9) (B0 (F5 C 3 ⋯ (Qm (wL (D7 (A3 C 2 ⋯) A8)) A8 (D5 (dB C (A3 C 1 ⋯) (D7 (A3 C 2 ⋯) A8)) A8))) (B8 (F5 C 1 ⋯ (D5 (D5 (Jj (A3 C 1 ⋯) Nb (Z0 (A3 C 3 ⋯))) (M4 (P6 C [2] ["_law_deed_here"] ⋯ (Aw C ⋯ T.b_range (A4 (Y2 C ⋯ T.b_len (A4 (D7 (A3 C 2 ⋯) A8) A9)) A9)) (λX' C'=>Ch) (λX' C'=>(K2 (A4 (D7 (A3 C' 1 ⋯) A8) (A4 (A3 C' 0 ⋯) A9))))))) (Jj (A3 C 1 ⋯) (Z0 (A3 C 3 ⋯)) Nb))))) L7)))
def Oq (T:Txt mg)(C:Cxt P w K mg base X T6 (A5 (top 39)) 0 true):DS X E0k (stm 39 2) Gy:=
 (I9 (A3 C 1 ⋯))
def Pw (T:Txt mg)(C:Cxt P w K mg base X T6 (A5 (top 39)) 0 true):DSs X E0k (B6 (top 39)) Dd:=by
 have h:B6 (top 39)=[stm 39 0,stm 39 1,stm 39 2]:=by kernel_rfl
 rw[h];exact(B0 (Ot T C) (B0 (Os T C) (B8 (Oq T C))))
def Ph:FnScope Z4 ["_law_book_here"] (A5 (top 40)):=⟨rfl,rfl,rfl,by decide+kernel,rfl,by decide+kernel,by decide+kernel⟩
def Mh (T:Txt mg)(C:Cxt P w K mg base X Z4 (A5 (top 40)) 0 true):DSs X E0k (B6 (top 40)) Ab:=
 (B0 (Sj C 1 ⋯ (P5 A9)) (B0 (O7 C 2 ⋯ (K9 (d_rev (A3 C 0 ⋯))) (B8 (Y7 (xV 1 (w_t (Cg (Ec C (D7 (A3 C 2 ⋯) A8) F9) (X6 (Yg C (D7 (A3 C 2 ⋯) A8) (A3 C 1 ⋯)))))) (B8 (Nx C 1 ⋯ (D7 (A3 C 2 ⋯) A8))) L7))) (B8 (fA 1 (I9 (M4 (P6 C [1] ["_law_off"] ⋯ (K9 (A3 C 0 ⋯)) (λX' C'=>(Y3 (Yg C' (D7 (A3 C' 0 ⋯) A8) (A3 C' 1 ⋯)))) (λX' C'=>(D7 (A3 C' 0 ⋯) A8)))))))))
def Vm:FnScope Q0 ["_law_book_here"] (A5 (top 41)):=⟨rfl,rfl,rfl,by decide+kernel,rfl,by decide+kernel,by decide+kernel⟩
def Om (T:Txt mg)(qe:Fn P w K mg base "_law_effects" 1 1 N1)(C:Cxt P w K mg base X Q0 (A5 (top 41)) 1 true):DS X E0k (stm 41 0) Gx:=
 (F5 C 1 ⋯ (D3 C qe (by decide) ⋯ (A4 (A3 C 0 ⋯) A9)))
def Ol (T:Txt mg)(C:Cxt P w K mg base X Q0 (A5 (top 41)) 1 true):DS X E0k (stm 41 1) Gw:=
 (F5 C 2 ⋯ (M4 (P5 A9)))
def Oj (T:Txt mg)(C:Cxt P w K mg base X Q0 (A5 (top 41)) 1 true):DS X E0k (stm 41 2) Bh:=
 (O7 C 3 ⋯ (K9 (A3 C 0 ⋯)) (B8 (Y7 (w_t (Cg (Ec C (D7 (A3 C 3 ⋯) A8) F9) (X6 (jZ C (D7 (A3 C 3 ⋯) A8) (A3 C 1 ⋯))))) (B8 (F5 C 2 ⋯ (D5 (A3 C 2 ⋯) (vR C ⋯ T.b_list (A4 (D7 (A3 C 3 ⋯) A8) A9))))) L7)))
def Oi (T:Txt mg)(fg:Fn P w K mg base "_law_order" 1 1 J3)(C:Cxt P w K mg base X Q0 (A5 (top 41)) 1 true):DS X E0k (stm 41 3) Gv:=
 (I9 (M4 (P6 C [1,2] ["_law_there_here","_law_gone"] ⋯ (K9 (D3 C fg (by decide) ⋯ (A4 (A3 C 0 ⋯) A9))) (λX' C'=>(Y3 (w_t (Cg (jZ C' (D7 (A3 C' 0 ⋯) A8) (A3 C' 1 ⋯)) (X6 (Yg C' (A3 C' 0 ⋯) (A3 C' 2 ⋯))))))) (λX' C'=>(A3 C' 0 ⋯)))))
def Pt (T:Txt mg)(qe:Fn P w K mg base "_law_effects" 1 1 N1)(fg:Fn P w K mg base "_law_order" 1 1 J3)(C:Cxt P w K mg base X Q0 (A5 (top 41)) 1 true):DSs X E0k (B6 (top 41)) Db:=by
 have h:B6 (top 41)=[stm 41 0,stm 41 1,stm 41 2,stm 41 3]:=by kernel_rfl
 rw[h];exact(B0 (Om T qe C) (B0 (Ol T C) (B0 (Oj T C) (B8 (Oi T fg C)))))
def Yq:FnScope Dy ["_law_book_here","_law_signs_here"] (A5 (top 42)):=⟨rfl,rfl,rfl,by decide+kernel,rfl,by decide+kernel,by decide+kernel⟩
def Ud (T:Txt mg)(C:Cxt P w K mg base X Dy (A5 (top 42)) 0 true):DSs X E0k (B6 (top 42)) El:=
 (B0 (Es C 2 ⋯ (iK C ⋯ T.b_dict (M4 (P6 C [] [] ⋯ (K9 (A3 C 0 ⋯)) (λX' C'=>(Y3 (Ec C' (D7 (A3 C' 0 ⋯) A8) F9))) (λX' C'=>(K2 (A4 (D7 (A3 C' 0 ⋯) A8) (A4 (D7 (A3 C' 0 ⋯) A8) A9)))))))) (B8 (I9 (Tq (M4 (P6 C [2] ["_law_texts"] ⋯ (K9 (A3 C 1 ⋯)) (λX' C'=>Ch) (λX' C'=>(D7 (Kg C' 1 ⋯ (D7 (A3 C' 0 ⋯) A8)) (D7 (A3 C' 0 ⋯) A8)))))))))
def Vo:FnScope Q1 ["_law_order_here","_law_there_here","_law_anchor_here"] (A5 (top 43)):=⟨rfl,rfl,rfl,by decide+kernel,rfl,by decide+kernel,by decide+kernel⟩
def Op (T:Txt mg)(C:Cxt P w K mg base X Q1 (A5 (top 43)) 0 true):DS X E0k (stm 43 0) X1:=
 (Y7 (wL (D7 (A3 C 2 ⋯) A8)) (B8 (I9 (D7 (M4 (P5 (A4 A8 (A4 (Y2 C ⋯ T.b_len (A4 (A3 C 1 ⋯) A9)) A9)))) (Nl C ⋯ T.b_int (A4 (vT C (D7 (A3 C 2 ⋯) A8) F9) A9))))) L7)
def Oo (T:Txt mg)(C:Cxt P w K mg base X Q1 (A5 (top 43)) 0 true):DS X E0k (stm 43 1) X0:=
 (F5 C 3 ⋯ (D5 (dB C (A3 C 0 ⋯) (D7 (A3 C 2 ⋯) A8)) (Nl C ⋯ T.b_int (A4 (vT C (D7 (A3 C 2 ⋯) A8) F9) A9))))
def On (T:Txt mg)(C:Cxt P w K mg base X Q1 (A5 (top 43)) 0 true):DS X E0k (stm 43 2) W9:=
 (I9 (Y2 C ⋯ T.b_len (A4 (M4 (P6 C [1] ["_law_there_here"] ⋯ (K9 (Jj (A3 C 0 ⋯) Nb (Z0 (A3 C 3 ⋯)))) (λX' C'=>(Y3 (jZ C' (A3 C' 0 ⋯) (A3 C' 1 ⋯)))) (λX' C'=>(A3 C' 0 ⋯)))) A9)))
def Pv (T:Txt mg)(C:Cxt P w K mg base X Q1 (A5 (top 43)) 0 true):DSs X E0k (B6 (top 43)) Y6:=by
 have h:B6 (top 43)=[stm 43 0,stm 43 1,stm 43 2]:=by kernel_rfl
 rw[h];exact(B0 (Op T C) (B0 (Oo T C) (B8 (On T C))))
def Yr:FnScope Dz ["_law_book_here"] (A5 (top 44)):=⟨rfl,rfl,rfl,by decide+kernel,rfl,by decide+kernel,by decide+kernel⟩
def Ue (T:Txt mg)(qe:Fn P w K mg base "_law_effects" 1 1 N1)(C:Cxt P w K mg base X Dz (A5 (top 44)) 1 true):DSN X E0k (B6 (top 44)) Em:=
 (Af (F5 C 1 ⋯ (D3 C qe (by decide) ⋯ (A4 (A3 C 0 ⋯) A9))) (Af (Fx C 2 ⋯) (Af (O7 C 3 ⋯ (K9 (A3 C 0 ⋯)) (B8 (Y7 (w_t (Cg (jZ C (D7 (A3 C 3 ⋯) A8) (K2 (A4 F9 (A4 F9 A9)))) (X6 (jZ C (D7 (A3 C 3 ⋯) A8) (A3 C 1 ⋯))))) (B8 (Mt C 2 ⋯ (D7 (A3 C 3 ⋯) A8) (A3 C 3 ⋯))) L7))) (cB C 2 ⋯))))
def Vr:FnScope M9 ["_law_book_here"] (A5 (top 45)):=⟨rfl,rfl,rfl,by decide+kernel,rfl,by decide+kernel,by decide+kernel⟩
def Pc (T:Txt mg)(fg:Fn P w K mg base "_law_order" 1 1 J3)(C:Cxt P w K mg base X M9 (A5 (top 45)) 2 true):DS X E0k (stm 45 0) Hg:=
 (F5 C 1 ⋯ (D3 C fg (by decide) ⋯ (A4 (A3 C 0 ⋯) A9)))
def Pb (T:Txt mg)(ft:Fn P w K mg base "_law_there" 2 1 M3)(C:Cxt P w K mg base X M9 (A5 (top 45)) 2 true):DS X E0k (stm 45 1) Hf:=
 (F5 C 2 ⋯ (D3 C ft (by decide) ⋯ (A4 (A3 C 0 ⋯) A9)))
def Pa (T:Txt mg)(fu:FnN P w K mg base "_law_last" 2 1 O0)(C:Cxt P w K mg base X M9 (A5 (top 45)) 2 true):DS X E0k (stm 45 2) Bo:=
 (Es C 3 ⋯ (Nd C fu (by decide) ⋯ (A4 (A3 C 0 ⋯) A9)))
def Oz (T:Txt mg)(C:Cxt P w K mg base X M9 (A5 (top 45)) 2 true):DS X E0k (stm 45 3) He:=
 (Sj C 4 ⋯ (P5 A9))
def Oy (T:Txt mg)(fj:Fn P w K mg base "_law_place" 1 3 E1)(C:Cxt P w K mg base X M9 (A5 (top 45)) 2 true):DS X E0k (stm 45 4) Bn:=
 (O7 C 5 ⋯ (K9 (Ql C ⋯ T.b_sorted 3 ⋯)) (B8 (Y7 (Ec C (D7 (Kg C 3 ⋯ (A3 C 5 ⋯)) A8) F9) (B0 (F5 C 6 ⋯ (D3 C fj (by decide) ⋯ (A4 (A3 C 1 ⋯) (A4 (A3 C 2 ⋯) (A4 (D7 (Kg C 3 ⋯ (A3 C 5 ⋯)) A8) A9))))) (B8 (Nx C 4 ⋯ (K2 (A4 (A3 C 5 ⋯) (A4 (A3 C 6 ⋯) (A4 (xK C ⋯ T.b_max (A4 (A3 C 6 ⋯) (A4 (D3 C fj (by decide) ⋯ (A4 (A3 C 1 ⋯) (A4 (A3 C 2 ⋯) (A4 (D7 (Kg C 3 ⋯ (A3 C 5 ⋯)) A8) A9)))) A9))) A9))))))) L7)))
def Ox (T:Txt mg)(C:Cxt P w K mg base X M9 (A5 (top 45)) 2 true):DS X E0k (stm 45 5) Hb:=
 (fA 4 (I9 (A3 C 4 ⋯)))
def Py (T:Txt mg)(fu:FnN P w K mg base "_law_last" 2 1 O0)(fg:Fn P w K mg base "_law_order" 1 1 J3)(fj:Fn P w K mg base "_law_place" 1 3 E1)(ft:Fn P w K mg base "_law_there" 2 1 M3)(C:Cxt P w K mg base X M9 (A5 (top 45)) 2 true):DSs X E0k (B6 (top 45)) Df:=by
 have h:B6 (top 45)=[stm 45 0,stm 45 1,stm 45 2,stm 45 3,stm 45 4,stm 45 5]:=by kernel_rfl
 rw[h];exact(B0 (Pc T fg C) (B0 (Pb T ft C) (B0 (Pa T fu C) (B0 (Oz T C) (B0 (Oy T fj C) (B8 (Ox T C)))))))
def Bu:FnScope Ja ["_law_e"] (A5 (top 46)):=⟨rfl,rfl,rfl,by decide+kernel,rfl,by decide+kernel,by decide+kernel⟩
def Z3{P:o9}{w:x8}{K:i5}{mg:Str->Option g9}{base:BL}{X:Cx}{CN CM C0 C1 C2:i9}{i:Nat}{A1:BO}(XX:XSet4 K mg C0 C1 C2 CN CM i)(C:Cxt P w K mg base X Ja (A5 (top 46)) 0 true):PSs (offX X A1) (B6 (top 46)) (gU CN i):=aV (p9:=⟨0,0,0,0⟩) C A1 XX ⋯ ⋯ ⋯
def Yp:FnScope Iz ["_law_way","_law_book_here","_law_thing","_law_side"] (A5 (top 47)):=⟨rfl,rfl,rfl,by decide+kernel,rfl,by decide+kernel,by decide+kernel⟩
def Uc {CS CP CNm CM:i9}(hst:X.stack=X.env::X.outer/\X.env.frame=some X.env.locals)(hex:X.ex=[])(XS:XSet4 K mg CS CP CNm CS CM 0)(XP:XSet4 K mg CS CP CNm CP CM 1)(XN:XSet4 K mg CS CP CNm CNm CM 2)(T:Txt mg)(RS:FnE3 P w K mg base CS 0 "_law_refused" 1)(RP:FnE3 P w K mg base CP 1 "_law_refused" 1)(RN:FnE3 P w K mg base CNm 2 "_law_refused" 1)(jd:FnX P w K mg base CP "anchor_at" 6 3 N9)(je:FnX P w K mg base CNm "marked" 7 2 Ar)(jf:FnX P w K mg base CP "names_at" 7 2 V1)(jg:FnX P w K mg base CS "place_of" 6 2 X8)(C:Cxt P w K mg base X Iz (A5 (top 47)) 7 true):DSs X E0k (B6 (top 47)) Kb:=
 (B8 (yH C hst hex XS XP XN jg (by decide) jd (by decide) je (by decide) jf (by decide) RS RP RN (by decide) ⋯))
def Kl:FnScope N3 ["_law_text_here","_law_marks_here"] (A5 (top 48)):=⟨rfl,rfl,rfl,by decide+kernel,rfl,by decide+kernel,by decide+kernel⟩
def Hv (T:Txt mg)(C:Cxt P w K mg base X N3 (A5 (top 48)) 0 true):DS X E0k (stm 48 0) Ap:=
 (F5 C 2 ⋯ F9)
def Hu (T:Txt mg)(C:Cxt P w K mg base X N3 (A5 (top 48)) 0 true):DS X E0k (stm 48 1) U6:=
 (O7 C 3 ⋯ (Aw C ⋯ T.b_range (A4 (D5 (Y2 C ⋯ T.b_len (A4 (A3 C 0 ⋯) A9)) A8) A9)) (B0 (fB C 4 5 6 ⋯ ⋯ ⋯ (K9 (AT (A3 C 1 ⋯))) (B8 (F5 C 2 ⋯ (D5 (A3 C 2 ⋯) (Bz (D5 F9 (A3 C 4 ⋯)) (Nl C ⋯ T.b_int (A4 (dC C (A3 C 5 ⋯) (A3 C 3 ⋯) (A3 C 6 ⋯)) A9))))))) (B0 (fB C 4 5 6 ⋯ ⋯ ⋯ (K9 (A3 C 1 ⋯)) (B8 (F5 C 2 ⋯ (D5 (A3 C 2 ⋯) (Bz (D5 (A3 C 4 ⋯) F9) (Nl C ⋯ T.b_int (A4 (dE C (A3 C 5 ⋯) (A3 C 3 ⋯) (A3 C 6 ⋯)) A9))))))) (B0 (fB C 4 5 6 ⋯ ⋯ ⋯ (K9 (A3 C 1 ⋯)) (B8 (F5 C 2 ⋯ (D5 (A3 C 2 ⋯) (Bz (D5 (A3 C 4 ⋯) F9) (Nl C ⋯ T.b_int (A4 (dD C (A3 C 5 ⋯) (A3 C 3 ⋯) (A3 C 6 ⋯)) A9))))))) (B8 (F5 C 2 ⋯ (D5 (A3 C 2 ⋯) (Mf (A3 C 0 ⋯) (Z0 (A3 C 3 ⋯)) (Z0 (D5 (A3 C 3 ⋯) A8))))))))))
def Ht (T:Txt mg)(C:Cxt P w K mg base X N3 (A5 (top 48)) 0 true):DS X E0k (stm 48 2) Ao:=
 (I9 (A3 C 2 ⋯))
def Iu (T:Txt mg)(C:Cxt P w K mg base X N3 (A5 (top 48)) 0 true):DSs X E0k (B6 (top 48)) Bx:=by
 have h:B6 (top 48)=[stm 48 0,stm 48 1,stm 48 2]:=by kernel_rfl
 rw[h];exact(B0 (Hv T C) (B0 (Hu T C) (B8 (Ht T C))))
def Vs:FnScope T8 ["_law_book_here"] (A5 (top 49)):=⟨rfl,rfl,rfl,by decide+kernel,rfl,by decide+kernel,by decide+kernel⟩
def Pg (T:Txt mg)(fu:FnN P w K mg base "_law_last" 2 1 O0)(C:Cxt P w K mg base X T8 (A5 (top 49)) 2 true):DS X E0k (stm 49 0) Bq:=
 (Es C 1 ⋯ (Nd C fu (by decide) ⋯ (A4 (A3 C 0 ⋯) A9)))
def Pf (T:Txt mg)(C:Cxt P w K mg base X T8 (A5 (top 49)) 2 true):DS X E0k (stm 49 1) Hi:=
 (Sj C 2 ⋯ (P5 A9))
def Pe (T:Txt mg)(C:Cxt P w K mg base X T8 (A5 (top 49)) 2 true):DS X E0k (stm 49 2) Bp:=
 (O7 C 3 ⋯ (K9 F9) (B0 (Fw C 4 ⋯ ⋯ [1,3] ["_law_last_here","_law_hand"] ⋯ (K9 (Ql C ⋯ T.b_sorted 1 ⋯)) (λX' C'=>(Y3 (w_t (Cg (Ec C' (D7 (Kg C' 1 ⋯ (A3 C' 0 ⋯)) A8) F9) (X6 (Ec C' (D7 (D7 (Kg C' 1 ⋯ (A3 C' 0 ⋯)) A8) A8) (A3 C' 2 ⋯))))))) (λX' C'=>(A3 C' 0 ⋯))) (B8 (Y7 (Qu C (A3 C 4 ⋯) (M4 (P5 A9))) (B8 (Nx C 2 ⋯ (K2 (A4 (A3 C 3 ⋯) (A4 (A3 C 4 ⋯) A9))))) L7))))
def Pd (T:Txt mg)(C:Cxt P w K mg base X T8 (A5 (top 49)) 2 true):DS X E0k (stm 49 3) Hh:=
 (fA 2 (I9 (A3 C 2 ⋯)))
def Pz (T:Txt mg)(fu:FnN P w K mg base "_law_last" 2 1 O0)(C:Cxt P w K mg base X T8 (A5 (top 49)) 2 true):DSs X E0k (B6 (top 49)) Ia:=by
 have h:B6 (top 49)=[stm 49 0,stm 49 1,stm 49 2,stm 49 3]:=by kernel_rfl
 rw[h];exact(B0 (Pg T fu C) (B0 (Pf T C) (B0 (Pe T C) (B8 (Pd T C)))))
def yG:FnScope Ba ["_law_script"] (A5 (top 50)):=⟨rfl,rfl,rfl,by decide+kernel,rfl,by decide+kernel,by decide+kernel⟩
def nP (T:Txt mg)(qq:Fn P w K mg base "_law_names" 3 2 W1)(C:Cxt P w K mg base X Ba (A5 (top 50)) 8 true):DS X E0k (stm 50 0) aR:=
 (F5 C 1 ⋯ (D3 C qq (by decide) ⋯ (A4 (A3 C 0 ⋯) (A4 A8 A9))))
def nO (T:Txt mg)(qr:Fn P w K mg base "_law_book" 5 4 Av)(C:Cxt P w K mg base X Ba (A5 (top 50)) 8 true):DS X E0k (stm 50 1) aQ:=
 (F5 C 2 ⋯ (D3 C qr (by decide) ⋯ (A4 (A3 C 0 ⋯) (A4 A8 (A4 A8 (A4 (A3 C 1 ⋯) A9))))))
def nN (T:Txt mg)(fg:Fn P w K mg base "_law_order" 1 1 J3)(C:Cxt P w K mg base X Ba (A5 (top 50)) 8 true):DS X E0k (stm 50 2) aP:=
 (F5 C 3 ⋯ (D3 C fg (by decide) ⋯ (A4 (A3 C 2 ⋯) A9)))
def nM (T:Txt mg)(ft:Fn P w K mg base "_law_there" 2 1 M3)(C:Cxt P w K mg base X Ba (A5 (top 50)) 8 true):DS X E0k (stm 50 3) aO:=
 (F5 C 4 ⋯ (D3 C ft (by decide) ⋯ (A4 (A3 C 2 ⋯) A9)))
def nL (T:Txt mg)(qt:Fn P w K mg base "_law_marks" 3 1 P2)(C:Cxt P w K mg base X Ba (A5 (top 50)) 8 true):DS X E0k (stm 50 4) aN:=
 (F5 C 5 ⋯ (D3 C qt (by decide) ⋯ (A4 (A3 C 2 ⋯) A9)))
def nK (T:Txt mg)(qu:Fn P w K mg base "_law_text" 1 2 P1)(C:Cxt P w K mg base X Ba (A5 (top 50)) 8 true):DS X E0k (stm 50 5) aM:=
 (F5 C 6 ⋯ (D3 C qu (by decide) ⋯ (A4 (A3 C 2 ⋯) (A4 (A3 C 4 ⋯) A9))))
def nJ (T:Txt mg)(fj:Fn P w K mg base "_law_place" 1 3 E1)(FJ:Fn P w K mg base "_law_told" 8 4 C6)(C:Cxt P w K mg base X Ba (A5 (top 50)) 8 true):DS X E0k (stm 50 6) Qx:=
 (O7 C 7 ⋯ (K9 (D5 (A3 C 3 ⋯) (M4 (P5 (A4 Aj A9))))) (B8 (O7 C 12 ⋯ (K9 F9) (B8 (Y7 (Qu C (D3 C FJ (by decide) ⋯ (A4 A8 (A4 (A3 C 2 ⋯) (A4 (K2 (A4 (A3 C 7 ⋯) (A4 (A3 C 12 ⋯) A9))) (A4 Aj A9))))) (D3 C fj (by decide) ⋯ (A4 (A3 C 3 ⋯) (A4 (A3 C 4 ⋯) (A4 (K2 (A4 (A3 C 7 ⋯) (A4 (A3 C 12 ⋯) A9))) A9))))) (B8 (I9 Kx)) L7)))))
def nI (T:Txt mg)(FJ:Fn P w K mg base "_law_told" 8 4 C6)(C:Cxt P w K mg base X Ba (A5 (top 50)) 8 true):DS X E0k (stm 50 7) Qw:=
 (O7 C 8 ⋯ (Aw C ⋯ T.b_range (A4 (D5 (Y2 C ⋯ T.b_len (A4 (A3 C 6 ⋯) A9)) A8) A9)) (B0 (F5 C 13 ⋯ (M4 (P5 (A4 (K2 (A4 (D7 (D5 (M4 (P5 (A4 Aj A9))) (A3 C 4 ⋯)) (A3 C 8 ⋯)) (A4 F9 A9))) (A4 (K2 (A4 (D7 (D5 (A3 C 4 ⋯) (M4 (P5 (A4 Aj A9)))) (A3 C 8 ⋯)) (A4 F9 A9))) A9))))) (B0 (Y7 (Qu C (M4 (P5 (A4 (D3 C FJ (by decide) ⋯ (A4 A8 (A4 (A3 C 2 ⋯) (A4 (A3 C 8 ⋯) (A4 F9 A9))))) (A4 (D3 C FJ (by decide) ⋯ (A4 A8 (A4 (A3 C 2 ⋯) (A4 (A3 C 8 ⋯) (A4 F9 A9))))) A9)))) (A3 C 13 ⋯)) (B8 (I9 Kx)) L7) (B0 (eY C 11 ⋯ ⋯ [8] ["_law_place_here"] ⋯ (K9 (A3 C 5 ⋯)) (λX' C'=>(Y3 (Ho C' (A3 C' 1 ⋯) (A3 C' 3 ⋯) (A3 C' 2 ⋯)))) (λX' C'=>(A3 C' 0 ⋯))) (B8 (Y7 (Qu C (D3 C FJ (by decide) ⋯ (A4 A8 (A4 (A3 C 2 ⋯) (A4 (A3 C 8 ⋯) (A4 Aj A9))))) (Qm (eL C (A3 C 8 ⋯) (Y2 C ⋯ T.b_len (A4 (A3 C 6 ⋯) A9))) (A3 C 11 ⋯) (K2 (A4 F9 (A4 A8 A9))))) (B8 (I9 Kx)) L7))))))
def nH (T:Txt mg)(qv:Fn P w K mg base "_law_drawn_text" 1 2 P3)(qw:Fn P w K mg base "_law_hands" 3 1 W2)(qx:Fn P w K mg base "drawn" 7 1 Lz)(qy:Fn P w K mg base "hand_marks" 3 1 V8)(fe:Fn P w K mg base "marks_of" 6 1 L9)(C:Cxt P w K mg base X Ba (A5 (top 50)) 8 true):DS X E0k (stm 50 8) aL:=
 (Y7 (w_t (w_or (Qu C (D3 C fe (by decide) ⋯ (A4 (A3 C 2 ⋯) A9)) (A3 C 5 ⋯)) (w_or (Qu C (D3 C qx (by decide) ⋯ (A4 (A3 C 2 ⋯) A9)) (D3 C qv (by decide) ⋯ (A4 (A3 C 6 ⋯) (A4 (A3 C 5 ⋯) A9)))) (w_or1 (Qu C (D3 C qy (by decide) ⋯ (A4 (A3 C 2 ⋯) A9)) (D3 C qw (by decide) ⋯ (A4 (A3 C 2 ⋯) A9))))))) (B8 (I9 Kx)) L7)
def nG (T:Txt mg)(C:Cxt P w K mg base X Ba (A5 (top 50)) 8 true):DS X E0k (stm 50 9) Li:=
 (Es C 9 ⋯ (iK C ⋯ T.b_dict (M4 (vF C [6] ["_law_text_here"] ⋯ (K9 (A3 C 5 ⋯)) (λX' C'=>Ch) (λX' C'=>(K2 (A4 (A3 C' 0 ⋯) (A4 (Mf (A3 C' 3 ⋯) (Z0 (A3 C' 1 ⋯)) (Z0 (A3 C' 2 ⋯))) A9))))))))
def kG (T:Txt mg)(FJ:Fn P w K mg base "_law_told" 8 4 C6)(C:Cxt P w K mg base X Ba (A5 (top 50)) 8 true):DS X E0k (stm 50 10) Mm:=
 (O7 C 10 ⋯ (K9 (D5 (A3 C 1 ⋯) (M4 (P5 (A4 F9 A9))))) (B8 (Y7 (Qu C (D3 C FJ (by decide) ⋯ (A4 A8 (A4 (A3 C 2 ⋯) (A4 (A3 C 10 ⋯) (A4 Aj A9))))) (gB C 9 ⋯ (A3 C 10 ⋯) (K2 (A4 F9 (A4 A8 A9))))) (B8 (I9 Kx)) L7)))
def kF (T:Txt mg)(FJ:Fn P w K mg base "_law_told" 8 4 C6)(C:Cxt P w K mg base X Ba (A5 (top 50)) 8 true):DS X E0k (stm 50 11) Wo:=
 (F5 C 11 ⋯ (M4 (P5 (A4 (D3 C FJ (by decide) ⋯ (A4 A8 (A4 (A3 C 2 ⋯) (A4 (K2 (A4 (K2 (A4 (K2 (A4 A8 (A4 F9 A9))) (A4 A8 A9))) (A4 F9 A9))) (A4 Aj A9))))) (A4 (D3 C FJ (by decide) ⋯ (A4 A8 (A4 (A3 C 2 ⋯) (A4 (jA A8) (A4 F9 A9))))) A9)))))
def kE (T:Txt mg)(FJ:Fn P w K mg base "_law_told" 8 4 C6)(C:Cxt P w K mg base X Ba (A5 (top 50)) 8 true):DS X E0k (stm 50 12) Wn:=
 (F5 C 11 ⋯ (D5 (A3 C 11 ⋯) (M4 (P5 (A4 (D3 C FJ (by decide) ⋯ (A4 A8 (A4 (A3 C 2 ⋯) (A4 (D5 (Y2 C ⋯ T.b_len (A4 (A3 C 6 ⋯) A9)) A8) (A4 F9 A9))))) (A4 (D3 C FJ (by decide) ⋯ (A4 A8 (A4 (A3 C 2 ⋯) (A4 (jA A8) (A4 Aj A9))))) A9))))))
def kD (T:Txt mg)(C:Cxt P w K mg base X Ba (A5 (top 50)) 8 true):DS X E0k (stm 50 13) Wm:=
 (I9 (vT C (A3 C 11 ⋯) (M4 (P6 C [] [] ⋯ (K9 (M4 (P5 (A4 A8 (A4 A8 (A4 A8 (A4 A8 A9))))))) (λX' C'=>Ch) (λX' C'=>(K2 (A4 F9 (A4 (A3 C' 0 ⋯) A9))))))))
def rN (T:Txt mg)(qr:Fn P w K mg base "_law_book" 5 4 Av)(qv:Fn P w K mg base "_law_drawn_text" 1 2 P3)(qw:Fn P w K mg base "_law_hands" 3 1 W2)(qt:Fn P w K mg base "_law_marks" 3 1 P2)(qq:Fn P w K mg base "_law_names" 3 2 W1)(fg:Fn P w K mg base "_law_order" 1 1 J3)(fj:Fn P w K mg base "_law_place" 1 3 E1)(qu:Fn P w K mg base "_law_text" 1 2 P1)(ft:Fn P w K mg base "_law_there" 2 1 M3)(FJ:Fn P w K mg base "_law_told" 8 4 C6)(qx:Fn P w K mg base "drawn" 7 1 Lz)(qy:Fn P w K mg base "hand_marks" 3 1 V8)(fe:Fn P w K mg base "marks_of" 6 1 L9)(C:Cxt P w K mg base X Ba (A5 (top 50)) 8 true):DSs X E0k (B6 (top 50)) hJ:=by
 have h:B6 (top 50)=[stm 50 0,stm 50 1,stm 50 2,stm 50 3,stm 50 4,stm 50 5,stm 50 6,stm 50 7,stm 50 8,stm 50 9,stm 50 10,stm 50 11,stm 50 12,stm 50 13]:=by kernel_rfl
 rw[h];exact(B0 (nP T qq C) (B0 (nO T qr C) (B0 (nN T fg C) (B0 (nM T ft C) (B0 (nL T qt C) (B0 (nK T qu C) (B0 (nJ T fj FJ C) (B0 (nI T FJ C) (B0 (nH T qv qw qx qy fe C) (B0 (nG T C) (B0 (kG T FJ C) (B0 (kF T FJ C) (B0 (kE T FJ C) (B8 (kD T C)))))))))))))))
end Sm
end
section
namespace Sm
open PySem PySem.Spec PyProof.Rows L2
def Tp{K:i5}{mg:Str->Option g9}{h:BL}{x:Str}{st:GC}{ps:List Str}{f:i9}{oc:g9}{od an:Option i9}{osl:Array (Option g9)}{kV doc pm cdv ct:g9}(X:K.In h)(G:h.Ns DD mg)(a:JD K DD x=some (some (.ref f)))
 (l:K.lookup f=some ⟨oc,od,.func (CF x x (P7 st) (B6 st) (A5 st) .none kV doc pm an cdv ct),osl⟩) (c:FD K cdv x=true) (k:BR K (.ref f)=true)
 (hb:∀(kV doc pm:g9) (an:Option i9) (cdv ct:g9) (us:List g9),us.length=ps.length->LK (CF x x (P7 st) (B6 st) (A5 st) .none kV doc pm an cdv ct) ⟨us,[]⟩=pure (ps.zip us)):Def K mg x st ps:=
 ⟨f,_,qQ l c k,PySem.W.mg_of X G a,(qQ l c k).binds hb⟩
def fn_Dt{P:o9}{w:x8}{K:i5}{mg:Str->Option g9}{base:BL}{N:List Str}{k:Nat}{x:Str}{st:GC}{ps:List Str}{n:Nat}{go:Dn->Out}{m:List f8->Res f8}(F:Def K mg x st ps)(S:FnScope N ps (A5 st))(hn:ps.length=n)
 (body:∀X,Cxt P w K mg base X N (A5 st) k true->(X.stack=X.env::X.outer/\X.env.frame=some X.env.locals)->X.ex=[]->DSs X E0k (B6 st) go) (hm:m=fnD N go):Fn P w K mg base x (k+1) n m:=by
 obtain⟨f,fd,F,hmg,hb⟩:=F.ex;refine⟨f,fd,ps,hn,?_,hmg,F.kp,hb⟩;subst hm;refine F.ok S (λvs H Q E h=>?_) (λcdv A outer s H vs Q E hr h=>?_)
 .obtain⟨G,ds,d,_,r,hl,_⟩:=h
  rw[<-r.length,hl,hn]
 .obtain⟨G,ds,d,hG,r,hl,em,q⟩:=h
  refine⟨_,body _ ⟨rfl,rfl,rfl,rfl,rfl,rfl,rfl,rfl,hr,λ_ _=>rfl,GS⟩ ⟨rfl,rfl⟩ rfl G H,G,_,Lj hG r N,?_⟩;unfold fnD at em;cases eg:go (O3 N ds) with
  |rt d'=>rw[eg]at em;cases em;exact λv G' H' g r'=>q v G' H' g r'
  |nx δ=>rw[eg]at em;cases em;exact λσ G' H' S'=>q _ G' H' S'.gr rfl
  |bk _=>rw[eg]at em;cases em
  |ct _=>rw[eg]at em;cases em
  |exc _=>rw[eg]at em;cases em
  |no=>rw[eg]at em;cases em
theorem cH:∀{l:List (i9×Obj)} {a:i9} {o:Obj},l.lookup a=some o->(a,o)∈l
 |[],_,_,h=>nomatch h
 | (b,q)::r,a,o,h=>by
   rw[List.lookup_cons]at h;cases e:a==b with
   |true=>rw[e]at h;cases h;rw[GY e];exact .head _
   |false=>rw[e]at h;exact .tail _ (cH h)
noncomputable def noList(K:i5):Bool:=K.all λp=>!(match p.2.cls with |.type n=>n== "list" |_=>false)
def noList.out{K:i5}(h:noList K=true){a:i9}{o:Obj}(e:K.lookup a=some o):o.cls≠.type "list":=λz=>by
 have hm:(a,o)∈K:=cH e;unfold noList at h;have:=EZ.mp h _ hm;rw[z]at this;simp at this
def T1{us:List g9}{n:Nat}(h:us.length=n+1):∃a t,us=a::t/\t.length=n:=by cases us with |nil=>cases h |cons a t=>exact⟨a,t,rfl,Nat.succ.inj h⟩
def vP{K:i5}{mg:Str->Option g9}{h:BL}{x:Str}{st:GC}{ps:List Str}{f:i9}{oc:g9}{od an:Option i9}{osl:Array (Option g9)}{kV doc pm cdv ct:g9}(X:K.In h)(G:h.Ns DD mg)(a:JD K DD x=some (some (.ref f)))
 (l:K.lookup f=some ⟨oc,od,.func (CF x x (P7 st) (B6 st) (A5 st) .none kV doc pm an cdv ct),osl⟩) (c:FD K cdv x=true) (k:BR K (.ref f)=true)
 (hb:∀(kV doc pm:g9) (an:Option i9) (cdv ct:g9) (u0:g9),LK (CF x x (P7 st) (B6 st) (A5 st) .none kV doc pm an cdv ct) ⟨[u0],[]⟩=pure (ps.zip [u0])) (hp:ps.length=1):Def K mg x st ps:=
 Tp X G a l c k λkV doc pm an cdv ct us hl=>by
  have h0:=hl.trans hp;obtain⟨u0,t0,rfl,h1⟩:=T1 h0;cases CO.mp h1;exact hb kV doc pm an cdv ct u0
def vO{K:i5}{mg:Str->Option g9}{h:BL}{x:Str}{st:GC}{ps:List Str}{f:i9}{oc:g9}{od an:Option i9}{osl:Array (Option g9)}{kV doc pm cdv ct:g9}(X:K.In h)(G:h.Ns DD mg)(a:JD K DD x=some (some (.ref f)))
 (l:K.lookup f=some ⟨oc,od,.func (CF x x (P7 st) (B6 st) (A5 st) .none kV doc pm an cdv ct),osl⟩) (c:FD K cdv x=true) (k:BR K (.ref f)=true)
 (hb:∀(kV doc pm:g9) (an:Option i9) (cdv ct:g9) (u0 u1:g9),LK (CF x x (P7 st) (B6 st) (A5 st) .none kV doc pm an cdv ct) ⟨[u0,u1],[]⟩=pure (ps.zip [u0,u1])) (hp:ps.length=2):Def K mg x st ps:=
 Tp X G a l c k λkV doc pm an cdv ct us hl=>by
  have h0:=hl.trans hp;obtain⟨u0,t0,rfl,h1⟩:=T1 h0;obtain⟨u1,t1,rfl,h2⟩:=T1 h1;cases CO.mp h2;exact hb kV doc pm an cdv ct u0 u1
def vN{K:i5}{mg:Str->Option g9}{h:BL}{x:Str}{st:GC}{ps:List Str}{f:i9}{oc:g9}{od an:Option i9}{osl:Array (Option g9)}{kV doc pm cdv ct:g9}(X:K.In h)(G:h.Ns DD mg)(a:JD K DD x=some (some (.ref f)))
 (l:K.lookup f=some ⟨oc,od,.func (CF x x (P7 st) (B6 st) (A5 st) .none kV doc pm an cdv ct),osl⟩) (c:FD K cdv x=true) (k:BR K (.ref f)=true)
 (hb:∀(kV doc pm:g9) (an:Option i9) (cdv ct:g9) (u0 u1 u2:g9),LK (CF x x (P7 st) (B6 st) (A5 st) .none kV doc pm an cdv ct) ⟨[u0,u1,u2],[]⟩=pure (ps.zip [u0,u1,u2])) (hp:ps.length=3):Def K mg x st ps:=
 Tp X G a l c k λkV doc pm an cdv ct us hl=>by
  have h0:=hl.trans hp;obtain⟨u0,t0,rfl,h1⟩:=T1 h0;obtain⟨u1,t1,rfl,h2⟩:=T1 h1;obtain⟨u2,t2,rfl,h3⟩:=T1 h2;cases CO.mp h3;exact hb kV doc pm an cdv ct u0 u1 u2
def vL{K:i5}{mg:Str->Option g9}{h:BL}{x:Str}{st:GC}{ps:List Str}{f:i9}{oc:g9}{od an:Option i9}{osl:Array (Option g9)}{kV doc pm cdv ct:g9}(X:K.In h)(G:h.Ns DD mg)(a:JD K DD x=some (some (.ref f)))
 (l:K.lookup f=some ⟨oc,od,.func (CF x x (P7 st) (B6 st) (A5 st) .none kV doc pm an cdv ct),osl⟩) (c:FD K cdv x=true) (k:BR K (.ref f)=true)
 (hb:∀(kV doc pm:g9) (an:Option i9) (cdv ct:g9) (u0 u1 u2 u3:g9),LK (CF x x (P7 st) (B6 st) (A5 st) .none kV doc pm an cdv ct) ⟨[u0,u1,u2,u3],[]⟩=pure (ps.zip [u0,u1,u2,u3])) (hp:ps.length=4):Def K mg x st ps:=
 Tp X G a l c k λkV doc pm an cdv ct us hl=>by
  have h0:=hl.trans hp;obtain⟨u0,t0,rfl,h1⟩:=T1 h0;obtain⟨u1,t1,rfl,h2⟩:=T1 h1;obtain⟨u2,t2,rfl,h3⟩:=T1 h2;obtain⟨u3,t3,rfl,h4⟩:=T1 h3;cases CO.mp h4;exact hb kV doc pm an cdv ct u0 u1 u2 u3
def vK{K:i5}{mg:Str->Option g9}{h:BL}{x:Str}{st:GC}{ps:List Str}{f:i9}{oc:g9}{od an:Option i9}{osl:Array (Option g9)}{kV doc pm cdv ct:g9}(X:K.In h)(G:h.Ns DD mg)(a:JD K DD x=some (some (.ref f)))
 (l:K.lookup f=some ⟨oc,od,.func (CF x x (P7 st) (B6 st) (A5 st) .none kV doc pm an cdv ct),osl⟩) (c:FD K cdv x=true) (k:BR K (.ref f)=true)
 (hb:∀(kV doc pm:g9) (an:Option i9) (cdv ct:g9) (u0 u1 u2 u3 u4:g9),LK (CF x x (P7 st) (B6 st) (A5 st) .none kV doc pm an cdv ct) ⟨[u0,u1,u2,u3,u4],[]⟩=pure (ps.zip [u0,u1,u2,u3,u4])) (hp:ps.length=5):Def K mg x st ps:=
 Tp X G a l c k λkV doc pm an cdv ct us hl=>by
  have h0:=hl.trans hp;obtain⟨u0,t0,rfl,h1⟩:=T1 h0;obtain⟨u1,t1,rfl,h2⟩:=T1 h1;obtain⟨u2,t2,rfl,h3⟩:=T1 h2;obtain⟨u3,t3,rfl,h4⟩:=T1 h3;obtain⟨u4,t4,rfl,h5⟩:=T1 h4;cases CO.mp h5;exact hb kV doc pm an cdv ct u0 u1 u2 u3 u4
def Defs(K:i5)(mg:Str->Option g9):Prop:=
 Def K mg "law" (top 50) ["_law_script"] /\
 Def K mg "signs_added" (top 2) ["deed"] /\
 Def K mg "adds_behind" (top 9) ["book"] /\
 Def K mg "signs_of" (top 10) ["book"] /\
 Def K mg "undone_in" (top 11) ["book"] /\
 Def K mg "dropped_in" (top 12) ["book","undone"] /\
 Def K mg "presence_in" (top 13) ["book"] /\
 Def K mg "shown_in" (top 14) ["book"] /\
 Def K mg "text_of" (top 15) ["book"] /\
 Def K mg "places_in" (top 17) ["book"] /\
 Def K mg "anchored" (top 18) ["places","anchor"] /\
 Def K mg "place_of" (top 19) ["book","anchor"] /\
 Def K mg "anchor_at" (top 20) ["book","place","side"] /\
 Def K mg "mark_deeds" (top 21) ["book"] /\
 Def K mg "marks_of" (top 22) ["book"] /\
 Def K mg "mark_named" (top 23) ["marks","name"] /\
 Def K mg "marked" (top 24) ["book","name"] /\
 Def K mg "names_holding" (top 25) ["marks","begin","end"] /\
 Def K mg "names_at" (top 26) ["book","place"] /\
 Def K mg "drawn_at" (top 27) ["marks","place"] /\
 Def K mg "drawn" (top 28) ["book"] /\
 Def K mg "hand_marks" (top 29) ["book"] /\
 Def K mg "_law_cell" (top 31) ["_law_script","_law_k"] /\
 Def K mg "_law_drawn" (top 32) ["_law_script","_law_k","_law_many"] /\
 Def K mg "_law_names" (top 33) ["_law_script","_law_at"] /\
 Def K mg "_law_words" (top 34) ["_law_script","_law_at"] /\
 Def K mg "_law_signs" (top 35) ["_law_book_here"] /\
 Def K mg "_law_anchor" (top 36) ["_law_script","_law_at","_law_signs_here"] /\
 Def K mg "_law_deed" (top 37) ["_law_script","_law_at","_law_one","_law_known","_law_names_here"] /\
 Def K mg "_law_book" (top 38) ["_law_script","_law_at","_law_most","_law_names_here"] /\
 Def K mg "_law_order" (top 39) ["_law_book_here"] /\
 Def K mg "_law_effects" (top 40) ["_law_book_here"] /\
 Def K mg "_law_there" (top 41) ["_law_book_here"] /\
 Def K mg "_law_text" (top 42) ["_law_book_here","_law_signs_here"] /\
 Def K mg "_law_place" (top 43) ["_law_order_here","_law_there_here","_law_anchor_here"] /\
 Def K mg "_law_last" (top 44) ["_law_book_here"] /\
 Def K mg "_law_marks" (top 45) ["_law_book_here"] /\
 Def K mg "_law_refused" (top 46) ["_law_e"] /\
 Def K mg "_law_told" (top 47) ["_law_way","_law_book_here","_law_thing","_law_side"] /\
 Def K mg "_law_drawn_text" (top 48) ["_law_text_here","_law_marks_here"] /\
 Def K mg "_law_hands" (top 49) ["_law_book_here"]
section
variable {P:o9}{w:x8}{K:i5}{mg:Str->Option g9}{base:BL}
def zX{f:i9}{fd:IB}(F:L2.Fun K "law" "law" (top 50) f fd)(T:Txt mg)(D:Defs K mg){CS CP CNm CM:i9}(OS:ExcAt K mg "NoSign" CS)(OP:ExcAt K mg "NoPlace" CP)(ON:ExcAt K mg "NoName" CNm)(XS:XSet4 K mg CS CP CNm CS CM 0)(XP:XSet4 K mg CS CP CNm CP CM 1)(XN:XSet4 K mg CS CP CNm CNm CM 2):FnOk P w K mg base CX0 9 f fd ["_law_script"] (spD 1 iO):=by
 have D_law:=D.1;have R1:=D.2;have D_signs_added:=R1.1;have R2:=R1.2;have D_adds_behind:=R2.1;have R3:=R2.2;have D_signs_of:=R3.1;have R4:=R3.2;have D_undone_in:=R4.1;have R5:=R4.2;have D_dropped_in:=R5.1;have R6:=R5.2;have D_presence_in:=R6.1;have R7:=R6.2;have D_shown_in:=R7.1;have R8:=R7.2;have D_text_of:=R8.1;have R9:=R8.2;have D_places_in:=R9.1;have R10:=R9.2;have D_anchored:=R10.1;have R11:=R10.2;have D_place_of:=R11.1;have R12:=R11.2;have D_anchor_at:=R12.1;have R13:=R12.2;have D_mark_deeds:=R13.1;have R14:=R13.2;have D_marks_of:=R14.1;have R15:=R14.2;have D_mark_named:=R15.1;have R16:=R15.2
 have D_marked:=R16.1;have R17:=R16.2;have D_names_holding:=R17.1;have R18:=R17.2;have D_names_at:=R18.1;have R19:=R18.2;have D_drawn_at:=R19.1;have R20:=R19.2;have D_drawn:=R20.1;have R21:=R20.2;have D_hand_marks:=R21.1;have R22:=R21.2;have D__law_cell:=R22.1;have R23:=R22.2;have D__law_drawn:=R23.1;have R24:=R23.2;have D__law_names:=R24.1;have R25:=R24.2;have D__law_words:=R25.1;have R26:=R25.2;have D__law_signs:=R26.1;have R27:=R26.2;have D__law_anchor:=R27.1;have R28:=R27.2;have D__law_deed:=R28.1;have R29:=R28.2;have D__law_book:=R29.1;have R30:=R29.2;have D__law_order:=R30.1;have R31:=R30.2
 have D__law_effects:=R31.1;have R32:=R31.2;have D__law_there:=R32.1;have R33:=R32.2;have D__law_text:=R33.1;have R34:=R33.2;have D__law_place:=R34.1;have R35:=R34.2;have D__law_last:=R35.1;have R36:=R35.2;have D__law_marks:=R36.1;have R37:=R36.2;have D__law_refused:=R37.1;have R38:=R37.2;have D__law_told:=R38.1;have R39:=R38.2;have D__law_drawn_text:=R39.1;have R40:=R39.2;have D__law_hands:=R40;have qz:Fn P w K mg base "signs_added" 1 1 L6:=Ai (k:=0) D_signs_added Se rfl (λX C=>Nq T  C) rfl;have qh:FnN P w K mg base "adds_behind" 2 1 U2:=vD (k:=1) D_adds_behind Sg rfl (λX C=>Nt T qz C) rfl
 have qk:Fn P w K mg base "signs_of" 3 1 Ag:=Ai (k:=2) D_signs_of bA rfl (λX C=>Wa T qh C) rfl;have fq:FnN P w K mg base "undone_in" 1 1 N7:=vD (k:=0) D_undone_in Ym rfl (λX C=>Tz T  C) rfl;have qj:FnSN P w K mg base "dropped_in" 1 2 P0:=fn_SN (k:=0) D_dropped_in Vk rfl (λX C=>Pp T  C) rfl;have qf:Fn P w K mg base "presence_in" 4 1 N8:=Ai (k:=3) D_presence_in Sf rfl (λX C=>Nr T qj qk fq C) rfl;have fc:Fn P w K mg base "shown_in" 5 1 L8:=Ai (k:=4) D_shown_in bB rfl (λX C=>Wb T qf C) rfl;have fi:Fn P w K mg base "text_of" 6 1 Q7:=Ai (k:=5) D_text_of eV rfl (λX C=>aF T fc C) rfl
 have fy:FnN P w K mg base "places_in" 5 1 O9:=vD (k:=4) D_places_in Yn rfl (λX C=>Ua T qf C) rfl;have fw:FnS P w K mg base "anchored" 1 2 M1:=fn_S (k:=0) D_anchored bG rfl (λX C=>Wh T  C) rfl;have jg:FnX P w K mg base CS "place_of" 6 2 X8:=cQ (k:=5) D_place_of bC rfl (λX E C L hex=>Wc OS L hex T fw fy C) rfl;have jd:FnX P w K mg base CP "anchor_at" 6 3 N9:=cQ (k:=5) D_anchor_at Yo rfl (λX E C L hex=>Ub OP L hex T fc C) rfl;have qd:Fn P w K mg base "mark_deeds" 2 1 M0:=Ai (k:=1) D_mark_deeds Vi rfl (λX C=>Pn T fq C) rfl
 have fe:Fn P w K mg base "marks_of" 6 1 L9:=Ai (k:=5) D_marks_of bE rfl (λX C=>We T fw qd fy C) rfl;have ja:FnX P w K mg base CNm "mark_named" 1 2 Z2:=cQ (k:=0) D_mark_named Vh rfl (λX E C L hex=>Pm ON L hex T  C) rfl;have je:FnX P w K mg base CNm "marked" 7 2 Ar:=cQ (k:=6) D_marked kJ rfl (λX E C L hex=>dU ON L hex T ja fe fi C) rfl;have jb:Fn P w K mg base "names_holding" 1 3 X5:=Ai (k:=0) D_names_holding Ms rfl (λX C=>La T  C) rfl;have jf:FnX P w K mg base CP "names_at" 7 2 V1:=cQ (k:=6) D_names_at bD rfl (λX E C L hex=>Wd OP L hex T fe jb fi C) rfl
 have ql:Fn P w K mg base "drawn_at" 1 2 Ah:=Ai (k:=0) D_drawn_at bF rfl (λX C=>Wg T  C) rfl;have qx:Fn P w K mg base "drawn" 7 1 Lz:=Ai (k:=6) D_drawn nS rfl (λX C=>gN T ql fe fi C) rfl;have qy:Fn P w K mg base "hand_marks" 3 1 V8:=Ai (k:=2) D_hand_marks Vj rfl (λX C=>Po T qd C) rfl;have jc:Fn P w K mg base "_law_cell" 1 2 Au:=Ai (k:=0) D__law_cell Yt rfl (λX C=>Ug T  C) rfl;have FI:Fn P w K mg base "_law_drawn" 2 3 B5:=Ai (k:=1) D__law_drawn Vt rfl (λX C=>Qa T jc C) rfl;have qq:Fn P w K mg base "_law_names" 3 2 W1:=Ai (k:=2) D__law_names Vq rfl (λX C=>Px T FI C) rfl
 have qo:Fn P w K mg base "_law_words" 3 2 V9:=Ai (k:=2) D__law_words Vl rfl (λX C=>Ps T FI C) rfl;have qm:Fn P w K mg base "_law_signs" 1 1 W0:=Ai (k:=0) D__law_signs Vn rfl (λX C=>Pu T  C) rfl;have qg:Fn P w K mg base "_law_anchor" 3 3 Q2:=Ai (k:=2) D__law_anchor Sh rfl (λX C=>Nu T FI C) rfl;have qp:Fn P w K mg base "_law_deed" 4 5 Q9:=Ai (k:=3) D__law_deed Ys rfl (λX C=>Uf T qg FI qm qo C) rfl;have qr:Fn P w K mg base "_law_book" 5 4 Av:=Ai (k:=4) D__law_book Yu rfl (λX C=>Uh T qp FI C) rfl
 have fg:Fn P w K mg base "_law_order" 1 1 J3:=Ai (k:=0) D__law_order Vp rfl (λX C=>Pw T  C) rfl;have qe:Fn P w K mg base "_law_effects" 1 1 N1:=Ai (k:=0) D__law_effects Ph rfl (λX C=>Mh T  C) rfl;have ft:Fn P w K mg base "_law_there" 2 1 M3:=Ai (k:=1) D__law_there Vm rfl (λX C=>Pt T qe fg C) rfl;have qu:Fn P w K mg base "_law_text" 1 2 P1:=Ai (k:=0) D__law_text Yq rfl (λX C=>Ud T  C) rfl;have fj:Fn P w K mg base "_law_place" 1 3 E1:=Ai (k:=0) D__law_place Vo rfl (λX C=>Pv T  C) rfl;have fu:FnN P w K mg base "_law_last" 2 1 O0:=vD (k:=1) D__law_last Yr rfl (λX C=>Ue T qe C) rfl
 have qt:Fn P w K mg base "_law_marks" 3 1 P2:=Ai (k:=2) D__law_marks Vr rfl (λX C=>Py T fu fg fj ft C) rfl;have RS:FnE3 P w K mg base CS 0 "_law_refused" 1:=qS (k:=0) D__law_refused Bu rfl rfl (λX A1 C=>Z3 XS C);have RP:FnE3 P w K mg base CP 1 "_law_refused" 1:=qS (k:=0) D__law_refused Bu rfl rfl (λX A1 C=>Z3 XP C);have RN:FnE3 P w K mg base CNm 2 "_law_refused" 1:=qS (k:=0) D__law_refused Bu rfl rfl (λX A1 C=>Z3 XN C);have FJ:Fn P w K mg base "_law_told" 8 4 C6:=fn_Dt (k:=7) D__law_told Yp rfl (λX C hst hex=>Uc hst hex XS XP XN T RS RP RN jd je jf jg C) rfl
 have qv:Fn P w K mg base "_law_drawn_text" 1 2 P3:=Ai (k:=0) D__law_drawn_text Kl rfl (λX C=>Iu T  C) rfl;have qw:Fn P w K mg base "_law_hands" 3 1 W2:=Ai (k:=2) D__law_hands Vs rfl (λX C=>Pz T fu C) rfl;exact qR (k:=8) F yG rfl (λX C=>rN T qr qv qw qt qq fg fj qu ft FJ qx qy fe C) rfl
end
end Sm
open PySem PySem.W PyProof.Rows
def Sm.walkD{l:PySem.W.OpenLaw}{q:o9}{loose:List Str}{XP:(Str->Option g9)->BL->Prop}{YP:x8->BL->Prop}{d:DefRec}{K:LW->i5}(hn:l.most=some 63)(hdf:d.params.defaults=[])(hnm:d.name="law")
 (hY:∀(w:x8) (h:BL),YP w h->(K w.params).In h) (hK:∀w:x8,Sm.noList (K w.params)=true)
 (F:∀(w:x8) (mg:Str->Option g9) (h:BL),(K w.params).In h->h.Ns DD mg->Sm.Txt mg/\Sm.Defs (K w.params) mg/\∃CS CP CNm CM,Sm.ExcAt (K w.params) mg "NoSign" CS/\Sm.ExcAt (K w.params) mg "NoPlace" CP/\Sm.ExcAt (K w.params) mg "NoName" CNm/\Sm.XSet4 (K w.params) mg CS CP CNm CS CM 0/\Sm.XSet4 (K w.params) mg CS CP CNm CP CM 1/\Sm.XSet4 (K w.params) mg CS CP CNm CNm CM 2)
 (pure:∀ns:List Int,ns.length<=63->Sm.iO [.list (ns.map DZ)]=.ok (.bool true)):
 PySem.W.WalkO q loose XP YP l.row.toRowW d [] (λf vs=>PySem.call f vs):=by
 refine L2.rW (n:=63) (k:=9) (x:="_law_script") (CX:=λ_=>L2.CX0) (sp:=λ_=>Sm.spD 1 Sm.iO) hn (by decide) hdf ⟨rfl,by decide,by decide,rfl⟩ hY (λw mg fa h KX G hmg=>?_) (λw H a ns hl hO hS=>?_) λ_ _ _ _ _ z=>z
 .obtain⟨T,D,CS,CP,CNm,CM,OS,OP,ON,XS,XP,XN⟩:=F w mg h KX G
  obtain⟨f0,fd0,F0,hm0,hb0⟩:=D.1.ex;rw[hnm,hm0]at hmg;cases hmg;refine⟨fd0,λs u=>?_,λbase kb nb=>?_⟩
  .obtain⟨oc,od,kV,doc,pm,an,cdv,ct,osl,rfl,lk,hcd⟩:=F0.ex
   exact .of_eq rfl
  .exact Sm.zX F0 T D OS OP ON XS XP XN
 .rcases hS with hS |⟨o,its,nn,hk,hc,_⟩
  .refine⟨H,[.list (ns.map DZ)],.bool true,L2.Same.refl _,Sm.RepL.cons ⟨a,_,rfl,hS,Sm.RepL.ints ns⟩ rfl,rfl,pure ns hl,λv G' H' g r=>r⟩
  .exact absurd hc (Sm.noList.out (hK w) hk)
end
section
open PySem
namespace Sm
open L2
def Out.seq(o:Out)(g:Dn->Out):Out:=match o with
 |.nx δ=>g δ
 |o=>o
noncomputable def Out.fin(o:Out):Res f8:=match o with
 |.rt d=>.ok d
 |.nx _=>.ok .none
 |.exc c=>.exc c
 |_=>.no
noncomputable def wP(s:Option Sl):Res f8:=match s with
 |some (.sh d)=>.ok d
 |_=>.no
def B9{α β:Type}(a:α)(k:α->Res β):(Res.ok a).bind k=k a:=rfl
def pL{α:Type}(a:α):ofO (some a)=.ok a:=rfl
def D2{α:Type}(a:α)(k:α->Out):K1 (.ok a) k=k a:=rfl
def Ln(g1 g2:Dn->Out)(δ:Dn):C5 g1 g2 δ=(g1 δ).seq g2:=by unfold C5 Out.seq;cases g1 δ <;> rfl
def eU(δ:Dn)(g:Dn->Out):(Out.nx δ).seq g=g δ:=rfl
def yF(d:f8)(g:Dn->Out):(Out.rt d).seq g=.rt d:=rfl
def Tj(N:List Str)(g:Dn->Out)(ds:List f8):fnD N g ds=(g (O3 N ds)).fin:=by unfold fnD Out.fin;cases g (O3 N ds) <;> rfl
def AN(d:f8):(Out.rt d).fin=.ok d:=rfl
def Fk(i:Nat)(δ:Dn):A0 i δ=wP δ[i]?:=rfl
def Hw(d:f8):wP (some (.sh d))=.ok d:=rfl
def yK(c:Dn->Res Bool)(g1 g2:Dn->Out)(δ:Dn):sIf c g1 g2 δ=K1 (c δ) λb=>if b=true then g1 δ else g2 δ:=rfl
def jY(b:Bool):Qs (.bool b)=some b:=rfl
local macro_rules
 | `(tactic| simp_arith) => `(tactic| simp_arith [B9])
 | `(tactic| simp_arith [$ls,*]) => `(tactic| simp only [$ls,*,Tj,O3,Ln,eU,yF,AN,yK,C3,b2,b1,Fk,Hw,K8,E5,A7,A2,vC,B9,pL,D2,L5,E4,F8,vFn,C9,O5,M7,Du,vSl,Gs,M5,jY,
 k6,EE,l7,BM,u6,DC,BK,u8,GP,OH,t9,u5,FZ,FY,FC,reduceIte])
def I8{src:Dn->Res (List f8)}{bnd:f8->Res (List Sl)}{cap:List Nat}{tt:Dn->Res Bool}{el:Dn->Res f8}{δ δc:Dn}{ds ys:List f8}(h:src δ=.ok ds)(hl:ds.length<=1000)(hc:Ev δ cap=δc)(e:E2 bnd δc tt el ds=.ok ys):G6 src bnd cap tt el δ=.ok ys:=by
 unfold G6;rw[h,B9,iq (l9 hl (by decide)),hc,e]
def B3{f g:Dn->Res f8}{op:f8->f8->Option f8}{δ:Dn}{x y d:f8}(h1:f δ=.ok x)(h2:g δ=.ok y)(h3:op x y=some d):b2 f g op δ=.ok d:=by
 unfold b2;rw[h1,B9,h2,B9,h3];rfl
def N6{f:Dn->Res (List f8)}{δ:Dn}{ds:List f8}(h:f δ=.ok ds):K8 f δ=.ok (.list ds):=by unfold K8;rw[h];rfl
def D4{i:Nat}{f:Dn->Res f8}{δ:Dn}{d:f8}(h:f δ=.ok d):E4 i f δ=.nx (δ.set i (.sh d)):=by unfold E4;rw[h];rfl
def W5{c:Dn->Res Bool}{g1 g2:Dn->Out}{δ:Dn}(h:c δ=.ok true):sIf c g1 g2 δ=g1 δ:=by unfold sIf;rw[h];rfl
def Q4{c:Dn->Res Bool}{g1 g2:Dn->Out}{δ:Dn}(h:c δ=.ok false):sIf c g1 g2 δ=g2 δ:=by unfold sIf;rw[h];rfl
def B4{g1 g2:Dn->Out}{δ δ':Dn}(h:g1 δ=.nx δ'):C5 g1 g2 δ=g2 δ':=by unfold C5;rw[h]
def Fy{g1 g2:Dn->Out}{δ:Dn}{d:f8}(h:g1 δ=.rt d):C5 g1 g2 δ=.rt d:=by unfold C5;rw[h]
def L3{f:Dn->Res f8}{δ:Dn}{d:f8}(h:f δ=.ok d):L5 f δ=.rt d:=by unfold L5;rw[h];rfl
def N2{N:List Str}{g:Dn->Out}{ds:List f8}{d:f8}(h:g (O3 N ds)=.rt d):fnD N g ds=.ok d:=by rw[Tj,h];rfl
def A6{f:Dn->Res f8}{fs:Dn->Res (List f8)}{δ:Dn}{d:f8}{ds:List f8}(h:f δ=.ok d)(h2:fs δ=.ok ds):A2 f fs δ=.ok (d::ds):=by unfold A2;rw[h,B9,h2];rfl
def D1{fs:Dn->Res (List f8)}{m:List f8->Res f8}{δ:Dn}{ds:List f8}{r:Res f8}(h:fs δ=.ok ds)(h2:m ds=r):C9 fs m δ=r:=by unfold C9;rw[h,B9,h2]
def T0{f:Dn->Res (List f8)}{δ:Dn}{ds:List f8}(h:f δ=.ok ds):E5 f δ=.ok (.tuple ds):=by unfold E5;rw[h];rfl
def N4{f:Dn->Res (List f8)}{op:List f8->Option f8}{δ:Dn}{ds:List f8}{d:f8}(h:f δ=.ok ds)(h2:op ds=some d):vFn f op δ=.ok d:=by unfold vFn;rw[h,B9,h2];rfl
def C4{f:Dn->Res f8}{δ:Dn}{b:Bool}(h:f δ=.ok (.bool b)):C3 f δ=.ok b:=by unfold C3;rw[h];rfl
noncomputable abbrev scr(ns:List Int):f8:=.list (ns.map .int)
def uZ{n j:Nat}(h:j<n):ixN n (j:Int)=some j:=by
 unfold ixN;rw[iq (by lia)];simp[h]
def P8{α:Type}{xs:List α}{j:Nat}(h:j<xs.length):atI xs (j:Int)=some xs[j]:=by
 unfold atI;rw[uZ h];simp
def Qn{α:Type}{xs:List α}{i:Int}(h0:0<=i)(h:i<xs.length):∃x∈xs,atI xs i=some x:=by
 obtain⟨j,rfl⟩:=Int.eq_ofNat_of_zero_le h0;have hj:j<xs.length:=by lia
 exact⟨xs[j],List.getElem_mem _,P8 hj⟩
def vG(ns:List Int):l6 (scr ns) (.list [])=ns.isEmpty:=by
 cases ns with
 |nil=>rfl
 |cons n ns=>rfl
def jC(ns:List Int):dEq (scr ns) (.list [])=some (.bool ns.isEmpty):=by
 unfold dEq;rw[iq (l9 (DX _ _) (by decide)),vG]
def cC{a b:Int}(h:(-(2 ^ 64)<a/\a<2 ^ 64)\/(-(2 ^ 64)<b/\b<2 ^ 64)):O6 (.int a) (.int b)=some (.int (a*b)):=by
 show(if _ then _ else _)=_;rw[iq h]
def mul7{b:Int}:O6 (.int 7) (.int b)=some (.int (7*b)):=cC (.inl ⟨by decide,by decide⟩)
def uF{b:Int}:O6 (.int 6553) (.int b)=some (.int (6553*b)):=cC (.inl ⟨by decide,by decide⟩)
def kX{b:Int}:O6 (.int 104723) (.int b)=some (.int (104723*b)):=cC (.inl ⟨by decide,by decide⟩)
def pQ{b:Int}:O6 (.int b) (.int 69069)=some (.int (b*69069)):=cC (.inr ⟨by decide,by decide⟩)
def mul2{b:Int}:O6 (.int 2) (.int b)=some (.int (2*b)):=cC (.inl ⟨by decide,by decide⟩)
def pR{b:Int}:O6 (.int 60) (.int b)=some (.int (60*b)):=cC (.inl ⟨by decide,by decide⟩)
def pU{a b:Int}(h:0<b):Vy (.int a) (.int b)=some (.int (a%b)):=by
 show(if _ then _ else _)=_;rw[iq h]
def vJ{a b:Int}(h:0<b)(h2:b<1073741824):Ob (.int a) (.int b)=some (.int (a/b)):=by
 show(if _ then _ else _)=_;rw[iq ⟨h,h2⟩]
def W4{a b:Int}:C7 (.int a) (.int b)=some (.int (a+b)):=rfl
def wB(ns:List Int)(hns:ns.length<=63)(k:Int):∃c,Au [scr ns,.int k]=.ok (.int c):=by
 unfold Au Ep Ea;cases hn:ns with
 |nil=>
  refine⟨7*k,?_⟩;simp_arith [jC,List.isEmpty_nil,mul7]
 |cons n r=>
  have e1:=jC (n::r);have hl:(0:Int)<((n::r).length:Int):=by simp
  have hl2:((n::r).length:Int)<=63:=by rw[<-hn];lia
  obtain⟨x,hx,e2⟩:=Qn (xs:=(n::r).map DZ) (i:=k%((n::r).length:Int)) (LI _ (by lia)) (by rw[i7];exact JX _ hl);obtain⟨c,_,rfl⟩:=t8.mp hx;refine⟨c+6553*(k/((n::r).length:Int)),?_⟩;have e3:Q3 [scr (n::r)]=some (.int ((n::r).length:Int)):=by simp[Q3,scr]
  have e4:dIx (scr (n::r)) (.int (k%((n::r).length:Int)))=some (.int c):=e2;generalize hS:scr (n::r)=S at *;generalize hL:((n::r).length:Int)=m at *;simp_arith [e1,List.isEmpty_cons,e3,pU hl,vJ hl (show m<1073741824 by lia),uF,e4,W4]
def O4(ns:List Int)(hns:ns.length<=63)(k m:Int)(hm:0<m):∃r,B5 [scr ns,.int k,.int m]=.ok (.int r)/\0<=r/\r<m:=by
 obtain⟨c,hc⟩:=wB ns hns k;unfold B5 Dg Cf;generalize scr ns=S at *;simp_arith [hc,pU (show(0:Int)<2147483563 by decide),W4,pQ,kX];generalize hA:(c%2147483563*69069+104723*(k+1))%2147483563=A;have a0:0<=A:=by rw[<-hA];exact LI _ (by decide)
 have a1:A<2147483563:=by rw[<-hA];exact JX _ (by decide)
 simp_arith [cC (a:=A) (b:=A) (.inl ⟨Int.lt_of_lt_of_le (by decide) a0,Int.lt_trans a1 (by decide)⟩),vJ (show(0:Int)<3 by decide) (by decide),W4,pU (show(0:Int)<2147483399 by decide)]
 generalize hB:(A*A+A/3)%2147483399=B;have b0:0<=B:=by rw[<-hB];exact LI _ (by decide)
 have b1:B<2147483399:=by rw[<-hB];exact JX _ (by decide)
 simp_arith [cC (a:=B) (b:=B) (.inl ⟨Int.lt_of_lt_of_le (by decide) b0,Int.lt_trans b1 (by decide)⟩),vJ (show(0:Int)<7 by decide) (by decide),W4,pU (show(0:Int)<2147483647 by decide),vJ (show(0:Int)<11 by decide) (by decide),pU hm]
 exact⟨_,rfl,LI _ (by lia),JX _ hm⟩
def qJ{x:Str}{i:Int}(h0:0<=i)(h:i<(x.cps.toList.length:Int)):∃c∈x.cps.toList,dIx (.str x) (.int i)=some (.str ⟨#[c]⟩):=by
 obtain⟨c,hc,e⟩:=Qn (xs:=x.cps.toList) h0 h;exact⟨c,hc,by show(atI x.cps.toList i).map _=_;rw[e];rfl⟩
def lH(c:Nat):(⟨#[c]⟩:Str).length=1:=rfl
def Lh:(1000:Nat)<=sizeLine:=by decide
def addS{x y:Str}(h:x.length+y.length<=1000):C7 (.str x) (.str y)=some (.str (x++y)):=by
 show(if _ then _ else _)=_;rw[iq (l9 h Lh)]
def Ld{x y:List f8}(h:x.length+y.length<=1000):C7 (.list x) (.list y)=some (.list (x++y)):=by
 show(if _ then _ else _)=_;rw[iq (l9 h Lh)]
def addT{x y:List f8}(h:x.length+y.length<=1000):C7 (.tuple x) (.tuple y)=some (.tuple (x++y)):=by
 show(if _ then _ else _)=_;rw[iq (l9 h Lh)]
def strLen_append(x y:Str):(x++y).length=x.length+y.length:=by
 show(x.cps++y.cps).size=_;rw[Array.size_append];rfl
noncomputable def chOk(lo hi:Nat)(x:Str):Prop:=∀c∈x.cps.toList,lo<=c/\c<=hi
def chOk.app{lo hi:Nat}{x y:Str}(hx:chOk lo hi x)(hy:chOk lo hi y):chOk lo hi (x++y):=λc hc=>by
 have:c∈(x.cps++y.cps).toList:=hc;rw[Array.toList_append]at this;exact(m6.mp this).elim (hx c) (hy c)
def chOk.one{lo hi c:Nat}(h:lo<=c/\c<=hi):chOk lo hi ⟨#[c]⟩:=λd hd=>by
 have:d=c:=by simpa using hd
 rw[this];exact h
def chOk.nil{lo hi:Nat}:chOk lo hi "":=λc hc=>by
 rw[show("" : Str).cps.toList=[] from rfl]at hc;exact nomatch hc
def mulS{c:Nat}{n:Int}(h0:0<=n)(h:n<2):∃y:Str,O6 (.str ⟨#[c]⟩) (.int n)=some (.str y)/\y.length<=1/\∀d∈y.cps.toList,d=c:=by
 have:n=0\/n=1:=by lia
 rcases this with rfl |rfl
 .refine⟨O2 0 ⟨#[c]⟩,rfl,(show(0:Nat)<=1 by decide),λd hd=>?_⟩
  simp[O2]at hd
 .refine⟨O2 1 ⟨#[c]⟩,rfl,by unfold O2;simp;exact s0 _,λd hd=>?_⟩
  simpa[O2] using hd
def U5(x:Str):Prop:=1<=x.length/\x.length<=6/\chOk 97 122 x
def Uo(x:Str):Prop:=1<=x.length/\x.length<=4/\chOk 32 126 x
def ixL{xs:List f8}{i:Int}(h0:0<=i)(h:i<(xs.length:Int)):∃x∈xs,dIx (.list xs) (.int i)=some x:=Qn h0 h
def Kq(ns:List Int)(hns:ns.length<=63)(a k:Int)(hk:0<=k)(hk2:k<3)(fd:List f8)(hf:fd.length<1000)(s4:Sl):∃z w:Str,U5 z /\
 (C5 (E4 4 (b2 (b2 (vC (.str "abcdefghijklmnopqrstuvwxyz")) (C9 (A2 (A0 0) (A2 (b2 (A0 1) (b2 (vC (.int 2)) (A0 3) O6) C7) (A2 (vC (.int 26)) A7))) B5) dIx) (C9 (A2 (A0 0) (A2 (b2 (b2 (A0 1) (b2 (vC (.int 2)) (A0 3) O6) C7) (vC (.int 1)) C7) (A2 (vC (.int 2)) A7))) B5) O6)) (Dj 2 (b2 (K8 (A2 (b2 (A0 4) (b2 (vC (.str "xyz")) (A0 3) dIx) C7) (A2 (b2 (b2 (vC (.str "xyz")) (A0 3) dIx) (A0 4) C7) A7))) (C9 (A2 (A0 0) (A2 (b2 (A0 1) (vC (.int 6)) C7) (A2 (vC (.int 2)) A7))) B5) dIx)))
  [.sh (scr ns),.sh (.int a),.ow (.list fd),.sh (.int k),s4]=.nx [.sh (scr ns),.sh (.int a),.ow (.list (fd++[.str z])),.sh (.int k),.sh (.str w)]:=by
 obtain⟨r1,e1,a1,b1⟩:=O4 ns hns (a+2*k) 26 (by decide);obtain⟨r2,e2,a2,b2'⟩:=O4 ns hns (a+2*k+1) 2 (by decide);obtain⟨r3,e3,a3,b3⟩:=O4 ns hns (a+6) 2 (by decide);obtain⟨c1,hc1,f1⟩:=qJ (x:="abcdefghijklmnopqrstuvwxyz") a1 (by rw[show("abcdefghijklmnopqrstuvwxyz" : Str).cps.toList.length=26 from by decide];exact b1);obtain⟨y,f2,l2,hy⟩:=mulS (c:=c1) a2 b2';obtain⟨c2,hc2,f3⟩:=qJ (x:="xyz") hk (by rw[show("xyz" : Str).cps.toList.length=3 from by decide];exact hk2);have g1:C7 (.str y) (.str ⟨#[c2]⟩)=_:=addS (x:=y) (y:=⟨#[c2]⟩) (by rw[lH];lia);have g2:C7 (.str ⟨#[c2]⟩) (.str y)=_:=addS (x:=⟨#[c2]⟩) (y:=y) (by rw[lH];lia)
 obtain⟨x,hx,f4⟩:=ixL (xs:=[.str (y++⟨#[c2]⟩),.str (⟨#[c2]⟩++y)]) a3 b3;have o1:chOk 97 122 y:=λd hd=>by
  rw[hy d hd];exact(by decide:∀c∈("abcdefghijklmnopqrstuvwxyz" : Str).cps.toList,97<=c/\c<=122) c1 hc1
 have o2:chOk 97 122 ⟨#[c2]⟩:=.one ((by decide:∀c∈("xyz" : Str).cps.toList,97<=c/\c<=122) c2 hc2);have:∃z,x=.str z/\U5 z:=by
  rcases j9.mp hx with h |h
  .exact⟨_,h,by rw[strLen_append,lH];lia,by rw[strLen_append,lH];lia,o1.app o2⟩
  .exact⟨_,m9.mp h,by rw[strLen_append,lH];lia,by rw[strLen_append,lH];lia,o2.app o1⟩
 obtain⟨z,rfl,hz⟩:=this;refine⟨z,y,hz,?_⟩;have szB:fd.length<sizeLine:=y9 hf Lh;simp_arith [mul2,W4,e1,e2,e3,f1,f2,f3,g1,g2,f4,Dj,szB]
def pN(ns:List Int)(hns:ns.length<=63)(a:Int):∃x y z:Str,(U5 x/\U5 y/\U5 z)/\W1 [scr ns,.int a]=.ok (.list [.str x,.str y,.str z]):=by
 obtain⟨x,w1,hx,e1⟩:=Kq ns hns a 0 (by decide) (by decide) [] (by simp) .un;obtain⟨y,w2,hy,e2⟩:=Kq ns hns a 1 (by decide) (by decide) [.str x] (by simp) (.sh (.str w1));obtain⟨z,w3,hz,e3⟩:=Kq ns hns a 2 (by decide) (by decide) [.str x,.str y] (by simp) (.sh (.str w2));refine⟨x,y,z,⟨hx,hy,hz⟩,?_⟩;unfold W1 De Bm Bl Bj T7;have r:Dh [.int 3]=.ok [.int 0,.int 1,.int 2]:=rfl;simp only[Tj,O3,Ln (Lo _ _),Lo,A7,D2,eU,k6,EE,l7,BM,u6,DC,BK,t9,u5,Ln (K7 _ _ _),K7,A2,vC,B9,r,E9,st1,FZ,FY]
 rw[e1];simp only[BK,t9,u5];rw[e2];simp only[DC,BK,t9,u5];rw[e3];rfl
theorem dL{bnd:f8->Res (List Sl)}{δc:Dn}{el:Dn->Res f8}{P:f8->Prop}:∀(ds:List f8),(∀d∈ds,∃sl y,bnd d=.ok sl/\el (sl++δc)=.ok y/\P y)->∃ys:List f8,E2 bnd δc M5 el ds=.ok ys/\ys.length=ds.length/\∀y∈ys,P y
 |[],_=>⟨[],rfl,rfl,λ_ h=>nomatch h⟩
 |d::ds,h=>by
  obtain⟨sl,y,e1,e2,p⟩:=h d (.head _);obtain⟨ys,e3,e4,e5⟩:=dL ds λd' h'=>h d' (.tail _ h');refine⟨y::ys,?_,by simp[e4],λz hz=>?_⟩
  .unfold E2
   rw[e1];simp only[M5,e2,e3]
  .rcases j9.mp hz with rfl |hz
   .exact p
   .exact e5 z hz
theorem gW{P:Str->Prop}:∀(ys:List f8),(∀y∈ys,∃x,y=.str x/\P x)->∃xs:List Str,Ei ys=some xs/\xs.length=ys.length/\∀x∈xs,P x
 |[],_=>⟨[],rfl,rfl,λ_ h=>nomatch h⟩
 |y::ys,h=>by
  obtain⟨x,rfl,p⟩:=h y (.head _);obtain⟨xs,e1,e2,e3⟩:=gW ys λd' h'=>h d' (.tail _ h');exact⟨x::xs,by show(Ei ys).map _=_;rw[e1];rfl,by simp[e2],λz hz=>by
   rcases j9.mp hz with rfl |hz
   .exact p
   .exact e3 z hz⟩
theorem Nh:∀(xs:List Str),(∀x∈xs,x.length=1/\z0 x=true/\chOk 32 126 x)->(EH "" xs).length=xs.length/\z0 (EH "" xs)=true/\chOk 32 126 (EH "" xs)
 |[],_=>⟨rfl,by decide+kernel,chOk.nil⟩
 |[x],h=>⟨(h x (.head _)).1,(h x (.head _)).2.1,(h x (.head _)).2.2⟩
 |x::y::r,h=>by
  obtain⟨l,o,q⟩:=Nh (y::r) λz hz=>h z (.tail _ hz);obtain⟨l1,o1,q1⟩:=h x (.head _);show(x++""++EH "" (y::r)).length=_/\z0 (x++""++EH "" (y::r))=true/\chOk 32 126 (x++""++EH "" (y::r));refine⟨?_,Fq (Fq o1 (by decide+kernel)) o,(q1.app chOk.nil).app q⟩;rw[strLen_append,strLen_append];have:(("" : Str)).length=0:=rfl;simp only[l7]at l ⊢;lia
theorem Rb:∀(xs:List Str),(∀x∈xs,x.length=1/\z0 x=true/\chOk 32 126 x)->(xs.map (·.length)).sum=xs.length
 |[],_=>rfl
 |x::r,h=>by
  simp only[k6,List.sum_cons,l7,(h x (.head _)).1,Rb r λz hz=>h z (.tail _ hz)];lia
def nZ{n:Int}(h0:0<=n)(h:n<1000):Dh [.int n]=.ok (Ae 0 n):=by
 show(if _ then _ else _)=_;rw[iq (by lia)]
def Yi{fs:Dn->Res (List f8)}{δ:Dn}{n:Int}(h:fs δ=.ok [.int n])(h0:0<=n)(h1:n<1000):(λδ=>(fs δ).bind Dh) δ=.ok (Ae 0 n):=by
 show(fs δ).bind Dh=_;rw[h,B9,nZ h0 h1]
def E3{f:Dn->Res f8}{δ:Dn}{d:f8}{ds:List f8}(h:f δ=.ok d)(h2:D8 d=.ok ds):(λδ=>(f δ).bind D8) δ=.ok ds:=by
 show(f δ).bind D8=_;rw[h,B9,h2]
def mQ(ns:List Int)(hns:ns.length<=63)(a:Int):∃x:Str,V9 [scr ns,.int a]=.ok (.str x)/\Uo x:=by
 obtain⟨r1,e1,a1,b1⟩:=O4 ns hns (a+4) 4 (by decide);unfold V9 Da Cd;have hr:Dh [.int (1+r1)]=.ok (Ae 0 (1+r1)):=nZ (by lia) (by lia);have hlen:(Ae 0 (1+r1)).length<=4/\1<=(Ae 0 (1+r1)).length:=by unfold Ae;simp;lia
 have hall:∀d∈Ae 0 (1+r1),∃sl y,F7 d=.ok sl/\(b2 (vC (.str "ab cd~ <")) (C9 (A2 (A0 1) (A2 (b2 (A0 2) (A0 0) C7) (A2 (vC (.int 8)) A7))) B5) dIx) (sl++[.sh (scr ns),.sh (.int a)])=.ok y/\∃x:Str,y=.str x/\x.length=1/\z0 x=true/\chOk 32 126 x:=λd hd=>by
  unfold Ae at hd;obtain⟨i,hi,rfl⟩:=t8.mp hd;have hi':i<4:=by have:=EL.mp hi;lia
  obtain⟨r2,e2,a2,b2'⟩:=O4 ns hns (a+(0+(i:Int))) 8 (by decide);obtain⟨c,hc,f⟩:=qJ (x:="ab cd~ <") a2 (by have:("ab cd~ <" : Str).cps.toList.length=8:=(by decide);rw[this];exact b2');refine⟨[.sh (.int (0+(i:Int)))],.str ⟨#[c]⟩,rfl,?_,⟨#[c]⟩,rfl,rfl,?_,.one ((by decide:∀c∈("ab cd~ <" : Str).cps.toList,32<=c/\c<=126) c hc)⟩
  .simp_arith [W4,e2,f]
  .have:∀c∈("ab cd~ <" : Str).cps.toList,c<0x110000:=by decide
   unfold z0;simp[this c hc]
 obtain⟨ys,g1,g2,g3⟩:=dL (Ae 0 (1+r1)) hall;obtain⟨xs,g4,g5,g6⟩:=gW ys g3;obtain⟨l1,o1,q1⟩:=Nh xs g6;have s1:=Rb xs g6;refine⟨EH "" xs,?_,by lia,by lia,q1⟩;have hj:Tt "" (.list ys)=some (.str (EH "" xs)):=by
  show(Ei ys).bind _=_;rw[g4];show(if _ then _ else _)=_;have:(("" : Str)).length=0:=rfl;rw[iq ⟨by rw[s1,this];lia,o1,l9 (show _<=1000 by lia) Lh⟩]
 have hz:(Ae 0 (1+r1)).length<=sizeLine:=l9 (show _<=1000 by lia) Lh;simp_arith [W4,e1,hr,G6,hz,Ev,Option.getD_some,g1,hj]
noncomputable abbrev idD(t:Int)(h:Str):f8:=.tuple [.int t,.str h]
noncomputable abbrev IdP:=Int×Str
abbrev idP(p:IdP):f8:=idD p.1 p.2
abbrev sgD(p:IdP)(n:Int):f8:=.tuple [idP p,.int n]
noncomputable def hj(h:Str):Nat:=if h="a" then 0 else if h="b" then 1 else 2
def key(p:IdP):Int:=3*p.1+hj p.2
noncomputable def okH(h:Str):Prop:=h="a" \/ h="b" \/ h="c"
def okI(p:IdP):Prop:=1<=p.1/\p.1<=11/\okH p.2
def cO(h:Str):hj h<=2:=by unfold hj;split <;> (try split) <;> lia
def SgOf(T:Int)(ds:List f8)(x:f8):Prop:=∃(p:IdP) (b:f8) (w:Str) (n:Nat),EX [.str "add",idP p,b,.str w]∈ds/\x=sgD p n/\n<w.length/\p.1<T/\okI p
def SgOf.mono{T:Int}{ds ds':List f8}{x:f8}(h:SgOf T ds x)(k:∀d∈ds,d∈ds'):SgOf T ds' x:=by
 obtain⟨p,b,w,n,e,r⟩:=h;exact⟨p,b,w,n,k _ e,r⟩
def sgR(a b:f8):Prop:=∃(p q:IdP) (n m:Int),a=sgD p n/\b=sgD q m/\okH p.2/\okH q.2/\(key p<key q\/(p=q/\n<m))
noncomputable def OrN(S:f8->Prop)(d:f8):Prop:=d=.none\/S d
noncomputable def cE(x:Str):Prop:=x="l" \/ x="r"
def Wf(p:IdP)(S:f8->Prop)(U:IdP->Prop)(d:f8):Prop:=okI p /\
 ((∃b w,d=.tuple [.str "add",idP p,b,.str w]/\OrN S b/\Uo w) \/
  (∃sg,d=.tuple [.str "drop",idP p,.tuple sg]/\(∀x∈sg,S x)/\sg.length<=60/\sg≠[]/\sg.Pairwise sgR) \/
  (∃n s1 x1 s2 x2,d=.tuple [.str "mark",idP p,.str n,.tuple [s1,.str x1],.tuple [s2,.str x2]]/\OrN S s1/\OrN S s2/\U5 n/\cE x1/\cE x2) \/
  (∃n,d=.tuple [.str "unmark",idP p,.str n]/\U5 n) \/
  (∃q,d=.tuple [.str "undo",idP p,idP q]/\U q))
def OrN.mono{S S':f8->Prop}{d:f8}(h:OrN S d)(k:∀x,S x->S' x):OrN S' d:=h.elim .inl λz=>.inr (k _ z)
theorem Wf.mono{p:IdP}{S S':f8->Prop}{U U':IdP->Prop}{d:f8}(h:Wf p S U d)(k2:∀x,S x->S' x)(k3:∀q,U q->U' q):Wf p S' U' d:=by
 obtain⟨o,r⟩:=h;refine⟨o,?_⟩;rcases r with⟨b,w,e,hb,hw⟩ |⟨sg,e,hs,hl⟩ |⟨n,s1,x1,s2,x2,e,h1,h2,h3⟩ |⟨n,e⟩ |⟨i,e,hi⟩
 .exact .inl ⟨b,w,e,hb.mono k2,hw⟩
 .exact .inr (.inl ⟨sg,e,λx hx=>k2 x (hs x hx),hl⟩)
 .exact .inr (.inr (.inl ⟨n,s1,x1,s2,x2,e,h1.mono k2,h2.mono k2,h3⟩))
 .exact .inr (.inr (.inr (.inl ⟨n,e⟩)))
 .exact .inr (.inr (.inr (.inr ⟨i,e,k3 _ hi⟩)))
def W6(x y:Str):dEq (.str x) (.str y)=some (.bool (x==y)):=by
 unfold dEq;rw[iq (l9 (LF _ _) (by simp[CW]))];rfl
def jQ:(("add" : Str)==("add" : Str))=true:=by decide+kernel
def Xs:Dn->Out:=(sIf (C3 (b2 (b2 (A0 2) (vC (.int 0)) dIx) (vC (.str "add")) dEq)) (E4 1 (b2 (A0 1) (K8 (G6 (λδ=>((A2 (vFn (A2 (b2 (A0 2) (vC (.int 3)) dIx) A7) Q3) A7) δ).bind Dh) F7 [2] M5 (E5 (A2 (b2 (A0 1) (vC (.int 1)) dIx) (A2 (A0 0) A7))))) C7)) F8)
theorem Iq{α:Type}{δc:Dn}{el:Dn->Res f8}(g f:α->f8)(h:∀y:α,el ([.sh (g y)]++δc)=.ok (f y)):∀ys:List α,E2 F7 δc M5 el (ys.map g)=.ok (ys.map f)
 |[]=>rfl
 |y::ys=>by
  rw[k6,k6];unfold E2;simp only[F7,M5,h y,Iq g f h ys]
def eS{p:IdP}{S:f8->Prop}{U:IdP->Prop}{T:Int}{d:f8}(hd:Wf p S U d)(hT:p.1<T)(B:f8)(fd:List f8)(hf:fd.length<=100):∃more:List f8,more.length<=4/\(∀x∈more,SgOf T [d] x)/\(∀x∈more,∃n,x=sgD p n)/\more.Pairwise sgR /\
 Xs [.sh B,.sh (.list fd),.sh d]=.nx [.sh B,.sh (.list (fd++more)),.sh d]:=by
 obtain⟨o,r⟩:=hd;have ix0:∀(x:f8) (xs:List f8),dIx (.tuple (x::xs)) (.int 0)=some x:=λx xs=>P8 (xs:=x::xs) (j:=0) (by simp);have ix1:∀(x y:f8) (xs:List f8),dIx (.tuple (x::y::xs)) (.int 1)=some y:=λx y xs=>P8 (xs:=x::y::xs) (j:=1) (by simp);have ix3:∀(x y z u:f8),dIx (.tuple [x,y,z,u]) (.int 3)=some u:=λx y z u=>P8 (xs:=[x,y,z,u]) (j:=3) (by simp);have no:∀d,(C3 (b2 (b2 (A0 2) (vC (.int 0)) dIx) (vC (.str "add")) dEq)) [.sh B,.sh (.list fd),.sh d]=.ok false->∃more:List f8,more.length<=4/\(∀x∈more,SgOf T [d] x)/\(∀x∈more,∃n,x=sgD p n)/\more.Pairwise sgR/\Xs [.sh B,.sh (.list fd),.sh d]=.nx [.sh B,.sh (.list (fd++more)),.sh d]:=λd e=>by
  refine⟨[],by simp,(λ_ h=>nomatch h),(λ_ h=>nomatch h),.nil,?_⟩;unfold Xs;rw[Q4 e,u8];rfl
 rcases r with⟨b,w,rfl,hb,hw⟩ |⟨sg,rfl,_⟩ |⟨n,s1,x1,s2,x2,rfl,_⟩ |⟨n,rfl,_⟩ |⟨i,rfl,_⟩
 .have er:Ae 0 (w.length:Int)=(CK w.length).map λi:Nat=>DZ (0+(i:Int)):=by unfold Ae;simp
  have g1:=Iq (δc:=[.sh (.tuple [.str "add",idP p,b,.str w])]) (el:=E5 (A2 (b2 (A0 1) (vC (.int 1)) dIx) (A2 (A0 0) A7))) (λi:Nat=>DZ (0+(i:Int))) (λi=>sgD p (0+(i:Int))) (λi=>by simp_arith [ix1]) (CK w.length);have hl:=hw.2.1;refine⟨(CK w.length).map λi:Nat=>sgD p (0+(i:Int)),by simp;exact hl,λx hx=>?_,λx hx=>?_,?_,?_⟩
  .obtain⟨i,hi,rfl⟩:=t8.mp hx
   exact⟨p,b,w,i,.head _,by rw[Int.zero_add],EL.mp hi,hT,o⟩
  .obtain⟨i,hi,rfl⟩:=t8.mp hx
   exact⟨_,rfl⟩
  .rw[IL]
   exact(List.pairwise_lt_range).imp λ{a b} h=>⟨p,p,_,_,rfl,rfl,o.2.2,o.2.2,.inr ⟨rfl,by lia⟩⟩
  .have ha:C7 (.list fd) (.list ((CK w.length).map λi:Nat=>sgD p (0+(i:Int))))=_:=Ld (by simp;lia)
   have e1:Q3 [.str w]=some (.int (w.length:Int)):=rfl;unfold Xs;rw[W5 (by simp_arith [ix0,W6,jQ])];refine D4 (B3 rfl (N6 (I8 (ds:=Ae 0 (w.length:Int)) (Yi (by simp_arith [ix3,e1]) (by lia) (by lia)) (by rw[er];simp;lia) rfl (by rw[er];exact g1))) ha)
 .exact no _ (by simp_arith [ix0,W6,show(("drop" : Str)==("add" : Str))=false from by decide+kernel])
 .exact no _ (by simp_arith [ix0,W6,show(("mark" : Str)==("add" : Str))=false from by decide+kernel])
 .exact no _ (by simp_arith [ix0,W6,show(("unmark" : Str)==("add" : Str))=false from by decide+kernel])
 .exact no _ (by simp_arith [ix0,W6,show(("undo" : Str)==("add" : Str))=false from by decide+kernel])
abbrev Dp:=f8×IdP
theorem Sa{S:IdP->f8->Prop}{U:IdP->IdP->Prop}{T:Int}(D:List f8)(B:f8):∀(ds:List Dp),(∀e∈ds,Wf e.2 (S e.2) (U e.2) e.1/\e.1∈D/\e.2.1<T)->ds.Pairwise (λa b=>key a.2<key b.2)->∀(fd:List f8) (s2:Sl),fd.length+4*ds.length<=100->(∀x∈fd,SgOf T D x) ->
 fd.Pairwise sgR->(∀x∈fd,∃q n,x=sgD q n/\okH q.2/\∀e∈ds,key q<key e.2)->∃(out:List f8) (s2':Sl),out.length<=fd.length+4*ds.length/\(∀x∈out,SgOf T D x)/\out.Pairwise sgR /\
 E9 (st1 2) Xs (ds.map (·.1)) [.sh B,.sh (.list fd),s2]=.nx [.sh B,.sh (.list out),s2']
 |[],_,_,fd,s2,_,hs,hp,_=>⟨fd,s2,by lia,hs,hp,rfl⟩
 |e::ds,hd,up,fd,s2,hl,hs,hp,hq=>by
  obtain⟨w,m,ht⟩:=hd e (.head _);obtain⟨more,l1,s1,i1,p1,e1⟩:=eS w ht B fd (by simp at hl;lia);have up':=BV.mp up;obtain⟨out,s2',l2,s3,p3,e2⟩:=Sa D B ds (λd' h'=>hd d' (.tail _ h')) up'.2 (fd++more) (.sh e.1) (by simp at hl ⊢;lia)
   (λx hx=>(m6.mp hx).elim (hs x) λz=>(s1 x z).mono λq hq=>by rw[m9.mp hq];exact m)
   (GG.mpr ⟨hp,p1,λa ha b hb=>by
    obtain⟨q,n,rfl,o,k⟩:=hq a ha;obtain⟨n',rfl⟩:=i1 b hb;exact⟨q,e.2,n,n',rfl,rfl,o,w.1.2.2,.inl (k e (.head _))⟩⟩)
   (λx hx=>(m6.mp hx).elim (λz=>by
    obtain⟨q,n,h1,h2,h3⟩:=hq x z;exact⟨q,n,h1,h2,λe' he'=>h3 e' (.tail _ he')⟩) λz=>by
    obtain⟨n',rfl⟩:=i1 x z;exact⟨e.2,n',rfl,w.1.2.2,λe' he'=>up'.1 e' he'⟩)
  refine⟨out,s2',by simp at l2 ⊢;lia,s3,p3,?_⟩;rw[k6];unfold E9;simp only[st1,t9,u5];rw[e1];exact e2
def nR{S:IdP->f8->Prop}{U:IdP->IdP->Prop}{T:Int}(ds:List Dp)(hd:∀e∈ds,Wf e.2 (S e.2) (U e.2) e.1/\e.2.1<T)(up:ds.Pairwise (λa b=>key a.2<key b.2))(hl:ds.length<=10):
 ∃out:List f8,W0 [.tuple (ds.map (·.1))]=.ok (.list out)/\out.length<=40/\(∀x∈out,SgOf T (ds.map (·.1)) x)/\out.Pairwise sgR:=by
 obtain⟨out,s2',l2,s3,p3,e2⟩:=Sa (ds.map (·.1)) (.tuple (ds.map (·.1))) ds (λe h=>⟨(hd e h).1,BW h,(hd e h).2⟩) up [] .un (by simp;lia) (λ_ h=>nomatch h) .nil (λ_ h=>nomatch h);refine⟨out,?_,by simp at l2;lia,s3,p3⟩;unfold W0 Dc Ce;simp only[Tj,O3,Ln (E4 _ _),E4,K8,A7,D2,B9,eU,k6,EE,l7,BM,u6,DC,BK,t9,u5,Ln (K7 _ _ _),K7,Fk,Hw,D8,GP,FZ,FY];unfold Xs at e2;rw[e2];simp_arith
def U1{c:Dn->Res Bool}{g1 g2:Dn->Out}{δ:Dn}(h:c δ=.ok false):C5 (sIf c g1 F8) g2 δ=g2 δ:=B4 (Q4 h)
def mulL{xs:List f8}{n:Int}(h : -(2 ^ 63)<=n/\n<2 ^ 63/\xs.length*n.toNat<=sizeLine):O6 (.list xs) (.int n)=some (.list (u6 n.toNat xs).flatten):=by
 show(if _ then _ else _)=_;rw[iq h]
def AU(xs:List f8):dNe (.list xs) (.list [])=some (.bool (!xs.isEmpty)):=by
 unfold dNe;rw[iq (l9 (DX _ _) (by decide))];cases xs <;> rfl
def dEqL(xs:List f8):dEq (.list xs) (.list [])=some (.bool xs.isEmpty):=by
 unfold dEq;rw[iq (l9 (DX _ _) (by decide))];cases xs <;> rfl
def vX(xs:List f8):dNe (.tuple xs) (.tuple [])=some (.bool (!xs.isEmpty)):=by
 unfold dNe;rw[iq (l9 (DX _ _) (by decide))];cases xs <;> rfl
def ltI(a b:Int):E6 .Lt (.int a) (.int b)=some (.bool (decide (a<b))):=by
 unfold E6;rw[iq (by simp[CW])];rfl
def rE(a b:Int):dEq (.int a) (.int b)=some (.bool (a==b)):=by
 unfold dEq;rw[iq (l9 (LF _ _) (by simp[CW]))];rfl
def iX(t:Int)(h:Str):(idD t h).depth<=2:=by simp[idD,CW,CI]
def lG(xs:List f8):Q3 [.list xs]=some (.int (xs.length:Int)):=rfl
def lenT(xs:List f8):Q3 [.tuple xs]=some (.int (xs.length:Int)):=rfl
def Xz(ns:List Int)(hns:ns.length<=63)(a:Int)(S:f8->Prop)(sg:List f8)(hs:∀x∈sg,S x)(hl:sg.length<=40):∃s x,Q2 [scr ns,.int a,.list sg]=.ok (.tuple [s,.str x])/\OrN S s/\cE x:=by
 obtain⟨r1,e1,a1,b1⟩:=O4 ns hns a ((sg.length:Int)+1) (by lia);obtain⟨r2,e2,a2,b2'⟩:=O4 ns hns (a+1) 2 (by decide);obtain⟨c,hc,f2⟩:=qJ (x:="lr") a2 (by rw[show("lr" : Str).cps.toList.length=2 from by decide];exact b2');have g:=Ld (x:=[.none]) (y:=sg) (by simp;lia);obtain⟨s,hs',f1⟩:=ixL (xs:=[.none]++sg) a1 (by simp;lia);refine⟨s,⟨#[c]⟩,?_,?_,?_⟩
 .unfold Q2 Bt An
  generalize [JW]++sg=L at *;simp_arith [g,lG,W4,e1,f1,e2,f2]
 .rcases m6.mp hs' with h |h
  .exact .inl (m9.mp h)
  .exact .inr (hs s h)
 .have h':c∈[108,114]:=by rw[show("lr" : Str).cps.toList=[108,114] from by decide]at hc;exact hc
  simp only[j9,MY,or_false]at h';rcases h' with rfl |rfl
  .exact .inl (by decide)
  .exact .inr (by decide)
theorem Xn{δc:Dn}{tt:Dn->Res Bool}:∀(zs:List (f8×f8)),(∀z∈zs,∃b,tt ([.sh z.1,.sh z.2]++δc)=.ok b)->∃ys:List f8,E2 Oc δc tt (A0 1) (zs.map λz=>.tuple [z.1,z.2])=.ok ys/\ys.Sublist (zs.map (·.2))
 |[],_=>⟨[],rfl,.slnil⟩
 |z::zs,h=>by
  obtain⟨b,e⟩:=h z (.head _);obtain⟨ys,e1,e2⟩:=Xn zs λz' hz=>h z' (.tail _ hz);rw[k6,k6];cases b with
  |true=>
   refine⟨z.2::ys,?_,e2.cons_cons _⟩;unfold E2;rw[show Oc (.tuple [z.1,z.2])=.ok [.sh z.1,.sh z.2] from rfl];simp only[e,e1];rfl
  |false=>
   refine⟨ys,?_,e2.cons _⟩;unfold E2;rw[show Oc (.tuple [z.1,z.2])=.ok [.sh z.1,.sh z.2] from rfl];simp only[e,e1]
def vH(xs:List f8):Kf xs=(xs.mapIdx λi d=>(DZ i,d)).map λz=>EX [z.1,z.2]:=by
 unfold Kf;apply HH;intro i;simp[Function.comp_def]
def qT(xs:List f8):(xs.mapIdx λi d=>(DZ i,d)).map (·.2)=xs:=by
 apply HH;intro i;simp only[BP,PM,Option.map_map];cases xs[i]? <;> rfl
def nA{xs:List f8}{x:f8}(h:x∈Dk xs (some (-3)) none):x∈xs:=by
 unfold Dk at h;exact PL (PK h)
def vZ(xs:List f8)(lo hi:Option Int):(Dk xs lo hi).length<=xs.length:=by
 unfold Dk;rw[EY,IY];exact l9 (DX _ _) (Nat.sub_le _ _)
def Zv{o:Out}{d:f8}(h:o=.rt d):o.fin=.ok d:=by rw[h];rfl
def lC{a b:Int}(h:a<b):E6 .Lt (.int a) (.int b)=some (.bool true):=by rw[ltI,decide_eq_true h]
def lD{a b:Int}(h:¬a<b):E6 .Lt (.int a) (.int b)=some (.bool false):=by rw[ltI,decide_eq_false h]
def Gk{f g:Dn->Res Bool}{δ:Dn}(h1:f δ=.ok true)(h2:g δ=.ok true):O5 f g δ=.ok true:=by unfold O5;rw[h1,B9,iq rfl,h2]
def Gn{f g:Dn->Res Bool}{δ:Dn}(h1:f δ=.ok false):O5 f g δ=.ok false:=by unfold O5;rw[h1,B9,ir (by decide)]
def Gm{f g:Dn->Res Bool}{δ:Dn}(h1:f δ=.ok true)(h2:g δ=.ok false):O5 f g δ=.ok false:=by unfold O5;rw[h1,B9,iq rfl,h2]
def Yd{f:Dn->Res f8}{lo hi:Dn->Res (Option Int)}{δ:Dn}{x y:f8}{l u:Option Int}(h1:f δ=.ok x)(h2:lo δ=.ok l)(h3:hi δ=.ok u)(h4:mD x l u=some y):vSl f lo hi δ=.ok y:=by unfold vSl;rw[h1,B9,h2,B9,h3,B9,h4];rfl
def vQ(ns:List Int)(hns:ns.length<=63){S:IdP->f8->Prop}{U:IdP->IdP->Prop}(a:Int)(p:IdP)(ho:okI p)(kn0:List Dp)(hk:∀e∈kn0,Wf e.2 (S e.2) (U e.2) e.1/\e.2.1<p.1)(up:kn0.Pairwise (λa b=>key a.2<key b.2))(hkl:kn0.length<=9)(x y z:Str)(hxyz:U5 x/\U5 y/\U5 z):
 ∃d,Q9 [scr ns,.int a,idP p,.tuple (kn0.map (·.1)),.list [.str x,.str y,.str z]]=.ok d/\Wf p (SgOf p.1 (kn0.map (·.1))) (λq=>∃e∈kn0,e.2=q) d:=by
 have hids:∀d∈kn0.map (·.1),∃q:IdP,dIx d (.int 1)=some (idP q)/\∃e∈kn0,e.2=q:=λd hd=>by
  obtain⟨e,he,rfl⟩:=t8.mp hd;obtain⟨_,hf⟩:=(hk e he).1;refine⟨e.2,?_,e,he,rfl⟩;rcases hf with⟨_,_,q,_⟩ |⟨_,q,_⟩ |⟨_,_,_,_,_,q,_⟩ |⟨_,q,_⟩ |⟨_,q,_⟩ <;> rw[q] <;> exact P8 (j:=1) (by simp)
 obtain⟨sg,es,hsl,hsg,hsr⟩:=nR (T:=p.1) kn0 hk up (by lia);have hkl':(kn0.map (·.1)).length<=9:=by rw[i7];exact hkl
 generalize kn0.map (·.1)=kn at *;obtain⟨way,ew,w0,w1⟩:=O4 ns hns a 12 (by decide);obtain⟨r5,e5,a5,b5⟩:=O4 ns hns (a+5) 3 (by decide);obtain⟨nm,hnm,f5⟩:=ixL (xs:=[.str x,.str y,.str z]) a5 b5;have:∃q,nm=.str q/\U5 q:=by
  simp only[j9,MY,or_false]at hnm;rcases hnm with rfl |rfl |rfl
  .exact⟨_,rfl,hxyz.1⟩
  .exact⟨_,rfl,hxyz.2.1⟩
  .exact⟨_,rfl,hxyz.2.2⟩
 obtain⟨q,rfl,hq⟩:=this;unfold Q9 Eo Cr Cq Cp Co Cn Cm Cl Ck M6;rw[Tj];simp only[O3,k6,EE,l7,BM,u6,DC,BK,FZ,FY];rw[B4 (D4 (D1 (A6 rfl rfl) es)),B4 (D4 (D1 (A6 rfl (A6 rfl (A6 rfl rfl))) ew))];simp only[t9,u5];by_cases c1:way<2/\sg≠[]
 .have t1 : (O5 (C3 (b2 (A0 6) (vC (.int 2)) (E6 .Lt))) (C3 (b2 (A0 5) (K8 A7) dNe))) [.sh (scr ns),.sh (.int a),.sh (idP p),.sh (.tuple kn),.sh (.list [.str x,.str y,.str z]),.sh (.list sg),.sh (.int way),.un,.un,.un] = .ok true:= by
   have:sg.isEmpty=false:=by cases sg with |nil=>exact absurd rfl c1.2 |cons _ _=>rfl
   exact Gk (C4 (B3 rfl rfl (lC c1.1))) (C4 (B3 rfl rfl (by rw[AU,this];rfl)))
  have hall:∀z∈sg.mapIdx (λi d=>(DZ i,d)),∃b,(C3 (b2 (C9 (A2 (A0 2) (A2 (b2 (b2 (A0 3) (vC (.int 20)) C7) (A0 0) C7) (A2 (vC (.int 4)) A7))) B5) (vC (.int 0)) dEq)) ([.sh z.1,.sh z.2]++[.sh (scr ns),.sh (.int a)])=.ok b:=λz hz=>by
   rw[List.mem_mapIdx]at hz;obtain⟨i,hi,rfl⟩:=hz;obtain⟨r,er,_,_⟩:=O4 ns hns (a+20+(i:Int)) 4 (by decide);refine⟨r==0,?_⟩;simp_arith [W4,er,rE]
  obtain⟨ys,g1,g2'⟩:=Xn _ hall;rw[qT]at g2';rw[<-vH]at g1;have g2:=g2'.length_le;have hel:(Kf sg).length=sg.length:=by unfold Kf;simp
  have n1:G6 (λδ=>((A2 (A0 5) A7) δ).bind Tl) Oc [0,1] (C3 (b2 (C9 (A2 (A0 2) (A2 (b2 (b2 (A0 3) (vC (.int 20)) C7) (A0 0) C7) (A2 (vC (.int 4)) A7))) B5) (vC (.int 0)) dEq)) (A0 1) [.sh (scr ns),.sh (.int a),.sh (idP p),.sh (.tuple kn),.sh (.list [.str x,.str y,.str z]),.sh (.list sg),.sh (.int way),.un,.un,.un]=.ok ys:=
   I8 (ds:=Kf sg) (by show((A2 (A0 5) A7) _).bind Tl=_;rw[A6 (d:=.list sg) (ds:=[]) rfl rfl];rfl) (by lia) rfl g1
  have hex:∃ex:List f8,ex.length<=1/\((ys++ex).Sublist sg/\ys++ex≠[])/\O6 (.list (sg.take 1)) (.int (if ys.isEmpty=true then 1 else 0))=some (.list ex):=by
   have lt:(sg.take 1).length<=1:=by simp;lia
   cases ey:ys with
   |nil=>
    refine⟨(u6 1 (sg.take 1)).flatten,by simpa using lt,⟨by simpa using List.take_sublist 1 sg,λz=>c1.2 ?_⟩,?_⟩
    .cases sg with
     |nil=>rfl
     |cons _ _=>simp at z
    .rw[iq (show List.isEmpty []=true from rfl)]
     exact mulL ⟨by decide,by decide,l9 (show _<=1 by simpa using lt) (by decide)⟩
   |cons y0 yr=>
    refine⟨[],by simp,⟨by rw[u8,<-ey];exact g2',by simp⟩,?_⟩;rw[ir (by simp)];exact mulL ⟨by decide,by decide,by simp⟩
  obtain⟨ex,exl,exs,hmul⟩:=hex;have hadd:=Ld (x:=ys) (y:=ex) (by lia);have cut1:mD (.list sg) none (some 1)=some (.list (sg.take 1)):=by
   show some (IC (Dk sg none (some 1)))=_;congr 2;cases sg with
   |nil=>rfl
   |cons s r=>
    unfold Dk HT.sIx;simp
  have hint:Az [.bool ys.isEmpty]=some (.int (if ys.isEmpty=true then 1 else 0)):=rfl;have htup:∀l,Kh [.list l]=some (.tuple l):=λ_=>rfl;have hnew:Ic 8 (G6 (λδ=>((A2 (A0 5) A7) δ).bind Tl) Oc [0,1] (C3 (b2 (C9 (A2 (A0 2) (A2 (b2 (b2 (A0 3) (vC (.int 20)) C7) (A0 0) C7) (A2 (vC (.int 4)) A7))) B5) (vC (.int 0)) dEq)) (A0 1)) [.sh (scr ns),.sh (.int a),.sh (idP p),.sh (.tuple kn),.sh (.list [.str x,.str y,.str z]),.sh (.list sg),.sh (.int way),.un,.un,.un]=.nx [.sh (scr ns),.sh (.int a),.sh (idP p),.sh (.tuple kn),.sh (.list [.str x,.str y,.str z]),.sh (.list sg),.sh (.int way),.un,.sh (.list ys),.un]:=by
   unfold Ic;rw[n1];rfl
  have t2:(L5 (E5 (A2 (vC (.str "drop")) (A2 (A0 2) (A2 (vFn (A2 (b2 (A0 8) (b2 (vSl (A0 5) Du (M7 (vC (.int 1)))) (vFn (A2 (b2 (A0 8) (K8 A7) dEq) A7) Az) O6) C7) A7) Kh) A7))))) [.sh (scr ns),.sh (.int a),.sh (idP p),.sh (.tuple kn),.sh (.list [.str x,.str y,.str z]),.sh (.list sg),.sh (.int way),.un,.sh (.list ys),.un]=.rt (.tuple [.str "drop",idP p,.tuple (ys++ex)]):=by
   simp_arith [dEqL,hint,cut1,hmul,hadd,htup]
  rw[Fy ((W5 t1).trans ((B4 hnew).trans t2))];refine⟨_,rfl,ho,.inr (.inl ⟨_,rfl,λs hs=>hsg s (exs.1.subset hs),?_,exs.2,hsr.sublist exs.1⟩)⟩;rw[k7];lia
 .have t1 : (O5 (C3 (b2 (A0 6) (vC (.int 2)) (E6 .Lt))) (C3 (b2 (A0 5) (K8 A7) dNe))) [.sh (scr ns),.sh (.int a),.sh (idP p),.sh (.tuple kn),.sh (.list [.str x,.str y,.str z]),.sh (.list sg),.sh (.int way),.un,.un,.un] = .ok false:= by
   by_cases h2:way<2
   .have:sg=[]:=HI λz=>c1 ⟨h2,z⟩
    subst this;exact Gm (C4 (B3 rfl rfl (lC h2))) (C4 (B3 rfl rfl (AU [])))
   .exact Gn (C4 (B3 rfl rfl (lD h2)))
  rw[U1 t1];by_cases c2:way<5
  .obtain⟨s1,x1,f1,g1,l1⟩:=Xz ns hns (a+1) (SgOf p.1 kn) sg hsg hsl
   obtain⟨s2,x2,f2,g2,l2⟩:=Xz ns hns (a+3) (SgOf p.1 kn) sg hsg hsl;have hadd:=addT (x:=[.str "mark",idP p,.str q]) (y:=[.tuple [s1,.str x1],.tuple [s2,.str x2]]) (by simp);refine⟨.tuple [.str "mark",idP p,.str q,.tuple [s1,.str x1],.tuple [s2,.str x2]],?_,ho,.inr (.inr (.inl ⟨q,s1,x1,s2,x2,rfl,g1,g2,hq,l1,l2⟩))⟩;exact Zv (Fy ((W5 (C4 (B3 rfl rfl (lC c2)))).trans ((B4 (D4 (T0 (A6 (D1 (A6 rfl (A6 (B3 rfl rfl W4) (A6 rfl rfl))) f1) (A6 (D1 (A6 rfl (A6 (B3 rfl rfl W4) (A6 rfl rfl))) f2) rfl))))).trans (L3 (B3 (T0 (A6 rfl (A6 rfl (A6 (B3 rfl (D1 (A6 rfl (A6 (B3 rfl rfl W4) (A6 rfl rfl))) e5) f5) rfl)))) rfl hadd)))))
  .by_cases c3:way=5
   .refine⟨.tuple [.str "unmark",idP p,.str q],?_,ho,.inr (.inr (.inr (.inl ⟨q,rfl,hq⟩)))⟩
    rw[U1 (C4 (B3 rfl rfl (lD c2)))];exact Zv (Fy ((W5 (C4 (B3 rfl rfl (by rw[rE,c3];rfl)))).trans (L3 (T0 (A6 rfl (A6 rfl (A6 (B3 rfl (D1 (A6 rfl (A6 (B3 rfl rfl W4) (A6 rfl rfl))) e5) f5) rfl)))))))
   .have c3':(way==5)=false:=by simpa using c3
    by_cases c4:way<8/\kn≠[]
    .have hne:kn.isEmpty=false:=by cases kn with |nil=>exact absurd rfl c4.2 |cons _ _=>rfl
     have hpos:(0:Int)<kn.length:=by cases kn with |nil=>exact absurd rfl c4.2 |cons _ _=>simp
     obtain⟨r6,e6,a6,b6⟩:=O4 ns hns (a+6) (kn.length:Int) hpos;obtain⟨d,hd,f6⟩:=Qn (xs:=kn) a6 b6;obtain⟨qi,f7,hu⟩:=hids d hd;have f6':dIx (.tuple kn) (.int r6)=some d:=f6;refine⟨.tuple [.str "undo",idP p,idP qi],?_,ho,.inr (.inr (.inr (.inr ⟨_,rfl,hu⟩)))⟩;rw[U1 (C4 (B3 rfl rfl (lD c2))),U1 (C4 (B3 rfl rfl (by rw[rE,c3'])))];exact Zv (Fy ((W5 (Gk (C4 (B3 rfl rfl (lC c4.1))) (C4 (B3 rfl rfl (by rw[vX,hne];rfl))))).trans (L3 (T0 (A6 rfl (A6 rfl (A6 (B3 (B3 rfl (D1 (A6 rfl (A6 (B3 rfl rfl W4) (A6 (N4 (A6 rfl rfl) (lenT _)) rfl))) e6) f6') rfl f7) rfl)))))))
    .have t4 : (O5 (C3 (b2 (A0 6) (vC (.int 8)) (E6 .Lt))) (C3 (b2 (A0 3) (E5 A7) dNe))) [.sh (scr ns),.sh (.int a),.sh (idP p),.sh (.tuple kn),.sh (.list [.str x,.str y,.str z]),.sh (.list sg),.sh (.int way),.un,.un,.un] = .ok false:= by
      by_cases h2:way<8
      .have:kn=[]:=HI λz=>c4 ⟨h2,z⟩
       subst this;exact Gm (C4 (B3 rfl rfl (lC h2))) (C4 (B3 rfl rfl (vX [])))
      .exact Gn (C4 (B3 rfl rfl (lD h2)))
     obtain⟨w,ew2,wl⟩:=mQ ns hns (a+8);have g1:=Ld (x:=[.none]) (y:=sg) (by simp;lia);have hc:mD (.list sg) (some (-3)) none=some (.list (Dk sg (some (-3)) none)):=rfl;have hcl:=vZ sg (some (-3)) none;have hcm:∀s∈Dk sg (some (-3)) none,SgOf p.1 kn s:=λs hs=>hsg s (nA hs);generalize Dk sg (some (-3)) none=ct at *;have g2:=Ld (x:=[.none]++sg) (y:=ct) (by simp;lia);obtain⟨r7,e7,a7,b7⟩:=O4 ns hns (a+7) ((sg.length:Int)+1+(ct.length:Int)) (by lia);obtain⟨bh,hbh,f7⟩:=ixL (xs:=[.none]++sg++ct) a7 (by simp;lia);have hneg:gC (.int 3)=some (.int (-3)):=rfl;have hb:OrN (SgOf p.1 kn) bh:=by
      rcases m6.mp hbh with h |h
      .rcases m6.mp h with h |h
       .exact .inl (m9.mp h)
       .exact .inr (hsg bh h)
      .exact .inr (hcm bh h)
     generalize [JW]++sg=L1 at *;generalize L1++ct=L2' at *;refine⟨.tuple [.str "add",idP p,bh,.str w],?_,ho,.inl ⟨bh,w,rfl,hb,wl⟩⟩;rw[U1 (C4 (B3 rfl rfl (lD c2))),U1 (C4 (B3 rfl rfl (by rw[rE,c3']))),U1 t4];have sl:vSl (A0 5) (M7 (b1 (vC (.int 3)) gC)) Du [.sh (scr ns),.sh (.int a),.sh (idP p),.sh (.tuple kn),.sh (.list [.str x,.str y,.str z]),.sh (.list sg),.sh (.int way),.un,.un,.un]=.ok (.list ct):=Yd rfl rfl rfl hc;exact Zv ((B4 (D4 (B3 (B3 (B3 rfl rfl g1) sl g2) (D1 (A6 rfl (A6 (B3 rfl rfl W4) (A6 (B3 (B3 (N4 (A6 rfl rfl) (lG _)) rfl W4) (N4 (A6 sl rfl) (lG _)) W4) rfl))) e7) f7))).trans (L3 (T0 (A6 rfl (A6 rfl (A6 rfl (A6 (D1 (A6 rfl (A6 (B3 rfl rfl W4) rfl)) ew2) rfl)))))))
def jN:Dn->Out:=(C5 (E4 7 (b2 (b2 (A0 5) (vC (.int 0)) dIx) (C9 (A2 (A0 0) (A2 (b2 (b2 (A0 1) (vC (.int 1)) C7) (b2 (vC (.int 60)) (A0 6) O6) C7) (A2 (vC (.int 2)) A7))) B5) C7)) (C5 (E4 8 (b2 (vC (.str "abc")) (C9 (A2 (A0 0) (A2 (b2 (b2 (A0 1) (vC (.int 2)) C7) (b2 (vC (.int 60)) (A0 6) O6) C7) (A2 (vC (.int 3)) A7))) B5) dIx)) (C5 (sIf (O5 (C3 (b2 (A0 4) (E5 A7) dNe)) (C3 (b2 (E5 (A2 (A0 7) (A2 (A0 8) A7))) (A0 5) (E6 .LtE)))) (E4 7 (b2 (b2 (A0 5) (vC (.int 0)) dIx) (vC (.int 1)) C7)) F8) (C5 (E4 5 (E5 (A2 (A0 7) (A2 (A0 8) A7)))) (C5 (E4 9 (vFn (A2 (K8 (G6 (λδ=>((A0 4) δ).bind D8) F7 [7] (C3 (b2 (b2 (b2 (A0 0) (vC (.int 1)) dIx) (vC (.int 0)) dIx) (A0 1) (E6 .Lt))) (A0 0))) A7) Kh)) (E4 4 (b2 (A0 4) (E5 (A2 (C9 (A2 (A0 0) (A2 (b2 (b2 (A0 1) (vC (.int 3)) C7) (b2 (vC (.int 60)) (A0 6) O6) C7) (A2 (A0 5) (A2 (A0 9) (A2 (A0 3) A7))))) Q9) A7)) C7)))))))
def leS(h h':Str)(k:okH h)(k':okH h'):(h==h')=decide (hj h=hj h')/\fC .LtE h h'=decide (hj h<=hj h'):=by
 rcases k with rfl |rfl |rfl <;> rcases k' with rfl |rfl |rfl <;> exact⟨by decide+kernel,by decide+kernel⟩
def leIdE{t t':Int}{h h':Str}(k:okH h)(k':okH h'):E6 .LtE (idD t h) (idD t' h')=some (.bool (decide (key (t,h)<=key (t',h')))):=by
 obtain⟨e1,e2⟩:=leS h h' k k';have l1:=cO h;have l2:=cO h';unfold E6 key;rw[iq (l9 (iX t h) (by decide))];show(Jo .LtE [.int t,.str h] [.int t',.str h']).map GR=_;simp only[Jo];have f1:l6 (.int t) (.int t')=(t==t'):=rfl;have f2:l6 (.str h) (.str h')=(h==h'):=rfl;rw[f1,f2,e1];by_cases c1:t=t'
 .subst c1
  rw[iq (by simp)];by_cases c2:hj h=hj h'
  .rw[iq (by simp[c2])]
   simp[eC,c2]
  .rw[ir (by simp[c2])]
   show(some (fC .LtE h h')).map GR=_;rw[e2];simp only[IA];congr 3;apply propext;lia
 .rw[ir (by simp[c1])]
  show(some (decide (t<=t'))).map GR=_;simp only[IA];congr 3;apply propext;lia
def Wf.id{p:IdP}{S:f8->Prop}{U:IdP->Prop}{d:f8}(w:Wf p S U d):dIx d (.int 1)=some (idP p):=by
 obtain⟨_,hf⟩:=w;rcases hf with⟨_,_,q,_⟩ |⟨_,q,_⟩ |⟨_,_,_,_,_,q,_⟩ |⟨_,q,_⟩ |⟨_,q,_⟩ <;> rw[q] <;> exact P8 (j:=1) (by simp)
def ix0(x:f8)(xs:List f8):dIx (.tuple (x::xs)) (.int 0)=some x:=P8 (xs:=x::xs) (j:=0) (by simp)
theorem abc{c:Nat}(h:c∈("abc" : Str).cps.toList):(⟨#[c]⟩:Str)="a" \/ (⟨#[c]⟩:Str)="b" \/ (⟨#[c]⟩:Str)="c":=by
 have h':c∈[97,98,99]:=by
  have:("abc" : Str).cps.toList=[97,98,99]:=by decide
  rw[this]at h;exact h
 simp only[j9,MY,or_false]at h';rcases h' with rfl |rfl |rfl
 .exact .inl (by decide)
 .exact .inr (.inl (by decide))
 .exact .inr (.inr (by decide))
theorem jI{δc:Dn}{tt:Dn->Res Bool}(f:Dp->Bool):∀L:List Dp,(∀e∈L,tt ([.sh e.1]++δc)=.ok (f e))->E2 F7 δc tt (A0 0) (L.map (·.1))=.ok ((L.filter f).map (·.1))
 |[],_=>rfl
 |e::L,h=>by
  have h1:=h e (.head _);have ih:=jI f L λe' he=>h e' (.tail _ he);rw[k6];unfold E2;rw[show F7 e.1=.ok [.sh e.1] from rfl];simp only[h1,ih];cases hf:f e with
  |true=>rw[List.filter_cons_of_pos hf];rfl
  |false=>rw[List.filter_cons_of_neg (by rw[hf];decide)]
def Upk(L:List Dp):Prop:=L.Pairwise λa b=>key a.2<key b.2
def WfIn(L:List Dp)(e:Dp):Prop:=Wf e.2 (SgOf e.2.1 (L.map (·.1))) (λq=>(∃e'∈L,e'.2=q)/\q.1<e.2.1) e.1
def BkW(L:List Dp):Prop:=(∀e∈L,WfIn L e)/\Upk L
theorem WfIn.mono{L L':List Dp}{e:Dp}(h:WfIn L e)(k:∀x∈L,x∈L'):WfIn L' e:=
 Wf.mono h (λx hx=>hx.mono λd hd=>by obtain⟨y,hy,rfl⟩:=t8.mp hd;exact BW (k y hy)) λq ⟨⟨y,hy,e⟩,hq⟩=>⟨⟨y,k y hy,e⟩,hq⟩
def mJ(ns:List Int)(hns:ns.length<=63)(x y z:Str)(hxyz:U5 x/\U5 y/\U5 z)(k:Int)(hk:0<=k)(hk2:k<9)(j:Nat)(hj:j<9)(L:List Dp)(hl:L.length=j)(hd:BkW L)(t:Int)(h:Str)(ht:1<=t)(ht2:t<=j+1)(hth:okH h)(s7 s8 s9:Sl):
 ∃(d:f8) (t':Int) (h':Str) (s7' s8' s9':Sl),WfIn L (d,(t',h'))/\1<=t'/\t'<=((j+1:Nat):Int)+1/\okH h'/\(L=[]\/key (t,h)<key (t',h'))/\jN [.sh (scr ns),.sh (.int 10),.sh (.int 9),.sh (.list [.str x,.str y,.str z]),.sh (.tuple (L.map (·.1))),.sh (idD t h),.sh (.int k),s7,s8,s9]
  =.nx [.sh (scr ns),.sh (.int 10),.sh (.int 9),.sh (.list [.str x,.str y,.str z]),.sh (.tuple (L.map (·.1)++[d])),.sh (idD t' h'),.sh (.int k),s7',s8',s9']:=by
 obtain ⟨r1,e1,a1,b1⟩:=O4 ns hns (10+1+60*k) 2 (by decide);obtain ⟨r2,e2,a2,b2'⟩:=O4 ns hns (10+2+60*k) 3 (by decide);obtain ⟨c,hc,f2⟩:=qJ (x:= "abc") a2 (by have:("abc" : Str).cps.toList.length=3:=(by decide); rw [this]; exact b2');have hh:=abc hc;generalize (⟨#[c]⟩:Str)=hd' at *;have eb:=leIdE (t:=t+r1) (t':=t) (show okH hd' from hh) hth;have go : ∀ tt : Int,1 <= tt -> tt <= j+2 -> ∃ d,WfIn L (d,(tt,hd')) /\ ∃ kn,(C5 (E4 5 (E5 (A2 (A0 7) (A2 (A0 8) A7)))) (C5 (E4 9 (vFn (A2 (K8 (G6 (λδ => ((A0 4) δ).bind D8) F7 [7] (C3 (b2 (b2 (b2 (A0 0) (vC (.int 1)) dIx) (vC (.int 0)) dIx) (A0 1) (E6 .Lt))) (A0 0))) A7) Kh)) (E4 4 (b2 (A0 4) (E5 (A2 (C9 (A2 (A0 0) (A2 (b2 (b2 (A0 1) (vC (.int 3)) C7) (b2 (vC (.int 60)) (A0 6) O6) C7) (A2 (A0 5) (A2 (A0 9) (A2 (A0 3) A7))))) Q9) A7)) C7))))
  [.sh (scr ns),.sh (.int 10),.sh (.int 9),.sh (.list [.str x,.str y,.str z]),.sh (.tuple (L.map (·.1))),.sh (idD t h),.sh (.int k),.sh (.int tt),.sh (.str hd'),s9]
  =.nx [.sh (scr ns),.sh (.int 10),.sh (.int 9),.sh (.list [.str x,.str y,.str z]),.sh (.tuple (L.map (·.1)++[d])),.sh (idD tt hd'),.sh (.int k),.sh (.int tt),.sh (.str hd'),.sh (.tuple kn)]:=λtt h1 h2=>by
  have g1:=jI (δc:=[.sh (.int tt)]) (tt:=C3 (b2 (b2 (b2 (A0 0) (vC (.int 1)) dIx) (vC (.int 0)) dIx) (A0 1) (E6 .Lt))) (λe=>decide (e.2.1<tt)) L λe he=>by
   have:=(hd.1 e he).id;simp_arith [this,ix0,ltI]
  have fm:∀e∈L.filter λe=>decide (e.2.1<tt),e∈L/\e.2.1<tt:=λe he=>by
   obtain⟨m,q⟩:=BN.mp he;exact⟨m,of_decide_eq_true q⟩
  have fl:=DL (λe:Dp=>decide (e.2.1<tt)) L;obtain⟨d,ed,wd'⟩:=vQ ns hns (S:=λp=>SgOf p.1 (L.map (·.1))) (U:=λp q=>(∃e'∈L,e'.2=q)/\q.1<p.1) (10+3+60*k) (tt,hd') ⟨h1,by simp only;lia,hh⟩ (L.filter λe=>decide (e.2.1<tt)) (λe he=>⟨hd.1 e (fm e he).1,(fm e he).2⟩) (hd.2.filter _) (by lia) x y z hxyz;have wd:WfIn L (d,(tt,hd')):=wd'.mono (λx hx=>hx.mono λq hq=>by obtain⟨e,he,rfl⟩:=t8.mp hq;exact BW (fm e he).1) λq ⟨e,he,hq⟩=>⟨⟨e,(fm e he).1,hq⟩,hq▸(fm e he).2⟩;have ll:(L.map (·.1)).length=j:=by rw[i7];exact hl
  generalize (L.filter λe=>decide (e.2.1<tt)).map (·.1)=kn at *;refine⟨d,wd,kn,?_⟩;have hadd:=addT (x:=L.map (·.1)) (y:=[d]) (by simp;lia);have htup:Kh [.list kn]=some (.tuple kn):=rfl;rw[B4 (D4 (T0 (A6 rfl (A6 rfl rfl))))];simp only[t9,u5];rw[B4 (D4 (N4 (A6 (N6 (I8 (E3 rfl rfl) (by lia) rfl g1)) rfl) htup))];simp only[t9,u5];simp_arith [W4,pR,ed,hadd]
 unfold jN;rw[B4 (D4 (d:=.int (t+r1)) (by simp_arith [ix0,W4,pR,e1]))];simp only[t9,u5];rw[B4 (D4 (d:=.str hd') (by simp_arith [W4,pR,e2,f2]))];simp only[t9,u5];have hc1:∃b,(b=false->L=[]\/key (t,h)<key (t+r1,hd'))/\(O5 (C3 (b2 (A0 4) (E5 A7) dNe)) (C3 (b2 (E5 (A2 (A0 7) (A2 (A0 8) A7))) (A0 5) (E6 .LtE)))) [.sh (scr ns),.sh (.int 10),.sh (.int 9),.sh (.list [.str x,.str y,.str z]),.sh (.tuple (L.map (·.1))),.sh (idD t h),.sh (.int k),.sh (.int (t+r1)),.sh (.str hd'),s9]=.ok b:=by
  cases he:(L.map (·.1)).isEmpty with
  |true=>exact⟨false,λ_=>.inl (by cases L with |nil=>rfl |cons _ _=>cases he),by simp_arith [vX,he,MG]⟩
  |false=>exact⟨decide (key (t+r1,hd')<=key (t,h)),λz=>.inr (by have:=of_decide_eq_false z;lia),by simp_arith [vX,he,Bool.not_false,eb]⟩
 obtain⟨b,hbk,hb⟩:=hc1;cases b with
 |true=>
  obtain⟨d,wd,kn,ek⟩:=go (t+1) (by lia) (by lia);refine⟨d,t+1,hd',.sh (.int (t+1)),.sh (.str hd'),.sh (.tuple kn),wd,by lia,by lia,hh,.inr (by have:=cO h;unfold key;simp only;lia),?_⟩;rw[B4 ((W5 hb).trans (D4 (d:=.int (t+1)) (by simp_arith [ix0,W4])))];simp only[t9,u5];exact ek
 |false=>
  obtain⟨d,wd,kn,ek⟩:=go (t+r1) (by lia) (by lia);refine⟨d,t+r1,hd',.sh (.int (t+r1)),.sh (.str hd'),.sh (.tuple kn),wd,by lia,by lia,hh,hbk rfl,?_⟩;rw[U1 hb];exact ek
def BkW.snoc{L:List Dp}{d:f8}{p q:IdP}(h:BkW L)(w:WfIn L (d,q))(hk:∀e∈L,key e.2<=key p)(hq:L=[]\/key p<key q):BkW (L++[(d,q)])/\∀e∈L++[(d,q)],key e.2<=key q:=by
 have lt:∀e∈L,key e.2<key q:=λe he=>by
  rcases hq with z |z
  .rw[z]at he;exact nomatch he
  .have:=hk e he;lia
 have up:∀x∈L,x∈L++[(d,q)]:=λx hx=>LQ _ hx;refine⟨⟨λe he=>?_,?_⟩,λe he=>?_⟩
 .rcases m6.mp he with z |z
  .exact(h.1 e z).mono up
  .rw[m9.mp z];exact w.mono up
 .exact GG.mpr ⟨h.2,GO _ _,λa ha b hb=>by rw[m9.mp hb];exact lt a ha⟩
 .rcases m6.mp he with z |z
  .exact Int.le_of_lt (lt e z)
  .rw[m9.mp z];exact Int.le_refl _
theorem Xq(ns:List Int)(hns:ns.length<=63)(x y z:Str)(hxyz:U5 x/\U5 y/\U5 z):∀(l:List f8),(∀d∈l,∃k:Int,d=.int k/\0<=k/\k<9)->∀(j:Nat) (L:List Dp) (t:Int) (h:Str) (s6 s7 s8 s9:Sl),j+l.length<=9->L.length=j->BkW L->(∀e∈L,key e.2<=key (t,h))->1<=t->t<=j+1->okH h ->
 ∃L' s5 s6' s7' s8' s9',BkW L'/\L'.length<=9/\E9 (st1 6) jN l [.sh (scr ns),.sh (.int 10),.sh (.int 9),.sh (.list [.str x,.str y,.str z]),.sh (.tuple (L.map (·.1))),.sh (idD t h),s6,s7,s8,s9]=.nx [.sh (scr ns),.sh (.int 10),.sh (.int 9),.sh (.list [.str x,.str y,.str z]),.sh (.tuple (L'.map (·.1))),s5,s6',s7',s8',s9']
 |[],_,j,L,t,h,s6,s7,s8,s9,hj,hl,hd,_,_,_,_=>⟨L,_,_,_,_,_,hd,by simp at hj;lia,rfl⟩
 |d0::l,hk,j,L,t,h,s6,s7,s8,s9,hj,hl,hd,hb,h1,h2,h3=>by
  obtain⟨k,rfl,k0,k1⟩:=hk d0 (.head _);simp only[l7]at hj;obtain⟨d,t',h',s7',s8',s9',wd,t1,t2,t3,kk,e⟩:=mJ ns hns x y z hxyz k k0 k1 j (by lia) L hl hd t h h1 h2 h3 s7 s8 s9;obtain⟨hB,hB2⟩:=hd.snoc wd hb kk;obtain⟨L',s5,s6',s7'',s8'',s9'',w',l',e'⟩:=Xq ns hns x y z hxyz l (λd hd=>hk d (.tail _ hd)) (j+1) (L++[(d,(t',h'))]) t' h' (.sh (.int k)) s7' s8' s9' (by lia) (by simp[hl]) hB hB2 t1 t2 t3;refine⟨L',s5,s6',s7'',s8'',s9'',w',l',?_⟩;unfold E9;simp only[st1,t9,u5];rw[e];rw[z4]at e';exact e'
def wE(ns:List Int)(hns:ns.length<=63)(x y z:Str)(hxyz:U5 x/\U5 y/\U5 z):∃L,Av [scr ns,.int 10,.int 9,.list [.str x,.str y,.str z]]=.ok (.tuple (L.map (·.1)))/\L.length<=9/\BkW L:=by
 obtain⟨r,e,a,b⟩:=O4 ns hns 10 (9+1) (by decide);have hmem:∀d∈Ae 0 r,∃k:Int,d=.int k/\0<=k/\k<9:=λd hd=>by
  unfold Ae at hd;obtain⟨i,hi,rfl⟩:=t8.mp hd;have:=EL.mp hi;exact⟨_,rfl,by lia,by lia⟩
 have hlen:(Ae 0 r).length<=9:=by unfold Ae;simp;lia
 obtain⟨L,s5,s6,s7,s8,s9,w,l,e'⟩:=Xq ns hns x y z hxyz (Ae 0 r) hmem 0 [] 1 "a" .un .un .un .un (by lia) rfl ⟨(λ_ h=>nomatch h),.nil⟩ (λ_ h=>nomatch h) (by decide) (by decide) (.inl rfl);refine⟨L,N2 ?_,l,w⟩;unfold Er Cv Cu Ct Cs S9;simp only[O3,k6,EE,l7,BM,u6,DC,BK,FZ,FY];rw[B4 (D4 (d:=.tuple []) rfl),B4 (D4 (d:=idD 1 "a") rfl)];simp only[t9,u5];have hfor:K7 (λδ=>((A2 (C9 (A2 (A0 0) (A2 (A0 1) (A2 (b2 (A0 2) (vC (.int 1)) C7) A7))) B5) A7) δ).bind Dh) (st1 6) jN [.sh (scr ns),.sh (.int 10),.sh (.int 9),.sh (.list [.str x,.str y,.str z]),.sh (.tuple []),.sh (idD 1 "a"),.un,.un,.un,.un]=.nx [.sh (scr ns),.sh (.int 10),.sh (.int 9),.sh (.list [.str x,.str y,.str z]),.sh (.tuple (L.map (·.1))),s5,s6,s7,s8,s9]:=by
  unfold K7;have:=Yi (fs:=A2 (C9 (A2 (A0 0) (A2 (A0 1) (A2 (b2 (A0 2) (vC (.int 1)) C7) A7))) B5) A7) (δ:=[.sh (scr ns),.sh (.int 10),.sh (.int 9),.sh (.list [.str x,.str y,.str z]),.sh (.tuple []),.sh (idD 1 "a"),.un,.un,.un,.un]) (n:=r) (by simp_arith [W4,e]) a (by lia);rw[this,D2];exact e'
 exact(B4 hfor).trans (L3 rfl)
structure Ad where
 p:IdP
 b:Option (IdP×Nat)
 w:Str
noncomputable abbrev As:=Ad×Nat
abbrev sgn(u:As):IdP×Nat:=(u.1.p,u.2)
def blk(e:Ad):List As:=(CK e.w.length).map λk=>(e,k)
noncomputable def Pl(s:IdP×Nat)(l:List As):List As->List As
 |[]=>[]
 |u::r=>if sgn u=s then u::(l++r) else u::Pl s l r
def lP(x:Option (IdP×Nat))(l L:List As):List As:=match x with
 |none=>l++L
 |some s=>Pl s l L
def ord(B:List Ad):List As:=B.foldl (λL a=>lP a.b (blk a) L) []
def Ig(B:List Ad)(e:Ad):ord (B++[e])=lP e.b (blk e) (ord B):=by unfold ord;rw[List.foldl_append];rfl
inductive Bk:List Ad->Prop where
 |nil:Bk []
 |snoc {B:List Ad} {e:Ad}:Bk B->0<e.w.length->(∀a∈B,key a.p<key e.p)->(e.b=none\/∃a∈B,∃n,n<a.w.length/\e.b=some (a.p,n))->Bk (B++[e])
def iM{e:Ad}{u:As}:u∈blk e↔u.1=e/\u.2<e.w.length:=by
 unfold blk;rw[t8];constructor
 .rintro⟨k,hk,rfl⟩;exact⟨rfl,EL.mp hk⟩
 .rintro⟨h1,h2⟩;exact⟨u.2,EL.mpr h2,by rw[<-h1]⟩
theorem cN{s:IdP×Nat}{l:List As}{v:As}:∀{L:List As},(∃u∈L,sgn u=s)->(v∈Pl s l L↔v∈l\/v∈L)
 |[],h=>by obtain⟨u,hu,_⟩:=h;cases hu
 |u::r,h=>by
  unfold Pl;split
  .rw[j9,m6,j9]
   constructor
   .rintro (h |h |h)
    .exact .inr (.inl h)
    .exact .inl h
    .exact .inr (.inr h)
   .rintro (h |h |h)
    .exact .inr (.inl h)
    .exact .inl h
    .exact .inr (.inr h)
  .rename_i hn
   have h':∃u∈r,sgn u=s:=by
    obtain⟨x,hx,e⟩:=h;rcases j9.mp hx with rfl |hx
    .exact absurd e hn
    .exact⟨x,hx,e⟩
   rw[j9,cN h',j9];constructor
   .rintro (h |h |h)
    .exact .inr (.inl h)
    .exact .inl h
    .exact .inr (.inr h)
   .rintro (h |h |h)
    .exact .inr (.inl h)
    .exact .inl h
    .exact .inr (.inr h)
def Bk.pos{B:List Ad}(h:Bk B):∀a∈B,0<a.w.length:=by
 induction h with
 |nil=>intro a h;cases h
 |snoc _ h0 _ _ ih=>
  intro a ha;rcases m6.mp ha with ha |ha
  .exact ih a ha
  .rw[m9.mp ha];exact h0
def Bk.refs{B:List Ad}(h:Bk B):∀c∈B,∀q n,c.b=some (q,n)->∃a∈B,a.p=q/\n<a.w.length:=by
 induction h with
 |nil=>intro a h;cases h
 |@snoc B e _ h0 _ hb ih=>
  intro c hc q n e1;rcases m6.mp hc with hc |hc
  .obtain⟨a,ha,r⟩:=ih c hc q n e1;exact⟨a,m6.mpr (.inl ha),r⟩
  .rw[m9.mp hc]at e1
   rcases hb with hb |⟨a,ha,n',hn,hb⟩
   .rw[hb]at e1;cases e1
   .rw[hb]at e1;cases e1;exact⟨a,m6.mpr (.inl ha),rfl,hn⟩
def Bk.nokid{B:List Ad}{e:Ad}(h:Bk B)(hk:∀a∈B,key a.p<key e.p)(hb:e.b=none\/∃a∈B,∃n,n<a.w.length/\e.b=some (a.p,n)):∀c∈B++[e],∀n,c.b≠some (e.p,n):=by
 intro c hc n z;have:∃a∈B,a.p=e.p:=by
  rcases m6.mp hc with hc |hc
  .obtain⟨a,ha,r,_⟩:=h.refs c hc _ _ z;exact⟨a,ha,r⟩
  .rw[m9.mp hc]at z
   rcases hb with hb |⟨a,ha,n',hn,hb⟩
   .rw[hb]at z;cases z
   .rw[hb]at z;exact⟨a,ha,congrArg Prod.fst (BS z)⟩
 obtain⟨a,ha,r⟩:=this;have:=hk a ha;rw[r]at this;lia
def X4{B:List Ad}(h:Bk B):∀u,u∈ord B↔u.1∈B/\u.2<u.1.w.length:=by
 induction h with
 |nil=>intro u;constructor <;> intro h <;> simp[ord]at h
 |@snoc B e hB h0 hk hb ih=>
  intro u;have key:u∈lP e.b (blk e) (ord B)↔u∈blk e\/u∈ord B:=by
   rcases hb with hb |⟨a,ha,n,hn,hb⟩
   .rw[hb];exact m6
   .rw[hb];exact cN ⟨(a,n),(ih (a,n)).mpr ⟨ha,hn⟩,rfl⟩
  rw[Ig,key,iM,ih,m6,m9];constructor
  .rintro (⟨h1,h2⟩ |⟨h1,h2⟩)
   .exact⟨.inr h1,by rw[h1];exact h2⟩
   .exact⟨.inl h1,h2⟩
  .rintro⟨h1 |h1,h2⟩
   .exact .inr ⟨h1,h2⟩
   .exact .inl ⟨h1,by rw[<-h1];exact h2⟩
theorem Xg{s:IdP×Nat}{l:List As}:∀{L:List As},(∃u∈L,sgn u=s)->(Pl s l L).Perm (l++L)
 |[],h=>by obtain⟨u,hu,_⟩:=h;cases hu
 |u::r,h=>by
  unfold Pl;split
  .exact(List.perm_middle (l₁:=l) (a:=u) (l₂:=r)).symm
  .rename_i hn
   have h':∃u∈r,sgn u=s:=by
    obtain⟨x,hx,e⟩:=h;rcases j9.mp hx with rfl |hx
    .exact absurd e hn
    .exact⟨x,hx,e⟩
   exact((Xg h').cons u).trans (List.perm_middle (l₁:=l) (a:=u) (l₂:=r)).symm
def Xh{B:List Ad}{e:Ad}(hB:Bk B)(hb:e.b=none\/∃a∈B,∃n,n<a.w.length/\e.b=some (a.p,n)):(lP e.b (blk e) (ord B)).Perm (blk e++ord B):=by
 rcases hb with hb |⟨a,ha,n,hn,hb⟩
 .rw[hb];exact List.Perm.refl _
 .rw[hb];exact Xg ⟨(a,n),(X4 hB (a,n)).mpr ⟨ha,hn⟩,rfl⟩
def sgs(B:List Ad):List As:=B.flatMap blk
def bU{B:List Ad}(h:Bk B):(ord B).Perm (sgs B):=by
 induction h with
 |nil=>exact List.Perm.refl _
 |@snoc B e hB h0 hk hb ih=>
  rw[Ig];unfold sgs;rw[List.flatMap_append];refine(Xh hB hb).trans ?_;refine List.perm_append_comm.trans ?_;rw[List.flatMap_cons,List.flatMap_nil,u8];exact List.Perm.append_right _ ih
def mK(e:Ad):((blk e).map sgn).Nodup:=by
 unfold blk;rw[DU,HQ,IL];refine List.Pairwise.imp ?_ (HQ.mp List.nodup_range);intro a b h z;exact h (congrArg Prod.snd z)
def Je{B:List Ad}(h:Bk B):((ord B).map sgn).Nodup:=by
 induction h with
 |nil=>exact .nil
 |@snoc B e hB h0 hk hb ih=>
  rw[Ig];refine((Xh hB hb).map sgn).nodup_iff.mpr ?_;rw[z4,KB];refine⟨mK e,ih,λx hx y hy z=>?_⟩;obtain⟨u,hu,rfl⟩:=t8.mp hx;obtain⟨v,hv,rfl⟩:=t8.mp hy;have h1:=(iM.mp hu).1;have h2:=((X4 hB v).mp hv).1;have h3:=hk v.1 h2;have h4:u.1.p=v.1.p:=congrArg Prod.fst z;rw[h1]at h4;rw[<-h4]at h3;lia
def Ks(B:List Ad)(u:As):List As:=(B.filter λc=>c.b=some (sgn u)).map λc=>(c,0)
def Ny(B:List Ad):List As:=(B.filter λc=>c.b=none).map λc=>(c,0)
def nxt(u:As):List As:=if u.2+1<u.1.w.length then [(u.1,u.2+1)] else []
inductive Run(B:List Ad):List As->List As->Prop where
 |nil:Run B [] []
 |step {u:As} {st out:List As}:Run B ((Ks B u).reverse++(nxt u++st)) out->Run B (u::st) (u::out)
def Run.blk{B:List Ad}{e:Ad}(hn:∀c∈B,∀n,c.b≠some (e.p,n)){st out:List As}(h:Run B st out):∀(j k:Nat),k+j+1=e.w.length->Run B ((e,k)::st) (((CK e.w.length).drop k).map (λi=>(e,i))++out):=by
 have nk:∀k,Ks B (e,k)=[]:=λk=>by
  unfold Ks;rw[List.filter_eq_nil_iff.mpr (λc hc=>by simpa using hn c hc k),EE]
 intro j;induction j with
 |zero=>
  intro k hk;have hd:(CK e.w.length).drop k=[k]:=by
   rw[EA (by simp;lia),List.getElem_range,FV (by simp;lia)]
  rw[hd];refine .step ?_;rw[nk,List.reverse_nil,BK];unfold nxt;rw[ir (by show ¬(k+1<e.w.length);lia),BK];exact h
 |succ j ih=>
  intro k hk;have hd:(CK e.w.length).drop k=k::(CK e.w.length).drop (k+1):=by
   rw[EA (by simp;lia),List.getElem_range]
  rw[hd];refine .step ?_;rw[nk,List.reverse_nil,BK];unfold nxt;rw[iq (by show k+1<e.w.length;lia)];exact ih (k+1) (by lia)
def Run.new{B:List Ad}{e:Ad}(hp:0<e.w.length)(hn:∀c∈B,∀n,c.b≠some (e.p,n)){st out:List As}(h:Run B st out):Run B ((e,0)::st) (Sm.blk e++out):=by
 have:=h.blk hn (e.w.length-1) 0 (by lia);rw[IN]at this;exact this
def Ng(B:List Ad)(e:Ad)(u:As):Ks (B++[e]) u=Ks B u++if e.b=some (sgn u) then [(e,0)] else []:=by
 unfold Ks;rw[JR,z4];congr 1;by_cases c:e.b=some (sgn u)
 .rw[iq c,z7,iq (by simpa using c)];rfl
 .rw[ir c,z7,ir (by simpa using c)];rfl
def Run.old{B:List Ad}{e:Ad}{st out:List As}(h:Run B st out)(hn:∀u∈out,e.b≠some (sgn u)):Run (B++[e]) st out:=by
 induction h with
 |nil=>exact .nil
 |@step u st out h ih=>
  refine .step ?_;rw[Ng,ir (hn u (.head _)),u8];exact ih λv hv=>hn v (.tail _ hv)
def Run.ins{B:List Ad}{e:Ad}{s:IdP×Nat}(he:e.b=some s)(hp:0<e.w.length)(hk:∀c∈B++[e],∀n,c.b≠some (e.p,n)){st out:List As}(h:Run B st out)(hs:∃u∈out,sgn u=s)(nd:(out.map sgn).Nodup):Run (B++[e]) st (Pl s (Sm.blk e) out):=by
 induction h with
 |nil=>obtain⟨u,hu,_⟩:=hs;cases hu
 |@step u st out h ih=>
  rw[k6,BQ]at nd;unfold Pl;split
  .rename_i c
   refine .step ?_;rw[Ng,iq (by rw[he,c]),JM,x6];refine Run.new hp hk (h.old λv hv z=>nd.1 ?_);rw[he]at z;cases z;rw[c];exact BW hv
  .rename_i c
   refine .step ?_;rw[Ng,ir (by rw[he];intro z;cases z;exact c rfl),u8];refine ih ?_ nd.2;obtain⟨x,hx,e1⟩:=hs;rcases j9.mp hx with rfl |hx
   .exact absurd e1 c
   .exact⟨x,hx,e1⟩
def hV{B:List Ad}(h:Bk B):Run B (Ny B).reverse (ord B):=by
 induction h with
 |nil=>exact .nil
 |@snoc B e hB h0 hk hb ih=>
  have nk:=hB.nokid hk hb;rw[Ig];unfold Ny at ih ⊢;rw[JR,z4,JM];rcases hb with hb |⟨a,ha,n,hn,hb⟩
  .rw[hb,z7,iq (by simpa using hb)]
   exact Run.new h0 nk (ih.old λu _ z=>by rw[hb]at z;cases z)
  .rw[hb,z7,ir (by rw[hb];simp)]
   exact ih.ins hb h0 nk ⟨(a,n),(X4 hB (a,n)).mpr ⟨ha,hn⟩,rfl⟩ (Je hB)
def anD(x:Option (IdP×Nat)):f8:=match x with
 |none=>.none
 |some s=>sgD s.1 s.2
def Ad.d(a:Ad):f8:=.tuple [.str "add",idP a.p,anD a.b,.str a.w]
inductive Adds:List Dp->List Ad->Prop where
 |nil:Adds [] []
 |add {L:List Dp} {B:List Ad} (a:Ad):Adds L B->Adds ((a.d,a.p)::L) (a::B)
 |oth {L:List Dp} {B:List Ad} {e:Dp} (k:Str) (x:f8) (xs:List f8):e.1=.tuple (.str k::idP e.2::x::xs)->k≠"add"->Adds L B->Adds (e::L) B
def Adds.snoc{L:List Dp}{B:List Ad}(h:Adds L B)(a:Ad):Adds (L++[(a.d,a.p)]) (B++[a]):=by
 induction h with
 |nil=>exact .add a .nil
 |add c _ ih=>exact .add c ih
 |oth k x xs e n _ ih=>exact .oth k x xs e n ih
def Adds.snocO{L:List Dp}{B:List Ad}{e:Dp}(h:Adds L B)(k:Str)(x:f8)(xs:List f8)(h1:e.1=.tuple (.str k::idP e.2::x::xs))(h2:k≠"add"):Adds (L++[e]) B:=by
 induction h with
 |nil=>exact .oth k x xs h1 h2 .nil
 |add c _ ih=>exact .add c ih
 |oth k' x' xs' e' n _ ih=>exact .oth k' x' xs' e' n ih
def Zr{p q:IdP}(h:idP p=idP q):p=q:=by
 simp only[idP,idD,NV,HV,PyData.int.injEq,PyData.str.injEq,and_true]at h;exact Prod.ext h.1 h.2
def Adds.of{L:List Dp}{B:List Ad}(h:Adds L B){p:IdP}{b:f8}{w:Str}(m:EX [.str "add",idP p,b,.str w]∈L.map (·.1)):∃a∈B,a.p=p/\a.w=w:=by
 induction h with
 |nil=>cases m
 |add c _ ih=>
  rcases j9.mp m with e |m
  .have e':EX [.str "add",idP p,b,.str w]=.tuple [.str "add",idP c.p,anD c.b,.str c.w]:=e
   injection e' with e'
   injection e' with _ e'
   injection e' with e1 e'
   injection e' with _ e'
   injection e' with e2 _
   injection e2 with e2
   exact⟨c,.head _,(Zr e1).symm,e2.symm⟩
  .obtain⟨a,ha,r⟩:=ih m;exact⟨a,.tail _ ha,r⟩
 |oth k x xs e n _ ih=>
  rcases j9.mp m with e1 |m
  .replace e1:=e1.trans e
   injection e1 with e1
   injection e1 with e1 _
   injection e1 with e1
   exact absurd e1.symm n
  .exact ih m
def Wf.shape{p:IdP}{S:f8->Prop}{U:IdP->Prop}{d:f8}(w:Wf p S U d):(∃b w,d=.tuple [.str "add",idP p,b,.str w]/\OrN S b/\Uo w)\/∃k x xs,d=.tuple (.str k::idP p::x::xs)/\k≠"add":=by
 obtain⟨o,r⟩:=w;rcases r with h |⟨sg,rfl,_⟩ |⟨n,s1,x1,s2,x2,rfl,_⟩ |⟨n,rfl,_⟩ |⟨i,rfl,_⟩
 .exact .inl h
 .exact .inr ⟨"drop",_,_,rfl,by decide⟩
 .exact .inr ⟨"mark",_,_,rfl,by decide⟩
 .exact .inr ⟨"unmark",_,_,rfl,by decide⟩
 .exact .inr ⟨"undo",_,_,rfl,by decide⟩
def qH{p q:IdP}(h:key p<key q):p.1<=q.1:=by
 have h1:=cO p.2;have h2:=cO q.2;unfold key at h;lia
def BkW.init{L:List Dp}{e:Dp}(h:BkW (L++[e])):BkW L:=by
 obtain⟨hw,hu⟩:=h;have hu':=GG.mp hu;refine⟨λx hx=>?_,hu'.1⟩;have hxe:key x.2<key e.2:=hu'.2.2 x hx e (m9.mpr rfl);have ht:=qH hxe;refine Wf.mono (hw x (m6.mpr (.inl hx))) (λy hy=>?_) λq hq=>?_
 .obtain⟨p,b,w,n,hm,e1,hn,hp,ho⟩:=hy
  refine⟨p,b,w,n,?_,e1,hn,hp,ho⟩;rw[z4]at hm;rcases m6.mp hm with hm |hm
  .exact hm
  .exfalso
   have he:EX [.str "add",idP p,b,.str w]=e.1:=by simpa using hm
   have hid:p=e.2:=by
    have w1:=(hw e (m6.mpr (.inr (.head _)))).id;rw[<-he]at w1;have w2:dIx (EX [.str "add",idP p,b,.str w]) (.int 1)=some (idP p):=P8 (xs:=[.str "add",idP p,b,.str w]) (j:=1) (by simp);rw[w2]at w1;exact Zr (BS w1)
   rw[hid]at hp;lia
 .obtain⟨⟨e',he',rfl⟩,hq⟩:=hq
  refine⟨?_,hq⟩;rcases m6.mp he' with he' |he'
  .exact⟨e',he',rfl⟩
  .rw[m9.mp he']at hq
   lia
structure BkA(L:List Dp)(B:List Ad):Prop where
 ad:Adds L B
 bk:Bk B
 wd:∀a∈B,Uo a.w
 id:∀a∈B,okI a.p
 inL:∀a∈B,(a.d,a.p)∈L
 len:B.length<=L.length
theorem bka:∀(n:Nat) (L:List Dp),L.length=n->BkW L->∃B,BkA L B
 |0,L,hn,_=>by
  rw[CO.mp hn];exact⟨[],.nil,.nil,(λ_ h=>nomatch h),(λ_ h=>nomatch h),(λ_ h=>nomatch h),s0 _⟩
 |n+1,L,hn,h=>by
  have hne:L≠[]:=λz=>by rw[z]at hn;cases hn
  obtain⟨L',e,rfl⟩:∃L' e,L=L'++[e]:=⟨L.dropLast,L.getLast hne,(NM hne).symm⟩;have h':=h.init;obtain⟨B,A⟩:=bka n L' (by simpa using hn) h';have hu':=GG.mp h.2;have we:=h.1 e (m6.mpr (.inr (.head _)));rcases we.shape with⟨b,w,e1,hb,hw⟩ |⟨k,x,xs,e1,hk⟩
  .have hx : ∃ x : Option (IdP×Nat),b = anD x /\ (x = none \/ ∃ a∈B,∃ n,n<a.w.length /\ x = some (a.p,n)):= by
    rcases hb with rfl |⟨p,b',w',n',hm,rfl,hn',hp,ho⟩
    .exact⟨none,rfl,.inl rfl⟩
    .rw[z4]at hm
     rcases m6.mp hm with hm |hm
     .obtain⟨a,ha,rfl,rfl⟩:=A.ad.of hm
      exact⟨some (a.p,n'),rfl,.inr ⟨a,ha,n',hn',rfl⟩⟩
     .exfalso
      have he:EX [.str "add",idP p,b',.str w']=e.1:=by simpa using hm
      rw[e1]at he;injection he with he
      injection he with _ he
      injection he with he _
      rw[Zr he]at hp;lia
   obtain⟨x,rfl,hx⟩:=hx;have ee:e=((⟨e.2,x,w⟩:Ad).d,(⟨e.2,x,w⟩:Ad).p):=Prod.ext e1 rfl;refine⟨B++[⟨e.2,x,w⟩],?_,.snoc A.bk (by have:=hw.1;show 0<w.length;lia) (λa ha=>hu'.2.2 _ (A.inL a ha) e (m9.mpr rfl)) hx,λa ha=>?_,λa ha=>?_,λa ha=>?_,by simp;exact A.len⟩
   .rw[ee];exact A.ad.snoc _
   .rcases m6.mp ha with ha |ha
    .exact A.wd a ha
    .rw[m9.mp ha];exact hw
   .rcases m6.mp ha with ha |ha
    .exact A.id a ha
    .rw[m9.mp ha];exact we.1
   .rcases m6.mp ha with ha |ha
    .exact m6.mpr (.inl (A.inL a ha))
    .rw[m9.mp ha,<-ee];exact m6.mpr (.inr (.head _))
  .refine⟨B,A.ad.snocO k x xs e1 hk,A.bk,A.wd,A.id,λa ha=>m6.mpr (.inl (A.inL a ha)),by simp;have:=A.len;lia⟩
def bka'{L:List Dp}(h:BkW L):∃B,BkA L B:=bka _ L rfl h
def T2(x:f8)(xs:List f8):dIx (.tuple (x::xs)) (.int 0)=some x:=P8 (xs:=x::xs) (j:=0) (by simp)
def Bd(x y:f8)(xs:List f8):dIx (.tuple (x::y::xs)) (.int 1)=some y:=P8 (xs:=x::y::xs) (j:=1) (by simp)
def Ur(x y z:f8)(xs:List f8):dIx (.tuple (x::y::z::xs)) (.int 2)=some z:=P8 (xs:=x::y::z::xs) (j:=2) (by simp)
def aJ(x y z u:f8)(xs:List f8):dIx (.tuple (x::y::z::u::xs)) (.int 3)=some u:=P8 (xs:=x::y::z::u::xs) (j:=3) (by simp)
def Tc(w:Str):Q3 [.str w]=some (.int (w.length:Int)):=rfl
def nU(a:Ad):L6 [a.d]=.ok (.int (a.w.length:Int)):=by
 unfold L6 X2 W8 Ad.d;simp_arith [vIf,T2,aJ,W6,jQ,Tc]
def nT{k:Str}{i:f8}{xs:List f8}(h:k≠"add"):L6 [.tuple (.str k::i::xs)]=.ok (.int 0):=by
 unfold L6 X2 W8;have:(k==("add" : Str))=false:=beq_eq_false_iff_ne.mpr h;simp_arith [vIf,T2,W6,this]
def Zl(kvs:Kvs)(x:f8):f8:=(L0 kvs x).getD (.list [])
def U4(x y:Option (IdP×Nat)):l6 (anD x) (anD y)=decide (x=y):=by
 cases x with
 |none=>cases y with
  |none=>rfl
  |some s=>rfl
 |some s=>cases y with
  |none=>rfl
  |some t=>
   show((l6 (idP s.1) (idP t.1))&&((l6 (.int s.2) (.int t.2))&&true))=_;show(((s.1.1==t.1.1)&&((s.1.2==t.1.2)&&true))&&(((s.2:Int)==(t.2:Int))&&true))=_;rw[CZ];obtain⟨⟨a,b⟩,c⟩:=s;obtain⟨⟨a',b'⟩,c'⟩:=t;simp;intro _ _;lia
def rT(kvs:Kvs):Prop:=∀p∈kvs,(∃x,p.1=anD x)/\∃ds,p.2=.list ds
def jP{kvs:Kvs}(h:rT kvs)(x:Option (IdP×Nat))(v:f8):rT (Iy kvs (anD x) v)/\∀y,∃ds,Zl kvs (anD y)=.list ds/\Zl (Iy kvs (anD x) v) (anD y)=.list (if x=y then ds++[v] else ds):=by
 induction kvs with
 |nil=>
  refine⟨λp hp=>?_,λy=>⟨[],rfl,?_⟩⟩
  .rw[m9.mp hp];exact⟨⟨x,rfl⟩,_,rfl⟩
  .show((List.find? (λp=>l6 p.1 (anD y)) [(anD x,IC [v])]).map (·.2)).getD (.list [])=_
   rw[z9,U4];by_cases c:x=y
   .rw[decide_eq_true c,iq c];rfl
   .rw[decide_eq_false c,ir c];rfl
 |cons p r ih=>
  obtain⟨⟨z,hz⟩,ds0,hd⟩:=h p (.head _);obtain⟨i1,i2⟩:=ih λq hq=>h q (.tail _ hq);unfold Iy;rw[hz,U4];by_cases c:z=x
  .rw[iq (decide_eq_true c),hd]
   refine⟨λq hq=>?_,λy=>?_⟩
   .rcases j9.mp hq with rfl |hq
    .exact⟨⟨z,rfl⟩,_,rfl⟩
    .exact h q (.tail _ hq)
   .unfold Zl L0
    rw[z9,z9,hz,U4];by_cases c2:z=y
    .rw[decide_eq_true c2]
     exact⟨ds0,by rw[show(some p:Option (f8×f8)).map (·.2)=some p.2 from rfl,hd];rfl,by rw[iq (c.symm.trans c2)];rfl⟩
    .rw[decide_eq_false c2]
     obtain⟨ds,e1,_⟩:=i2 y;exact⟨ds,e1,by rw[ir (λw=>c2 (c.trans w))];exact e1⟩
  .rw[ir (by rw[decide_eq_false c];decide)]
   refine⟨λq hq=>?_,λy=>?_⟩
   .rcases j9.mp hq with rfl |hq
    .exact⟨⟨z,hz⟩,_,hd⟩
    .exact i1 q hq
   .unfold Zl L0
    rw[z9,z9,hz,U4];by_cases c2:z=y
    .rw[decide_eq_true c2]
     exact⟨ds0,by rw[show(some p:Option (f8×f8)).map (·.2)=some p.2 from rfl,hd];rfl,by rw[ir (λw=>c (c2.trans w.symm)),show(some p:Option (f8×f8)).map (·.2)=some p.2 from rfl,hd];rfl⟩
    .rw[decide_eq_false c2]
     exact i2 y
def Iw(x:Option (IdP×Nat)):nkD (anD x)=true:=by
 cases x with
 |none=>rfl
 |some s=>simp[anD,nkD,Kt,isK,CW,CI]
def AK{L:List Dp}{B:List Ad}(h:Adds L B)(hp:∀a∈B,0<a.w.length)(bk:f8):∀(kvs:Kvs),rT kvs->∃out,Gh [.sh bk,.un,.un] 2 (C3 (b2 (C9 (A2 (A0 2) A7) L6) (vC (.int 0)) (Fg .Gt))) (b2 (A0 2) (vC (.int 2)) dIx) (A0 2) (L.map (·.1)) kvs=.ok out /\
 ∀y,∃ds,Zl kvs (anD y)=.list ds/\Zl out (anD y)=.list (ds++(B.filter λa=>a.b=y).map Ad.d):=by
 induction h with
 |nil=>
  intro kvs g;refine⟨kvs,rfl,λy=>?_⟩;obtain⟨ds,e,_⟩:=(jP g none .none).2 y;exact⟨ds,e,by simpa using e⟩
 |@add L B a _ ih=>
  intro kvs g;obtain⟨g1,g2⟩:=jP g a.b a.d;obtain⟨out,e,k⟩:=ih (λc hc=>hp c (.tail _ hc)) _ g1;have ha:=hp a (.head _);have gt:Fg .Gt (.int (a.w.length:Int)) (.int 0)=some (.bool true):=by
   show some (GR (decide ((0:Int)<a.w.length)))=_;rw[decide_eq_true (by lia)]
  refine⟨out,?_,λy=>?_⟩
  .rw[k6]
   unfold Gh;have e1:(C3 (b2 (C9 (A2 (A0 2) A7) L6) (vC (.int 0)) (Fg .Gt))) ([Sl.sh bk,.un,.un].set 2 (.sh a.d))=.ok true:=by simp_arith [nU,gt]
   have e2:(b2 (A0 2) (vC (.int 2)) dIx) ([Sl.sh bk,.un,.un].set 2 (.sh a.d))=.ok (anD a.b):=by unfold Ad.d;simp_arith [Ur]
   rw[e1,e2];show(if nkD (anD a.b)=true then _ else _)=_;rw[iq (Iw _)];exact e
  .obtain⟨ds,e3,e4⟩:=g2 y
   obtain⟨ds',e5,e6⟩:=k y;rw[e4]at e5;cases e5;refine⟨ds,e3,?_⟩;rw[e6];by_cases c:a.b=y
   .rw[iq c,z7,iq (by simpa using c)];simp
   .rw[ir c,z7,ir (by simpa using c)]
 |@oth L B e k x xs he hk _ ih=>
  intro kvs g;obtain⟨out,e2,kk⟩:=ih hp kvs g;refine⟨out,?_,kk⟩;rw[k6];unfold Gh;have gt:Fg .Gt (.int 0) (.int 0)=some (.bool false):=rfl;have e1:(C3 (b2 (C9 (A2 (A0 2) A7) L6) (vC (.int 0)) (Fg .Gt))) ([Sl.sh bk,.un,.un].set 2 (.sh e.1))=.ok false:=by rw[he];simp_arith [nT hk,gt]
  rw[e1];exact e2
def mL{L:List Dp}{B:List Ad}(A:BkA L B)(hl:L.length<=10):∃out,U2 [.tuple (L.map (·.1))]=.ok out/\∀y,Zl out (anD y)=.list ((B.filter λa=>a.b=y).map Ad.d):=by
 obtain⟨out,e,k⟩:=AK A.ad A.bk.pos (.tuple (L.map (·.1))) [] (λ_ h=>nomatch h);refine⟨out,?_,λy=>?_⟩
 .unfold U2 Bs Am fnW O3 Di Ac bH Vv
  simp only[k6,EE,l7,BM,FZ,FY,u6,DC,BK,t9,u5,GP,OH,Fk,Hw,B9,D8,D2];rw[iq ⟨by rw[i7];lia,by decide⟩,e];rfl
 .obtain⟨ds,e1,e2⟩:=k y
  cases e1;exact e2
def dW:Dn->Out:=(C5 (kL 2 4) (C5 (E4 5 (b2 (A0 4) (vC (.int 0)) dIx)) (C5 (E4 6 (b2 (A0 4) (vC (.int 1)) dIx)) (C5 (E4 7 (E5 (A2 (b2 (A0 5) (vC (.int 1)) dIx) (A2 (A0 6) A7)))) (C5 (Dj 3 (E5 (A2 (A0 7) (A2 (b2 (b2 (A0 5) (vC (.int 3)) dIx) (A0 6) dIx) A7)))) (C5 (sIf (C3 (b2 (b2 (A0 6) (vC (.int 1)) C7) (vFn (A2 (b2 (A0 5) (vC (.int 3)) dIx) A7) Q3) (E6 .Lt))) (Dj 2 (E5 (A2 (A0 5) (A2 (b2 (A0 6) (vC (.int 1)) C7) A7)))) F8) (kN 2 (G6 (λδ=>((Jq 1 (A0 7) (K8 A7)) δ).bind D8) F7 [] M5 (E5 (A2 (A0 0) (A2 (vC (.int 0)) A7)))))))))))
abbrev wt(u:As):f8:=.tuple [u.1.d,.int (u.2:Int)]
def ltr(u:As):Str:=⟨#[u.1.w.cps.toList.getD u.2 0]⟩
abbrev sgA(u:As):f8:=sgD u.1.p (u.2:Int)
abbrev tl(u:As):f8:=.tuple [sgA u,.str (ltr u)]
def Yh(x:Str):x.length=x.cps.toList.length:=by unfold Str.length;simp
def pX{u:As}(h:u.2<u.1.w.length):dIx (.str u.1.w) (.int (u.2:Int))=some (.str (ltr u)):=by
 have h':u.2<u.1.w.cps.toList.length:=by rw[<-Yh];exact h
 show(atI u.1.w.cps.toList (u.2:Int)).map _=_;rw[P8 h'];unfold ltr;rw[HR,BY h'];rfl
def sI{i j:Nat}{δ:Dn}{W:List f8}{d:f8}(h:δ[i]?=some (.ow (.list (W++[d]))))(hij:i≠j):kL i j δ=.nx ((δ.set i (.ow (.list W))).set j (.sh d)):=by
 unfold kL;rw[h];simp[hij]
def Fz{i:Nat}{δ:Dn}{f:Dn->Res f8}{W:List f8}{d:f8}(h:δ[i]?=some (.ow (.list W)))(hf:f δ=.ok d)(hl:W.length<=1000):Dj i f δ=.nx (δ.set i (.ow (.list (W++[d])))):=by
 unfold Dj;rw[h];show K1 (f δ) _=_;rw[hf,D2,iq (HA hl (by decide))]
def sJ{i:Nat}{δ:Dn}{f:Dn->Res (List f8)}{W ds:List f8}(h:δ[i]?=some (.ow (.list W)))(hf:f δ=.ok ds)(hl:W.length+ds.length<=1000):kN i f δ=.nx (δ.set i (.ow (.list (W++ds)))):=by
 unfold kN;rw[h];show K1 (f δ) _=_;rw[hf,D2,iq (l9 hl (by decide))]
def jH(δc:Dn):∀ds:List Ad,E2 F7 δc M5 (E5 (A2 (A0 0) (A2 (vC (.int 0)) A7))) (ds.map Ad.d)=.ok (ds.map λa=>wt (a,0))
 |ds=>Iq Ad.d (λa=>wt (a,0)) (λa=>by simp_arith;rfl) ds
def Run.len{B:List Ad}{st out:List As}(h:Run B st out):st.length<=out.length:=by
 induction h with
 |nil=>exact s0 _
 |step _ ih=>simp only[k7,l7]at ih ⊢;lia
def uX(B:List Ad)(u:As):(Ks B u).map wt=((B.filter λa=>a.b=some (sgn u)).map λa=>wt (a,0)):=by
 unfold Ks;rw[DU];rfl
def sG{B:List Ad}{b:f8}{kvs:Kvs}(hk:∀y,Zl kvs (anD y)=.list ((B.filter λa=>a.b=y).map Ad.d)){u:As}(hu:u.2<u.1.w.length)(W T:List f8)(hl:W.length+1+(Ks B u).length<=900)(hT:T.length<=900)(s4 s5 s6 s7:Sl):
 ∃t4 t5 t6 t7,dW [.sh b,.ow (.tuple [.dict kvs,.none]),.ow (.list (W++[wt u])),.ow (.list T),s4,s5,s6,s7]=.nx [.sh b,.ow (.tuple [.dict kvs,.none]),.ow (.list (W++(nxt u).map wt++(Ks B u).map wt)),.ow (.list (T++[tl u])),t4,t5,t6,t7]:=by
 refine ⟨.sh (wt u),.sh u.1.d,.sh (.int u.2),.sh (sgA u),?_⟩;unfold dW;rw [B4 (sI (W:=W) rfl (by decide))];simp only [t9,u5];rw [B4 (D4 (d:=u.1.d) (by simp_arith [T2]))];simp only [t9,u5];rw [B4 (D4 (d:=.int (u.2:Int)) (by simp_arith [Bd]))];simp only [t9,u5];rw [B4 (D4 (d:=sgA u) (by unfold Ad.d; simp_arith [Bd]))];simp only [t9,u5];rw [B4 (Fz (W:=T) (d:=tl u) rfl (by unfold Ad.d; simp_arith [aJ,pX hu]) (by lia))];simp only [t9,u5];have hif : sIf (C3 (b2 (b2 (A0 6) (vC (.int 1)) C7) (vFn (A2 (b2 (A0 5) (vC (.int 3)) dIx) A7) Q3) (E6 .Lt))) (Dj 2 (E5 (A2 (A0 5) (A2 (b2 (A0 6) (vC (.int 1)) C7) A7)))) F8 [.sh b,.ow (.tuple [.dict kvs,.none]),.ow (.list W),.ow (.list (T ++ [tl u])),.sh (wt u),.sh u.1.d,.sh (.int u.2),.sh (sgA u)]
  =.nx [.sh b,.ow (.tuple [.dict kvs,.none]),.ow (.list (W++(nxt u).map wt)),.ow (.list (T++[tl u])),.sh (wt u),.sh u.1.d,.sh (.int u.2),.sh (sgA u)]:=by
  unfold nxt;by_cases c:u.2+1<u.1.w.length
  .rw[iq c,W5 (by unfold Ad.d;simp_arith [aJ,Tc,W4,lC (show(u.2:Int)+1<(u.1.w.length:Int) by lia)])]
   rw[Fz (W:=W) (d:=wt (u.1,u.2+1)) rfl (by simp_arith [W4];rfl) (by lia)];rfl
  .rw[ir c,Q4 (by unfold Ad.d;simp_arith [aJ,Tc,W4,lD (show ¬(u.2:Int)+1<(u.1.w.length:Int) by lia)])]
   simp[F8]
 rw[B4 hif];have hnl:(nxt u).length<=1:=by unfold nxt;split <;> simp
 have hgl:(B.filter λa=>a.b=some (sgn u)).length=(Ks B u).length:=by unfold Ks;rw[i7]
 have hget:(λδ=>((Jq 1 (A0 7) (K8 A7)) δ).bind D8) [.sh b,.ow (.tuple [.dict kvs,.none]),.ow (.list (W++(nxt u).map wt)),.ow (.list (T++[tl u])),.sh (wt u),.sh u.1.d,.sh (.int u.2),.sh (sgA u)]=.ok ((B.filter λa=>a.b=some (sgn u)).map Ad.d):=by
  refine E3 (d:=.list ((B.filter λa=>a.b=some (sgn u)).map Ad.d)) ?_ rfl;rw[<-hk (some (sgn u))];show(if nkD (anD (some (sgn u)))=true then Res.ok ((L0 kvs (anD (some (sgn u)))).getD (.list [])) else Res.no)=_;rw[iq (Iw (some (sgn u)))];rfl
 rw[sJ (W:=W++(nxt u).map wt) (ds:=(Ks B u).map wt) rfl (I8 hget (by rw[i7,hgl];lia) rfl (by rw[uX];exact jH _ _)) (by simp only[k7,i7];lia)];rfl
def mR{B:List Ad}{b:f8}{kvs:Kvs}(hk:∀y,Zl kvs (anD y)=.list ((B.filter λa=>a.b=y).map Ad.d)){st out:List As}(h:Run B st out):(∀u∈out,u.2<u.1.w.length)->∀(n:Nat) (T:List f8) (s4 s5 s6 s7:Sl),out.length<n->T.length+out.length<=800 ->
 ∃t4 t5 t6 t7,Ie (dS 2) dW n [.sh b,.ow (.tuple [.dict kvs,.none]),.ow (.list (st.reverse.map wt)),.ow (.list T),s4,s5,s6,s7]=.nx [.sh b,.ow (.tuple [.dict kvs,.none]),.ow (.list []),.ow (.list (T++out.map tl)),t4,t5,t6,t7]:=by
 induction h with
 |nil=>
  intro _ n T s4 s5 s6 s7 hn _;cases n with
  |zero=>cases hn
  |succ n=>
   refine⟨s4,s5,s6,s7,?_⟩;unfold Ie;rw[show dS 2 [Sl.sh b,.ow (.tuple [.dict kvs,.none]),.ow (.list (([]:List As).reverse.map wt)),.ow (.list T),s4,s5,s6,s7]=.ok false from rfl,D2,ir (by decide)];simp
 |@step u st out h ih=>
  intro hu n T s4 s5 s6 s7 hn hT;have hlen:=h.len;simp only[k7,CQ,l7]at hlen hn hT;cases n with
  |zero=>cases hn
  |succ n=>
   have e1:(u::st).reverse.map wt=st.reverse.map wt++[wt u]:=by rw[IK,z4];rfl
   rw[e1];obtain⟨a4,a5,a6,a7,e2⟩:=sG (b:=b) hk (hu u (.head _)) (st.reverse.map wt) T (by rw[i7,CQ];lia) (by lia) s4 s5 s6 s7;have e3:(st.reverse.map wt++(nxt u).map wt++(Ks B u).map wt)=((Ks B u).reverse++(nxt u++st)).reverse.map wt:=by
    have hr:(nxt u).reverse=nxt u:=by unfold nxt;split <;> rfl
    rw[JM,JM,PJ,hr,z4,z4]
   rw[e3]at e2;obtain⟨t4,t5,t6,t7,e4⟩:=ih (λv hv=>hu v (.tail _ hv)) n (T++[tl u]) a4 a5 a6 a7 (by lia) (by rw[k7];simp;lia);refine⟨t4,t5,t6,t7,?_⟩;unfold Ie;have ec:dS 2 [Sl.sh b,.ow (.tuple [.dict kvs,.none]),.ow (.list (st.reverse.map wt++[wt u])),.ow (.list T),s4,s5,s6,s7]=.ok true:=by
    show Res.ok (!(st.reverse.map wt++[wt u]).isEmpty)=_;simp
   rw[ec,D2,iq rfl,e2];show Ie (dS 2) dW n _=_;rw[e4,x6];rfl
def gZ{B:List Ad}(h:∀a∈B,Uo a.w):(sgs B).length<=4*B.length:=by
 unfold sgs;induction B with
 |nil=>exact s0 _
 |cons a B ih=>
  rw[List.flatMap_cons,k7,l7];have:=ih λc hc=>h c (.tail _ hc);have h2:=(h a (.head _)).2.1;have h3:(blk a).length=a.w.length:=by unfold blk;simp
  lia
def Ds{L:List Dp}{B:List Ad}(A:BkA L B):(ord B).length<=4*L.length:=by
 have h1:=(bU A.bk).length_eq;have h2:=gZ A.wd;have h3:=A.len;lia
def aW{L:List Dp}{B:List Ad}(A:BkA L B)(hl:L.length<=10):Ag [.tuple (L.map (·.1))]=.ok (.list ((ord B).map tl)):=by
 obtain⟨kvs,e1,hk⟩:=mL A hl;have hol:=Ds A;unfold Ag Ft T5;refine N2 ?_;unfold O3;simp only[k6,EE,l7,BM,FZ,FY,u6,DC,BK];rw[B4 (δ':=[.sh (.tuple (L.map (·.1))),.ow (.tuple [.dict kvs,.none]),.un,.un,.un,.un,.un,.un]) (by unfold Ef U7 Ey;simp_arith [e1])];have hrl:(Ny B).length<=40:=by
  have:=(hV A.bk).len;rw[CQ]at this;lia
 have hgl:(B.filter λa=>a.b=none).length=(Ny B).length:=by unfold Ny;rw[i7]
 have hget:(λδ=>((Jq 1 (vC .none) (K8 A7)) δ).bind D8) [.sh (.tuple (L.map (·.1))),.ow (.tuple [.dict kvs,.none]),.un,.un,.un,.un,.un,.un]=.ok ((B.filter λa=>a.b=none).map Ad.d):=by
  refine E3 (d:=.list ((B.filter λa=>a.b=none).map Ad.d)) ?_ rfl;rw[<-hk none];rfl
 rw[B4 (δ':=[.sh (.tuple (L.map (·.1))),.ow (.tuple [.dict kvs,.none]),.ow (.list (((Ny B).reverse).reverse.map wt)),.un,.un,.un,.un,.un]) (by
  unfold Ee Lo;rw[I8 hget (by rw[i7,hgl];lia) rfl (jH _ _),D2,PJ];unfold Ny;rw[DU];rfl)]
 rw[B4 (δ':=[.sh (.tuple (L.map (·.1))),.ow (.tuple [.dict kvs,.none]),.ow (.list (((Ny B).reverse).reverse.map wt)),.ow (.list []),.un,.un,.un,.un]) (by rfl)];obtain⟨t4,t5,t6,t7,e2⟩:=mR (b:=.tuple (L.map (·.1))) hk (hV A.bk) (λu hu=>((X4 A.bk u).mp hu).2) 4096 [] .un .un .un .un (by lia) (by simp;lia);rw[BK]at e2;have e3:Ed=Ie (dS 2) dW 4096:=rfl;rw[e3,B4 e2];rfl
def Xr:Dn->Out:=(sIf (O5 (C3 (b2 (b2 (A0 2) (vC (.int 0)) dIx) (vC (.str "undo")) dEq)) (C3 (Bc true 1 (b2 (A0 2) (vC (.int 1)) dIx)))) (Z6 1 (b2 (A0 2) (vC (.int 2)) dIx) (vC (.bool true))) F8)
def Nv:Dn->Out:=(sIf (O5 (C3 (b2 (b2 (A0 3) (vC (.int 0)) dIx) (vC (.str "drop")) dEq)) (C3 (Bc true 1 (b2 (A0 3) (vC (.int 1)) dIx)))) (K7 (λδ=>((b2 (A0 3) (vC (.int 2)) dIx) δ).bind D8) (st1 4) (Z6 2 (A0 4) (vC (.bool true)))) F8)
abbrev sgO(s:IdP×Nat):f8:=anD (some s)
inductive Kd(e:Dp):Prop where
 |drop (ss:List (IdP×Nat)):e.1=.tuple [.str "drop",idP e.2,.tuple (ss.map sgO)]->ss.length<=60->Kd e
 |undo (q:IdP):e.1=.tuple [.str "undo",idP e.2,idP q]->Kd e
 |oth (k:Str) (x:f8) (xs:List f8):e.1=.tuple (.str k::idP e.2::x::xs)->k≠"drop"->k≠"undo"->Kd e
theorem aZ{T:Int}{D:List f8}:∀(sg:List f8),(∀x∈sg,SgOf T D x)->∃ss:List (IdP×Nat),sg=ss.map sgO
 |[],_=>⟨[],rfl⟩
 |x::sg,h=>by
  obtain⟨ss,e⟩:=aZ sg λy hy=>h y (.tail _ hy);obtain⟨p,b,w,n,_,e1,_⟩:=h x (.head _);exact⟨(p,n)::ss,by rw[k6,<-e,e1];rfl⟩
def WfIn.kd{L:List Dp}{e:Dp}(h:WfIn L e):Kd e:=by
 obtain⟨o,r⟩:=(show Wf _ _ _ _ from h);rcases r with⟨b,w,e1,_⟩ |⟨sg,e1,hs,hl,_⟩ |⟨n,s1,x1,s2,x2,e1,_⟩ |⟨n,e1,_⟩ |⟨q,e1,_⟩
 .exact .oth "add" _ _ e1 (by decide) (by decide)
 .obtain⟨ss,rfl⟩:=aZ sg hs
  exact .drop ss e1 (by simpa using hl)
 .exact .oth "mark" _ _ e1 (by decide) (by decide)
 .exact .oth "unmark" _ _ e1 (by decide) (by decide)
 .exact .undo q e1
def Kd.id{e:Dp}(h:Kd e):∃k x xs,e.1=.tuple (.str k::idP e.2::x::xs):=by
 cases h with
 |drop ss h _=>exact⟨_,_,_,h⟩
 |undo q h=>exact⟨_,_,_,h⟩
 |oth k x xs h _ _=>exact⟨_,_,_,h⟩
abbrev oN(kvs:Kvs):Sl:=.ow (.tuple [.dict kvs,.none])
abbrev fN(kvs:Kvs):Sl:=.fd ((.dict [],.none)::kvs)
def Fo{b:Bool}{i:Nat}{f:Dn->Res f8}{δ:Dn}{kvs:Kvs}{kd:f8}(h:kvN δ i=some kvs)(hf:f δ=.ok kd)(hk:nkD kd=true):Bc b i f δ=.ok (.bool ((L0 kvs kd).isSome != b)):=by
 unfold Bc;rw[hf,B9,h];show(if nkD kd=true then _ else _)=_;rw[iq hk]
def Ku(p:IdP):nkD (idP p)=true:=by simp[nkD,Kt,isK,CW,CI]
def Ib{i:Nat}{fk fv:Dn->Res f8}{δ:Dn}{kvs:Kvs}{kd v:f8}(h:δ[i]?=some (oN kvs))(hv:fv δ=.ok v)(hk:fk δ=.ok kd)(hn:nkD kd=true)(hl:kvs.length<=1000):Z6 i fk fv δ=.nx (δ.set i (oN (Q8 kvs kd v))):=by
 unfold Z6;rw[h];show K1 (fv δ) _=_;rw[hv,D2,hk,D2,iq ⟨hn,HA hl (by decide)⟩]
def Z5{x y:Str}(h:x≠y):(x==y)=false:=beq_eq_false_iff_ne.mpr h
def Hs(x:Str):(x==x)=true:=beq_self_eq_true x
abbrev has(kvs:Kvs)(y:Option (IdP×Nat)):Bool:=(L0 kvs (anD y)).isSome
abbrev Mk(kvs:Kvs):Prop:=∀p∈kvs,∃x,p.1=anD x
def oG{kvs:Kvs}(h:Mk kvs)(x:Option (IdP×Nat))(v:f8):Mk (Q8 kvs (anD x) v)/\∀y,has (Q8 kvs (anD x) v) y=(decide (x=y)||has kvs y):=by
 induction kvs with
 |nil=>
  refine⟨λp hp=>?_,λy=>?_⟩
  .rw[m9.mp hp];exact⟨x,rfl⟩
  .show((List.find? (λp=>l6 p.1 (anD y)) [(anD x,v)]).map (·.2)).isSome=_
   rw[z9,U4];cases decide (x=y) <;> rfl
 |cons p r ih=>
  obtain⟨z,hz⟩:=h p (.head _);obtain⟨i1,i2⟩:=ih λq hq=>h q (.tail _ hq);unfold Q8;rw[hz,U4];by_cases c:z=x
  .rw[iq (decide_eq_true c)]
   refine⟨λq hq=>?_,λy=>?_⟩
   .rcases j9.mp hq with rfl |hq
    .exact⟨z,rfl⟩
    .exact h q (.tail _ hq)
   .unfold has L0
    rw[z9,z9,hz,U4,c];cases decide (x=y) <;> rfl
  .rw[ir (by rw[decide_eq_false c];decide)]
   refine⟨λq hq=>?_,λy=>?_⟩
   .rcases j9.mp hq with rfl |hq
    .exact⟨z,hz⟩
    .exact i1 q hq
   .unfold has L0
    rw[z9,z9,hz,U4];cases hd:decide (z=y) with
    |true=>simp
    |false=>exact i2 y
def Ay(un:IdP->Bool)(e:Dp)(s:IdP×Nat):Bool:=match e.1 with
 |.tuple (.str k::_::.tuple xs::_)=>(k== "drop")&&(!un e.2)&&(xs.any λy=>l6 y (sgO s))
 |_=>false
def Xl{un:IdP->Bool}{e:Dp}{s:IdP×Nat}{k:Str}{i x:f8}{xs:List f8}(h:e.1=.tuple (.str k::i::x::xs))(hk:k≠"drop"):Ay un e s=false:=by
 unfold Ay;rw[h];split
 .rename_i heq
  injection heq with heq
  injection heq with h1 _
  injection h1 with h1
  rw[<-h1,Z5 hk];rfl
 .rfl
theorem bM(b:f8)(ku:Kvs)(s3:Sl):∀(ss:List (IdP×Nat)) (kvs:Kvs) (s4:Sl),Mk kvs->kvs.length+ss.length<=900->∃kvs' s4',Mk kvs'/\kvs'.length<=kvs.length+ss.length/\(∀y,has kvs' y=(has kvs y||ss.any λs=>decide (some s=y))) /\
 E9 (st1 4) (Z6 2 (A0 4) (vC (.bool true))) (ss.map sgO) [.sh b,fN ku,oN kvs,s3,s4]=.nx [.sh b,fN ku,oN kvs',s3,s4']
 |[],kvs,s4,hk,_=>⟨kvs,s4,hk,by simp,λy=>by simp,rfl⟩
 |s::ss,kvs,s4,hk,hl=>by
  rw[l7]at hl;obtain⟨g1,g2⟩:=oG hk (some s) (.bool true);have l1:=Fd (k:=sgO s) (v:=GR true) kvs;obtain⟨kvs',s4',k1,k2,k3,k4⟩:=bM b ku s3 ss (Q8 kvs (sgO s) (.bool true)) (.sh (sgO s)) g1 (by lia);refine⟨kvs',s4',k1,by rw[l7];lia,λy=>?_,?_⟩
  .rw[k3,g2,OE]
   cases decide (some s=y) <;> simp
  .rw[k6]
   unfold E9;simp only[st1,t9,u5];rw[Ib (kd:=sgO s) (v:=.bool true) rfl rfl rfl (Iw _) (by lia)];exact k4
def qX{e:Dp}(h:Kd e)(b:f8)(ku kvs:Kvs)(s4:Sl)(hk:Mk kvs)(hl:kvs.length<=800):∃kvs' s4',Mk kvs'/\kvs'.length<=kvs.length+60/\(∀s,has kvs' (some s)=(has kvs (some s)||Ay (λp=>(L0 ku (idP p)).isSome) e s)) /\
 Nv [.sh b,fN ku,oN kvs,.sh e.1,s4]=.nx [.sh b,fN ku,oN kvs',.sh e.1,s4']:=by
 have no : ∀ k x xs,e.1 = .tuple (.str k::idP e.2::x::xs) -> k≠"drop" -> ∃ kvs' s4',Mk kvs' /\ kvs'.length <= kvs.length+60 /\ (∀ s,has kvs' (some s) = (has kvs (some s)||Ay (λp => (L0 ku (idP p)).isSome) e s)) /\
  Nv [.sh b,fN ku,oN kvs,.sh e.1,s4]=.nx [.sh b,fN ku,oN kvs',.sh e.1,s4']:=λk x xs e1 hn=>by
  refine⟨kvs,s4,hk,by lia,λs=>by rw[Xl e1 hn,KH],?_⟩;unfold Nv;rw[Q4 (Gn (by rw[e1];simp_arith [T2,W6,Z5 hn]))];rfl
 cases h with
 |undo q h=>exact no _ _ _ h (by decide)
 |oth k x xs h h1 _=>exact no _ _ _ h h1
 |drop ss h hss=>
  have c1:(C3 (b2 (b2 (A0 3) (vC (.int 0)) dIx) (vC (.str "drop")) dEq)) [.sh b,fN ku,oN kvs,.sh e.1,s4]=.ok true:=by rw[h];simp_arith [T2,W6,Hs]
  have c2:(C3 (Bc true 1 (b2 (A0 3) (vC (.int 1)) dIx))) [.sh b,fN ku,oN kvs,.sh e.1,s4]=.ok ((L0 ku (idP e.2)).isSome != true):=by
   refine C4 (Fo rfl ?_ (Ku e.2));rw[h];simp_arith [Bd]
  have hd:∀s,Ay (λp=>(L0 ku (idP p)).isSome) e s=(!(L0 ku (idP e.2)).isSome&&ss.any λt=>decide (some t=some s)):=λs=>by
   unfold Ay;rw[h];show(("drop" : Str)== "drop"&&(!(L0 ku (idP e.2)).isSome)&&((ss.map sgO).any λy=>l6 y (sgO s)))=_;rw[Hs,OF,KT];congr 1;congr 1;funext t;exact U4 _ _
  unfold Nv;cases c:(L0 ku (idP e.2)).isSome with
  |true=>
   rw[c]at c2 hd;rw[Q4 (Gm c1 c2)];exact⟨kvs,s4,hk,by lia,λs=>by rw[hd];simp,rfl⟩
  |false=>
   rw[c]at c2 hd;obtain⟨kvs',s4',k1,k2,k3,k4⟩:=bM b ku (.sh e.1) ss kvs s4 hk (by lia);refine⟨kvs',s4',k1,by lia,λs=>by rw[k3,hd];simp,?_⟩;rw[W5 (Gk c1 c2)];unfold K7;rw[E3 (d:=.tuple (ss.map sgO)) (ds:=ss.map sgO) (by rw[h];simp_arith [Ur]) rfl,D2];exact k4
theorem cY(b:f8)(ku:Kvs):∀(ds:List Dp),(∀e∈ds,Kd e)->∀(kvs:Kvs) (s3 s4:Sl),Mk kvs->kvs.length+60*ds.length<=800->∃kvs' s3' s4',Mk kvs'/\(∀s,has kvs' (some s)=(has kvs (some s)||ds.any λe=>Ay (λp=>(L0 ku (idP p)).isSome) e s)) /\
 E9 (st1 3) Nv (ds.map (·.1)) [.sh b,fN ku,oN kvs,s3,s4]=.nx [.sh b,fN ku,oN kvs',s3',s4']
 |[],_,kvs,s3,s4,hk,_=>⟨kvs,s3,s4,hk,λs=>by simp,rfl⟩
 |e::ds,h,kvs,s3,s4,hk,hl=>by
  rw[l7]at hl;obtain⟨kvs1,t4,g1,g2,g3,g4⟩:=qX (h e (.head _)) b ku kvs s4 hk (by lia);obtain⟨kvs2,u3,u4,k1,k2,k3⟩:=cY b ku ds (λd hd=>h d (.tail _ hd)) kvs1 (.sh e.1) t4 g1 (by lia);refine⟨kvs2,u3,u4,k1,λs=>by rw[k2,g3,OE,Bool.or_assoc],?_⟩;rw[k6];unfold E9;simp only[st1,t9,u5];rw[g4];exact k3
def AQ{L:List Dp}(h:∀e∈L,Kd e)(hl:L.length<=10)(ku:Kvs):∃kd,P0 [.sh (.tuple (L.map (·.1))),fN ku]=.ok kd/\∀s,has kd (some s)=L.any λe=>Ay (λp=>(L0 ku (idP p)).isSome) e s:=by
 obtain⟨kd,s3,s4,k1,k2,k3⟩:=cY (.tuple (L.map (·.1))) ku L h [] .un .un (λ_ h=>nomatch h) (by simp;lia);refine⟨kd,?_,λs=>by rw[k2];rfl⟩;unfold P0 Cz Cc vE Fs Di Ac K7 Vv;simp only[l7,BM,FZ,FY,u6,DC,BK,t9,u5,Fk,GP,Hw,B9,D8,D2];have k3':=k3;unfold Nv at k3';unfold K7 at k3';rw[k3'];rfl
def jM:Dn->Out:=(Dj 3 (E5 (A2 (A0 4) (A2 (mU (Bc true 1 (b2 (b2 (A0 4) (vC (.int 0)) dIx) (vC (.int 0)) dIx)) (Bc true 2 (b2 (A0 4) (vC (.int 0)) dIx))) A7))))
abbrev bkD(L:List Dp):f8:=.tuple (L.map (·.1))
structure Pr(L:List Dp)(ku kd:Kvs):Prop where
 u:N7 [bkD L]=.ok ku
 d:P0 [.sh (bkD L),fN ku]=.ok kd
 h:∀s,has kd (some s)=L.any λe=>Ay (λp=>(L0 ku (idP p)).isSome) e s
def un(ku:Kvs)(p:IdP):Bool:=(L0 ku (idP p)).isSome
def N5(ku kd:Kvs)(u:As):Bool:=!(un ku u.1.p)&&!(has kd (some (sgn u)))
def bne_true(b:Bool):(b != true)=!b:=by cases b <;> rfl
def rZ{f g:Dn->Res f8}{δ:Dn}{a b:Bool}(h1:f δ=.ok (.bool a))(h2:g δ=.ok (.bool b)):mU f g δ=.ok (.bool (a&&b)):=by
 unfold mU;rw[h1,B9];cases a with
 |true=>exact h2
 |false=>rfl
theorem Wv(b:f8)(ku kd:Kvs):∀(us:List As) (T:List f8) (s4:Sl),T.length+us.length<=800->∃s4',E9 (st1 4) jM (us.map tl) [.sh b,fN ku,oN kd,.ow (.list T),s4]=.nx [.sh b,fN ku,oN kd,.ow (.list (T++us.map λu=>.tuple [tl u,.bool (N5 ku kd u)])),s4']
 |[],T,s4,_=>⟨s4,by simp[E9]⟩
 |u::us,T,s4,hl=>by
  rw[l7]at hl;obtain⟨s4',e⟩:=Wv b ku kd us (T++[.tuple [tl u,.bool (N5 ku kd u)]]) (.sh (tl u)) (by simp;lia);refine⟨s4',?_⟩;rw[k6];unfold E9;simp only[st1,t9,u5];have e1:(Bc true 1 (b2 (b2 (A0 4) (vC (.int 0)) dIx) (vC (.int 0)) dIx)) [.sh b,fN ku,oN kd,.ow (.list T),.sh (tl u)]=.ok (.bool (!(un ku u.1.p))):=by
   rw[Fo (kvs:=ku) (kd:=idP u.1.p) rfl (by simp_arith [T2]) (Ku _),bne_true];rfl
  have e2:(Bc true 2 (b2 (A0 4) (vC (.int 0)) dIx)) [.sh b,fN ku,oN kd,.ow (.list T),.sh (tl u)]=.ok (.bool (!(has kd (some (sgn u))))):=by
   rw[Fo (kvs:=kd) (kd:=sgA u) rfl (by simp_arith [T2]) (Iw (some (sgn u))),bne_true];rfl
  have e3:jM [.sh b,fN ku,oN kd,.ow (.list T),.sh (tl u)]=.nx [.sh b,fN ku,oN kd,.ow (.list (T++[.tuple [tl u,.bool (N5 ku kd u)]])),.sh (tl u)]:=by
   unfold jM;exact Fz rfl (T0 (A6 (d:=tl u) (by simp_arith) (A6 (rZ e1 e2) rfl))) (by lia)
  rw[e3];show E9 (st1 4) jM (us.map tl) _=_;rw[e,x6];rfl
def iD{L:List Dp}{B:List Ad}(A:BkA L B)(hl:L.length<=10){ku kd:Kvs}(P:Pr L ku kd):N8 [bkD L]=.ok (.list ((ord B).map λu=>.tuple [tl u,.bool (N5 ku kd u)])):=by
 have hol:=Ds A;obtain⟨s4,e⟩:=Wv (bkD L) ku kd (ord B) [] .un (by simp;lia);unfold N8 Br M8;refine N2 ?_;unfold O3;simp only[k6,EE,l7,BM,FZ,FY,u6,DC,BK];rw[B4 (δ':=[.sh (bkD L),oN ku,.un,.un,.un]) (by unfold Z9 U7 Ey;simp_arith [P.u])];rw[B4 (δ':=[.sh (bkD L),fN ku,oN kd,.un,.un]) (by
  unfold Z8 kM U7 Yb;show K1 (Res.bind (Res.ok (bkD L)) λd=>P0 [.sh d,fN ku]) _=_;rw[B9,P.d];rfl)]
 rw[B4 (δ':=[.sh (bkD L),fN ku,oN kd,.ow (.list []),.un]) (by rfl)];rw[BK]at e;have e3:V5 [.sh (bkD L),fN ku,oN kd,.ow (.list []),.un]=.nx [.sh (bkD L),fN ku,oN kd,.ow (.list ((ord B).map λu=>.tuple [tl u,.bool (N5 ku kd u)])),s4]:=by
  unfold V5 K7;rw[E3 (d:=.list ((ord B).map tl)) (ds:=(ord B).map tl) (by simp_arith [aW A hl]) rfl,D2];exact e
 rw[B4 e3];rfl
theorem W3{α:Type}{δc:Dn}{tt:Dn->Res Bool}{el:Dn->Res f8}(g h:α->f8)(f:α->Bool):∀xs:List α,(∀x∈xs,tt ([.sh (g x)]++δc)=.ok (f x))->(∀x∈xs,el ([.sh (g x)]++δc)=.ok (h x))->E2 F7 δc tt el (xs.map g)=.ok ((xs.filter f).map h)
 |[],_,_=>rfl
 |x::xs,ht,he=>by
  have ih:=W3 g h f xs (λy hy=>ht y (.tail _ hy)) λy hy=>he y (.tail _ hy);have h1:=ht x (.head _);have h2:=he x (.head _);rw[k6];unfold E2;cases c:f x with
  |true=>
   rw[c]at h1;simp only[F7,h1,h2,ih];rw[z7,c,iq rfl,k6]
  |false=>
   rw[c]at h1;simp only[F7,h1,ih];rw[z7,c,ir (by decide)]
def aY{L:List Dp}{B:List Ad}(A:BkA L B)(hl:L.length<=10){ku kd:Kvs}(P:Pr L ku kd):L8 [bkD L]=.ok (.list (((ord B).filter (N5 ku kd)).map tl)):=by
 have hol:=Ds A;have hp:=iD A hl P;unfold L8 Fu Go;refine N2 (L3 (N6 (I8 (E3 (d:=.list ((ord B).map λu=>.tuple [tl u,.bool (N5 ku kd u)])) (by simp_arith [hp]) rfl) (by simp;lia) rfl ?_)));exact W3 (λu=>.tuple [tl u,.bool (N5 ku kd u)]) tl (N5 ku kd) (ord B) (λu _=>by
  unfold Ev;exact C4 (by simp_arith [Bd])) λu _=>by unfold Ev;simp_arith [T2]
def pY{u:As}(hw:Uo u.1.w)(h:u.2<u.1.w.length):(ltr u).length=1/\z0 (ltr u)=true/\chOk 32 126 (ltr u):=by
 have h':u.2<u.1.w.cps.toList.length:=by rw[<-Yh];exact h
 have hc:=hw.2.2 _ (List.getElem_mem h');have e:u.1.w.cps.toList.getD u.2 0=u.1.w.cps.toList[u.2]:=by rw[HR,BY h'];rfl
 refine⟨rfl,?_,?_⟩
 .unfold ltr
  rw[e];generalize u.1.w.cps.toList[u.2]=c at hc;unfold z0;simp;lia
 .unfold ltr
  rw[e];exact .one hc
theorem Kk{α:Type}(f:α->Str):∀us:List α,Ei (us.map λu=>BU (f u))=some (us.map f)
 |[]=>rfl
 |u::us=>by
  show(Ei (us.map λu=>BU (f u))).map _=_;rw[Kk f us];rfl
def cL{us:List As}(h:∀u∈us,Uo u.1.w/\u.2<u.1.w.length)(hl:us.length<=100):Tt "" (.list (us.map λu=>BU (ltr u)))=some (.str (EH "" (us.map ltr))):=by
 have hx:∀x∈us.map ltr,x.length=1/\z0 x=true/\chOk 32 126 x:=λx hx=>by
  obtain⟨u,hu,rfl⟩:=t8.mp hx;exact pY (h u hu).1 (h u hu).2
 obtain⟨l1,o1,_⟩:=Nh _ hx;have s1:=Rb _ hx;rw[i7]at l1 s1;show(Ei (us.map λu=>BU (ltr u))).bind _=_;rw[Kk ltr us];show(if _ then _ else _)=_;have:(("" : Str)).length=0:=rfl;rw[iq ⟨by rw[s1,this];lia,o1,l9 (show _<=1000 by lia) Lh⟩]
def sB{L:List Dp}{B:List Ad}(A:BkA L B)(hl:L.length<=10){ku kd:Kvs}(P:Pr L ku kd):Q7 [bkD L]=.ok (.str (EH "" (((ord B).filter (N5 ku kd)).map ltr))):=by
 have hol:=Ds A;have hf:=DL (N5 ku kd) (ord B);have hs:=aY A hl P;have hj:=cL (us:=(ord B).filter (N5 ku kd)) (λu hu=>by
  have:=(X4 A.bk u).mp (BN.mp hu).1;exact⟨A.wd _ this.1,this.2⟩) (by lia)
 have hc:G6 (λδ=>((C9 (A2 (A0 0) A7) L8) δ).bind D8) F7 [] M5 (b2 (A0 0) (vC (.int 1)) dIx) [.sh (bkD L)]=.ok (((ord B).filter (N5 ku kd)).map λu=>BU (ltr u)):=
  I8 (E3 (d:=.list (((ord B).filter (N5 ku kd)).map tl)) (by simp_arith [hs]) rfl) (by simp;lia) rfl (Iq tl (λu=>BU (ltr u)) (λu=>by unfold Ev;simp_arith [Bd]) _)
 unfold Q7 Hy Jl;refine N2 (L3 ?_);show(Gs "" _ [.sh (bkD L)])=_;unfold Gs;rw[N6 hc,B9,hj];rfl
def F6{st:f8->Dn->Option Dn}{body:Dn->Out}{d:f8}{ds:List f8}{δ δ1 δ':Dn}(h1:st d δ=some δ1)(h2:body δ1=.nx δ'):E9 st body (d::ds) δ=E9 st body ds δ':=by
 conv=>lhs;unfold E9
 rw[h1];show(match body δ1 with |.nx δ'=>_ |.ct δ'=>_ |.bk δ'=>_ |o=>_)=_;rw[h2]
def cT(p q:IdP):l6 (idP p) (idP q)=decide (p=q):=by
 show((p.1==q.1)&&((p.2==q.2)&&true))=_;rw[CZ];simp[Prod.ext_iff]
def AS(p:IdP):(idP p).depth<=2:=iX p.1 p.2
def Qr(d:f8):Option IdP:=match d with
 |.tuple [.str k,_,.tuple [.int t,.str h]]=>if k="undo" then some (t,h) else none
 |_=>none
def eG{k:Str}{i x:f8}{xs:List f8}(h:k≠"undo"):Qr (.tuple (.str k::i::x::xs))=none:=by
 unfold Qr;split
 .rename_i heq
  injection heq with heq
  injection heq with h1 _
  injection h1 with h1
  rw[<-h1,ir h]
 .rfl
def aI(i:f8)(q:IdP):Qr (.tuple [.str "undo",i,idP q])=some q:=by
 unfold Qr;exact iq rfl
def Pj(e:Dp)(o:List IdP):List IdP:=match Qr e.1 with
 |some q=>if e.2∈o then o else o++[q]
 |none=>o
def Wz{e:Dp}{q:IdP}(h:e.1=.tuple [.str "undo",idP e.2,idP q])(o:List IdP):Pj e o=if e.2∈o then o else o++[q]:=by
 unfold Pj;rw[h,aI]
def bV{e:Dp}{k:Str}{i x:f8}{xs:List f8}(h:e.1=.tuple (.str k::i::x::xs))(hk:k≠"undo")(o:List IdP):Pj e o=o:=by
 unfold Pj;rw[h,eG hk]
noncomputable def uC:List Dp->List IdP->List IdP
 |[],o=>o
 |e::r,o=>uC r (Pj e o)
abbrev off(L:List Dp):List IdP:=uC L.reverse []
abbrev Ya(kvs:Kvs):Prop:=∀p∈kvs,∃x:IdP,p.1=idP x
def kP{kvs:Kvs}(h:Ya kvs)(x:IdP)(v:f8):Ya (Q8 kvs (idP x) v)/\∀y,un (Q8 kvs (idP x) v) y=(decide (x=y)||un kvs y):=by
 induction kvs with
 |nil=>
  refine⟨λp hp=>?_,λy=>?_⟩
  .rw[m9.mp hp];exact⟨x,rfl⟩
  .show((List.find? (λp=>l6 p.1 (idP y)) [(idP x,v)]).map (·.2)).isSome=_
   rw[z9,cT];cases decide (x=y) <;> rfl
 |cons p r ih=>
  obtain⟨z,hz⟩:=h p (.head _);obtain⟨i1,i2⟩:=ih λq hq=>h q (.tail _ hq);unfold Q8;rw[hz,cT];by_cases c:z=x
  .rw[iq (decide_eq_true c)]
   refine⟨λq hq=>?_,λy=>?_⟩
   .rcases j9.mp hq with rfl |hq
    .exact⟨z,rfl⟩
    .exact h q (.tail _ hq)
   .unfold un L0
    rw[z9,z9,hz,cT,c];cases decide (x=y) <;> rfl
  .rw[ir (by rw[decide_eq_false c];decide)]
   refine⟨λq hq=>?_,λy=>?_⟩
   .rcases j9.mp hq with rfl |hq
    .exact⟨z,hz⟩
    .exact i1 q hq
   .unfold un L0
    rw[z9,z9,hz,cT];cases hd:decide (z=y) with
    |true=>simp
    |false=>exact i2 y
def jU{e:Dp}(h:Kd e)(b:f8)(kvs:Kvs)(o:List IdP)(hk:Ya kvs)(ho:∀p,un kvs p=decide (p∈o))(hl:kvs.length<=900):∃kvs',Ya kvs'/\kvs'.length<=kvs.length+1/\(∀p,un kvs' p=decide (p∈Pj e o))/\Xr [.sh b,oN kvs,.sh e.1]=.nx [.sh b,oN kvs',.sh e.1]:=by
 have no:∀k x xs,e.1=.tuple (.str k::idP e.2::x::xs)->k≠"undo"->∃kvs',Ya kvs'/\kvs'.length<=kvs.length+1/\(∀p,un kvs' p=decide (p∈Pj e o))/\Xr [.sh b,oN kvs,.sh e.1]=.nx [.sh b,oN kvs',.sh e.1]:=λk x xs e1 hk2=>by
  refine⟨kvs,hk,JE _,by rw[bV e1 hk2];exact ho,?_⟩;unfold Xr;rw[Q4 (Gn (by rw[e1];simp_arith [T2,W6,Z5 hk2]))];rfl
 cases h with
 |drop ss h _=>exact no _ _ _ h (by decide)
 |oth k x xs h _ h2=>exact no _ _ _ h h2
 |undo q h=>
  have c1:(C3 (b2 (b2 (A0 2) (vC (.int 0)) dIx) (vC (.str "undo")) dEq)) [.sh b,oN kvs,.sh e.1]=.ok true:=by rw[h];simp_arith [T2,W6,Hs]
  have c2:(C3 (Bc true 1 (b2 (A0 2) (vC (.int 1)) dIx))) [.sh b,oN kvs,.sh e.1]=.ok (!(decide (e.2∈o))):=by
   refine C4 ?_;rw[Fo (kvs:=kvs) (kd:=idP e.2) rfl (by rw[h];simp_arith [Bd]) (Ku e.2),bne_true];exact congrArg (λz=>Res.ok (GR (!z))) (ho e.2)
  rw[Wz h];unfold Xr;by_cases c:e.2∈o
  .rw[decide_eq_true c]at c2
   rw[Q4 (Gm c1 c2),iq c];exact⟨kvs,hk,JE _,ho,rfl⟩
  .rw[decide_eq_false c]at c2
   obtain⟨g1,g2⟩:=kP hk q (.bool true);rw[W5 (Gk c1 c2),Ib (kd:=idP q) (v:=.bool true) rfl rfl (by rw[h];simp_arith [Ur]) (Ku q) (by lia),ir c];refine⟨_,g1,Fd kvs,λp=>?_,rfl⟩;rw[g2,ho];rw[CZ];simp;constructor
   .rintro (h |h)
    .exact .inr h.symm
    .exact .inl h
   .rintro (h |h)
    .exact .inr h
    .exact .inl h.symm
theorem Wl(b:f8):∀(ds:List Dp),(∀e∈ds,Kd e)->∀(kvs:Kvs) (o:List IdP) (s2:Sl),Ya kvs->(∀p,un kvs p=decide (p∈o))->kvs.length+ds.length<=900->∃kvs' s2',(∀p,un kvs' p=decide (p∈uC ds o))/\E9 (st1 2) Xr (ds.map (·.1)) [.sh b,oN kvs,s2]=.nx [.sh b,oN kvs',s2']
 |[],_,kvs,o,s2,_,ho,_=>⟨kvs,s2,ho,rfl⟩
 |e::ds,h,kvs,o,s2,hk,ho,hl=>by
  rw[l7]at hl;obtain⟨kvs1,k1,l1,o1,e1⟩:=jU (h e (.head _)) b kvs o hk ho (by lia);obtain⟨kvs2,s2',o2,e2⟩:=Wl b ds (λd hd=>h d (.tail _ hd)) kvs1 _ (.sh e.1) k1 o1 (by lia);exact⟨kvs2,s2',o2,(F6 rfl e1).trans e2⟩
def sA{L:List Dp}(h:∀e∈L,Kd e)(hl:L.length<=10):∃kvs,N7 [.tuple (L.map (·.1))]=.ok kvs/\∀p,un kvs p=decide (p∈off L):=by
 obtain⟨kvs,s2,o,e⟩:=Wl (.tuple (L.map (·.1))) L.reverse (λe he=>h e (IW.mp he)) [] [] .un (λ_ h=>nomatch h) (λ_=>rfl) (by simp;lia);refine⟨kvs,?_,o⟩;rw[IX]at e;unfold N7 Ej Dw fnW O3 Di Ac K7 Vv;simp only[k6,EE,l7,BM,FZ,FY,u6,DC,BK,t9,u5,Fk,GP,Hw,B9,bI,D2];have e':=e;unfold Xr at e';rw[e'];rfl
structure Pq(L:List Dp)(ku kd:Kvs):Prop where
 P:Pr L ku kd
 o:∀p,un ku p=decide (p∈off L)
def pq_ex{L:List Dp}(h:∀e∈L,Kd e)(hl:L.length<=10):∃ku kd,Pq L ku kd:=by
 obtain⟨ku,e1,e4⟩:=sA h hl;obtain⟨kd,e2,e3⟩:=AQ h hl ku;exact⟨ku,kd,⟨e1,e2,e3⟩,e4⟩
def gM{i:Nat}{c:Dn->Res Bool}{δ δ':Dn}{r:Res Bool}(h:fz i δ=δ')(h2:c δ'=r):cFz i c δ=r:=by unfold cFz;rw[h,h2]
def Kd.tid{e:Dp}(h:Kd e):dIx e.1 (.int 1)=some (idP e.2):=by
 obtain⟨k,x,xs,e1⟩:=h.id;rw[e1];exact Bd _ _ _
def xN{f:Dn->Res f8}{op:f8->Option f8}{δ:Dn}{x d:f8}(h1:f δ=.ok x)(h3:op x=some d):b1 f op δ=.ok d:=by unfold b1;rw[h1,B9,h3];rfl
def dZ:Dn->Out:=(sIf (cFz 1 (O5 (C3 (b2 (b2 (A0 2) (vC (.int 0)) dIx) (vC (.str "undo")) dEq)) (C3 (b2 (b2 (A0 2) (vC (.int 1)) dIx) (A0 1) (dIn true))))) (Dj 1 (b2 (A0 2) (vC (.int 2)) dIx)) F8)
def Tg(t:Bool)(p:IdP)(o:List IdP):dIn t (idP p) (.list (o.map idP))=some (.bool (t != decide (p∈o))):=by
 show(if _ then _ else _)=_;rw[iq (l9 (DX _ _) (l9 (AS p) (by decide)))];have:((o.map idP).any λy=>l6 y (idP p))=decide (p∈o):=by
  rw[KT,CZ,NA,decide_eq_true_iff];constructor
  .rintro⟨q,hq,e⟩
   have e:l6 (idP q) (idP p)=true:=e;rw[cT]at e;rw[<-of_decide_eq_true e];exact hq
  .intro h
   exact⟨p,h,by show l6 (idP p) (idP p)=true;rw[cT];simp⟩
 rw[this];cases t <;> cases decide (p∈o) <;> rfl
def qU{e:Dp}(h:Kd e)(b:f8)(o:List IdP)(hl:o.length<=900):dZ [.sh b,.ow (.list (o.map idP)),.sh e.1]=.nx [.sh b,.ow (.list ((Pj e o).map idP)),.sh e.1]:=by
 have no:∀k x xs,e.1=.tuple (.str k::idP e.2::x::xs)->k≠"undo"->dZ [.sh b,.ow (.list (o.map idP)),.sh e.1]=.nx [.sh b,.ow (.list ((Pj e o).map idP)),.sh e.1]:=λk x xs e1 hk2=>by
  rw[bV e1 hk2];unfold dZ;rw[Q4 (gM (δ':=[.sh b,.sh (.list (o.map idP)),.sh e.1]) rfl (Gn (by rw[e1];simp_arith [T2,W6,Z5 hk2])))];rfl
 cases h with
 |drop ss h _=>exact no _ _ _ h (by decide)
 |oth k x xs h _ h2=>exact no _ _ _ h h2
 |undo q h=>
  have c1:(C3 (b2 (b2 (A0 2) (vC (.int 0)) dIx) (vC (.str "undo")) dEq)) [.sh b,.sh (.list (o.map idP)),.sh e.1]=.ok true:=by rw[h];simp_arith [T2,W6,Hs]
  have c2:(C3 (b2 (b2 (A0 2) (vC (.int 1)) dIx) (A0 1) (dIn true))) [.sh b,.sh (.list (o.map idP)),.sh e.1]=.ok (!(decide (e.2∈o))):=by
   refine C4 (B3 (x:=idP e.2) (y:=.list (o.map idP)) (by rw[h];simp_arith [Bd]) (by simp_arith) ?_);rw[Tg];cases decide (e.2∈o) <;> rfl
  rw[Wz h];unfold dZ;by_cases c:e.2∈o
  .rw[decide_eq_true c]at c2
   rw[Q4 (gM rfl (Gm c1 c2)),iq c];rfl
  .rw[decide_eq_false c]at c2
   rw[W5 (gM rfl (Gk c1 c2)),ir c,z4];exact Fz rfl (by rw[h];simp_arith [Ur]) (by rw[i7];lia)
def pK(e:Dp)(o:List IdP):(Pj e o).length<=o.length+1:=by
 unfold Pj;split
 .split
  .lia
  .simp
 .lia
theorem cW(b:f8):∀(ds:List Dp),(∀e∈ds,Kd e)->∀(o:List IdP) (s2:Sl),o.length+ds.length<=900->∃s2',E9 (st1 2) dZ (ds.map (·.1)) [.sh b,.ow (.list (o.map idP)),s2]=.nx [.sh b,.ow (.list ((uC ds o).map idP)),s2']
 |[],_,o,s2,_=>⟨s2,rfl⟩
 |e::ds,h,o,s2,hl=>by
  rw[l7]at hl;have e1:=qU (h e (.head _)) b o (by lia);have:=pK e o;obtain⟨s2',e2⟩:=cW b ds (λd hd=>h d (.tail _ hd)) (Pj e o) (.sh e.1) (by lia);exact⟨s2',(F6 rfl e1).trans e2⟩
def onL(L:List Dp):List IdP:=(L.filter λe=>!decide (e.2∈off L)).map (·.2)
def qV{L:List Dp}(h:∀e∈L,Kd e)(hl:L.length<=10):N1 [bkD L]=.ok (.list ((onL L).map idP)):=by
 obtain⟨s2,e⟩:=cW (bkD L) L.reverse (λe he=>h e (IW.mp he)) [] .un (by simp;lia);have c:=W3 (δc:=[.sh (.list ((off L).map idP))]) (tt:=C3 (b2 (b2 (A0 0) (vC (.int 1)) dIx) (A0 1) (dIn true))) (el:=b2 (A0 0) (vC (.int 1)) dIx) (λe:Dp=>e.1) (λe:Dp=>idP e.2) (λe=>!decide (e.2∈off L)) L (λe he=>by
  refine C4 (B3 (x:=idP e.2) (y:=.list ((off L).map idP)) (B3 (x:=e.1) (y:=.int 1) (by simp_arith) rfl (h e he).tid) (by simp_arith) ?_);rw[Tg];cases decide (e.2∈off L) <;> rfl) (λe he=>B3 (x:=e.1) (y:=.int 1) (by simp_arith) rfl (h e he).tid)
 unfold N1 Ab Z4;refine N2 ?_;show C5 _ _ [.sh (bkD L),.un,.un]=_;rw[B4 (δ':=[.sh (bkD L),.ow (.list []),.un]) (by rfl)];rw[B4 (δ':=[.sh (bkD L),.ow (.list ((off L).map idP)),s2]) (by
  unfold K7;rw[E3 (d:=.tuple (L.map (·.1)).reverse) (ds:=(L.map (·.1)).reverse) (xN (op:=vW) (x:=bkD L) rfl rfl) rfl,D2,<-IX];exact e)]
 show L5 _ [.sh (bkD L),.sh (.list ((off L).map idP)),s2]=_;unfold onL;rw[DU];exact L3 (N6 (I8 (E3 (d:=bkD L) rfl rfl) (by rw[i7];lia) rfl c))
def fL{L:List Dp}{e:Dp}(he:e∈L):decide (e.2∈onL L)=!decide (e.2∈off L):=by
 rw[CZ];simp only[decide_eq_true_iff,DQ,decide_eq_false_iff_not];unfold onL;constructor
 .intro h
  obtain⟨x,hx,e1⟩:=t8.mp h;have:=(BN.mp hx).2;rw[e1]at this;simpa using this
 .intro h
  exact t8.mpr ⟨e,BN.mpr ⟨he,by simpa using h⟩,rfl⟩
def Qe(u v:As):l6 (sgA u) (sgA v)=decide (sgn u=sgn v):=by
 rw[show sgA u=anD (some (sgn u)) from rfl,show sgA v=anD (some (sgn v)) from rfl,U4];congr 1;exact propext ⟨λh=>BS h,λh=>congrArg some h⟩
def rF{δc:Dn}{tt:Dn->Res Bool}{el:Dn->Res f8}{d y:f8}{ds ys:List f8}(h1:tt ([.sh d]++δc)=.ok true)(h2:el ([.sh d]++δc)=.ok y)(h3:E2 F7 δc tt el ds=.ok ys):E2 F7 δc tt el (d::ds)=.ok (y::ys):=by
 unfold E2;simp only[F7,h1,h2,h3]
def rG{δc:Dn}{tt:Dn->Res Bool}{el:Dn->Res f8}{d:f8}{ds ys:List f8}(h1:tt ([.sh d]++δc)=.ok false)(h3:E2 F7 δc tt el ds=.ok ys):E2 F7 δc tt el (d::ds)=.ok ys:=by
 unfold E2;simp only[F7,h1,h3]
theorem Ga{k v:f8}:∀{kvs:Kvs},(∀p∈kvs,l6 p.1 k=false)->Q8 kvs k v=kvs++[(k,v)]
 |[],_=>rfl
 |p::r,h=>by
  unfold Q8;rw[ir (by rw[h p (.head _)];decide),Ga λq hq=>h q (.tail _ hq)];rfl
theorem Ik{α:Type}(f:α->f8×f8){u:α}(hu:l6 (f u).1 (f u).1=true):∀{us:List α} {more:Kvs},u∈us->us.Pairwise (λa b=>l6 (f a).1 (f b).1=false)->L0 (us.map f++more) (f u).1=some (f u).2
 |x::us,more,h,pw=>by
  rw[BV]at pw;unfold L0;rw[k6,DC,z9];rcases j9.mp h with rfl |h
  .rw[hu];rfl
  .rw[pw.1 u h];exact Ik f hu h pw.2
def Yl(u:As)(s:IdP×Nat):l6 (sgA u) (sgO s)=decide (sgn u=s):=by
 rw[show sgA u=anD (some (sgn u)) from rfl,U4];congr 1;exact propext ⟨λh=>BS h,λh=>congrArg some h⟩
def Zw(s:IdP×Nat):(sgO s).depth<=3:=by simp[anD,CW,CI]
def Ix(O:List As)(s:IdP×Nat)(j:Nat):Prop:=(O.map sgA).findIdx? (λy=>l6 y (sgO s))=some j
def Ix.eval{O:List As}{s:IdP×Nat}{j:Nat}(h:Ix O s j)(hO:O.length<=100){f g:Dn->Res f8}{δ:Dn}(hg:g δ=.ok (.list (O.map sgA)))(hf:f δ=.ok (sgO s)):Fm g f δ=.ok (.int (j:Nat)):=by
 unfold Fm;rw[hg,B9];show(f δ).bind _=_;rw[hf,B9];unfold Ix at h;rw[h];show(if _ then _ else _)=_;rw[iq ⟨by rw[i7];lia,l9 (Zw s) (by decide)⟩]
theorem qI{s:IdP×Nat}:∀{O:List As},(∃u∈O,sgn u=s)->∃X u Y,O=X++u::Y/\sgn u=s/\Ix O s X.length/\∀l,Pl s l O=X++u::(l++Y)
 |[],h=>by obtain⟨u,hu,_⟩:=h;cases hu
 |u::r,h=>by
  by_cases c:sgn u=s
  .refine⟨[],u,r,rfl,c,?_,λl=>?_⟩
   .unfold Ix
    rw[k6,List.findIdx?_cons,Yl,decide_eq_true c];rfl
   .unfold Pl;rw[iq c];rfl
  .obtain ⟨X,v,Y,e1,e2,e3,e4⟩:= qI (s:= s) (O:= r) (by
    obtain⟨x,hx,e⟩:=h;rcases j9.mp hx with rfl |hx
    .exact absurd e c
    .exact⟨x,hx,e⟩)
   refine⟨u::X,v,Y,by rw[e1];rfl,e2,?_,λl=>?_⟩
   .unfold Ix at e3 ⊢
    rw[k6,List.findIdx?_cons,Yl,decide_eq_false c,e3];rfl
   .unfold Pl;rw[ir c,e4];rfl
def jE(xs:List f8)(k:Nat)(h:k<=xs.length):Dk xs none (some (k:Int))=xs.take k:=by
 unfold Dk;rw[HT.sIx_nat,HT.sIx_none];rw[Nat.min_eq_left h];rfl
def vY(xs:List f8)(k:Nat)(h:k<=xs.length):Dk xs (some (k:Int)) none=xs.drop k:=by
 unfold Dk;rw[HT.sIx_nat,HT.sIx_none,Nat.min_eq_left h,<-IY,List.take_length]
theorem Mx{α:Type}(f:α->f8×f8)(hk:∀a,nkD (f a).1=true):∀(us vs:List α),(vs++us).Pairwise (λa b=>l6 (f a).1 (f b).1=false)->Gf (us.map λa=>.tuple [(f a).1,(f a).2]) (vs.map f)=some ((vs++us).map f)
 |[],vs,_=>by rw[u8];rfl
 |u::us,vs,pw=>by
  rw[k6];unfold Gf;rw[iq (hk u),Ga (λp hp=>by
   obtain⟨a,ha,rfl⟩:=t8.mp hp;exact(GG.mp pw).2.2 a ha u (.head _))]
  have:=Mx f hk us (vs++[u]) (by rw[x6];exact pw);rw[z4,x6]at this;exact this
def dX:Dn->Out:=(sIf (C3 (b2 (b2 (A0 2) (vC (.int 0)) dIx) (vC (.str "add")) dEq)) (C5 (E4 3 (vIf (λδ=>((b2 (A0 2) (vC (.int 2)) dIx) δ).bind λd=>.ok (Ni d)) (vC (.int 0)) (b2 (Fm (A0 1) (b2 (A0 2) (vC (.int 2)) dIx)) (vC (.int 1)) C7))) (E4 1 (b2 (b2 (vSl (A0 1) Du (M7 (A0 3))) (K8 (G6 (λδ=>((A2 (vFn (A2 (b2 (A0 2) (vC (.int 3)) dIx) A7) Q3) A7) δ).bind Dh) F7 [2] M5 (E5 (A2 (b2 (A0 1) (vC (.int 1)) dIx) (A2 (A0 0) A7))))) C7) (vSl (A0 1) (M7 (A0 3)) Du) C7))) F8)
def BB(a:Ad){δ:Dn}(h:δ[2]?=some (.sh a.d)):(A2 (vFn (A2 (b2 (A0 2) (vC (.int 3)) dIx) A7) Q3) A7) δ=.ok [.int (a.w.length:Int)]:=by
 refine A6 (N4 (A6 (B3 (x:=a.d) (y:=.int 3) (by rw[Fk,h];rfl) rfl (aJ _ _ _ _ _)) rfl) (Tc _)) rfl
def BC(a:Ad){δ:Dn}(h:δ[2]?=some (.sh a.d)):(C3 (b2 (b2 (A0 2) (vC (.int 0)) dIx) (vC (.str "add")) dEq)) δ=.ok true:=by
 refine C4 (B3 (x:=.str "add") (y:=.str "add") (B3 (x:=a.d) (y:=.int 0) (by rw[Fk,h];rfl) rfl (T2 _ _)) rfl ?_);rw[W6,jQ]
def wH(a:Ad)(hw:Uo a.w){δ:Dn}(h:δ[2]?=some (.sh a.d)):(G6 (λδ=>((A2 (vFn (A2 (b2 (A0 2) (vC (.int 3)) dIx) A7) Q3) A7) δ).bind Dh) F7 [2] M5 (E5 (A2 (b2 (A0 1) (vC (.int 1)) dIx) (A2 (A0 0) A7)))) δ=.ok ((blk a).map sgA):=by
 have er:Ae 0 (a.w.length:Int)=(CK a.w.length).map λi:Nat=>DZ (0+(i:Int)):=by unfold Ae;simp
 have g1:=Iq (δc:=[.sh a.d]) (el:=E5 (A2 (b2 (A0 1) (vC (.int 1)) dIx) (A2 (A0 0) A7))) (λi:Nat=>DZ (0+(i:Int))) (λi=>sgD a.p (0+(i:Int))) (λi=>by unfold Ad.d;simp_arith [Bd]) (CK a.w.length);have hl:=hw.2.1;have eb:(blk a).map sgA=(CK a.w.length).map λi:Nat=>sgD a.p (0+(i:Int)):=by
  unfold blk;rw[DU];refine List.map_congr_left λi _=>?_;show sgD a.p (i:Int)=_;rw[Int.zero_add]
 have g2:E2 F7 [.sh a.d] M5 (E5 (A2 (b2 (A0 1) (vC (.int 1)) dIx) (A2 (A0 0) A7))) (Ae 0 (a.w.length:Int))=.ok ((blk a).map sgA):=by rw[er,eb];exact g1
 have hlr:(Ae 0 (a.w.length:Int)).length<=1000:=by rw[er,i7,List.length_range];lia
 exact I8 (Yi (BB a h) (by lia) (by lia)) hlr (by unfold Ev;rw[k6,h];rfl) g2
def wF(a:Ad):(blk a).length=a.w.length:=by unfold blk;simp
def oY{O:List As}(hO:O.length<=100)(a:Ad)(hw:Uo a.w)(hb:a.b=none\/∃s,a.b=some s/\∃u∈O,sgn u=s)(b:f8)(s3:Sl):∃t3,dX [.sh b,.sh (.list (O.map sgA)),.sh a.d,s3]=.nx [.sh b,.sh (.list ((lP a.b (blk a) O).map sgA)),.sh a.d,t3]:=by
 have hl:=hw.2.1;obtain⟨X,Y,e1,e2,e3⟩:∃X Y,O=X++Y/\lP a.b (blk a) O=X++(blk a++Y)/\(vIf (λδ=>((b2 (A0 2) (vC (.int 2)) dIx) δ).bind λd=>.ok (Ni d)) (vC (.int 0)) (b2 (Fm (A0 1) (b2 (A0 2) (vC (.int 2)) dIx)) (vC (.int 1)) C7)) [.sh b,.sh (.list (O.map sgA)),.sh a.d,s3]=.ok (.int (X.length:Nat)):=by
  have ea:(b2 (A0 2) (vC (.int 2)) dIx) [.sh b,.sh (.list (O.map sgA)),.sh a.d,s3]=.ok (anD a.b):=B3 (x:=a.d) (y:=.int 2) rfl rfl (Ur _ _ _ _);rcases hb with hb |⟨s,hb,hu⟩
  .refine⟨[],O,rfl,by rw[hb];rfl,?_⟩
   unfold vIf;simp only[ea,B9];rw[hb];rfl
  .obtain⟨X,u,Y,e1,e2,e3,e4⟩:=qI hu
   refine⟨X++[u],Y,by rw[e1];simp,by rw[hb];show Pl s _ O=_;rw[e4];simp,?_⟩;unfold vIf;simp only[ea,B9];rw[hb]at ea ⊢;refine(B3 (x:=.int (X.length:Nat)) (y:=.int 1) (e3.eval hO rfl ea) rfl rfl).trans ?_;rw[k7];rfl
 refine⟨.sh (.int (X.length:Nat)),?_⟩;have hXY:X.length+Y.length<=100:=by have:=congrArg GU e1;rw[k7]at this;lia
 have hbl:=wF a;unfold dX;rw[W5 (BC a rfl),B4 (D4 e3)];simp only[t9,u5];rw[e2];have c1:Dk (O.map sgA) none (some ((X.length:Nat):Int))=X.map sgA:=by
  rw[jE _ _ (by rw[e1];simp),e1,z4,<-i7 (f:=sgA),List.take_left]
 have c2:Dk (O.map sgA) (some ((X.length:Nat):Int)) none=Y.map sgA:=by
  rw[vY _ _ (by rw[e1];simp),e1,z4,<-i7 (f:=sgA),List.drop_left]
 have q1:(vSl (A0 1) Du (M7 (A0 3))) [.sh b,.sh (.list (O.map sgA)),.sh a.d,.sh (.int (X.length:Nat))]=.ok (.list (X.map sgA)):=Yd (x:=.list (O.map sgA)) rfl rfl rfl (by show some (IC _)=_;rw[c1]);have q2:(vSl (A0 1) (M7 (A0 3)) Du) [.sh b,.sh (.list (O.map sgA)),.sh a.d,.sh (.int (X.length:Nat))]=.ok (.list (Y.map sgA)):=Yd (x:=.list (O.map sgA)) rfl rfl rfl (by show some (IC _)=_;rw[c2]);have q3:=N6 (wH a hw (δ:=[.sh b,.sh (.list (O.map sgA)),.sh a.d,.sh (.int (X.length:Nat))]) rfl);have q4:=B3 q1 q3 (Ld (by rw[i7,i7];lia));have q5:=B3 q4 q2 (Ld (by rw[k7,i7,i7,i7];lia))
 rw[D4 q5,z4,z4,x6];rfl
def Bk.last{B:List Ad}{e:Ad}(h:Bk (B++[e])):Bk B/\(∀a∈B,key a.p<key e.p)/\(e.b=none\/∃a∈B,∃n,n<a.w.length/\e.b=some (a.p,n)):=by
 generalize hC:B++[e]=C at h;cases h with
 |nil=>simp at hC
 |@snoc B1 e1 hB _ hk hb=>
  obtain⟨e2,e3⟩:=List.append_inj' hC rfl;cases e3;subst e2;exact⟨hB,hk,hb⟩
theorem Bk.pre{B1:List Ad}:∀(n:Nat) (B2:List Ad),B2.length=n->Bk (B1++B2)->Bk B1
 |0,B2,hn,h=>by rw[CO.mp hn,u8]at h;exact h
 |n+1,B2,hn,h=>by
  have hne:B2≠[]:=λz=>by rw[z]at hn;cases hn
  obtain⟨C,e,rfl⟩:∃C e,B2=C++[e]:=⟨B2.dropLast,B2.getLast hne,(NM hne).symm⟩;rw[<-x6]at h;exact Bk.pre n C (by simpa using hn) h.last.1
def oZ(b:f8){L:List Dp}{B2:List Ad}(h:Adds L B2):∀(B1:List Ad) (s2 s3:Sl),Bk (B1++B2)->(∀a∈B1++B2,Uo a.w)->(B1++B2).length<=10->∃t2 t3,E9 (st1 2) dX (L.map (·.1)) [.sh b,.sh (.list ((ord B1).map sgA)),s2,s3]=.nx [.sh b,.sh (.list ((ord (B1++B2)).map sgA)),t2,t3]:=by
 induction h with
 |nil=>intro B1 s2 s3 _ _ _;rw[u8];exact⟨s2,s3,rfl⟩
 |@add L B2 a _ ih=>
  intro B1 s2 s3 hB hw hl;have hB':Bk (B1++[a]):=Bk.pre _ B2 rfl (by rw[x6];exact hB);obtain⟨k1,k2,k3⟩:=hB'.last;have hlo:(ord B1).length<=100:=by
   have h1:=(bU k1).length_eq;have h2:=gZ (B:=B1) λc hc=>hw c (m6.mpr (.inl hc));rw[k7]at hl;lia
  obtain⟨t3,e1⟩:=oY hlo a (hw a (m6.mpr (.inr (.head _)))) (by
   rcases k3 with hb |⟨c,hc,n,hn,hb⟩
   .exact .inl hb
   .exact .inr ⟨_,hb,(c,n),(X4 k1 (c,n)).mpr ⟨hc,hn⟩,rfl⟩) b s3
  rw[<-Ig]at e1;obtain⟨u2,u3,e2⟩:=ih (B1++[a]) (.sh a.d) t3 (by rw[x6];exact hB) (by rw[x6];exact hw) (by rw[x6];exact hl);rw[x6]at e2;exact⟨u2,u3,(F6 rfl e1).trans e2⟩
 |@oth L B2 e k x xs he hk _ ih=>
  intro B1 s2 s3 hB hw hl;obtain⟨u2,u3,e2⟩:=ih B1 (.sh e.1) s3 hB hw hl;have e3:dX [.sh b,.sh (.list ((ord B1).map sgA)),.sh e.1,s3]=.nx [.sh b,.sh (.list ((ord B1).map sgA)),.sh e.1,s3]:=by
   unfold dX;rw[Q4 (by rw[he];simp_arith [T2,W6,Z5 hk])];rfl
  exact⟨u2,u3,(F6 rfl e3).trans e2⟩
def Sy{L:List Dp}{B:List Ad}(A:BkA L B)(hl:L.length<=10):J3 [bkD L]=.ok (.list ((ord B).map sgA)):=by
 obtain⟨t2,t3,e⟩:=oZ (bkD L) A.ad [] .un .un A.bk A.wd (by have:=A.len;simp;lia);unfold J3 Dd T6;refine N2 ?_;show C5 _ _ [.sh (bkD L),.un,.un,.un]=_;rw[B4 (δ':=[.sh (bkD L),.sh (.list []),.un,.un]) (by rfl)];rw[B4 (δ':=[.sh (bkD L),.sh (.list ((ord B).map sgA)),t2,t3]) (by
  unfold Bi K7;rw[E3 (d:=bkD L) (ds:=L.map (·.1)) rfl rfl,D2];exact e)]
 rfl
def dY:Dn->Out:=(sIf (O5 (C3 (b2 (b2 (A0 3) (vC (.int 0)) dIx) (vC (.str "drop")) dEq)) (C3 (b2 (b2 (A0 3) (vC (.int 1)) dIx) (A0 1) (dIn false)))) (E4 2 (b2 (A0 2) (vFn (A2 (b2 (A0 3) (vC (.int 2)) dIx) A7) Nm) C7)) F8)
def lT{L:List Dp}{un:IdP->Bool}(hu:∀p,un p=decide (p∈off L)){e:Dp}(he:e∈L)(h:Kd e)(b:f8)(gs:List (IdP×Nat))(hl:gs.length<=700):∃gs':List (IdP×Nat),gs'.length<=gs.length+60/\(∀s,decide (s∈gs')=(decide (s∈gs)||Ay un e s)) /\
 dY [.sh b,.sh (.list ((onL L).map idP)),.sh (.list (gs.map sgO)),.sh e.1]=.nx [.sh b,.sh (.list ((onL L).map idP)),.sh (.list (gs'.map sgO)),.sh e.1]:=by
 have no:∀k x xs,e.1=.tuple (.str k::idP e.2::x::xs)->k≠"drop"->∃gs':List (IdP×Nat),gs'.length<=gs.length+60/\(∀s,decide (s∈gs')=(decide (s∈gs)||Ay un e s))/\dY [.sh b,.sh (.list ((onL L).map idP)),.sh (.list (gs.map sgO)),.sh e.1]=.nx [.sh b,.sh (.list ((onL L).map idP)),.sh (.list (gs'.map sgO)),.sh e.1]:=λk x xs e1 hn=>by
  refine⟨gs,by lia,λs=>by rw[Xl e1 hn,KH],?_⟩;unfold dY;rw[Q4 (Gn (by rw[e1];simp_arith [T2,W6,Z5 hn]))];rfl
 cases h with
 |undo q h=>exact no _ _ _ h (by decide)
 |oth k x xs h h1 _=>exact no _ _ _ h h1
 |drop ss h hss=>
  have c1:(C3 (b2 (b2 (A0 3) (vC (.int 0)) dIx) (vC (.str "drop")) dEq)) [.sh b,.sh (.list ((onL L).map idP)),.sh (.list (gs.map sgO)),.sh e.1]=.ok true:=by rw[h];simp_arith [T2,W6,Hs]
  have c2:(C3 (b2 (b2 (A0 3) (vC (.int 1)) dIx) (A0 1) (dIn false))) [.sh b,.sh (.list ((onL L).map idP)),.sh (.list (gs.map sgO)),.sh e.1]=.ok (!decide (e.2∈off L)):=by
   refine C4 (B3 (x:=idP e.2) (y:=.list ((onL L).map idP)) (by rw[h];simp_arith [Bd]) (by simp_arith) ?_);rw[Tg,fL he];cases decide (e.2∈off L) <;> rfl
  have hd:∀s,Ay un e s=(!un e.2&&ss.any λt=>decide (some t=some s)):=λs=>by
   unfold Ay;rw[h];show(("drop" : Str)== "drop"&&(!un e.2)&&((ss.map sgO).any λy=>l6 y (sgO s)))=_;rw[Hs,OF,KT];congr 1;congr 1;funext t;exact U4 _ _
  unfold dY;cases c:decide (e.2∈off L) with
  |true=>
   rw[c]at c2;rw[Q4 (Gm c1 c2)];exact⟨gs,by lia,λs=>by rw[hd,hu,c];simp,rfl⟩
  |false=>
   rw[c]at c2;refine⟨gs++ss,by simp;lia,λs=>?_,?_⟩
   .rw[hd,hu,c,CZ]
    simp
   .rw[W5 (Gk c1 c2)]
    have q:=B3 (f:=A0 2) (g:=vFn (A2 (b2 (A0 3) (vC (.int 2)) dIx) A7) Nm) (δ:=[.sh b,.sh (.list ((onL L).map idP)),.sh (.list (gs.map sgO)),.sh e.1]) (x:=.list (gs.map sgO)) (y:=.list (ss.map sgO)) rfl
     (N4 (A6 (B3 (x:=e.1) (y:=.int 2) rfl rfl (by rw[h];exact Ur _ _ _ _)) rfl) rfl) (Ld (by rw[i7,i7];lia))
    rw[D4 q,z4];rfl
theorem Xj{L:List Dp}{un:IdP->Bool}(hu:∀p,un p=decide (p∈off L))(b:f8):∀(M:List Dp),(∀e∈M,e∈L/\Kd e)->∀(gs:List (IdP×Nat)) (s3:Sl),gs.length+60*M.length<=700->∃(gs':List (IdP×Nat)) (t3:Sl),gs'.length<=gs.length+60*M.length/\(∀s,decide (s∈gs')=(decide (s∈gs)||M.any λe=>Ay un e s)) /\
 E9 (st1 3) dY (M.map (·.1)) [.sh b,.sh (.list ((onL L).map idP)),.sh (.list (gs.map sgO)),s3]=.nx [.sh b,.sh (.list ((onL L).map idP)),.sh (.list (gs'.map sgO)),t3]
 |[],_,gs,s3,_=>⟨gs,s3,by simp,λs=>by simp,rfl⟩
 |e::M,h,gs,s3,hl=>by
  rw[l7]at hl;obtain⟨g1,l1,m1,e1⟩:=lT hu (h e (.head _)).1 (h e (.head _)).2 b gs (by lia);obtain⟨g2,t3,l2,m2,e2⟩:=Xj hu b M (λd hd=>h d (.tail _ hd)) g1 (.sh e.1) (by lia);exact⟨g2,t3,by rw[l7];lia,λs=>by rw[m2,m1,OE,Bool.or_assoc],(F6 rfl e1).trans e2⟩
def AH(t:Bool)(u:As)(gs:List (IdP×Nat)):dIn t (sgA u) (.list (gs.map sgO))=some (.bool (t != decide (sgn u∈gs))):=by
 show(if _ then _ else _)=_;rw[iq (l9 (DX _ _) (l9 (show(sgA u).depth<=3 from Zw (sgn u)) (by decide)))];have:((gs.map sgO).any λy=>l6 y (sgA u))=decide (sgn u∈gs):=by
  rw[KT,CZ,NA,decide_eq_true_iff];constructor
  .rintro⟨q,hq,e⟩
   have e:l6 (sgO q) (sgO (sgn u))=true:=e;rw[U4]at e;rw[<-BS (of_decide_eq_true e)];exact hq
  .intro h
   exact⟨sgn u,h,by show l6 (sgO (sgn u)) (sgO (sgn u))=true;rw[U4];simp⟩
 rw[this];cases t <;> cases decide (sgn u∈gs) <;> rfl
def Xc{L:List Dp}{B:List Ad}(A:BkA L B)(hk:∀e∈L,Kd e)(hl:L.length<=10){ku kd:Kvs}(P:Pq L ku kd):M3 [bkD L]=.ok (.list (((ord B).filter (N5 ku kd)).map sgA)):=by
 have hol:=Ds A;obtain⟨gs,t3,_,m,e⟩:=Xj (un:=un ku) P.o (bkD L) L (λe he=>⟨he,hk e he⟩) [] .un (by simp;lia);unfold M3 Db Q0;refine N2 ?_;show C5 _ _ [.sh (bkD L),.un,.un,.un]=_;rw[B4 (δ':=[.sh (bkD L),.sh (.list ((onL L).map idP)),.un,.un]) (D4 (D1 (A6 (d:=bkD L) rfl rfl) (qV hk hl)))];rw[B4 (δ':=[.sh (bkD L),.sh (.list ((onL L).map idP)),.sh (.list []),.un]) (by rfl)];rw[B4 (δ':=[.sh (bkD L),.sh (.list ((onL L).map idP)),.sh (.list (gs.map sgO)),t3]) (by
  unfold Bh K7;rw[E3 (d:=bkD L) (ds:=L.map (·.1)) rfl rfl,D2];exact e)]
 have c:=W3 (δc:=[.sh (.list ((onL L).map idP)),.sh (.list (gs.map sgO))]) (tt:=O5 (C3 (b2 (b2 (A0 0) (vC (.int 0)) dIx) (A0 1) (dIn false))) (C3 (b2 (A0 0) (A0 2) (dIn true)))) (el:=A0 0) sgA sgA (N5 ku kd) (ord B) (λu hu=>by
  have hm:=(X4 A.bk u).mp hu;have h1:(C3 (b2 (b2 (A0 0) (vC (.int 0)) dIx) (A0 1) (dIn false))) ([.sh (sgA u)]++[.sh (.list ((onL L).map idP)),.sh (.list (gs.map sgO))])=.ok (!un ku u.1.p):=by
   refine C4 (B3 (x:=idP u.1.p) (y:=.list ((onL L).map idP)) (by simp_arith [T2]) (by simp_arith) ?_);rw[Tg,fL (A.inL _ hm.1),P.o];cases decide (u.1.p∈off L) <;> rfl
  have h2:(C3 (b2 (A0 0) (A0 2) (dIn true))) ([.sh (sgA u)]++[.sh (.list ((onL L).map idP)),.sh (.list (gs.map sgO))])=.ok (!(has kd (some (sgn u)))):=by
   refine C4 (B3 (x:=sgA u) (y:=.list (gs.map sgO)) (by simp_arith) (by simp_arith) ?_);rw[AH,m,P.P.h,show decide (sgn u∈([]:List (IdP×Nat)))=false from rfl,Bool.false_or];show some (GR (true != L.any λe=>Ay (un ku) e (sgn u)))=some (GR (!(L.any λe=>Ay (un ku) e (sgn u))));cases (L.any λe=>Ay (un ku) e (sgn u)) <;> rfl
  unfold N5;cases hc:un ku u.1.p with
  |true=>rw[hc]at h1;exact Gn h1
  |false=>
   rw[hc]at h1;unfold O5;rw[h1,B9];exact h2) (λu _=>by simp_arith)
 exact L3 (N6 (I8 (E3 (d:=.list ((ord B).map sgA)) (D1 (A6 (d:=bkD L) rfl rfl) (Sy A hl)) rfl) (by rw[i7];lia) rfl c))
abbrev adE(a:Ad):f8×f8:=(idP a.p,.str a.w)
def mP{L:List Dp}{B:List Ad}(h:Adds L B):E2 F7 [] (C3 (b2 (b2 (A0 0) (vC (.int 0)) dIx) (vC (.str "add")) dEq)) (E5 (A2 (b2 (A0 0) (vC (.int 1)) dIx) (A2 (b2 (A0 0) (vC (.int 3)) dIx) A7))) (L.map (·.1))=.ok (B.map λa=>.tuple [(adE a).1,(adE a).2]):=by
 induction h with
 |nil=>rfl
 |@add L B a _ ih=>exact rF (by unfold Ad.d;simp_arith [T2,W6,jQ]) (by unfold Ad.d;simp_arith [Bd,aJ]) ih
 |@oth L B e k x xs he hk _ ih=>exact rG (by show C3 _ ([.sh e.1]++[])=_;rw[he];simp_arith [T2,W6,Z5 hk]) ih
def Bk.ids{B:List Ad}(h:Bk B):B.Pairwise (λa b=>l6 (adE a).1 (adE b).1=false):=by
 induction h with
 |nil=>exact .nil
 |@snoc B e _ _ hk _ ih=>
  refine GG.mpr ⟨ih,GO _ _,λa ha b hb=>?_⟩;rw[m9.mp hb];show l6 (idP a.p) (idP e.p)=false;rw[cT,decide_eq_false];intro z;have:=hk a ha;rw[z]at this;lia
def pZ{L:List Dp}{B:List Ad}(A:BkA L B)(hl:L.length<=10){us:List As}(hu:∀u∈us,u∈ord B)(hul:us.length<=100):P1 [bkD L,.list (us.map sgA)]=.ok (.str (EH "" (us.map ltr))):=by
 have hj:=cL (us:=us) (λu h=>by
  have:=(X4 A.bk u).mp (hu u h);exact⟨A.wd _ this.1,this.2⟩) hul
 have hp:Gf (B.map λa=>.tuple [(adE a).1,(adE a).2]) []=some (B.map adE):=Mx adE (λa=>Ku a.p) B [] A.bk.ids;have hlen:=A.len;unfold P1 El Dy;refine N2 ?_;show C5 _ _ [.sh (bkD L),.sh (.list (us.map sgA)),.un]=_;have hd:(K8 (G6 (λδ=>((A0 0) δ).bind D8) F7 [] (C3 (b2 (b2 (A0 0) (vC (.int 0)) dIx) (vC (.str "add")) dEq)) (E5 (A2 (b2 (A0 0) (vC (.int 1)) dIx) (A2 (b2 (A0 0) (vC (.int 3)) dIx) A7))))) [.sh (bkD L),.sh (.list (us.map sgA)),.un]=.ok (.list (B.map λa=>.tuple [(adE a).1,(adE a).2])):=
  N6 (I8 (E3 (d:=bkD L) rfl rfl) (by rw[i7];lia) rfl (mP A.ad))
 rw[B4 (δ':=[.sh (bkD L),.sh (.list (us.map sgA)),oN (B.map adE)]) (by
  unfold U7 Ta;rw[hd,B9];show K1 (if _ then _ else _) _=_;rw[iq (by rw[i7];lia),hp];rfl)]
 have c:=W3 (δc:=[oN (B.map adE)]) (tt:=M5) (el:=b2 (X7 1 (b2 (A0 0) (vC (.int 0)) dIx)) (b2 (A0 0) (vC (.int 1)) dIx) dIx) sgA (λu=>BU (ltr u)) (λ_=>true) us (λ_ _=>rfl) (λu h=>by
  have hm:=(X4 A.bk u).mp (hu u h);have hg:L0 (B.map adE) (idP u.1.p)=some (.str u.1.w):=by
   have:=Ik adE (u:=u.1) (by show l6 (idP u.1.p) (idP u.1.p)=true;rw[cT];simp) (us:=B) (more:=[]) hm.1 A.bk.ids
   rwa [u8]at this
  refine B3 (x:=.str u.1.w) (y:=.int (u.2:Int)) ?_ (by simp_arith [Bd]) (pX hm.2);unfold X7;show Res.bind _ (λkd'=>if nkD kd'=true then ofO (L0 (B.map adE) kd') else Res.no)=_;rw[show(b2 (A0 0) (vC (.int 0)) dIx) ([.sh (sgA u)]++[oN (B.map adE)])=.ok (idP u.1.p) by simp_arith [T2],B9,iq (Ku _),hg];rfl)
 rw[JN.mpr λ_ _=>rfl]at c;refine L3 ?_;unfold Gs;rw[N6 (I8 (E3 (d:=.list (us.map sgA)) rfl rfl) (by rw[i7];lia) rfl c),B9,hj];rfl
def cnt(f:As->Bool)(X:List As):Nat:=(X.filter f).length
noncomputable def b1n(b:Bool):Nat:=if b=true then 1 else 0
def Tw(f:As->Bool)(X:List As)(u:As):cnt f (X++[u])=cnt f X+b1n (f u):=by
 unfold cnt b1n;rw[JR,k7];cases h:f u with
 |true=>rw[z7,h];rfl
 |false=>rw[z7,h];rfl
noncomputable def num(f:As->Bool):List As->Nat->List (As×Nat)
 |[],_=>[]
 |u::us,n=>(u,n)::num f us (n+b1n (f u))
theorem bW(f:As->Bool)(u:As):∀(X:List As) (n:Nat),num f (X++[u]) n=num f X n++[(u,n+cnt f X)]
 |[],n=>rfl
 |x::X,n=>by
  show(x,n)::num f (X++[u]) (n+b1n (f x))=(x,n)::(num f X (n+b1n (f x))++[(u,n+cnt f (x::X))]);rw[bW f u X,Nat.add_assoc];have:b1n (f x)+cnt f X=cnt f (x::X):=by
   unfold cnt b1n;rw[z7];cases f x <;> simp <;> lia
  rw[this]
theorem Jf(f:As->Bool):∀(X:List As) (n:Nat),(num f X n).map (·.1)=X
 |[],_=>rfl
 |x::X,n=>by show x::(num f X _).map (·.1)=_;rw[Jf f X]
theorem iJ(f:As->Bool)(u:As)(Y:List As):∀(X:List As) (n:Nat),(u,n+cnt f X)∈num f (X++u::Y) n
 |[],n=>.head _
 |x::X,n=>by
  have:=iJ f u Y X (n+b1n (f x));have e:n+b1n (f x)+cnt f X=n+cnt f (x::X):=by
   unfold cnt b1n;rw[z7];cases f x <;> simp <;> lia
  rw[e]at this;exact .tail _ this
abbrev plE(f:As->Bool)(x:As×Nat):f8×f8:=(sgA x.1,.tuple [.int ((x.2+b1n (f x.1):Nat):Int),.int (x.2:Int)])
def jL:Dn->Out:=(C5 (E4 4 (A0 2)) (C5 (sIf (C3 (b2 (A0 3) (vC (.int 1)) dIx)) (E4 2 (b2 (A0 4) (vC (.int 1)) C7)) F8) (Z6 1 (b2 (b2 (A0 3) (vC (.int 0)) dIx) (vC (.int 0)) dIx) (E5 (A2 (A0 2) (A2 (A0 4) A7))))))
def tL(f:As->Bool)(b:f8)(X:List As)(u:As)(hX:X.length<=100)(hn:sgn u∉X.map sgn)(s4:Sl):jL [.sh b,oN ((num f X 0).map (plE f)),.sh (.int (cnt f X:Int)),.sh (.tuple [tl u,.bool (f u)]),s4]=.nx [.sh b,oN ((num f (X++[u]) 0).map (plE f)),.sh (.int (cnt f (X++[u]):Int)),.sh (.tuple [tl u,.bool (f u)]),.sh (.int (cnt f X:Int))]:=by
 unfold jL;rw[B4 (D4 (d:=.int (cnt f X:Int)) rfl)];simp only[t9,u5];have hif:sIf (C3 (b2 (A0 3) (vC (.int 1)) dIx)) (E4 2 (b2 (A0 4) (vC (.int 1)) C7)) F8 [.sh b,oN ((num f X 0).map (plE f)),.sh (.int (cnt f X:Int)),.sh (.tuple [tl u,.bool (f u)]),.sh (.int (cnt f X:Int))]=.nx [.sh b,oN ((num f X 0).map (plE f)),.sh (.int (cnt f (X++[u]):Int)),.sh (.tuple [tl u,.bool (f u)]),.sh (.int (cnt f X:Int))]:=by
  rw[Tw];cases c:f u with
  |true=>
   rw[W5 (C4 (B3 (x:=.tuple [tl u,.bool true]) (y:=.int 1) rfl rfl (Bd _ _ _)))];rw[D4 (d:=.int ((cnt f X:Int)+1)) (B3 rfl rfl rfl)];rfl
  |false=>
   rw[Q4 (C4 (B3 (x:=.tuple [tl u,.bool false]) (y:=.int 1) rfl rfl (Bd _ _ _)))];rfl
 rw[B4 hif];have hl:((num f X 0).map (plE f)).length<=1000:=by
  have:=congrArg GU (Jf f X 0);rw[i7]at this ⊢;lia
 rw[Ib (kvs:=(num f X 0).map (plE f)) (kd:=sgA u) (v:=.tuple [.int (cnt f (X++[u]):Int),.int (cnt f X:Int)]) rfl rfl (B3 (x:=tl u) (y:=.int 0) (B3 (x:=.tuple [tl u,.bool (f u)]) (y:=.int 0) rfl rfl (T2 _ _)) rfl (T2 _ _)) (Iw (some (sgn u))) hl];rw[Ga (λp hp=>by
  obtain⟨x,hx,rfl⟩:=t8.mp hp;have hx:x.1∈X:=by rw[<-Jf f X 0];exact BW hx
  show l6 (sgA x.1) (sgA u)=false;rw[Qe,decide_eq_false];intro z;exact hn (by rw[<-z];exact BW hx))]
 rw[bW,z4,Nat.zero_add,Tw];rfl
theorem iE(f:As->Bool)(b:f8):∀(us X:List As),((X++us).map sgn).Nodup->(X++us).length<=100->∀s3 s4:Sl,∃t3 t4,E9 (st1 3) jL (us.map λu=>.tuple [tl u,.bool (f u)]) [.sh b,oN ((num f X 0).map (plE f)),.sh (.int (cnt f X:Int)),s3,s4]=.nx [.sh b,oN ((num f (X++us) 0).map (plE f)),.sh (.int (cnt f (X++us):Int)),t3,t4]
 |[],X,_,_,s3,s4=>by rw[u8];exact⟨s3,s4,rfl⟩
 |u::us,X,nd,hl,s3,s4=>by
  have e1:=tL f b X u (by rw[k7]at hl;lia) (by
   rw[z4,KB]at nd;intro z;exact nd.2.2 _ z _ (by rw[k6];exact .head _) rfl) s4
  obtain⟨t3,t4,e2⟩:=iE f b us (X++[u]) (by rw[x6];exact nd) (by rw[x6];exact hl) (.sh (.tuple [tl u,.bool (f u)])) (.sh (.int (cnt f X:Int)));rw[x6]at e2;exact⟨t3,t4,(F6 rfl e1).trans e2⟩
def plN(f:As->Bool)(O:List As):Kvs:=(num f O 0).map (plE f)++[(.none,.tuple [.int 0,.int (cnt f O:Int)])]
def Fj{g1:Dn->Out}{g2:Dn->Res Kvs}{δ δ':Dn}(h:g1 δ=.nx δ'):Di g1 g2 δ=g2 δ':=by unfold Di;rw[h]
def Ww{L:List Dp}{B:List Ad}(A:BkA L B)(hl:L.length<=10){ku kd:Kvs}(P:Pr L ku kd):O9 [bkD L]=.ok (plN (N5 ku kd) (ord B)):=by
 have hol:=Ds A;obtain⟨t3,t4,e⟩:=iE (N5 ku kd) (bkD L) (ord B) [] (Je A.bk) (by simp;lia) .un .un;have hp:=iD A hl P;have hlen:((num (N5 ku kd) (ord B) 0).map (plE (N5 ku kd))).length<=1000:=by
  have:=congrArg GU (Jf (N5 ku kd) (ord B) 0);rw[i7]at this ⊢;lia
 have e5:Z6 1 (vC .none) (E5 (A2 (vC (.int 0)) (A2 (A0 2) A7))) [.sh (bkD L),oN ((num (N5 ku kd) (ord B) 0).map (plE (N5 ku kd))),.sh (.int (cnt (N5 ku kd) (ord B):Int)),t3,t4]=.nx [.sh (bkD L),oN (plN (N5 ku kd) (ord B)),.sh (.int (cnt (N5 ku kd) (ord B):Int)),t3,t4]:=by
  rw[Ib (kvs:=(num (N5 ku kd) (ord B) 0).map (plE (N5 ku kd))) (kd:=.none) (v:=.tuple [.int 0,.int (cnt (N5 ku kd) (ord B):Int)]) rfl rfl rfl rfl hlen];rw[Ga (λp hp=>by
   obtain⟨x,hx,rfl⟩:=t8.mp hp;rfl)]
  rfl
 have e6:K7 (λδ=>((C9 (A2 (A0 0) A7) N8) δ).bind D8) (st1 3) jL [.sh (bkD L),oN [],.sh (.int 0),.un,.un]=.nx [.sh (bkD L),oN ((num (N5 ku kd) (ord B) 0).map (plE (N5 ku kd))),.sh (.int (cnt (N5 ku kd) (ord B):Int)),t3,t4]:=by
  unfold K7;rw[E3 (d:=.list ((ord B).map λu=>.tuple [tl u,.bool (N5 ku kd u)])) (D1 (A6 (d:=bkD L) rfl rfl) hp) rfl,D2];exact e
 unfold O9 Ek Dx fnW;show Di _ _ [.sh (bkD L),.un,.un,.un,.un]=_;refine(Fj (g1:=Ac 1) (δ':=[.sh (bkD L),oN [],.un,.un,.un]) rfl).trans ((Fj (g1:=E4 2 (vC (.int 0))) (δ':=[.sh (bkD L),oN [],.sh (.int 0),.un,.un]) rfl).trans ((Fj e6).trans ((Fj e5).trans rfl)))
theorem Ji{k:f8}{more:Kvs}:∀{kvs:Kvs},(∀p∈kvs,l6 p.1 k=false)->L0 (kvs++more) k=L0 more k
 |[],_=>rfl
 |p::r,h=>by
  unfold L0;rw[DC,z9,h p (.head _)];exact Ji (kvs:=r) λq hq=>h q (.tail _ hq)
def zQ{O:List As}(nd:(O.map sgn).Nodup)(f:As->Bool):(num f O 0).Pairwise (λa b=>l6 (plE f a).1 (plE f b).1=false):=by
 have h1:((num f O 0).map (λx=>sgn x.1)).Nodup:=by
  have:(num f O 0).map (λx=>sgn x.1)=((num f O 0).map (·.1)).map sgn:=by rw[DU];rfl
  rw[this,Jf];exact nd
 rw[HQ,IL]at h1;exact h1.imp λ{a b} h=>by show l6 (sgA a.1) (sgA b.1)=false;rw[Qe,decide_eq_false h]
def Sr(f:As->Bool)(O:List As):L0 (plN f O) .none=some (.tuple [.int 0,.int (cnt f O:Int)]):=by
 unfold plN;rw[Ji (λp hp=>by obtain⟨x,hx,rfl⟩:=t8.mp hp;rfl)];rfl
def Sq{f:As->Bool}{O X Y:List As}{u:As}(nd:(O.map sgn).Nodup)(e:O=X++u::Y):L0 (plN f O) (sgA u)=some (.tuple [.int ((cnt f X+b1n (f u):Nat):Int),.int (cnt f X:Int)]):=by
 have hm:(u,cnt f X)∈num f O 0:=by have:=iJ f u Y X 0;rw[Nat.zero_add]at this;rw[e];exact this
 exact Ik (plE f) (u:=(u,cnt f X)) (by show l6 (sgA u) (sgA u)=true;rw[Qe];simp) hm (zQ nd f)
def xF:Io "lr" (.str "l")=some (.int 0):=by
 have:HZ "lr" "l" 0 (("lr" : Str)).length 1=[0]:=by decide+kernel
 simp only[Io,this];rfl
def xE:Io "lr" (.str "r")=some (.int 1):=by
 have:HZ "lr" "r" 0 (("lr" : Str)).length 1=[1]:=by decide+kernel
 simp only[Io,this];rfl
def Qp{kvs:Kvs}{k:f8}{x:Str}{y z v:f8}{j:Int}(hk:nkD k=true)(hg:L0 kvs k=some (.tuple [y,z]))(hi:Io "lr" (.str x)=some (.int j))(hv:dIx (.tuple [y,z]) (.int j)=some v):M1 [fN kvs,.sh (.tuple [k,.str x])]=.ok v:=by
 unfold M1 Fv Gr fnS;have:L5 (b2 (X7 0 (b2 (A0 1) (vC (.int 0)) dIx)) (Qb (vC (.str "lr")) (b2 (A0 1) (vC (.int 1)) dIx)) dIx) [fN kvs,.sh (.tuple [k,.str x])]=.rt v:=by
  refine L3 (B3 (x:=.tuple [y,z]) (y:=.int j) ?_ ?_ hv)
  .unfold X7
   show Res.bind _ (λkd'=>if nkD kd'=true then ofO (L0 kvs kd') else Res.no)=_;rw[B3 (x:=.tuple [k,.str x]) (y:=.int 0) rfl rfl (T2 _ _),B9,iq hk,hg];rfl
  .unfold Qb
   show Res.bind _ _=_;rw[show vC (.str "lr") [fN kvs,.sh (.tuple [k,.str x])]=.ok (.str "lr") from rfl,B9];show Res.bind _ _=_;rw[B3 (x:=.tuple [k,.str x]) (y:=.int 1) rfl rfl (Bd _ _ _),B9,hi];rfl
 show(match L5 _ [fN kvs,.sh (.tuple [k,.str x])]with |.rt d=>_ |.nx _=>_ |.exc c=>_ |_=>_)=_;rw[this]
def Um(O:List As)(d:f8):Prop:=∃s x,d=.tuple [s,.str x]/\cE x/\(s=.none\/∃u∈O,s=sgA u)
def inO(O:List As)(u:As):Bool:=O.any λv=>decide (sgn v=sgn u)
def inO_t{O:List As}{u:As}(h:u∈O):inO O u=true:=NA.mpr ⟨u,h,decide_eq_true rfl⟩
def AI{O:List As}(u:As):dIn false (sgA u) (.list (O.map sgA))=some (.bool (inO O u)):=by
 show(if _ then _ else _)=_;rw[iq (l9 (DX _ _) (l9 (show(sgA u).depth<=3 from Zw (sgn u)) (by decide)))];have:((O.map sgA).any λy=>l6 y (sgA u))=inO O u:=by
  rw[KT];unfold inO;congr 1;funext v;exact Qe v u
 simp[this]
def pG{O:List As}(nd:(O.map sgn).Nodup){u v:As}(hu:u∈O)(hv:v∈O)(h:sgn u=sgn v):u=v:=by
 induction O with
 |nil=>cases hu
 |cons x O ih=>
  rw[k6,BQ]at nd;rcases j9.mp hu with e1 |h1
  .rcases j9.mp hv with e2 |h2
   .exact e1.trans e2.symm
   .exact absurd (BW (f:=sgn) h2) (by rw[<-h,e1];exact nd.1)
  .rcases j9.mp hv with e2 |h2
   .exact absurd (BW (f:=sgn) h1) (by rw[h,e2];exact nd.1)
   .exact ih nd.2 h1 h2
def fQ{O:List As}(nd:(O.map sgn).Nodup)(f:As->Bool){u:As}(hu:u∈O):inO (O.filter f) u=f u:=by
 cases c:f u with
 |true=>exact inO_t (BN.mpr ⟨hu,c⟩)
 |false=>
  unfold inO;rw[List.any_eq_false];intro v hv z;have hv:=BN.mp hv;rw[pG nd hv.1 hu (of_decide_eq_true z),c]at hv;exact absurd hv.2 (by decide)
def wZ:(("l" : Str)==("r" : Str))=false/\(("r" : Str)==("l" : Str))=false:=⟨by decide+kernel,by decide+kernel⟩
def cG{O:List As}(T:List f8){x:Str}(hx:cE x):E1 [.list (O.map sgA),.list T,.tuple [.none,.str x]]=.ok (.int (if x="r" then(T.length:Int) else 0)):=by
 unfold E1 Y6 Q1;refine N2 ?_;show C5 _ _ [.sh (.list (O.map sgA)),.sh (.list T),.sh (.tuple [.none,.str x]),.un]=_;refine Fy ?_;unfold X1;have e0:(b2 (A0 2) (vC (.int 0)) dIx) [.sh (.list (O.map sgA)),.sh (.list T),.sh (.tuple [.none,.str x]),.un]=.ok .none:=B3 (x:=.tuple [.none,.str x]) (y:=.int 0) rfl rfl (T2 _ _);rw[W5 (by show Res.bind _ _=_;rw[e0];rfl)];rcases hx with rfl |rfl
 .rw[ir (by decide)]
  refine L3 (B3 (x:=.list [.int 0,.int (T.length:Int)]) (y:=.int 0) rfl (N4 (A6 (d:=.bool false) (B3 (x:=.str "l") (y:=.str "r") (B3 (x:=.tuple [.none,.str "l"]) (y:=.int 1) rfl rfl (Bd _ _ _)) rfl (by rw[W6,wZ.1])) rfl) rfl) rfl)
 .rw[iq rfl]
  refine L3 (B3 (x:=.list [.int 0,.int (T.length:Int)]) (y:=.int 1) rfl (N4 (A6 (d:=.bool true) (B3 (x:=.str "r") (y:=.str "r") (B3 (x:=.tuple [.none,.str "r"]) (y:=.int 1) rfl rfl (Bd _ _ _)) rfl (by rw[W6,Hs])) rfl) rfl) rfl)
def cF{f:As->Bool}{O X Y:List As}{u:As}(nd:(O.map sgn).Nodup)(hl:O.length<=100)(e:O=X++u::Y)(hix:Ix O (sgn u) X.length){x:Str}(hx:cE x):E1 [.list (O.map sgA),.list ((O.filter f).map sgA),.tuple [sgA u,.str x]]=.ok (.int (if x="l" then((cnt f X+b1n (f u):Nat):Int) else(cnt f X:Int))):=by
 unfold E1 Y6 Q1;refine N2 ?_;show C5 _ _ [.sh (.list (O.map sgA)),.sh (.list ((O.filter f).map sgA)),.sh (.tuple [sgA u,.str x]),.un]=_;have e0:∀s3:Sl,(b2 (A0 2) (vC (.int 0)) dIx) [.sh (.list (O.map sgA)),.sh (.list ((O.filter f).map sgA)),.sh (.tuple [sgA u,.str x]),s3]=.ok (sgA u):=λs3=>B3 (x:=.tuple [sgA u,.str x]) (y:=.int 0) rfl rfl (T2 _ _);have e1:∀s3:Sl,(b2 (A0 2) (vC (.int 1)) dIx) [.sh (.list (O.map sgA)),.sh (.list ((O.filter f).map sgA)),.sh (.tuple [sgA u,.str x]),s3]=.ok (.str x):=λs3=>B3 (x:=.tuple [sgA u,.str x]) (y:=.int 1) rfl rfl (Bd _ _ _);rw[B4 (δ':=[.sh (.list (O.map sgA)),.sh (.list ((O.filter f).map sgA)),.sh (.tuple [sgA u,.str x]),.un]) (by
  unfold X1;rw[Q4 (by show Res.bind _ _=_;rw[e0];rfl)];rfl)]
 have fin : ∀ Z : List As,(∃ R,O = Z ++ R) -> (C3 (b2 (b2 (A0 2) (vC (.int 1)) dIx) (vC (.str "l")) dEq)) [.sh (.list (O.map sgA)),.sh (.list ((O.filter f).map sgA)),.sh (.tuple [sgA u,.str x]),.un] = .ok (decide (x = "l")) -> Z.length = X.length+b1n (decide (x = "l")) ->
  C5 X0 W9 [.sh (.list (O.map sgA)),.sh (.list ((O.filter f).map sgA)),.sh (.tuple [sgA u,.str x]),.un]=.rt (.int (cnt f Z:Int)):=λZ hZ hc hlen=>by
  obtain⟨R,hR⟩:=hZ;have hb:(b2 (b2 (A0 2) (vC (.int 1)) dIx) (vC (.str "l")) dEq) [.sh (.list (O.map sgA)),.sh (.list ((O.filter f).map sgA)),.sh (.tuple [sgA u,.str x]),.un]=.ok (.bool (decide (x="l"))):=B3 (x:=.str x) (y:=.str "l") (e1 _) rfl (by rw[W6];rfl);rw[B4 (δ':=[.sh (.list (O.map sgA)),.sh (.list ((O.filter f).map sgA)),.sh (.tuple [sgA u,.str x]),.sh (.int (Z.length:Int))]) (by
   unfold X0;refine D4 (B3 (x:=.int (X.length:Nat)) (y:=.int (b1n (decide (x="l")):Int)) (hix.eval hl rfl (e0 _)) (N4 (A6 hb rfl) (by cases decide (x="l") <;> rfl)) ?_)
   rw[W4,hlen];rfl)]
  unfold W9;have hcut:Dk (O.map sgA) none (some (Z.length:Int))=Z.map sgA:=by
   rw[jE _ _ (by rw[hR];simp),hR,z4,<-i7 (f:=sgA),List.take_left]
  have c:=W3 (δc:=[.sh (.list ((O.filter f).map sgA))]) (tt:=C3 (b2 (A0 0) (A0 1) (dIn false))) (el:=A0 0) sgA sgA f Z (λv hv=>C4 (B3 (x:=sgA v) (y:=.list ((O.filter f).map sgA)) rfl rfl (by rw[AI,fQ nd f (by rw[hR];exact m6.mpr (.inl hv))]))) (λv _=>rfl);have hZl:Z.length<=100:=by have:=congrArg GU hR;rw[k7]at this;lia
  refine L3 (N4 (A6 (N6 (I8 (E3 (d:=.list (Z.map sgA)) (Yd (x:=.list (O.map sgA)) rfl rfl rfl (by show some (IC _)=_;rw[hcut])) rfl) (by rw[i7];lia) rfl c)) rfl) ?_);rw[lG,i7];rfl
 rcases hx with rfl |rfl
 .rw[iq rfl,<-Tw]
  exact fin (X++[u]) ⟨Y,by rw[e];simp⟩ (C4 (B3 (e1 _) rfl (by rw[W6,Hs];rfl))) (by simp[b1n])
 .rw[ir (by decide)]
  exact fin X ⟨u::Y,e⟩ (C4 (B3 (e1 _) rfl (by rw[W6,wZ.2];rfl))) (by rw[decide_eq_false (by decide)];rfl)
inductive Md(O:List As)(e:Dp):Prop where
 |mark (n:Str) (a1 a2:f8):e.1=.tuple [.str "mark",idP e.2,.str n,a1,a2]->U5 n->Um O a1->Um O a2->okH e.2.2->Md O e
 |unm (n:Str):e.1=.tuple [.str "unmark",idP e.2,.str n]->U5 n->Md O e
 |oth (k:Str) (x:f8) (xs:List f8):e.1=.tuple (.str k::idP e.2::x::xs)->k≠"mark"->k≠"unmark"->Md O e
def WfIn.md{L:List Dp}{B:List Ad}(A:BkA L B){e:Dp}(h:WfIn L e):Md (ord B) e:=by
 obtain⟨o,r⟩:=(show Wf _ _ _ _ from h);have an:∀s x,OrN (SgOf e.2.1 (L.map (·.1))) s->cE x->Um (ord B) (.tuple [s,.str x]):=λs x hs hx=>by
  refine⟨s,x,rfl,hx,?_⟩;rcases hs with rfl |⟨p,b,w,n,hm,rfl,hn,_,_⟩
  .exact .inl rfl
  .obtain⟨a,ha,rfl,rfl⟩:=A.ad.of hm
   exact .inr ⟨(a,n),(X4 A.bk (a,n)).mpr ⟨ha,hn⟩,rfl⟩
 rcases r with⟨b,w,e1,_⟩ |⟨sg,e1,_⟩ |⟨n,s1,x1,s2,x2,e1,h1,h2,hn,l1,l2⟩ |⟨n,e1,hn⟩ |⟨q,e1,_⟩
 .exact .oth "add" _ _ e1 (by decide) (by decide)
 .exact .oth "drop" _ _ e1 (by decide) (by decide)
 .exact .mark n _ _ e1 hn (an _ _ h1 l1) (an _ _ h2 l2) o.2.2
 .exact .unm n e1 hn
 .exact .oth "undo" _ _ e1 (by decide) (by decide)
def Eu(d:f8):Option Str:=match d with
 |.tuple (.str k::_::.str n::_)=>if k="mark" \/ k="unmark" then some n else none
 |_=>none
def Sz{k:Str}{i x:f8}{xs:List f8}(h1:k≠"mark")(h2:k≠"unmark"):Eu (.tuple (.str k::i::x::xs))=none:=by
 unfold Eu;split
 .rename_i heq
  injection heq with heq
  injection heq with h _
  injection h with h
  rw[<-h,ir (by rintro (z |z);exact h1 z;exact h2 z)]
 .rfl
def Fe(o:List IdP)(e:Dp)(kvs:Kvs):Kvs:=match Eu e.1 with
 |some n=>if e.2∈o then kvs else Q8 kvs (.str n) e.1
 |none=>kvs
noncomputable def Td(o:List IdP):List Dp->Kvs->Kvs
 |[],kvs=>kvs
 |e::r,kvs=>Td o r (Fe o e kvs)
def cMk:Dn->Res Bool:=C3 (b2 (b2 (A0 3) (vC (.int 0)) dIx) (E5 (A2 (vC (.str "mark")) (A2 (vC (.str "unmark")) A7))) (dIn false))
def inMk(k:Str):dIn false (.str k) (.tuple [.str "mark",.str "unmark"])=some (.bool (decide (k="mark" \/ k="unmark"))):=by
 have h:([BU "mark",.str "unmark"].any λy=>l6 y (.str k))=decide (k="mark" \/ k="unmark"):=by
  show((("mark" : Str)==k)||((("unmark" : Str)==k)||false))=_;rw[KH,CZ,NN,beq_iff_eq,beq_iff_eq,decide_eq_true_iff];exact⟨λh=>h.elim (λz=>.inl z.symm) λz=>.inr z.symm,λh=>h.elim (λz=>.inl z.symm) λz=>.inr z.symm⟩
 rw[<-h];unfold dIn;simp only[];rw[iq (l9 (DX _ _) (by simp[CW])),ir (by decide)]
def lK{O:List As}{e:Dp}(h:Md O e)(o:List IdP)(c:Dn->Res Bool)(x0 x1:Sl)(kvs:Kvs)(hl:kvs.length<=900)(hc:c [x0,x1,oN kvs,.sh e.1]=.ok (!decide (e.2∈o))):
 sIf (O5 cMk c) (Z6 2 (b2 (A0 3) (vC (.int 2)) dIx) (A0 3)) F8 [x0,x1,oN kvs,.sh e.1]=.nx [x0,x1,oN (Fe o e kvs),.sh e.1]/\(Fe o e kvs).length<=kvs.length+1:=by
 have go:∀k n xs,e.1=.tuple (.str k::idP e.2::.str n::xs)->(k="mark" \/ k="unmark")->sIf (O5 cMk c) (Z6 2 (b2 (A0 3) (vC (.int 2)) dIx) (A0 3)) F8 [x0,x1,oN kvs,.sh e.1]=.nx [x0,x1,oN (Fe o e kvs),.sh e.1]/\(Fe o e kvs).length<=kvs.length+1:=λk n xs e1 hk=>by
  have c1:cMk [x0,x1,oN kvs,.sh e.1]=.ok true:=by
   unfold cMk;refine C4 (B3 (x:=.str k) (y:=.tuple [.str "mark",.str "unmark"]) (B3 (x:=e.1) (y:=.int 0) rfl rfl (by rw[e1];exact T2 _ _)) rfl ?_);rw[inMk,decide_eq_true hk]
  have hn:Eu e.1=some n:=by rw[e1];unfold Eu;exact iq hk
  unfold Fe;rw[hn];by_cases ho:e.2∈o
  .rw[decide_eq_true ho]at hc
   rw[Q4 (Gm c1 hc)];show _=Out.nx [x0,x1,oN (if e.2∈o then kvs else _),_]/\(if e.2∈o then kvs else _).length<=_;rw[iq ho];exact⟨rfl,by lia⟩
  .rw[decide_eq_false ho]at hc
   rw[W5 (Gk c1 hc),Ib (kvs:=kvs) (kd:=.str n) (v:=e.1) rfl rfl (B3 (x:=e.1) (y:=.int 2) rfl rfl (by rw[e1];exact Ur _ _ _ _)) rfl (by lia)];show _=Out.nx [x0,x1,oN (if e.2∈o then kvs else _),_]/\(if e.2∈o then kvs else _).length<=_;rw[ir ho];exact⟨rfl,Fd kvs⟩
 cases h with
 |mark n a1 a2 e1 _ _ _ _=>exact go _ n _ e1 (.inl rfl)
 |unm n e1 _=>exact go _ n _ e1 (.inr rfl)
 |oth k x xs e1 h1 h2=>
  have c1:cMk [x0,x1,oN kvs,.sh e.1]=.ok false:=by
   unfold cMk;refine C4 (B3 (x:=.str k) (y:=.tuple [.str "mark",.str "unmark"]) (B3 (x:=e.1) (y:=.int 0) rfl rfl (by rw[e1];exact T2 _ _)) rfl ?_);rw[inMk,decide_eq_false (by rintro (z |z);exact h1 z;exact h2 z)]
  have hn:Eu e.1=none:=by rw[e1];exact Sz h1 h2
  unfold Fe;rw[hn,Q4 (Gn c1)];exact⟨rfl,JE _⟩
theorem Nf{O:List As}(o:List IdP)(c:Dn->Res Bool)(x0 x1:Sl):∀(M:List Dp),(∀e∈M,Md O e)->(∀e∈M,∀kvs,c [x0,x1,oN kvs,.sh e.1]=.ok (!decide (e.2∈o)))->∀(kvs:Kvs) (s3:Sl),kvs.length+M.length<=900 ->
 ∃t3,E9 (st1 3) (sIf (O5 cMk c) (Z6 2 (b2 (A0 3) (vC (.int 2)) dIx) (A0 3)) F8) (M.map (·.1)) [x0,x1,oN kvs,s3]=.nx [x0,x1,oN (Td o M kvs),t3]/\(Td o M kvs).length<=kvs.length+M.length
 |[],_,_,kvs,s3,_=>⟨s3,rfl,s0 _⟩
 |e::M,h,hc,kvs,s3,hl=>by
  rw[l7]at hl ⊢;obtain⟨e1,l1⟩:=lK (h e (.head _)) o c x0 x1 kvs (by lia) (hc e (.head _) kvs);obtain⟨t3,e2,l2⟩:=Nf o c x0 x1 M (λd hd=>h d (.tail _ hd)) (λd hd=>hc d (.tail _ hd)) (Fe o e kvs) (.sh e.1) (by lia);refine⟨t3,(F6 rfl e1).trans e2,?_⟩;show(Td o M (Fe o e kvs)).length<=_;lia
def LastOk(O:List As)(kvs:Kvs):Prop:=∀p∈kvs,∃n,p.1=.str n/\U5 n/\((∃(q:IdP) (a1 a2:f8),p.2=.tuple [.str "mark",idP q,.str n,a1,a2]/\(Um O a1/\Um O a2)/\okH q.2)\/∃i,p.2=.tuple [.str "unmark",i,.str n])
def Wt{O:List As}{kvs:Kvs}(h:LastOk O kvs){n:Str}{d:f8}(hn:U5 n)(hd:(∃(q:IdP) (a1 a2:f8),d=.tuple [.str "mark",idP q,.str n,a1,a2]/\(Um O a1/\Um O a2)/\okH q.2)\/∃i,d=.tuple [.str "unmark",i,.str n]):LastOk O (Q8 kvs (.str n) d):=by
 induction kvs with
 |nil=>intro p hp;rw[m9.mp hp];exact⟨n,rfl,hn,hd⟩
 |cons q r ih=>
  unfold Q8;split
  .rename_i c
   obtain⟨m,hm,_⟩:=h q (.head _);intro p hp;rcases j9.mp hp with rfl |hp
   .have : m = n:= by
     rw[hm]at c;exact GY (show(m==n)=true from c)
    exact⟨n,by rw[hm,this],hn,hd⟩
   .exact h p (.tail _ hp)
  .intro p hp
   rcases j9.mp hp with rfl |hp
   .exact h p (.head _)
   .exact ih (λx hx=>h x (.tail _ hx)) p hp
theorem cJ{O:List As}(o:List IdP):∀(M:List Dp),(∀e∈M,Md O e)->∀kvs,LastOk O kvs->LastOk O (Td o M kvs)
 |[],_,kvs,h=>h
 |e::M,hM,kvs,h=>by
  refine cJ o M (λd hd=>hM d (.tail _ hd)) _ ?_;cases hM e (.head _) with
  |mark n a1 a2 e1 hn h1 h2 h3=>
   unfold Fe;rw[e1,show Eu (.tuple [.str "mark",idP e.2,.str n,a1,a2])=some n by unfold Eu;exact iq (.inl rfl)];show LastOk O (if e.2∈o then kvs else _);split
   .exact h
   .exact Wt h hn (.inl ⟨_,_,_,rfl,⟨h1,h2⟩,h3⟩)
  |unm n e1 hn=>
   unfold Fe;rw[e1,show Eu (.tuple [.str "unmark",idP e.2,.str n])=some n by unfold Eu;exact iq (.inr rfl)];show LastOk O (if e.2∈o then kvs else _);split
   .exact h
   .exact Wt h hn (.inr ⟨_,rfl⟩)
  |oth k x xs e1 h1 h2=>
   unfold Fe;rw[e1,Sz h1 h2];exact h
theorem LastOk.texts{O:List As}:∀{kvs:Kvs},LastOk O kvs->∃ss,V4 (kvs.map (·.1))=some ss/\ss.length=kvs.length/\(∀x∈ss,U5 x)/\∀x∈ss,∃d,L0 kvs (.str x)=some d
 |[],_=>⟨[],rfl,rfl,(λ_ h=>nomatch h),(λ_ h=>nomatch h)⟩
 |p::r,h=>by
  obtain⟨ss,e1,e2,e3,e4⟩:=LastOk.texts (kvs:=r) λq hq=>h q (.tail _ hq);obtain⟨n,hn,ho,_⟩:=h p (.head _);refine⟨n::ss,?_,by simp[e2],λx hx=>?_,λx hx=>?_⟩
  .rw[k6,hn]
   show(V4 (r.map (·.1))).map (n::·)=_;rw[e1];rfl
  .rcases j9.mp hx with rfl |hx
   .exact ho
   .exact e3 x hx
  .unfold L0
   rw[z9];cases c:l6 p.1 (.str x) with
   |true=>exact⟨_,rfl⟩
   |false=>
    rcases j9.mp hx with rfl |hx
    .rw[hn]at c
     exact absurd (show(x==x)=false from c) (by rw[beq_self_eq_true];decide)
    .exact e4 x hx
def LastOk.get{O:List As}{kvs:Kvs}(h:LastOk O kvs){x:Str}{d:f8}(e:L0 kvs (.str x)=some d):(∃(q:IdP) (a1 a2:f8),d=.tuple [.str "mark",idP q,.str x,a1,a2]/\(Um O a1/\Um O a2)/\okH q.2)\/∃i,d=.tuple [.str "unmark",i,.str x]:=by
 unfold L0 at e;obtain⟨p,e1,e2⟩:=FN.mp e;have hp:=List.mem_of_find?_eq_some e1;have hq:=List.find?_some e1;obtain⟨n,hn,_,hd⟩:=h p hp;rw[hn]at hq;have:n=x:=GY (show(n==x)=true from hq);subst this;rw[<-e2];exact hd
noncomputable def bef(f:As->Bool):List As->As->Nat
 |[],_=>0
 |v::r,u=>if sgn v=sgn u then 0 else b1n (f v)+bef f r u
def dM(f:As->Bool)(v:As)(X:List As):cnt f (v::X)=b1n (f v)+cnt f X:=by
 unfold cnt b1n;rw[z7];cases f v <;> simp <;> lia
theorem Xx{f:As->Bool}:∀{O:List As} {u:As},u∈O->(O.map sgn).Nodup->∃X Y,O=X++u::Y/\bef f O u=cnt f X
 |v::r,u,h,nd=>by
  rw[k6,BQ]at nd;unfold bef;by_cases c:sgn v=sgn u
  .rw[iq c]
   have:v=u:=by
    rcases j9.mp h with e |h
    .exact e.symm
    .exact absurd (BW (f:=sgn) h) (by rw[<-c];exact nd.1)
   exact⟨[],r,by rw[this];rfl,rfl⟩
  .rw[ir c]
   have hu:u∈r:=by
    rcases j9.mp h with e |h
    .exact absurd (by rw[e]) c
    .exact h
   obtain⟨X,Y,e1,e2⟩:=Xx hu nd.2;exact⟨v::X,Y,by rw[e1];rfl,by rw[e2,dM]⟩
def Ui{f:As->Bool}{O:List As}(nd:(O.map sgn).Nodup)(hl:O.length<=100){d:f8}(h:Um O d):∃n:Nat,M1 [fN (plN f O),.sh d]=.ok (.int (n:Int))/\E1 [.list (O.map sgA),.list ((O.filter f).map sgA),d]=.ok (.int (n:Int))/\n<=cnt f O:=by
 obtain⟨s,x,rfl,hx,hs⟩:=h;rcases hs with rfl |⟨u,hu,rfl⟩
 .have hp:=cG (O:=O) ((O.filter f).map sgA) hx
  rcases hx with rfl |rfl
  .refine⟨0,Qp rfl (Sr f O) xF (T2 _ _),?_,ER _⟩
   rw[hp,ir (by decide)];rfl
  .refine⟨cnt f O,Qp rfl (Sr f O) xE (Bd _ _ _),?_,s0 _⟩
   rw[hp,iq rfl,i7];rfl
 .obtain⟨X,v,Y,e1,e2,e3,_⟩:=qI (s:=sgn u) (O:=O) ⟨u,hu,rfl⟩
  have hv:v=u:=pG nd (by rw[e1];simp) hu e2;subst hv;have hp:=cF (f:=f) nd hl e1 e3 hx;have hc:cnt f O=cnt f X+(b1n (f v)+cnt f Y):=by
   rw[e1,<-dM];unfold cnt;rw[JR,k7]
  rcases hx with rfl |rfl
  .refine⟨cnt f X+b1n (f v),Qp (Iw (some (sgn v))) (Sq nd e1) xF (T2 _ _),?_,by lia⟩
   rw[hp,iq rfl]
  .refine⟨cnt f X,Qp (Iw (some (sgn v))) (Sq nd e1) xE (Bd _ _ _),?_,by lia⟩
   rw[hp,ir (by decide)]
def sel(kvs:Kvs)(n:Str):f8:=(L0 kvs (.str n)).getD .none
def isM(kvs:Kvs)(n:Str):Bool:=match sel kvs n with
 |.tuple (.str k::_)=>k== "mark"
 |_=>false
noncomputable abbrev D6(t:Str×Nat×Nat):f8:=.tuple [.str t.1,.int (t.2.1:Int),.int (t.2.2:Int)]
inductive Rows(kvs:Kvs)(O:List As)(f:As->Bool):List Str->List (Str×Nat×Nat)->Prop where
 |nil:Rows kvs O f [] []
 |mark {n:Str} {i:IdP} {a1 a2:f8} {b c:Nat} {ns:List Str} {rs:List (Str×Nat×Nat)}:L0 kvs (.str n)=some (.tuple [.str "mark",idP i,.str n,a1,a2])->M1 [fN (plN f O),.sh a1]=.ok (.int (b:Int))->M1 [fN (plN f O),.sh a2]=.ok (.int (c:Int))->(E1 [.list (O.map sgA),.list ((O.filter f).map sgA),a1]=.ok (.int (b:Int))/\E1 [.list (O.map sgA),.list ((O.filter f).map sgA),a2]=.ok (.int (c:Int)))->b<=cnt f O->c<=cnt f O->okH i.2->Rows kvs O f ns rs->Rows kvs O f (n::ns) ((n,b,if b<c then c else b)::rs)
 |skip {n:Str} {i:f8} {ns:List Str} {rs:List (Str×Nat×Nat)}:L0 kvs (.str n)=some (.tuple [.str "unmark",i,.str n])->Rows kvs O f ns rs->Rows kvs O f (n::ns) rs
theorem hW{kvs:Kvs}{O:List As}{f:As->Bool}(nd:(O.map sgn).Nodup)(hl:O.length<=100)(h:LastOk O kvs):∀ns:List Str,(∀x∈ns,∃d,L0 kvs (.str x)=some d)->∃rs,Rows kvs O f ns rs
 |[],_=>⟨[],.nil⟩
 |n::ns,hn=>by
  obtain⟨rs,hr⟩:=hW (f:=f) nd hl h ns λx hx=>hn x (.tail _ hx);obtain⟨d,hd⟩:=hn n (.head _);rcases h.get hd with⟨i,a1,a2,rfl,⟨h1,h2⟩,hi⟩ |⟨i,rfl⟩
  .obtain⟨b,b1,b3,b2⟩:=Ui (f:=f) nd hl h1
   obtain⟨c,c1,c3,c2⟩:=Ui (f:=f) nd hl h2;exact⟨_,.mark hd b1 c1 ⟨b3,c3⟩ b2 c2 hi hr⟩
  .exact⟨rs,.skip hd hr⟩
def Rows.ok{kvs:Kvs}{O:List As}{f:As->Bool}{ns:List Str}{rs:List (Str×Nat×Nat)}(h:Rows kvs O f ns rs):rs.length<=ns.length/\(∀t∈rs,t.1∈ns/\t.2.1<=t.2.2/\t.2.2<=cnt f O)/\(ns.Nodup->(rs.map (·.1)).Nodup):=by
 induction h with
 |nil=>exact⟨s0 _,(λ_ h=>nomatch h),λ_=>.nil⟩
 |@mark n i a1 a2 b c ns rs _ _ _ _ hb hc _ _ ih=>
  refine⟨Nat.succ_le_succ ih.1,λt ht=>?_,λnd=>?_⟩
  .rcases j9.mp ht with rfl |ht
   .refine⟨.head _,?_,?_⟩
    .show b<=(if b<c then c else b)
     split <;> lia
    .show(if b<c then c else b)<=_
     split <;> lia
   .obtain⟨k1,k2⟩:=ih.2.1 t ht
    exact⟨.tail _ k1,k2⟩
  .rw[BQ]at nd
   rw[k6,BQ];refine⟨λz=>?_,ih.2.2 nd.2⟩;obtain⟨t,ht,e⟩:=t8.mp z;have:=(ih.2.1 t ht).1;rw[e]at this;exact nd.1 this
 |skip _ _ ih=>
  refine⟨GJ ih.1,λt ht=>?_,λnd=>?_⟩
  .obtain⟨k1,k2⟩:=ih.2.1 t ht
   exact⟨.tail _ k1,k2⟩
  .exact ih.2.2 (BQ.mp nd).2
def Te{kvs:Kvs}{n:Str}{xs:List f8}(h:L0 kvs (.str n)=some (.tuple (.str "mark"::xs))):isM kvs n=true:=by
 unfold isM sel;rw[h];exact beq_self_eq_true _
def Zq{kvs:Kvs}{n:Str}{xs:List f8}(h:L0 kvs (.str n)=some (.tuple (.str "unmark"::xs))):isM kvs n=false:=by
 unfold isM sel;rw[h];exact Z5 (by decide)
def uN{kvs:Kvs}{O:List As}{f:As->Bool}{ns:List Str}{rs:List (Str×Nat×Nat)}(h:Rows kvs O f ns rs):E2 F7 [oN kvs] (C3 (b2 (b2 (X7 1 (A0 0)) (vC (.int 0)) dIx) (vC (.str "mark")) dEq)) (X7 1 (A0 0)) (ns.map .str)=.ok ((ns.filter (isM kvs)).map (sel kvs)):=by
 have get:∀{n:Str} {d:f8},L0 kvs (.str n)=some d->(X7 1 (A0 0)) ([.sh (.str n)]++[oN kvs])=.ok d:=λ{n d} e=>by
  show Res.bind (Res.ok (BU n)) (λkd'=>if nkD kd'=true then ofO (L0 kvs kd') else Res.no)=_;rw[B9,iq (show nkD (.str n)=true from rfl),e];rfl
 induction h with
 |nil=>rfl
 |@mark n i a1 a2 b c ns rs hg _ _ _ _ _ _ _ ih=>
  rw[z7,Te hg,iq rfl,k6,k6,show sel kvs n=.tuple [.str "mark",idP i,.str n,a1,a2] by unfold sel;rw[hg];rfl];exact rF (C4 (B3 (x:=.str "mark") (y:=.str "mark") (B3 (get hg) rfl (T2 _ _)) rfl (by rw[W6,Hs]))) (get hg) ih
 |@skip n i ns rs hg _ ih=>
  rw[z7,Zq hg,ir (by decide),k6];exact rG (C4 (B3 (x:=.str "unmark") (y:=.str "mark") (B3 (get hg) rfl (T2 _ _)) rfl (by rw[W6,Z5 (by decide)]))) ih
def rO:Dn->Out:=(C5 (E4 4 (Dl 1 (b2 (A0 3) (vC (.int 3)) dIx) M1)) (Dj 2 (E5 (A2 (b2 (A0 3) (vC (.int 2)) dIx) (A2 (A0 4) (A2 (vFn (A2 (A0 4) (A2 (Dl 1 (b2 (A0 3) (vC (.int 4)) dIx) M1) A7)) dI) A7))))))
def tix4(x y z u v:f8)(xs:List f8):dIx (.tuple (x::y::z::u::v::xs)) (.int 4)=some v:=P8 (xs:=x::y::z::u::v::xs) (j:=4) (by simp)
def Xp{i:Nat}{f:Dn->Res f8}{m:List Sl->Res f8}{δ:Dn}{kvs:Kvs}{d v:f8}(h1:δ[i]?=some (.fd kvs))(h2:f δ=.ok d)(h3:m [.fd kvs,.sh d]=.ok v):Dl i f m δ=.ok v:=by
 unfold Dl;rw[h1];show(f δ).bind _=_;rw[h2,B9,h3]
def mx(b c:Nat):dI [.int (b:Int),.int (c:Int)]=some (.int ((if b<c then c else b:Nat):Int)):=by
 show some (DZ (if (b:Int)<(c:Int) then(c:Int) else(b:Int)))=_;by_cases h:b<c
 .rw[iq h,iq (by lia)]
 .rw[ir h,ir (by lia)]
def uJ{kvs:Kvs}{O:List As}{f:As->Bool}(b:f8){ns:List Str}{rs:List (Str×Nat×Nat)}(h:Rows kvs O f ns rs):∀(T:List f8) (s3 s4:Sl),T.length+ns.length<=800->∃t3 t4,E9 (st1 3) rO ((ns.filter (isM kvs)).map (sel kvs)) [.sh b,fN (plN f O),.ow (.list T),s3,s4]=.nx [.sh b,fN (plN f O),.ow (.list (T++rs.map D6)),t3,t4]:=by
 induction h with
 |nil=>intro T s3 s4 _;rw[EE,u8];exact⟨s3,s4,rfl⟩
 |@mark n i a1 a2 bb c ns rs hg p1 p2 _ _ _ _ _ ih=>
  intro T s3 s4 hl;rw[l7]at hl;rw[z7,Te hg,iq rfl,k6,show sel kvs n=.tuple [.str "mark",idP i,.str n,a1,a2] by unfold sel;rw[hg];rfl];obtain⟨t3,t4,e2⟩:=ih (T++[D6 (n,bb,if bb<c then c else bb)]) (.sh (.tuple [.str "mark",idP i,.str n,a1,a2])) (.sh (.int (bb:Int))) (by simp;lia);rw[x6]at e2;refine⟨t3,t4,(F6 rfl ?_).trans e2⟩;unfold rO;rw[B4 (D4 (d:=.int (bb:Int)) (Xp rfl (B3 (x:=.tuple [.str "mark",idP i,.str n,a1,a2]) (y:=.int 3) rfl rfl (aJ _ _ _ _ _)) p1))];simp only[t9,u5];exact Fz rfl (T0 (A6 (B3 (x:=.tuple [.str "mark",idP i,.str n,a1,a2]) (y:=.int 2) rfl rfl (Ur _ _ _ _)) (A6 (d:=.int (bb:Int)) rfl (A6 (N4 (A6 (d:=.int (bb:Int)) rfl (A6 (Xp rfl (B3 (x:=.tuple [.str "mark",idP i,.str n,a1,a2]) (y:=.int 4) rfl rfl (tix4 _ _ _ _ _ _)) p2) rfl)) (mx bb c)) rfl)))) (by lia)
 |@skip n i ns rs hg _ ih=>
  intro T s3 s4 hl;rw[l7]at hl;rw[z7,Zq hg,ir (by decide)];exact ih T s3 s4 (by lia)
def zR{x:Str}(h:U5 x):(z0 x&&decide (x.length<=1000))=true:=by
 obtain⟨_,h2,h3⟩:=h;rw[x3];refine⟨?_,decide_eq_true (by lia)⟩;unfold z0;have:∀c∈x.cps.toList,97<=c/\c<=122:=h3;first
  | (rw[EZ];intro c hc;have:=this c hc;simp;lia)
  | (rw[JP];intro c hc;have:=this c (by simpa using hc);simp;lia)
  | (simp;intro c hc;have:=this c (by simpa using hc);lia)
theorem Wu{k v:f8}:∀{kvs:Kvs} {q:f8×f8},q∈Q8 kvs k v->q.1=k\/∃q'∈kvs,q.1=q'.1
 |[],q,h=>by rw[m9.mp h];exact .inl rfl
 |p::r,q,h=>by
  unfold Q8 at h;split at h
  .rcases j9.mp h with rfl |h
   .exact .inr ⟨p,.head _,rfl⟩
   .exact .inr ⟨q,.tail _ h,rfl⟩
  .rcases j9.mp h with rfl |h
   .exact .inr ⟨_,.head _,rfl⟩
   .rcases Wu h with z |⟨q',h',z⟩
    .exact .inl z
    .exact .inr ⟨q',.tail _ h',z⟩
abbrev Kpw(kvs:Kvs):Prop:=kvs.Pairwise λp q=>l6 p.1 q.1=false
theorem iC{k v:f8}:∀{kvs:Kvs},Kpw kvs->Kpw (Q8 kvs k v)
 |[],_=>GO _ _
 |p::r,h=>by
  rw[Kpw,BV]at h;unfold Q8;split
  .exact BV.mpr ⟨h.1,h.2⟩
  .rename_i c
   refine BV.mpr ⟨λq hq=>?_,iC h.2⟩;rcases Wu hq with z |⟨q',h',z⟩
   .rw[z];simpa using c
   .rw[z];exact h.1 q' h'
theorem cI(o:List IdP):∀(M:List Dp) (kvs:Kvs),Kpw kvs->Kpw (Td o M kvs)
 |[],_,h=>h
 |e::M,kvs,h=>by
  refine cI o M _ ?_;unfold Fe;split
  .split
   .exact h
   .exact iC h
  .exact h
theorem aK:∀{kvs:Kvs} {ss:List Str},V4 (kvs.map (·.1))=some ss->Kpw kvs->ss.Nodup
 |[],ss,e,_=>by cases e;exact .nil
 |p::r,ss,e,h=>by
  rw[Kpw,BV]at h;have e':=Qt e;cases ss with
  |nil=>cases e'
  |cons x ss=>
   rw[k6,k6]at e';injection e' with e1 e2
   have e1:p.1=.str x:=e1;refine BQ.mpr ⟨λz=>?_,aK (kvs:=r) ?_ h.2⟩
   .have:BU x∈r.map (·.1):=by rw[e2];exact BW z
    obtain⟨q,hq,eq⟩:=t8.mp this;have hh:=h.1 q hq;rw[e1,show q.1=_ from eq]at hh;exact absurd (show(x==x)=false from hh) (by rw[beq_self_eq_true];decide)
   .have : ∀ (l : List Str),V4 (l.map BU) = some l:= λl => by
     induction l with
     |nil=>rfl
     |cons y l ih=>show(V4 (l.map BU)).map (y::·)=_;rw[ih];rfl
    rw[e2];exact this ss
noncomputable abbrev Row:=Str×Nat×Nat
def ltW(a b:Row):Prop:=leX a.1 b.1/\a.1≠b.1
def Rows.sub{kvs:Kvs}{O:List As}{f:As->Bool}{ns:List Str}{rs:List Row}(h:Rows kvs O f ns rs):(rs.map (·.1)).Sublist ns:=by
 induction h with
 |nil=>exact .slnil
 |mark _ _ _ _ _ _ _ _ ih=>exact ih.cons_cons _
 |skip _ _ ih=>exact ih.cons _
def gP:Dn->Out:=(sIf (C3 (b2 (b2 (X7 3 (A0 5)) (vC (.int 0)) dIx) (vC (.str "mark")) dEq)) (C5 (E4 6 (C9 (A2 (A0 1) (A2 (A0 2) (A2 (b2 (X7 3 (A0 5)) (vC (.int 3)) dIx) A7))) E1)) (Dj 4 (E5 (A2 (A0 5) (A2 (A0 6) (A2 (vFn (A2 (A0 6) (A2 (C9 (A2 (A0 1) (A2 (A0 2) (A2 (b2 (X7 3 (A0 5)) (vC (.int 4)) dIx) A7))) E1) A7)) dI) A7)))))) F8)
def uR{kvs:Kvs}{O:List As}{f:As->Bool}(b:f8){ns:List Str}{rs:List Row}(h:Rows kvs O f ns rs):∀(T:List f8) (s5 s6:Sl),T.length+ns.length<=800->∃t5 t6,E9 (st1 5) gP (ns.map .str) [.sh b,.sh (.list (O.map sgA)),.sh (.list ((O.filter f).map sgA)),oN kvs,.ow (.list T),s5,s6]=.nx [.sh b,.sh (.list (O.map sgA)),.sh (.list ((O.filter f).map sgA)),oN kvs,.ow (.list (T++rs.map D6)),t5,t6]:=by
 have get:∀{n:Str} {d:f8} {T:List f8} {s6:Sl},L0 kvs (.str n)=some d->(X7 3 (A0 5)) [.sh b,.sh (.list (O.map sgA)),.sh (.list ((O.filter f).map sgA)),oN kvs,.ow (.list T),.sh (.str n),s6]=.ok d:=λ{n d T s6} e=>by
  show Res.bind (Res.ok (BU n)) (λkd'=>if nkD kd'=true then ofO (L0 kvs kd') else Res.no)=_;rw[B9,iq (show nkD (.str n)=true from rfl),e];rfl
 induction h with
 |nil=>intro T s5 s6 _;rw[EE,EE,u8];exact⟨s5,s6,rfl⟩
 |@mark n i a1 a2 bb c ns rs hg _ _ pp _ _ _ _ ih=>
  intro T s5 s6 hl;rw[l7]at hl;obtain⟨t5,t6,e2⟩:=ih (T++[D6 (n,bb,if bb<c then c else bb)]) (.sh (.str n)) (.sh (.int (bb:Int))) (by simp;lia);rw[x6]at e2;refine⟨t5,t6,(F6 (δ1:=[.sh b,.sh (.list (O.map sgA)),.sh (.list ((O.filter f).map sgA)),oN kvs,.ow (.list T),.sh (.str n),s6]) rfl ?_).trans e2⟩;unfold gP;rw[W5 (δ:=[.sh b,.sh (.list (O.map sgA)),.sh (.list ((O.filter f).map sgA)),oN kvs,.ow (.list T),.sh (.str n),s6]) (C4 (B3 (x:=.str "mark") (y:=.str "mark") (B3 (get hg) rfl (T2 _ _)) rfl (by rw[W6,Hs])))];rw[B4 (D4 (d:=.int (bb:Int)) (D1 (A6 (d:=.list (O.map sgA)) rfl (A6 (d:=.list ((O.filter f).map sgA)) rfl (A6 (B3 (get hg) rfl (aJ _ _ _ _ _)) rfl))) pp.1))];simp only[t9,u5];exact Fz rfl (T0 (A6 (d:=.str n) rfl (A6 (d:=.int (bb:Int)) rfl (A6 (N4 (A6 (d:=.int (bb:Int)) rfl (A6 (D1 (A6 (d:=.list (O.map sgA)) rfl (A6 (d:=.list ((O.filter f).map sgA)) rfl (A6 (B3 (get hg) rfl (tix4 _ _ _ _ _ _)) rfl))) pp.2) rfl)) (mx bb c)) rfl)))) (by lia)
 |@skip n i ns rs hg _ ih=>
  intro T s5 s6 hl;rw[l7]at hl;obtain⟨t5,t6,e2⟩:=ih T (.sh (.str n)) s6 (by lia);refine⟨t5,t6,(F6 (δ1:=[.sh b,.sh (.list (O.map sgA)),.sh (.list ((O.filter f).map sgA)),oN kvs,.ow (.list T),.sh (.str n),s6]) rfl ?_).trans e2⟩;unfold gP;rw[Q4 (δ:=[.sh b,.sh (.list (O.map sgA)),.sh (.list ((O.filter f).map sgA)),oN kvs,.ow (.list T),.sh (.str n),s6]) (C4 (B3 (x:=.str "unmark") (y:=.str "mark") (B3 (get hg) rfl (T2 _ _)) rfl (by rw[W6,Z5 (by decide)])))];rfl
structure Lst(L:List Dp)(O:List As)(f:As->Bool)(kvs:Kvs)(xs:List Str)(rs:List Row):Prop where
 md:M0 [bkD L]=.ok (.list ((xs.filter (isM kvs)).map (sel kvs)))
 ll:O0 [bkD L]=.ok kvs
 so:∀(δ:Dn) (i:Nat),kvN δ i=some kvs->Z7 i δ=.ok (.list (xs.map .str))
 ln:xs.length<=10
 nm:∀x∈xs,U5 x
 nd:xs.Nodup
 up:xs.Pairwise leX
 R:Rows kvs O f xs rs
def zW{L:List Dp}{B:List Ad}{ku kd:Kvs}(A:BkA L B)(W:BkW L)(hl:L.length<=10)(P:Pq L ku kd):∃kvs xs rs,Lst L (ord B) (N5 ku kd) kvs xs rs:=by
 have kdL:∀e∈L,Kd e:=λe he=>(W.1 e he).kd;have mdL:∀e∈L,Md (ord B) e:=λe he=>(W.1 e he).md A;have hol:=Ds A;have nd:=Je A.bk;obtain⟨t3,g1,g2⟩:=Nf (O:=ord B) (off L) (C3 (Bc true 1 (b2 (A0 3) (vC (.int 1)) dIx))) (.sh (bkD L)) (oN ku) L mdL (λe he kvs=>by
  refine C4 ?_;rw[Fo (kvs:=ku) (kd:=idP e.2) rfl (B3 (x:=e.1) (y:=.int 1) rfl rfl (kdL e he).tid) (Ku _),bne_true];exact congrArg (λz=>Res.ok (GR (!z))) (P.o e.2)) [] .un (by simp;lia)
 obtain⟨u3,g3,_⟩:=Nf (O:=ord B) (off L) (C3 (b2 (b2 (A0 3) (vC (.int 1)) dIx) (A0 1) (dIn false))) (.sh (bkD L)) (.sh (.list ((onL L).map idP))) L mdL (λe he kvs=>by
  refine C4 (B3 (x:=idP e.2) (y:=.list ((onL L).map idP)) (B3 (x:=e.1) (y:=.int 1) rfl rfl (kdL e he).tid) rfl ?_);rw[Tg,fL he];cases decide (e.2∈off L) <;> rfl) [] .un (by simp;lia)
 have hlast:=cJ (O:=ord B) (off L) L mdL [] (λ_ h=>nomatch h);have hpw:=cI (off L) L [] .nil;generalize hkv:Td (off L) L []=kvs at *;have hkl:kvs.length<=10:=by simp at g2;lia
 obtain⟨ss,s1,s2,s3,s4⟩:=hlast.texts;have hsort:∀(δ:Dn) (i:Nat),kvN δ i=some kvs->Z7 i δ=.ok (.list ((Bw ss).map .str)):=λδ i h=>by
  unfold Z7;rw[h];show(match V4 (kvs.map (·.1))with |some ss=>_ |none=>_)=_;rw[s1];show(if _ then _ else _)=_;rw[iq ⟨by lia,EZ.mpr λx hx=>zR (s3 x hx)⟩]
 have hnl:(Bw ss).length<=10:=by rw[(T3 ss).length_eq];lia
 obtain⟨rs,R⟩:=hW (f:=N5 ku kd) nd (by lia) hlast (Bw ss) λx hx=>s4 x ((T3 ss).mem_iff.mp hx);have hmd:M0 [bkD L]=.ok (.list (((Bw ss).filter (isM kvs)).map (sel kvs))):=by
  unfold M0 Cw P9;refine N2 ?_;show C5 _ _ [.sh (bkD L),.un,.un,.un]=_;rw[B4 (δ':=[.sh (bkD L),oN ku,.un,.un]) (by unfold Bg U7 Ey;simp_arith [P.P.u])];rw[B4 (δ':=[.sh (bkD L),oN ku,oN [],.un]) (by rfl)];rw[B4 (δ':=[.sh (bkD L),oN ku,oN kvs,t3]) (by
   unfold Bf K7;rw[E3 (d:=bkD L) (ds:=L.map (·.1)) rfl rfl,D2];exact g1)]
  unfold Be;exact L3 (N6 (I8 (E3 (d:=.list ((Bw ss).map .str)) (hsort _ _ rfl) rfl) (by rw[i7];lia) rfl (uN R)))
 have hll:O0 [bkD L]=.ok kvs:=by
  unfold O0 Em Dz fnW;show Di _ _ [.sh (bkD L),.un,.un,.un]=_;refine(Fj (δ':=[.sh (bkD L),.sh (.list ((onL L).map idP)),.un,.un]) (D4 (D1 (A6 (d:=bkD L) rfl rfl) (qV kdL hl)))).trans ((Fj (g1:=Ac 2) (δ':=[.sh (bkD L),.sh (.list ((onL L).map idP)),oN [],.un]) rfl).trans ((Fj (δ':=[.sh (bkD L),.sh (.list ((onL L).map idP)),oN kvs,u3]) ?_).trans rfl));unfold K7;rw[E3 (d:=bkD L) (ds:=L.map (·.1)) rfl rfl,D2];exact g3
 exact⟨kvs,Bw ss,rs,hmd,hll,hsort,hnl,λx hx=>s3 x ((T3 ss).mem_iff.mp hx),(T3 ss).nodup_iff.mpr (aK s1 hpw),Ry ss,R⟩
def pV{L:List Dp}{B:List Ad}{ku kd:Kvs}(A:BkA L B)(kdL:∀e∈L,Kd e)(hl:L.length<=10)(P:Pq L ku kd){kvs:Kvs}{xs:List Str}{rs:List Row}(S:Lst L (ord B) (N5 ku kd) kvs xs rs):L9 [bkD L]=.ok (.list (rs.map D6))/\P2 [bkD L]=.ok (.list (rs.map D6))/\rs.Pairwise ltW/\rs.length<=10/\∀t∈rs,t.2.1<=t.2.2/\t.2.2<=((ord B).filter (N5 ku kd)).length/\U5 t.1:=by
 have hth:=Xc A kdL hl P;have hnl:=S.ln;obtain⟨v3,v4,q1⟩:=uJ (bkD L) S.R [] .un .un (by simp;lia);obtain⟨w5,w6,q2⟩:=uR (bkD L) S.R [] .un .un (by simp;lia);have hlm:P2 [bkD L]=.ok (.list (rs.map D6)):=by
  unfold P2 Df M9;refine N2 ?_;show C5 _ _ [.sh (bkD L),.un,.un,.un,.un,.un,.un]=_;rw[B4 (δ':=[.sh (bkD L),.sh (.list ((ord B).map sgA)),.un,.un,.un,.un,.un]) (D4 (D1 (A6 (d:=bkD L) rfl rfl) (Sy A hl)))];rw[B4 (δ':=[.sh (bkD L),.sh (.list ((ord B).map sgA)),.sh (.list (((ord B).filter (N5 ku kd)).map sgA)),.un,.un,.un,.un]) (D4 (D1 (A6 (d:=bkD L) rfl rfl) hth))];rw[B4 (δ':=[.sh (bkD L),.sh (.list ((ord B).map sgA)),.sh (.list (((ord B).filter (N5 ku kd)).map sgA)),oN kvs,.un,.un,.un]) (by unfold Bo U7 Ey;simp_arith [S.ll])];rw[B4 (δ':=[.sh (bkD L),.sh (.list ((ord B).map sgA)),.sh (.list (((ord B).filter (N5 ku kd)).map sgA)),oN kvs,.ow (.list []),.un,.un]) (by rfl)]
  rw[B4 (δ':=[.sh (bkD L),.sh (.list ((ord B).map sgA)),.sh (.list (((ord B).filter (N5 ku kd)).map sgA)),oN kvs,.ow (.list ([]++rs.map D6)),w5,w6]) (by
   unfold Bn K7;rw[E3 (d:=.list (xs.map .str)) (S.so _ _ rfl) rfl,D2];exact q2)]
  rfl
 obtain⟨r1,r2,_⟩:=S.R.ok;refine⟨?_,hlm,?_,by lia,λt ht=>⟨(r2 t ht).2.1,(r2 t ht).2.2,S.nm _ (r2 t ht).1⟩⟩
 .unfold L9
  refine N2 ?_;show C5 _ _ [.sh (bkD L),.un,.un,.un,.un]=_;rw[B4 (δ':=[.sh (bkD L),oN (plN (N5 ku kd) (ord B)),.un,.un,.un]) (by unfold Eh U7 Ey;simp_arith [Ww A hl P.P])];rw[B4 (δ':=[.sh (bkD L),oN (plN (N5 ku kd) (ord B)),.ow (.list []),.un,.un]) (by rfl)];rw[B4 (δ':=[.sh (bkD L),fN (plN (N5 ku kd) (ord B)),.ow (.list ([]++rs.map D6)),v3,v4]) (by
   unfold Eg kM;show K7 _ _ _ [.sh (bkD L),fN (plN (N5 ku kd) (ord B)),.ow (.list []),.un,.un]=_;unfold K7;rw[E3 (d:=.list ((xs.filter (isM kvs)).map (sel kvs))) (ds:=(xs.filter (isM kvs)).map (sel kvs)) (D1 (A6 (d:=bkD L) rfl rfl) S.md) rfl,D2];exact q1)]
  rfl
 .have h1:=((S.up.and S.nd).sublist S.R.sub)
  rw[IL]at h1;exact h1
noncomputable def mk(l:List Nat):Str:=⟨l.toArray⟩
def cp(u:As):Nat:=u.1.w.cps.toList.getD u.2 0
noncomputable def Ok(l:List Nat):Prop:=∀c∈l,32<=c/\c<=126
def fK(a b:List Nat):mk a++mk b=mk (a++b):=by
 show(⟨a.toArray++b.toArray⟩:Str)=⟨(a++b).toArray⟩;simp
def Z1(l:List Nat):(mk l).length=l.length:=by rw[Yh];rfl
def iL(us:List As):EH "" (us.map ltr)=mk (us.map cp):=by
 have one:∀(x:Str) (r:List Str),EH "" (x::r)=x++EH "" r:=λx r=>by
  cases r with
  |nil=>
   show x=x++(⟨#[]⟩:Str);show x=(⟨x.cps++#[]⟩:Str);cases x;simp
  |cons y r=>
   show x++("" : Str)++EH "" (y::r)=_;have:x++("" : Str)=x:=by
    show(⟨x.cps++#[]⟩:Str)=x;cases x;simp
   rw[this]
 induction us with
 |nil=>rfl
 |cons u us ih=>
  rw[k6,one,ih,k6];exact fK [cp u] _
theorem wU{α:Type}(l:List α):∀(n a:Nat),a+n<=l.length->((CK n).map λk=>a+k).filterMap (l[·]?)=(l.drop a).take n
 |0,a,_=>by simp
 |n+1,a,h=>by
  have hlt:a+n<l.length:=by lia
  rw[List.range_succ,z4,List.filterMap_append,wU l n a (by lia),List.take_add_one,List.getElem?_drop];simp[hlt]
def jG{l:List Nat}{lo hi:Option Int}{a b:Nat}(e:CG lo hi 1 l.length=CG (some (a:Int)) (some (b:Int)) 1 l.length)(hab:a<=b)(hb:b<=l.length):Tv (mk l) lo hi=mk ((l.drop a).take (b-a)):=by
 unfold Tv;rw[Z1,e,PySem.StrLaws.strSliceIndices_plain hab hb];have p:=wU l (b-a) a (by lia);have p':((CK (b-a)).map λk=>a+k).filterMap ((mk l).cps[·]?)=(l.drop a).take (b-a):=by
  rw[<-p,show(λk=>(mk l).cps[k]?)=(λk=>l[k]?) from funext λk=>by show l.toArray[k]?=l[k]?;simp]
 split
 .rename_i h
  simp only[i7,List.length_range,beq_iff_eq]at h;have ha:a=0:=by lia
  have hb:b=l.length:=by lia
  subst ha hb;simp
 .rw[p'];rfl
def rM{c c':Dn->Res Bool}{δ:Dn}(h1:c δ=.ok false)(h2:c' δ=.ok false):cOr c c' δ=.ok false:=by unfold cOr;rw[h1,B9,ir (by decide),h2]
def kO{st:f8->Dn->Option Dn}{body:Dn->Out}{d r:f8}{ds:List f8}{δ δ1:Dn}(h1:st d δ=some δ1)(h2:body δ1=.rt r):E9 st body (d::ds) δ=.rt r:=by
 conv=>lhs;unfold E9
 rw[h1];show(match body δ1 with |.nx δ'=>_ |.ct δ'=>_ |.bk δ'=>_ |o=>_)=_;rw[h2]
def Rf(n:Nat)(d:f8):Prop:=l6 d d=true/\d.depth<=n
def Rf.all{n:Nat}:∀{xs:List f8},(∀x∈xs,Rf n x)->HX xs xs=true/\CI xs<=n:=by
 intro xs;induction xs with
 |nil=>intro _;exact⟨rfl,ER _⟩
 |cons x xs ih=>
  intro h;obtain⟨i1,i2⟩:=ih λy hy=>h y (.tail _ hy);obtain⟨j1,j2⟩:=h x (.head _);rw[HX,CI,i1,j1];exact⟨rfl,by lia⟩
theorem Rf.list{n:Nat}{xs:List f8}(h:∀x∈xs,Rf n x):Rf (n+1) (.list xs):=by
 obtain⟨h1,h2⟩:=Rf.all h;exact⟨h1,by rw[CW];lia⟩
def Rf.tup{n:Nat}{xs:List f8}(h:∀x∈xs,Rf n x):Rf (n+1) (.tuple xs):=by
 obtain⟨h1,h2⟩:=Rf.all h;exact⟨h1,by rw[CW];lia⟩
def Rf.ne{n:Nat}{d:f8}(h:Rf n d)(hn:n<=62):dNe d d=some (.bool false):=by
 unfold dNe;rw[iq (l9 (LF _ _) (l9 h.2 (l9 hn (by decide)))),h.1];rfl
theorem Rf.str{n:Nat}(x:Str):Rf n (.str x):=⟨by simp[l6],by simp[CW]⟩
def cmpLe(a b:Int):E6 .LtE (.int a) (.int b)=some (.bool (decide (a<=b))):=rfl
def cmpLt(a b:Int):E6 .Lt (.int a) (.int b)=some (.bool (decide (a<b))):=rfl
def aE{c c':Dn->Res Bool}{δ:Dn}{a b:Bool}(h1:c δ=.ok a)(h2:c' δ=.ok b):O5 c c' δ=.ok (a&&b):=by
 unfold O5;rw[h1,B9];cases a with
 |true=>exact h2
 |false=>rfl
def pI{l:List Nat}(h:Ok l)(hl:l.length<=1000):okS (mk l)=true:=by
 unfold okS z0;rw[decide_eq_true (by rw[Z1];exact l9 hl Lh),Bool.and_true,JP];intro c hc;have:=(h c (by simpa[mk] using hc)).2;exact decide_eq_true (by lia)
noncomputable def sl(T:List Nat)(a b:Nat):List Nat:=(T.drop a).take (b-a)
def yD(T:List Nat){a b:Nat}(h:b<=a):sl T a b=[]:=by unfold sl;rw[Nat.sub_eq_zero_of_le h];rfl
def yE(T:List Nat){a b:Nat}(h:b<=T.length):(sl T a b).length=b-a:=by
 unfold sl;rw[EY,IY];lia
def wQ{T:List Nat}(h:Ok T)(a b:Nat):Ok (sl T a b):=λc hc=>h c (PL (PK hc))
def gD{T:List Nat}(h:Ok T)(hl:T.length<=40){a b:Nat}(h1:a<=b)(h2:b<=T.length){f:Dn->Res f8}{fa fb:Dn->Res f8}{δ:Dn}(e0:f δ=.ok (.str (mk T)))(e1:fa δ=.ok (.int (a:Int)))(e2:fb δ=.ok (.int (b:Int))):
 Ml f (M7 fa) (M7 fb) δ=.ok (.str (mk (sl T a b))):=by
 unfold Ml M7;rw[e0,B9,e1,B9];show Res.bind (Res.ok (some (a:Int))) _=_;rw[B9,e2,B9];show Res.bind (Res.ok (some (b:Int))) _=_;rw[B9];have e:Tv (mk T) (some (a:Int)) (some (b:Int))=mk (sl T a b):=jG rfl h1 h2;show ofO (if okS (Tv (mk T) (some (a:Int)) (some (b:Int)))=true then _ else _)=_;rw[e,iq (pI (wQ h a b) (by rw[yE T h2];lia))];rfl
structure K3(L:List Dp)(T:List Nat)(ts:List Row):Prop where
 lt:∃d,M3 [bkD L]=.ok d/\P1 [bkD L,d]=.ok (.str (mk T))
 lm:P2 [bkD L]=.ok (.list (ts.map D6))
 nm:∀t∈ts,U5 t.1
 t:Q7 [bkD L]=.ok (.str (mk T))
 m:L9 [bkD L]=.ok (.list (ts.map D6))
 up:ts.Pairwise ltW
 ln:ts.length<=10
 ok:∀t∈ts,t.2.1<=t.2.2/\t.2.2<=T.length
 ch:Ok T
 tl:T.length<=40
def zO{ts:List Row}(up:ts.Pairwise ltW){t u:Row}(ht:t∈ts)(hu:u∈ts)(h:t.1=u.1):t=u:=by
 induction ts with
 |nil=>cases ht
 |cons x ts ih=>
  rw[BV]at up;rcases j9.mp ht with e1 |h1
  .rcases j9.mp hu with e2 |h2
   .rw[e1,e2]
   .exact absurd (by rw[<-e1,h]) (up.1 u h2).2
  .rcases j9.mp hu with e2 |h2
   .exact absurd (by rw[<-e2,h]) (up.1 t h1).2
   .exact ih up.2 h1 h2
abbrev hb(t:Row)(p:Nat×Nat):Bool:=decide (t.2.1<=p.1)&&decide (p.2<=t.2.2)
abbrev iT(ts:List Row)(p:Nat×Nat):List Str:=(ts.filter λt=>hb t p).map (·.1)
abbrev fR(ts:List Row)(p:Nat×Nat):f8:=.list ((iT ts p).map .str)
def sP(t:Row):dIx (D6 t) (.int 0)=some (.str t.1):=T2 _ _
def oB(t:Row):dIx (D6 t) (.int 1)=some (.int (t.2.1:Int)):=Bd _ _ _
def oA(t:Row):dIx (D6 t) (.int 2)=some (.int (t.2.2:Int)):=Ur _ _ _ _
def leN(a b:Nat):E6 .LtE (.int (a:Int)) (.int (b:Int))=some (.bool (decide (a<=b))):=by
 rw[cmpLe];congr 2;exact decide_eq_decide.mpr (by lia)
def ltN(a b:Nat):E6 .Lt (.int (a:Int)) (.int (b:Int))=some (.bool (decide (a<b))):=by
 rw[cmpLt];congr 2;exact decide_eq_decide.mpr (by lia)
def vB{ts:List Row}(hl:ts.length<=10)(a b:Nat):X5 [.list (ts.map D6),.int (a:Int),.int (b:Int)]=.ok (fR ts (a,b)):=by
 have c:=W3 (δc:=[.sh (.int (a:Int)),.sh (.int (b:Int))]) (tt:=O5 (C3 (b2 (b2 (A0 0) (vC (.int 1)) dIx) (A0 1) (E6 .LtE))) (C3 (b2 (A0 2) (b2 (A0 0) (vC (.int 2)) dIx) (E6 .LtE)))) (el:=b2 (A0 0) (vC (.int 0)) dIx) D6 (λt=>.str t.1) (λt=>hb t (a,b)) ts (λt _=>aE (C4 (B3 (x:=.int (t.2.1:Int)) (y:=.int (a:Int)) (B3 (x:=D6 t) (y:=.int 1) rfl rfl (oB t)) rfl (leN _ _))) (C4 (B3 (x:=.int (b:Int)) (y:=.int (t.2.2:Int)) rfl (B3 (x:=D6 t) (y:=.int 2) rfl rfl (oA t)) (leN _ _)))) λt _=>B3 (x:=D6 t) (y:=.int 0) rfl rfl (sP t);unfold fR iT;rw[DU];exact N2 (L3 (N6 (I8 (δc:=[.sh (.int (a:Int)),.sh (.int (b:Int))]) (E3 (d:=.list (ts.map D6)) rfl rfl) (by rw[i7];lia) rfl c)))
structure K4(L:List Dp)(T:List Nat)(ts:List Row)(O:List As)(f:As->Bool):Prop where
 k:K3 L T ts
 lo:J3 [bkD L]=.ok (.list (O.map sgA))
 lt:M3 [bkD L]=.ok (.list ((O.filter f).map sgA))
 lx:P1 [bkD L,.list ((O.filter f).map sgA)]=.ok (.str (mk T))
 pl:O9 [bkD L]=.ok (plN f O)
 sh:L8 [bkD L]=.ok (.list ((O.filter f).map tl))
 nd:(O.map sgn).Nodup
 ol:O.length<=40
 fl:(O.filter f).length=T.length
 far:∀u∈O,u.1.p.1≠99
 hh:∃kvs xs,Lst L O f kvs xs ts
def k4_ex{L:List Dp}(W:BkW L)(hl:L.length<=10):∃T ts O f,K4 L T ts O f:=by
 obtain⟨B,A⟩:=bka' W;have kdL:∀e∈L,Kd e:=λe he=>(W.1 e he).kd;obtain⟨ku,kd,P⟩:=pq_ex kdL hl;obtain⟨kvs,xs,ts,S⟩:=zW A W hl P;obtain⟨m1,m5,m2,m3,m4⟩:=pV A kdL hl P S;have hol:=Ds A;have hf:=DL (N5 ku kd) (ord B);have hx:P1 [bkD L,.list (((ord B).filter (N5 ku kd)).map sgA)]=.ok (.str (mk (((ord B).filter (N5 ku kd)).map cp))):=by
  rw[pZ A hl (λu hu=>(BN.mp hu).1) (by lia),iL]
 have hth:=Xc A kdL hl P;refine⟨((ord B).filter (N5 ku kd)).map cp,ts,ord B,N5 ku kd,⟨⟨_,hth,hx⟩,m5,λt ht=>(m4 t ht).2.2,?_,m1,m2,m3,λt ht=>?_,?_,by rw[i7];lia⟩,Sy A hl,hth,hx,Ww A hl P.P,aY A hl P.P,Je A.bk,by lia,by rw[i7],λu hu=>?_,kvs,xs,S⟩
 .rw[sB A hl P.P,iL]
 .rw[i7];exact⟨(m4 t ht).1,(m4 t ht).2.1⟩
 .intro c hc
  obtain⟨u,hu,rfl⟩:=t8.mp hc;have:=(X4 A.bk u).mp (BN.mp hu).1;exact(pY (A.wd _ this.1) this.2).2.2 _ (.head _)
 .have h1:=((X4 A.bk u).mp hu).1
  have h2:=A.id u.1 h1;unfold okI at h2;lia
section
variable {L:List Dp}{T:List Nat}{ts:List Row}{O:List As}{f:As->Bool}
def Xb{fs:Dn->Res (List f8)}{m:List f8->Res Kvs}{δ:Dn}{ds:List f8}{d:Kvs}(h1:fs δ=.ok ds)(h2:m ds=.ok d):Zj fs m δ=.ok d:=by unfold Zj;rw[h1,B9,h2];rfl
def V3{fs:Dn->Res (List f8)}{m:List f8->Res f8}{δ:Dn}{ds:List f8}{d:f8}(h1:fs δ=.ok ds)(h2:m ds=.ok d):Fp fs m δ=.ok d:=by unfold Fp;rw[h1,B9,h2];rfl
def Qc{δ:Dn}{n i:Nat}{m:List f8->Res f8}{fs:Dn->Res (List f8)}{ds:List f8}{d:f8}(h1:fs δ=.ok ds)(h2:m ds=.ok d):K1 (fs δ) (λds=>Fi i (m ds))=.rt d:=by rw[h1,D2,h2];rfl
def Qd{δ:Dn}{i:Nat}{m:List f8->Res f8}{fs:Dn->Res (List f8)}{ds:List f8}{c:Str}(h1:fs δ=.ok ds)(h2:m ds=.exc c):K1 (fs δ) (λds=>Fi i (m ds))=.rt (U8 i):=by rw[h1,D2,h2];rfl
def told0{b t s d:f8}(h:X8 [b,t]=.ok d):C6 [.int 0,b,t,s]=.ok d:=by
 refine N2 ?_;show K1 ((A2 (A0 1) (A2 (A0 2) A7)) [.sh (.int 0),.sh b,.sh t,.sh s,.un]) (λds=>Fi 0 (X8 ds))=_;exact Qc (n:=0) (ds:=[b,t]) rfl h
def xU{b t s:f8}{c:Str}(h:X8 [b,t]=.exc c):C6 [.int 0,b,t,s]=.ok (U8 0):=by
 refine N2 ?_;show K1 ((A2 (A0 1) (A2 (A0 2) A7)) [.sh (.int 0),.sh b,.sh t,.sh s,.un]) (λds=>Fi 0 (X8 ds))=_;exact Qd (ds:=[b,t]) rfl h
def wJ{b t s d:f8}(h:N9 [b,t,s]=.ok d):C6 [.int 1,b,t,s]=.ok d:=by
 refine N2 ?_;show K1 ((A2 (A0 1) (A2 (A0 2) (A2 (A0 3) A7))) [.sh (.int 1),.sh b,.sh t,.sh s,.un]) (λds=>Fi 1 (N9 ds))=_;exact Qc (n:=0) (ds:=[b,t,s]) rfl h
def xT{b t s:f8}{c:Str}(h:N9 [b,t,s]=.exc c):C6 [.int 1,b,t,s]=.ok (U8 1):=by
 refine N2 ?_;show K1 ((A2 (A0 1) (A2 (A0 2) (A2 (A0 3) A7))) [.sh (.int 1),.sh b,.sh t,.sh s,.un]) (λds=>Fi 1 (N9 ds))=_;exact Qd (ds:=[b,t,s]) rfl h
def told2{b t s d:f8}(h:Ar [b,t]=.ok d):C6 [.int 2,b,t,s]=.ok d:=by
 refine N2 ?_;show K1 ((A2 (A0 1) (A2 (A0 2) A7)) [.sh (.int 2),.sh b,.sh t,.sh s,.un]) (λds=>Fi 2 (Ar ds))=_;exact Qc (n:=0) (ds:=[b,t]) rfl h
def xS{b t s:f8}{c:Str}(h:Ar [b,t]=.exc c):C6 [.int 2,b,t,s]=.ok (U8 2):=by
 refine N2 ?_;show K1 ((A2 (A0 1) (A2 (A0 2) A7)) [.sh (.int 2),.sh b,.sh t,.sh s,.un]) (λds=>Fi 2 (Ar ds))=_;exact Qd (ds:=[b,t]) rfl h
def told3{b t s d:f8}(h:V1 [b,t]=.ok d):C6 [.int 3,b,t,s]=.ok d:=by
 refine N2 ?_;show K1 ((A2 (A0 1) (A2 (A0 2) A7)) [.sh (.int 3),.sh b,.sh t,.sh s,.un]) (λds=>Fi 1 (V1 ds))=_;exact Qc (n:=0) (ds:=[b,t]) rfl h
def xR{b t s:f8}{c:Str}(h:V1 [b,t]=.exc c):C6 [.int 3,b,t,s]=.ok (U8 1):=by
 refine N2 ?_;show K1 ((A2 (A0 1) (A2 (A0 2) A7)) [.sh (.int 3),.sh b,.sh t,.sh s,.un]) (λds=>Fi 1 (V1 ds))=_;exact Qd (ds:=[b,t]) rfl h
def Ti{N:List Str}{g:Dn->Out}{ds:List f8}{c:Str}(h:g (O3 N ds)=.exc c):fnD N g ds=.exc c:=by unfold fnD;rw[h]
def Qf{g1 g2:Dn->Out}{δ:Dn}{c:Str}(h:g1 δ=.exc c):C5 g1 g2 δ=.exc c:=by unfold C5;rw[h]
def Ls{y:Str}{g:Dn->Res f8}{δ:Dn}{d:f8}(h:g δ=.ok d)(hd:Na d=true\/Y9 d=true):Dq y g δ=.exc y:=by unfold Dq;rw[h,D2,iq hd]
def gL{i:Nat}{f:Dn->Res f8}{m:List Sl->Res f8}{δ:Dn}{kvs:Kvs}{d v:f8}(h1:δ[i]?=some (.fd kvs))(h2:f δ=.ok d)(h3:m [.fd kvs,.sh d]=.ok v):Hn i f m δ=.ok v:=by
 unfold Hn;rw[h1];show(f δ).bind _=_;rw[h2,B9,h3];rfl
def bQ(K:K4 L T ts O f){d:f8}(h:Um O d):∃n:Nat,C6 [.int 0,bkD L,d,.none]=.ok (.int (n:Int))/\E1 [.list (O.map sgA),.list ((O.filter f).map sgA),d]=.ok (.int (n:Int)):=by
 have hol:=K.ol;obtain⟨n,h1,h2,_⟩:=Ui (f:=f) K.nd (by lia) h;refine⟨n,told0 ?_,h2⟩;obtain⟨s,x,rfl,hx,hs⟩:=h;have hk:nkD s=true/\∃v,L0 (plN f O) s=some v:=by
  rcases hs with rfl |⟨u,hu,rfl⟩
  .exact⟨rfl,_,Sr f O⟩
  .obtain⟨X,Y,e1,_⟩:=Xx (f:=f) hu K.nd
   exact⟨Iw (some (sgn u)),_,Sq K.nd e1⟩
 obtain⟨hk,v,hv⟩:=hk;refine N2 ?_;show V6 [.sh (bkD L),.sh (.tuple [s,.str x]),.un]=_;unfold V6;refine(B4 (δ':=[.sh (bkD L),.sh (.tuple [s,.str x]),oN (plN f O)]) ?_).trans ?_
 .unfold U7
  rw[Xb (A6 (d:=bkD L) rfl rfl) K.pl];rfl
 refine(B4 (δ':=[.sh (bkD L),.sh (.tuple [s,.str x]),oN (plN f O)]) ((Q4 (C4 ?_)).trans rfl)).trans ?_
 .rw[Fo (kvs:=plN f O) (kd:=s) rfl (B3 (x:=.tuple [s,.str x]) (y:=.int 0) rfl rfl (T2 _ _)) hk,hv];rfl
 .show L5 _ [.sh (bkD L),.sh (.tuple [s,.str x]),fN (plN f O)]=_
  refine L3 ?_;exact gL rfl rfl h1
end
section
variable {L:List Dp}{T:List Nat}{ts:List Row}{O:List As}{f:As->Bool}
def AO(K:K4 L T ts O f):C6 [.int 0,bkD L,.tuple [.tuple [.tuple [.int 99,.str "a"],.int 0],.str "l"],.none]=.ok (U8 0):=by
 have hg:L0 (plN f O) (.tuple [.tuple [.int 99,.str "a"],.int 0])=none:=by
  unfold plN;rw[Ji λp hp=>?_]
  .rfl
  .obtain⟨x,hx,rfl⟩:=t8.mp hp
   have hu:x.1∈O:=by
    rw[<-Jf f O 0];exact BW hx
   have h9:=K.far x.1 hu;show l6 (sgA x.1) (sgO (((99:Int),("a" : Str)),0))=false;rw[Yl];exact decide_eq_false λz=>h9 (congrArg (λq=>q.1.1) z)
 refine xU (c:="NoSign") (Ti ?_);show V6 [.sh (bkD L),.sh (.tuple [.tuple [.tuple [.int 99,.str "a"],.int 0],.str "l"]),.un]=_;unfold V6;refine(B4 (δ':=[.sh (bkD L),.sh (.tuple [.tuple [.tuple [.int 99,.str "a"],.int 0],.str "l"]),oN (plN f O)]) ?_).trans ?_
 .unfold U7
  rw[Xb (A6 (d:=bkD L) rfl rfl) K.pl];rfl
 refine Qf ((W5 (C4 ?_)).trans (Ls (d:=.tuple [.tuple [.tuple [.int 99,.str "a"],.int 0],.str "l"]) rfl (.inl (by decide+kernel))));rw[Fo (kvs:=plN f O) (kd:=.tuple [.tuple [.int 99,.str "a"],.int 0]) rfl (B3 (x:=.tuple [.tuple [.tuple [.int 99,.str "a"],.int 0],.str "l"]) (y:=.int 0) rfl rfl (T2 _ _)) (by decide+kernel),hg];rfl
def leI(a b:Int):E6 .LtE (.int a) (.int b)=some (.bool (decide (a<=b))):=by
 rfl
def rH{f g h:Dn->Res f8}{δ:Dn}{a b c:Int}{op:FA}{r:Bool}(h1:f δ=.ok (.int a))(h2:g δ=.ok (.int b))(h3:h δ=.ok (.int c))(ho:E6 op (.int b) (.int c)=some (.bool r)):(K6 f g h (E6 .LtE) (E6 op)) δ=.ok (.bool (decide (a<=b)&&r)):=by
 unfold K6;rw[h1,B9,h2,B9,leI];by_cases c1:a<=b
 .rw[decide_eq_true c1]
  show Res.bind (h δ) _=_;rw[h3,B9,ho];rfl
 .rw[decide_eq_false c1];rfl
def Ir{f g h:Dn->Res f8}{δ:Dn}{a b c:Int}{op:FA}{r:Bool}(h1:f δ=.ok (.int a))(h2:g δ=.ok (.int b))(h3:h δ=.ok (.int c))(ho:E6 op (.int b) (.int c)=some (.bool r)):(mH (C3 (K6 f g h (E6 .LtE) (E6 op)))) δ=.ok (!(decide (a<=b)&&r)):=by
 unfold mH;rw[C4 (b:=decide (a<=b)&&r) (rH h1 h2 h3 ho)];rfl
def kR:∀n∈CK 43,Y9 (.int ((n:Int)-1))=true:=by decide+kernel
def bP{p:Int}(h1 : -1<=p)(h2:p<=41):Y9 (.int p)=true:=by
 have:=kR (p+1).toNat (EL.mpr (by lia))
 rwa [show(((p+1).toNat:Nat):Int)-1=p by lia]at this
def Sd:Option As->f8
 |none=>.none
 |some u=>sgA u
def xP(K:K4 L T ts O f){V:List As}(hv:O.filter f=V){p:Nat}(hp:p<=V.length){x:Str}{num:Int}(hnum:∀s3:Sl,(vIf (C3 (b2 (A0 2) (vC (.str "l")) dEq)) (b2 (A0 1) (vC (.int 1)) rD) (A0 1)) [.sh (bkD L),.sh (.int (p:Int)),.sh (.str x),s3,.un]=.ok (.int num)){o:Option As}(ho:(¬(0<=num/\num<V.length)/\o=none)\/∃j:Nat,num=(j:Int)/\∃u,V[j]?=some u/\o=some u):
 N9 [bkD L,.int (p:Int),.str x]=.ok (.tuple [Sd o,.str x]):=by
 have hs:=K.sh;rw[hv]at hs;generalize hD:bkD L=D at *;have hlen:Q3 [.list (V.map tl)]=some (.int (V.length:Int)):=by rw[lG,i7]
 have h0:Y4 [.sh D,.sh (.int (p:Int)),.sh (.str x),.un,.un]=.nx [.sh D,.sh (.int (p:Int)),.sh (.str x),.sh (.list (V.map tl)),.un]:=D4 (V3 (A6 (d:=D) rfl rfl) hs);refine N2 ((B4 h0).trans ((B4 (g1:=Cj) (δ':=[.sh D,.sh (.int (p:Int)),.sh (.str x),.sh (.list (V.map tl)),.un]) (Q4 ?_)).trans ((B4 (g1:=Ci) (δ':=[.sh D,.sh (.int (p:Int)),.sh (.str x),.sh (.list (V.map tl)),.sh (.int num)]) (D4 (hnum _))).trans ?_)))
 .rw[Ir (a:=0) (b:=(p:Int)) (c:=(V.length:Int)) rfl rfl (N4 (A6 rfl rfl) hlen) (leI _ _),decide_eq_true (by lia),decide_eq_true (by lia)];rfl
 .have c:=Ir (f:=vC (.int 0)) (g:=A0 4) (h:=vFn (A2 (A0 3) A7) Q3) (δ:=[.sh D,.sh (.int (p:Int)),.sh (.str x),.sh (.list (V.map tl)),.sh (.int num)]) (a:=0) (b:=num) (c:=(V.length:Int)) (op:=.Lt) rfl rfl (N4 (A6 rfl rfl) hlen) (ltI _ _)
  rcases ho with⟨hno,rfl⟩ |⟨j,rfl,u,hj,rfl⟩
  .have : (decide ((0 : Int) <= num)&&decide (num<(V.length : Int))) = false:= by
    lia
   rw[this]at c;exact Fy (W5 c)
  .obtain⟨hj1,hj2⟩:=x4.mp hj
   rw[decide_eq_true (show(0:Int)<=(j:Int) by lia),decide_eq_true (show(j:Int)<(V.length:Int) by lia)]at c;refine(U1 c).trans (L3 (T0 (A6 (B3 (x:=tl u) (y:=.int 0) (B3 (x:=.list (V.map tl)) (y:=.int (j:Int)) rfl rfl ?_) rfl (T2 _ _)) (A6 (d:=.str x) rfl rfl))));show atI _ _=_;rw[P8 (by simp_all),List.getElem_map,hj2]
def aa_l(K:K4 L T ts O f){P R:List As}(hv:O.filter f=P++R):N9 [bkD L,.int (P.length:Int),.str "l"]=.ok (.tuple [Sd P.getLast?,.str "l"]):=by
 refine xP K hv (by simp) (num:= (P.length : Int)-1) (λs3 => by
  rfl) ?_
 grind
def aa_r(K:K4 L T ts O f){P R:List As}(hv:O.filter f=P++R):N9 [bkD L,.int (P.length:Int),.str "r"]=.ok (.tuple [Sd R.head?,.str "r"]):=by
 refine xP K hv (by simp) (num:= (P.length : Int)) (λs3 => by
  rfl) ?_
 cases R with
 |nil=>simp_all
 |cons u R=>grind
def xO(K:K4 L T ts O f){p:Int}(h1 : -1<=p)(h2:p<=41)(h:¬(0<=p/\p<=T.length))(x:Str):C6 [.int 1,bkD L,.int p,.str x]=.ok (U8 1):=by
 have hs:=K.sh;have hfl:=K.fl;generalize O.filter f=V at hs hfl;have hlen:Q3 [.list (V.map tl)]=some (.int (V.length:Int)):=by rw[lG,i7]
 have h0:Y4 [.sh (bkD L),.sh (.int p),.sh (.str x),.un,.un]=.nx [.sh (bkD L),.sh (.int p),.sh (.str x),.sh (.list (V.map tl)),.un]:=D4 (V3 (A6 (d:=bkD L) rfl rfl) hs);refine xT (c:="NoPlace") (Ti ((B4 h0).trans (Qf ((W5 ?_).trans (Ls (d:=.int p) rfl (.inr (bP h1 h2)))))));rw[Ir (a:=0) (b:=p) (c:=(V.length:Int)) rfl rfl (N4 (A6 rfl rfl) hlen) (leI _ _)];congr 1;rw[DQ];lia
def rP(K:K4 L T ts O f){x:Nat}(h:x<T.length):V1 [bkD L,.int (x:Int)]=.ok (fR ts (x,x+1)):=by
 have hln:=K.k.ln;have hlen:Q3 [.str (mk T)]=some (.int (T.length:Int)):=by rw[Tc,Z1]
 refine N2 ?_;show V7 [.sh (bkD L),.sh (.int (x:Int))]=_;unfold V7;refine(U1 ?_).trans (L3 (V3 (A6 (V3 (A6 (d:=bkD L) rfl rfl) K.k.m) (A6 (d:=.int (x:Int)) rfl (A6 (d:=.int ((x+1:Nat):Int)) (B3 (x:=.int (x:Int)) (y:=.int 1) rfl rfl W4) rfl))) (vB hln x (x+1))));rw[Ir (a:=0) (b:=(x:Int)) (c:=(T.length:Int)) rfl rfl (N4 (A6 (V3 (A6 (d:=bkD L) rfl rfl) K.k.t) rfl) hlen) (ltI _ _),decide_eq_true (by lia),decide_eq_true (by lia)];rfl
def cA(K:K4 L T ts O f){p:Int}(h1 : -1<=p)(h2:p<=41)(h:¬(0<=p/\p<T.length)):C6 [.int 3,bkD L,.int p,.none]=.ok (U8 1):=by
 have hlen:Q3 [.str (mk T)]=some (.int (T.length:Int)):=by rw[Tc,Z1]
 refine xR (c:="NoPlace") (Ti ?_);show V7 [.sh (bkD L),.sh (.int p)]=_;unfold V7;refine Qf ((W5 ?_).trans (Ls (d:=.int p) rfl (.inr (bP h1 h2))));rw[Ir (a:=0) (b:=p) (c:=(T.length:Int)) rfl rfl (N4 (A6 (V3 (A6 (d:=bkD L) rfl rfl) K.k.t) rfl) hlen) (ltI _ _)];congr 1;rw[DQ];lia
def gO:Dn->Out:=(sIf (C3 (b2 (b2 (A0 2) (vC (.int 0)) dIx) (A0 1) dEq)) (L5 (A0 2)) F8)
def uK(d:f8){t:Row}:∀us:List Row,t∈us->(∀u∈us,u.1=t.1->u=t)->∀s2,E9 (st1 2) gO (us.map D6) [.sh d,.sh (.str t.1),s2]=.rt (D6 t):=by
 intro us;induction us with
 |nil=>intro h;cases h
 |cons u us ih=>
  intro h hn s2;have c:(C3 (b2 (b2 (A0 2) (vC (.int 0)) dIx) (A0 1) dEq)) [.sh d,.sh (.str t.1),.sh (D6 u)]=.ok (u.1==t.1):=C4 (B3 (x:=.str u.1) (y:=.str t.1) (B3 (x:=D6 u) (y:=.int 0) rfl rfl (sP u)) rfl (W6 _ _));rw[k6];by_cases e:u.1=t.1
  .rw[beq_iff_eq.mpr e]at c
   have:=hn u (.head _) e;subst this;exact kO (δ1:=[.sh d,.sh (.str u.1),.sh (D6 u)]) rfl ((W5 c).trans rfl)
  .rw[Z5 e]at c
   exact(F6 (δ1:=[.sh d,.sh (.str t.1),.sh (D6 u)]) rfl ((Q4 c).trans rfl)).trans (ih ((j9.mp h).resolve_left λz=>e (by rw[z])) (λv hv=>hn v (.tail _ hv)) _)
def pO(up:ts.Pairwise ltW){t:Row}(ht:t∈ts):Z2 [.list (ts.map D6),.str t.1]=.ok (D6 t):=by
 refine N2 ?_;show C5 _ _ [.sh (.list (ts.map D6)),.sh (.str t.1),.un]=_;refine Fy ?_;unfold K7;rw[E3 (d:=.list (ts.map D6)) (ds:=ts.map D6) rfl rfl,D2];exact uK _ ts ht (λu hu e=>zO up hu ht e) .un
def oO{x:Str}(h:U5 x):Y9 (.str x)=true:=by
 have:=StrLaws.reprText_len x λc hc=>HA (h.2.2 c hc).2 (by decide);exact decide_eq_true (by have:=h.2.1;lia)
def fI{x:Str}(hx:U5 x):∀us:List Row,(∀u∈us,u.1≠x)->∀(d:f8) (s2:Sl),∃t2,E9 (st1 2) gO (us.map D6) [.sh d,.sh (.str x),s2]=.nx [.sh d,.sh (.str x),t2]:=by
 intro us;induction us with
 |nil=>intro _ d s2;exact⟨s2,rfl⟩
 |cons u us ih=>
  intro h d s2;obtain⟨t2,e⟩:=ih (λv hv=>h v (.tail _ hv)) d (.sh (D6 u));refine⟨t2,(F6 rfl ?_).trans e⟩;unfold gO;exact(Q4 (C4 (B3 (x:=.str u.1) (y:=.str x) (B3 (x:=D6 u) (y:=.int 0) rfl rfl (sP u)) rfl (by rw[W6,Z5 (h u (.head _))])))).trans rfl
def mO(K:K4 L T ts O f){t:Row}(ht:t∈ts):Ar [bkD L,.str t.1]=.ok (.str (mk (sl T t.2.1 t.2.2))):=by
 have h:=K.k.ok t ht;refine N2 ?_;show Aa [.sh (bkD L),.sh (.str t.1),.un]=_;unfold Aa;refine(B4 (δ':=[.sh (bkD L),.sh (.str t.1),.sh (D6 t)]) (D4 (D1 (A6 (V3 (A6 (d:=bkD L) rfl rfl) K.k.m) (A6 (d:=.str t.1) rfl rfl)) (pO K.k.up ht)))).trans ?_;exact L3 (gD K.k.ch K.k.tl h.1 h.2 (V3 (A6 (d:=bkD L) rfl rfl) K.k.t) (B3 (x:=D6 t) (y:=.int 1) rfl rfl (oB t)) (B3 (x:=D6 t) (y:=.int 2) rfl rfl (oA t)))
def lB(K:K4 L T ts O f){x:Str}(hx:U5 x)(h:∀u∈ts,u.1≠x):C6 [.int 2,bkD L,.str x,.none]=.ok (U8 2):=by
 obtain⟨t2,e⟩:=fI hx ts h (.list (ts.map D6)) .un;have h1:Z2 [.list (ts.map D6),.str x]=.exc "NoName":=Ti (by
  show Y5 [.sh (.list (ts.map D6)),.sh (.str x),.un]=_;unfold Y5;refine(B4 (δ':=[.sh (.list (ts.map D6)),.sh (.str x),t2]) ?_).trans (Ls (d:=.str x) rfl (.inr (oO hx)));unfold K7;rw[E3 (d:=.list (ts.map D6)) (ds:=ts.map D6) rfl rfl,D2];exact e)
 refine xS (c:="NoName") (Ti ?_);show Aa [.sh (bkD L),.sh (.str x),.un]=_;unfold Aa;refine Qf ?_;unfold E4 C9;rw[A6 (V3 (A6 (d:=bkD L) rfl rfl) K.k.m) (A6 (d:=.str x) rfl rfl),B9,h1];rfl
end
def nF:(20000:Nat)<=sizeLine:=by decide
def Uj{a b:List Nat}(h:a.length+b.length<=20000):C7 (.str (mk a)) (.str (mk b))=some (.str (mk (a++b))):=by
 show(if _ then _ else _)=_;rw[iq (show(mk a).length+(mk b).length<=sizeLine by rw[Z1,Z1];exact l9 h nF),fK]
def zP{l:List Nat}(h:Ok l):z0 (mk l)=true:=by
 unfold z0;first
  | (rw[JP];intro c hc;have:=h c (by simpa[mk] using hc);simp;lia)
  | (rw[EZ];intro c hc;have:=h c (by simpa[mk] using hc);simp;lia)
def cM(xs:List (List Nat))(h:Ok xs.flatten)(hl:xs.flatten.length<=20000):Tt "" (.list (xs.map λx=>.str (mk x)))=some (.str (mk xs.flatten)):=by
 have one:∀(x:Str) (r:List Str),EH "" (x::r)=x++EH "" r:=λx r=>by
  cases r with
  |nil=>
   show x=(⟨x.cps++#[]⟩:Str);cases x;simp
  |cons y r=>
   show x++("" : Str)++EH "" (y::r)=_;have:x++("" : Str)=x:=by
    show(⟨x.cps++#[]⟩:Str)=x;cases x;simp
   rw[this]
 have hj:∀xs:List (List Nat),EH "" (xs.map mk)=mk xs.flatten/\((xs.map mk).map (·.length)).sum=xs.flatten.length:=λxs=>by
  induction xs with
  |nil=>exact⟨rfl,rfl⟩
  |cons x xs ih=>
   rw[k6,one,ih.1,fK,k6,List.sum_cons,ih.2,GI,k7,Z1];exact⟨rfl,rfl⟩
 obtain⟨j1,j2⟩:=hj xs;have o1:=zP h;have o2:(mk xs.flatten).length<=sizeLine:=by rw[Z1];exact l9 hl nF
 show(Ei (xs.map λx=>BU (mk x))).bind _=_;rw[Kk];show(if _ then _ else _)=_;rw[j1,iq ⟨by rw[j2,show("" : Str).length=0 from rfl,Nat.mul_zero];lia,o1,o2⟩]
def uL(x:Str):mk x.cps.toList=x:=by
 unfold mk;rw[PH]
abbrev cl(t:Row):List Nat:=t.1.cps.toList
def Tx{t:Row}(h:U5 t.1):Ok (cl t)/\(cl t).length<=6:=⟨λc hc=>by have:=h.2.2 c hc;lia,by have:=h.2.1;rw[Yh]at this;simpa using this⟩
section
variable {L:List Dp}{T:List Nat}{ts:List Row}{O:List As}{f:As->Bool}
abbrev c1(x:Nat)(t:Row):Bool:=decide (t.2.1<x)&&decide (t.2.2=x)
abbrev c2(x:Nat)(t:Row):Bool:=decide (t.2.1=x)&&decide (t.2.2=x)
abbrev c3(x:Nat)(t:Row):Bool:=decide (t.2.1=x)&&decide (x<t.2.2)
abbrev g1(t:Row):List Nat:=60::cl t
abbrev g2(t:Row):List Nat:=cl t++[124]
abbrev g3(t:Row):List Nat:=cl t++[62]
def pk(c:Row->Bool)(g:Row->List Nat)(l:List Row):List Nat:=((l.filter c).map g).flatten
def Qh(c:Row->Bool)(g:Row->List Nat)(t:Row)(l:List Row):pk c g (t::l)=(if c t=true then g t else [])++pk c g l:=by
 unfold pk;rw[z7];cases c t <;> rfl
theorem Mw{c:Row->Bool}{g:Row->List Nat}:∀{l:List Row},(∀t∈l,(g t).length<=7)->(pk c g l).length<=7*l.length
 |[],_=>by simp[pk]
 |t::l,h=>by
  have:=Mw (c:=c) (g:=g) (l:=l) λu hu=>h u (.tail _ hu);have h1:=h t (.head _);rw[Qh,k7,l7];cases c t <;> simp <;> lia
def oP{c:Row->Bool}{g:Row->List Nat}{l:List Row}(h:∀t∈l,Ok (g t)):Ok (pk c g l):=λx hx=>by
 unfold pk at hx;obtain⟨y,hy,hx⟩:=MZ.mp hx;obtain⟨t,ht,rfl⟩:=t8.mp hy;exact h t (BN.mp ht).1 x hx
def dra(ts:List Row)(x:Nat):List Nat:=pk (c1 x) g1 ts.reverse++pk (c2 x) g2 ts++pk (c3 x) g3 ts
def Tn(K:K4 L T ts O f)(x:Nat):Ok (dra ts x)/\(dra ts x).length<=210:=by
 have hn:=K.k.ln;have hc:∀t∈ts,Ok (cl t)/\(cl t).length<=6:=λt ht=>Tx (K.k.nm t ht);have hr:∀t∈ts.reverse,Ok (cl t)/\(cl t).length<=6:=λt ht=>hc t (IW.mp ht);refine⟨λy hy=>?_,?_⟩
 .unfold dra at hy
  rcases m6.mp hy with hy |hy
  .rcases m6.mp hy with hy |hy
   .exact oP (λt ht z hz => by
     rcases j9.mp hz with rfl |hz
     .decide
     .exact(hr t ht).1 z hz) y hy
   .exact oP (λt ht z hz => by
     rcases m6.mp hz with hz |hz
     .exact(hc t ht).1 z hz
     .rw[m9.mp hz];decide) y hy
  .exact oP (λt ht z hz => by
    rcases m6.mp hz with hz |hz
    .exact(hc t ht).1 z hz
    .rw[m9.mp hz];decide) y hy
 .have e1:=Mw (c:=c1 x) (g:=g1) (l:=ts.reverse) λt ht=>by have:=(hr t ht).2;rw[l7];lia
  have e2:=Mw (c:=c2 x) (g:=g2) (l:=ts) λt ht=>by have:=(hc t ht).2;rw[k7,CA];lia
  have e3:=Mw (c:=c3 x) (g:=g3) (l:=ts) λt ht=>by have:=(hc t ht).2;rw[k7,CA];lia
  unfold dra;rw[k7,k7];rw[CQ]at e1;lia
def gX:("<" : Str)=mk [60]:=by decide+kernel
def aX:("|" : Str)=mk [124]:=by decide+kernel
def gY:(">" : Str)=mk [62]:=by decide+kernel
end
section
variable {L:List Dp}{T:List Nat}{ts:List Row}{O:List As}{f:As->Bool}
abbrev stD(l:List Nat):f8:=.str (mk l)
def Lk(t:Row):BU t.1=stD (cl t):=by show _=BU (mk _);rw[uL]
def Np{c c':Dn->Res Bool}{δ:Dn}{a b:Bool}(h1:c δ=.ok a)(h2:c' δ=.ok b):O5 c c' δ=.ok (a&&b):=aE h1 h2
def eqN(a b:Nat):dEq (.int (a:Int)) (.int (b:Int))=some (.bool (decide (a=b))):=by
 rw[rE];congr 2;rw[CZ,beq_iff_eq,decide_eq_true_eq];lia
def gtN(a b:Nat):Fg .Gt (.int (a:Int)) (.int (b:Int))=some (.bool (decide (b<a))):=by
 show some (GR (decide ((b:Int)<(a:Int))))=_;congr 2;rw[decide_eq_decide];lia
def Lp{i:Nat}{f:Dn->Res (List f8)}{δ:Dn}{ds:List f8}(h:f δ=.ok ds):Ic i f δ=.nx (δ.set i (.sh (.list ds))):=by unfold Ic;rw[h,D2]
def cZ(K:K4 L T ts O f)(x:Nat):Ah [.list (ts.map D6),.int (x:Int)]=.ok (stD (dra ts x)):=by
 have hn:=K.k.ln;have hd:=Tn K x;have hc:∀t∈ts,Ok (cl t)/\(cl t).length<=6:=λt ht=>Tx (K.k.nm t ht);have nm:∀{t:Row},t∈ts->(b2 (A0 0) (vC (.int 0)) dIx) ([.sh (D6 t)]++[.sh (.int (x:Int))])=.ok (stD (cl t)):=λ{t} ht=>by
  rw[<-Lk];exact B3 (x:=D6 t) (y:=.int 0) rfl rfl (sP t)
 have e1:=W3 (δc:=[.sh (.int (x:Int))]) (tt:=O5 (C3 (b2 (b2 (A0 0) (vC (.int 1)) dIx) (A0 1) (E6 .Lt))) (C3 (b2 (b2 (A0 0) (vC (.int 2)) dIx) (A0 1) dEq))) (el:=b2 (vC (.str "<")) (b2 (A0 0) (vC (.int 0)) dIx) C7) D6 (λt=>stD (g1 t)) (c1 x) ts (λt ht=>Np (C4 (B3 (x:=.int (t.2.1:Int)) (y:=.int (x:Int)) (B3 (x:=D6 t) (y:=.int 1) rfl rfl (oB t)) rfl (ltN _ _))) (C4 (B3 (x:=.int (t.2.2:Int)) (y:=.int (x:Int)) (B3 (x:=D6 t) (y:=.int 2) rfl rfl (oA t)) rfl (eqN _ _)))) (λt ht=>B3 (x:=stD [60]) (y:=stD (cl t)) (by rw[gX];rfl) (nm ht) (Uj (by have:=(hc t ht).2;rw[CA];lia)));have e2:=W3 (δc:=[.sh (.int (x:Int))]) (tt:=O5 (C3 (b2 (b2 (A0 0) (vC (.int 1)) dIx) (A0 1) dEq)) (C3 (b2 (b2 (A0 0) (vC (.int 2)) dIx) (A0 1) dEq))) (el:=b2 (b2 (A0 0) (vC (.int 0)) dIx) (vC (.str "|")) C7) D6 (λt=>stD (g2 t)) (c2 x) ts (λt ht=>Np (C4 (B3 (x:=.int (t.2.1:Int)) (y:=.int (x:Int)) (B3 (x:=D6 t) (y:=.int 1) rfl rfl (oB t)) rfl (eqN _ _))) (C4 (B3 (x:=.int (t.2.2:Int)) (y:=.int (x:Int)) (B3 (x:=D6 t) (y:=.int 2) rfl rfl (oA t)) rfl (eqN _ _)))) (λt ht=>B3 (x:=stD (cl t)) (y:=stD [124]) (nm ht) (by rw[aX];rfl) (Uj (by have:=(hc t ht).2;rw[CA];lia)))
 have e3:=W3 (δc:=[.sh (.int (x:Int))]) (tt:=O5 (C3 (b2 (b2 (A0 0) (vC (.int 1)) dIx) (A0 1) dEq)) (C3 (b2 (b2 (A0 0) (vC (.int 2)) dIx) (A0 1) (Fg .Gt)))) (el:=b2 (b2 (A0 0) (vC (.int 0)) dIx) (vC (.str ">")) C7) D6 (λt=>stD (g3 t)) (c3 x) ts (λt ht=>Np (C4 (B3 (x:=.int (t.2.1:Int)) (y:=.int (x:Int)) (B3 (x:=D6 t) (y:=.int 1) rfl rfl (oB t)) rfl (eqN _ _))) (C4 (B3 (x:=.int (t.2.2:Int)) (y:=.int (x:Int)) (B3 (x:=D6 t) (y:=.int 2) rfl rfl (oA t)) rfl (gtN _ _)))) (λt ht=>B3 (x:=stD (cl t)) (y:=stD [62]) (nm ht) (by rw[gY];rfl) (Uj (by have:=(hc t ht).2;rw[CA];lia)));have l1:=DL (c1 x) ts
 have l2:=DL (c2 x) ts;have l3:=DL (c3 x) ts;have src:∀{v2 v3 v4:Sl},(λδ=>((A0 0) δ).bind D8) [.sh (.list (ts.map D6)),.sh (.int (x:Int)),v2,v3,v4]=.ok (ts.map D6):=λ{v2 v3 v4}=>E3 (d:=.list (ts.map D6)) rfl rfl;refine N2 ?_;show C5 _ _ [.sh (.list (ts.map D6)),.sh (.int (x:Int)),.un,.un,.un]=_;refine(B4 (δ':=[.sh (.list (ts.map D6)),.sh (.int (x:Int)),.sh (.list ((ts.filter (c1 x)).map λt=>stD (g1 t))),.un,.un]) (Lp (I8 (δc:=[.sh (.int (x:Int))]) src (by rw[i7];lia) rfl e1))).trans ?_;refine(B4 (δ':=[.sh (.list (ts.map D6)),.sh (.int (x:Int)),.sh (.list ((ts.filter (c1 x)).map λt=>stD (g1 t))),.sh (.list ((ts.filter (c2 x)).map λt=>stD (g2 t))),.un]) (Lp (I8 (δc:=[.sh (.int (x:Int))]) src (by rw[i7];lia) rfl e2))).trans ?_
 refine(B4 (δ':=[.sh (.list (ts.map D6)),.sh (.int (x:Int)),.sh (.list ((ts.filter (c1 x)).map λt=>stD (g1 t))),.sh (.list ((ts.filter (c2 x)).map λt=>stD (g2 t))),.sh (.list ((ts.filter (c3 x)).map λt=>stD (g3 t)))]) (Lp (I8 (δc:=[.sh (.int (x:Int))]) src (by rw[i7];lia) rfl e3))).trans ?_;refine L3 ?_;have hj:=cM (((ts.filter (c1 x)).map g1).reverse++(ts.filter (c2 x)).map g2++(ts.filter (c3 x)).map g3);have hfl:(((ts.filter (c1 x)).map g1).reverse++(ts.filter (c2 x)).map g2++(ts.filter (c3 x)).map g3).flatten=dra ts x:=by
  unfold dra pk;rw[List.flatten_append,List.flatten_append,<-IX,<-List.filter_reverse]
 rw[hfl]at hj;have hj:=hj hd.1 (by have:=hd.2;lia);rw[z4,z4,IX,DU,DU,DU]at hj;unfold Gs;have hb:(b2 (b2 (Jb (A0 2)) (A0 3) C7) (A0 4) C7) [.sh (.list (ts.map D6)),.sh (.int (x:Int)),.sh (.list ((ts.filter (c1 x)).map λt=>stD (g1 t))),.sh (.list ((ts.filter (c2 x)).map λt=>stD (g2 t))),.sh (.list ((ts.filter (c3 x)).map λt=>stD (g3 t)))]=.ok (.list (((ts.filter (c1 x)).map λt=>stD (g1 t)).reverse++((ts.filter (c2 x)).map λt=>stD (g2 t))++((ts.filter (c3 x)).map λt=>stD (g3 t)))):=by
  refine B3 (x:=.list (((ts.filter (c1 x)).map λt=>stD (g1 t)).reverse++((ts.filter (c2 x)).map λt=>stD (g2 t)))) (y:=.list ((ts.filter (c3 x)).map λt=>stD (g3 t))) (B3 (x:=.list (((ts.filter (c1 x)).map λt=>stD (g1 t)).reverse)) (y:=.list ((ts.filter (c2 x)).map λt=>stD (g2 t))) ?_ rfl (Ld (by rw[CQ,i7,i7];lia))) rfl (Ld (by rw[k7,CQ,i7,i7,i7];lia));unfold Jb;show Res.bind (Res.ok (IC ((ts.filter (c1 x)).map λt=>stD (g1 t)))) _=_;rw[B9];show(if _ then _ else _)=_
  rw[iq (by rw[i7];lia)]
 rw[hb,B9];exact congrArg ofO hj
end
section
variable {L:List Dp}{T:List Nat}{ts:List Row}{O:List As}{f:As->Bool}
noncomputable def rgN(a b:Nat):List Nat:=(CK (b-a)).map (a+·)
def Yy{a b x:Nat}:x∈rgN a b↔a<=x/\x<b:=by
 unfold rgN;rw[t8];constructor
 .rintro⟨k,hk,rfl⟩
  have:=EL.mp hk;lia
 .intro h
  exact⟨x-a,EL.mpr (by lia),by lia⟩
noncomputable abbrev nD(x:Nat):f8:=.int (x:Int)
def rgN_D(a b:Nat):Ae (a:Int) (b:Int)=(rgN a b).map nD:=by
 unfold Ae rgN;rw[DU,show((b:Int)-(a:Int)).toNat=b-a by lia];refine List.map_congr_left λk _=>?_;show DZ ((a:Int)+(k:Int))=DZ ((a+k:Nat):Int);congr 1
def Yz(a b:Nat):(rgN a b).length=b-a:=by unfold rgN;simp
def pS(x:List Nat)(hx:x.length<=1000)(b:Bool):O6 (.str (mk x)) (.int (if b=true then 1 else 0))=some (.str (mk (if b=true then x else []))):=by
 have hs:=Lh;have go:∀n:Int,0<=n->n<=1->O6 (.str (mk x)) (.int n)=some (.str (O2 n.toNat (mk x))):=λn h0 h1=>by
  show(if-(2 ^ 63)<=n/\n<2 ^ 63/\(mk x).length*n.toNat<=sizeLine then some (BU (O2 n.toNat (mk x))) else none)=_;have hk:(mk x).length*n.toNat<=sizeLine:=by rw[Z1];exact l9 (Nat.mul_le_mul hx (show n.toNat<=1 by lia)) hs
  rw[iq ⟨by lia,by lia,hk⟩]
 cases b with
 |true=>
  rw[iq rfl,iq rfl,go 1 (by decide) (by decide)];show some (BU (⟨#[]++x.toArray⟩:Str))=_;rw[Array.empty_append];rfl
 |false=>
  rw[ir (by decide),ir (by decide),go 0 (by decide) (by decide)];rfl
def aD{f g h:Dn->Res f8}{δ:Dn}{x y z:f8}{op op':f8->f8->Option f8}{a b:Bool}(h1:f δ=.ok x)(h2:g δ=.ok y)(h3:h δ=.ok z)(o1:op x y=some (.bool a))(o2:op' y z=some (.bool b)):K6 f g h op op' δ=.ok (.bool (a&&b)):=by
 unfold K6;rw[h1,B9,h2,B9,o1];cases a with
 |false=>rfl
 |true=>
  show Res.bind (h δ) _=_;rw[h3,B9,o2];rfl
def bw1:Dn->Out:=(E4 2 (b2 (A0 2) (b2 (b2 (vC (.str "<")) (A0 4) C7) (vFn (A2 (K6 (A0 5) (A0 3) (A0 6) (E6 .Lt) dEq) A7) Az) O6) C7))
def w1(K:K4 L T ts O f)(x:Nat):∀us:List Row,(∀t∈us,t∈ts)->∀(F:List Nat) (s4 s5 s6:Sl),F.length+7*us.length<=19000->∃r4 r5 r6,E9 (st3 4 5 6) bw1 (us.map D6) [.sh (stD T),.sh (.list (ts.map D6)),.sh (stD F),(.sh (nD x)),s4,s5,s6]=.nx [.sh (stD T),.sh (.list (ts.map D6)),.sh (stD (F++pk (c1 x) g1 us)),(.sh (nD x)),r4,r5,r6]:=by
 intro us;induction us with
 |nil=>intro _ F s4 s5 s6 _;exact⟨s4,s5,s6,by show _=Out.nx [_,_,.sh (stD (F++[])),_,_,_,_];rw[u8];rfl⟩
 |cons t us ih=>
  intro hs F s4 s5 s6 hl;rw[l7]at hl;have hc:=Tx (K.k.nm t (hs t (.head _)));have hg:(g1 t).length<=7:=by have:=hc.2;rw[l7];lia
  obtain⟨r4,r5,r6,e⟩:=ih (λu hu=>hs u (.tail _ hu)) (F++(if c1 x t=true then g1 t else [])) (.sh (.str t.1)) (.sh (nD t.2.1)) (.sh (nD t.2.2)) (by rw[k7];split <;> (try simp only[BM]) <;> lia)
  refine⟨r4,r5,r6,(F6 (δ1:=[.sh (stD T),.sh (.list (ts.map D6)),.sh (stD F),(.sh (nD x)),.sh (.str t.1),.sh (nD t.2.1),.sh (nD t.2.2)]) rfl ?_).trans (e.trans ?_)⟩
  .unfold bw1
   have hnm:A0 4 [.sh (stD T),.sh (.list (ts.map D6)),.sh (stD F),(.sh (nD x)),.sh (.str t.1),.sh (nD t.2.1),.sh (nD t.2.2)]=.ok (stD (cl t)):=by rw[<-Lk];rfl
   have hch:(K6 (A0 5) (A0 3) (A0 6) (E6 .Lt) dEq) [.sh (stD T),.sh (.list (ts.map D6)),.sh (stD F),(.sh (nD x)),.sh (.str t.1),.sh (nD t.2.1),.sh (nD t.2.2)]=.ok (.bool (c1 x t)):=by
    rw[aD (x:=nD t.2.1) (y:=nD x) (z:=nD t.2.2) rfl rfl rfl (ltN _ _) (eqN _ _)];rw[show decide (x=t.2.2)=decide (t.2.2=x) from decide_eq_decide.mpr eq_comm]
   have hc2:=hc.2;exact D4 (B3 (x:=stD F) (y:=stD (if c1 x t=true then g1 t else [])) rfl (B3 (x:=stD (g1 t)) (y:=.int (if c1 x t=true then 1 else 0)) (B3 (x:=stD [60]) (y:=stD (cl t)) (by rw[gX];rfl) hnm (Uj (by rw[CA];lia))) (N4 (A6 hch rfl) rfl) (pS _ (by lia) _)) (Uj (by split <;> (try simp only[BM]) <;> lia)))
  .rw[Qh,x6]
def bw2:Dn->Out:=(E4 2 (b2 (A0 2) (b2 (b2 (A0 4) (vC (.str "|")) C7) (vFn (A2 (K6 (A0 5) (A0 3) (A0 6) dEq dEq) A7) Az) O6) C7))
def w2(K:K4 L T ts O f)(x:Nat):∀us:List Row,(∀t∈us,t∈ts)->∀(F:List Nat) (s4 s5 s6:Sl),F.length+7*us.length<=19000->∃r4 r5 r6,E9 (st3 4 5 6) bw2 (us.map D6) [.sh (stD T),.sh (.list (ts.map D6)),.sh (stD F),(.sh (nD x)),s4,s5,s6]=.nx [.sh (stD T),.sh (.list (ts.map D6)),.sh (stD (F++pk (c2 x) g2 us)),(.sh (nD x)),r4,r5,r6]:=by
 intro us;induction us with
 |nil=>intro _ F s4 s5 s6 _;exact⟨s4,s5,s6,by show _=Out.nx [_,_,.sh (stD (F++[])),_,_,_,_];rw[u8];rfl⟩
 |cons t us ih=>
  intro hs F s4 s5 s6 hl;rw[l7]at hl;have hc:=Tx (K.k.nm t (hs t (.head _)));have hg:(g2 t).length<=7:=by have:=hc.2;rw[k7,CA];lia
  obtain⟨r4,r5,r6,e⟩:=ih (λu hu=>hs u (.tail _ hu)) (F++(if c2 x t=true then g2 t else [])) (.sh (.str t.1)) (.sh (nD t.2.1)) (.sh (nD t.2.2)) (by rw[k7];split <;> (try simp only[BM]) <;> lia)
  refine⟨r4,r5,r6,(F6 (δ1:=[.sh (stD T),.sh (.list (ts.map D6)),.sh (stD F),(.sh (nD x)),.sh (.str t.1),.sh (nD t.2.1),.sh (nD t.2.2)]) rfl ?_).trans (e.trans ?_)⟩
  .unfold bw2
   have hnm:A0 4 [.sh (stD T),.sh (.list (ts.map D6)),.sh (stD F),(.sh (nD x)),.sh (.str t.1),.sh (nD t.2.1),.sh (nD t.2.2)]=.ok (stD (cl t)):=by rw[<-Lk];rfl
   have hch:(K6 (A0 5) (A0 3) (A0 6) dEq dEq) [.sh (stD T),.sh (.list (ts.map D6)),.sh (stD F),(.sh (nD x)),.sh (.str t.1),.sh (nD t.2.1),.sh (nD t.2.2)]=.ok (.bool (c2 x t)):=by
    rw[aD (x:=nD t.2.1) (y:=nD x) (z:=nD t.2.2) rfl rfl rfl (eqN _ _) (eqN _ _)];rw[show decide (x=t.2.2)=decide (t.2.2=x) from decide_eq_decide.mpr eq_comm]
   have hc2:=hc.2;exact D4 (B3 (x:=stD F) (y:=stD (if c2 x t=true then g2 t else [])) rfl (B3 (x:=stD (g2 t)) (y:=.int (if c2 x t=true then 1 else 0)) (B3 (x:=stD (cl t)) (y:=stD [124]) hnm (by rw[aX];rfl) (Uj (by rw[CA];lia))) (N4 (A6 hch rfl) rfl) (pS _ (by lia) _)) (Uj (by split <;> (try simp only[BM]) <;> lia)))
  .rw[Qh,x6]
def bw3:Dn->Out:=(E4 2 (b2 (A0 2) (b2 (b2 (A0 4) (vC (.str ">")) C7) (vFn (A2 (K6 (A0 5) (A0 3) (A0 6) dEq (E6 .Lt)) A7) Az) O6) C7))
def w3(K:K4 L T ts O f)(x:Nat):∀us:List Row,(∀t∈us,t∈ts)->∀(F:List Nat) (s4 s5 s6:Sl),F.length+7*us.length<=19000->∃r4 r5 r6,E9 (st3 4 5 6) bw3 (us.map D6) [.sh (stD T),.sh (.list (ts.map D6)),.sh (stD F),(.sh (nD x)),s4,s5,s6]=.nx [.sh (stD T),.sh (.list (ts.map D6)),.sh (stD (F++pk (c3 x) g3 us)),(.sh (nD x)),r4,r5,r6]:=by
 intro us;induction us with
 |nil=>intro _ F s4 s5 s6 _;exact⟨s4,s5,s6,by show _=Out.nx [_,_,.sh (stD (F++[])),_,_,_,_];rw[u8];rfl⟩
 |cons t us ih=>
  intro hs F s4 s5 s6 hl;rw[l7]at hl;have hc:=Tx (K.k.nm t (hs t (.head _)));have hg:(g3 t).length<=7:=by have:=hc.2;rw[k7,CA];lia
  obtain⟨r4,r5,r6,e⟩:=ih (λu hu=>hs u (.tail _ hu)) (F++(if c3 x t=true then g3 t else [])) (.sh (.str t.1)) (.sh (nD t.2.1)) (.sh (nD t.2.2)) (by rw[k7];split <;> (try simp only[BM]) <;> lia)
  refine⟨r4,r5,r6,(F6 (δ1:=[.sh (stD T),.sh (.list (ts.map D6)),.sh (stD F),(.sh (nD x)),.sh (.str t.1),.sh (nD t.2.1),.sh (nD t.2.2)]) rfl ?_).trans (e.trans ?_)⟩
  .unfold bw3
   have hnm:A0 4 [.sh (stD T),.sh (.list (ts.map D6)),.sh (stD F),(.sh (nD x)),.sh (.str t.1),.sh (nD t.2.1),.sh (nD t.2.2)]=.ok (stD (cl t)):=by rw[<-Lk];rfl
   have hch:(K6 (A0 5) (A0 3) (A0 6) dEq (E6 .Lt)) [.sh (stD T),.sh (.list (ts.map D6)),.sh (stD F),(.sh (nD x)),.sh (.str t.1),.sh (nD t.2.1),.sh (nD t.2.2)]=.ok (.bool (c3 x t)):=by
    rw[aD (x:=nD t.2.1) (y:=nD x) (z:=nD t.2.2) rfl rfl rfl (eqN _ _) (ltN _ _)]
   have hc2:=hc.2;exact D4 (B3 (x:=stD F) (y:=stD (if c3 x t=true then g3 t else [])) rfl (B3 (x:=stD (g3 t)) (y:=.int (if c3 x t=true then 1 else 0)) (B3 (x:=stD (cl t)) (y:=stD [62]) hnm (by rw[gY];rfl) (Uj (by rw[CA];lia))) (N4 (A6 hch rfl) rfl) (pS _ (by lia) _)) (Uj (by split <;> (try simp only[BM]) <;> lia)))
  .rw[Qh,x6]
end
section
variable {L:List Dp}{T:List Nat}{ts:List Row}{O:List As}{f:As->Bool}
abbrev drx(T:List Nat)(ts:List Row)(x:Nat):List Nat:=dra ts x++sl T x (x+1)
def jF(K:K4 L T ts O f){x:Nat}(hx:x<=T.length){g fa fb:Dn->Res f8}{δ:Dn}(e0:g δ=.ok (stD T))(e1:fa δ=.ok (nD x))(e2:fb δ=.ok (nD (x+1))):Ml g (M7 fa) (M7 fb) δ=.ok (stD (sl T x (x+1))):=by
 by_cases h:x<T.length
 .exact gD K.k.ch K.k.tl (by lia) h e0 e1 e2
 .have hx2:x=T.length:=by lia
  have hs:sl T x (x+1)=[]:=by unfold sl;rw[FV (by lia),List.take_nil]
  have e:Tv (mk T) (some (x:Int)) (some ((x+1:Nat):Int))=mk (sl T x x):=jG (by
   unfold CG;simp;lia) (s0 _) hx
  rw[yD T (s0 _)]at e;unfold Ml M7;rw[e0,B9,e1,B9];show Res.bind (Res.ok (some (x:Int))) _=_;rw[B9,e2,B9];show Res.bind (Res.ok (some ((x+1:Nat):Int))) _=_;rw[B9];show ofO (if okS (Tv (mk T) (some (x:Int)) (some ((x+1:Nat):Int)))=true then _ else _)=_;rw[e,hs,iq (pI (l:=[]) (λc h=>absurd h (by simp)) (by simp))];rfl
def bwD:Dn->Out:=(C5 (K7 (λδ=>((b1 (A0 1) jB) δ).bind D8) (st3 4 5 6) (E4 2 (b2 (A0 2) (b2 (b2 (vC (.str "<")) (A0 4) C7) (vFn (A2 (K6 (A0 5) (A0 3) (A0 6) (E6 .Lt) dEq) A7) Az) O6) C7))) (C5 (K7 (λδ=>((A0 1) δ).bind D8) (st3 4 5 6) (E4 2 (b2 (A0 2) (b2 (b2 (A0 4) (vC (.str "|")) C7) (vFn (A2 (K6 (A0 5) (A0 3) (A0 6) dEq dEq) A7) Az) O6) C7))) (C5 (K7 (λδ=>((A0 1) δ).bind D8) (st3 4 5 6) (E4 2 (b2 (A0 2) (b2 (b2 (A0 4) (vC (.str ">")) C7) (vFn (A2 (K6 (A0 5) (A0 3) (A0 6) dEq (E6 .Lt)) A7) Az) O6) C7))) (E4 2 (b2 (A0 2) (Ml (A0 0) (M7 (A0 3)) (M7 (b2 (A0 3) (vC (.int 1)) C7))) C7)))))
def rX(K:K4 L T ts O f){x:Nat}(hx:x<=T.length)(F:List Nat)(hF:F.length<=15000)(s4 s5 s6:Sl):∃r4 r5 r6,bwD [.sh (stD T),.sh (.list (ts.map D6)),.sh (stD F),(.sh (nD x)),s4,s5,s6]=.nx [.sh (stD T),.sh (.list (ts.map D6)),.sh (stD (F++drx T ts x)),(.sh (nD x)),r4,r5,r6]:=by
 have hn:=K.k.ln;have hd:=(Tn K x).2;have p1:=Mw (c:=c1 x) (g:=g1) (l:=ts.reverse) λt ht=>by have:=(Tx (K.k.nm t (IW.mp ht))).2;rw[l7];lia
 have p2:=Mw (c:=c2 x) (g:=g2) (l:=ts) λt ht=>by have:=(Tx (K.k.nm t ht)).2;rw[k7,CA];lia
 rw[CQ]at p1;obtain⟨a4,a5,a6,q1⟩:=w1 K x ts.reverse (λt ht=>IW.mp ht) F s4 s5 s6 (by rw[CQ];lia);obtain⟨b4,b5,b6,q2⟩:=w2 K x ts (λ_ h=>h) (F++pk (c1 x) g1 ts.reverse) a4 a5 a6 (by rw[k7];lia);obtain⟨r4,r5,r6,q3⟩:=w3 K x ts (λ_ h=>h) (F++pk (c1 x) g1 ts.reverse++pk (c2 x) g2 ts) b4 b5 b6 (by rw[k7,k7];lia);have eF:F++pk (c1 x) g1 ts.reverse++pk (c2 x) g2 ts++pk (c3 x) g3 ts=F++dra ts x:=by unfold dra;simp only[x6]
 rw[eF]at q3;refine⟨r4,r5,r6,?_⟩;unfold bwD;refine(B4 (δ':=[.sh (stD T),.sh (.list (ts.map D6)),.sh (stD (F++pk (c1 x) g1 ts.reverse)),(.sh (nD x)),a4,a5,a6]) ?_).trans ?_
 .unfold K7
  rw[E3 (d:=.list (ts.map D6).reverse) (ds:=ts.reverse.map D6) (xN (x:=.list (ts.map D6)) rfl rfl) (by rw[IX];rfl),D2];exact q1
 refine(B4 (δ':=[.sh (stD T),.sh (.list (ts.map D6)),.sh (stD (F++pk (c1 x) g1 ts.reverse++pk (c2 x) g2 ts)),(.sh (nD x)),b4,b5,b6]) ?_).trans ?_
 .unfold K7
  rw[E3 (d:=.list (ts.map D6)) (ds:=ts.map D6) rfl rfl,D2];exact q2
 refine(B4 (δ':=[.sh (stD T),.sh (.list (ts.map D6)),.sh (stD (F++dra ts x)),(.sh (nD x)),r4,r5,r6]) ?_).trans ?_
 .unfold K7
  rw[E3 (d:=.list (ts.map D6)) (ds:=ts.map D6) rfl rfl,D2];exact q3
 .have hl:(sl T x (x+1)).length<=1:=by unfold sl;rw[EY];lia
  refine(D4 (B3 (x:=stD (F++dra ts x)) (y:=stD (sl T x (x+1))) rfl (jF K hx rfl rfl (B3 (x:=nD x) (y:=.int 1) rfl rfl W4)) (Uj (by rw[k7];lia)))).trans ?_;rw[x6];rfl
end
section
variable {L:List Dp}{T:List Nat}{ts:List Row}{O:List As}{f:As->Bool}
abbrev drL(T:List Nat)(ts:List Row)(xs:List Nat):List Nat:=(xs.map (drx T ts)).flatten
def iV(K:K4 L T ts O f)(x:Nat):(drx T ts x).length<=211:=by
 have hd:=(Tn K x).2;have hl:(sl T x (x+1)).length<=1:=by unfold sl;rw[EY];lia
 rw[k7];lia
theorem iW(K:K4 L T ts O f):∀xs:List Nat,(drL T ts xs).length<=211*xs.length
 |[]=>by simp
 |x::xs=>by
  have h1:=iV K x;have h2:=iW K xs;show((drx T ts x)++drL T ts xs).length<=_;rw[k7,l7];lia
def AR(K:K4 L T ts O f)(xs:List Nat):Ok (drL T ts xs):=λc hc=>by
 obtain⟨l,hl,hc⟩:=MZ.mp hc;obtain⟨x,_,rfl⟩:=t8.mp hl;rcases m6.mp hc with hc |hc
 .exact(Tn K x).1 c hc
 .exact wQ K.k.ch _ _ c hc
def rY(K:K4 L T ts O f):∀(xs:List Nat),(∀x∈xs,x<=T.length)->∀(F:List Nat) (s3 s4 s5 s6:Sl),F.length+211*xs.length<=15000->∃r3 r4 r5 r6,E9 (st1 3) bwD (xs.map nD) [.sh (stD T),.sh (.list (ts.map D6)),.sh (stD F),s3,s4,s5,s6]=.nx [.sh (stD T),.sh (.list (ts.map D6)),.sh (stD (F++drL T ts xs)),r3,r4,r5,r6]:=by
 intro xs;induction xs with
 |nil=>intro _ F s3 s4 s5 s6 _;exact⟨s3,s4,s5,s6,by show _=Out.nx [_,_,.sh (stD (F++[])),_,_,_,_];rw[u8];rfl⟩
 |cons x xs ih=>
  intro hs F s3 s4 s5 s6 hl;rw[l7]at hl;have hd:=iV K x;obtain⟨a4,a5,a6,e⟩:=rX K (hs x (.head _)) F (by lia) s4 s5 s6;obtain⟨r3,r4,r5,r6,e2⟩:=ih (λy hy=>hs y (.tail _ hy)) (F++drx T ts x) (.sh (nD x)) a4 a5 a6 (by rw[k7];lia);refine⟨r3,r4,r5,r6,(F6 rfl e).trans (e2.trans ?_)⟩;show Out.nx [_,_,.sh (stD (F++drx T ts x++drL T ts xs)),_,_,_,_]=Out.nx [_,_,.sh (stD (F++(drx T ts x++drL T ts xs))),_,_,_,_];rw[x6]
def Yx{fs:Dn->Res f8}{δ:Dn}{n:Nat}(hn:n<=100)(h:fs δ=.ok (.int (n:Int))):(λδ=>((A2 fs A7) δ).bind Dh) δ=.ok ((rgN 0 n).map nD):=by
 show Res.bind ((A2 fs A7) δ) Dh=_;rw[A6 h rfl,B9];have h3 : -(2 ^ 62)<=(n:Int)/\(n:Int)<2 ^ 62:=by lia
 have e1:Dh [.int (n:Int)]=.ok (Ae 0 (n:Int)):=by unfold Dh;exact iq h3
 rw[e1,<-rgN_D];rfl
def lJ(K:K4 L T ts O f):P3 [stD T,.list (ts.map D6)]=.ok (stD (drL T ts (rgN 0 (T.length+1)))):=by
 have hT:=K.k.tl;obtain⟨r3,r4,r5,r6,e⟩:=rY K (rgN 0 (T.length+1)) (λx hx=>by have:=Yy.mp hx;lia) [] .un .un .un .un (by rw[Yz];simp;lia);rw[BK]at e;refine N2 ?_;show C5 _ _ [.sh (stD T),.sh (.list (ts.map D6)),.un,.un,.un,.un,.un]=_;refine(B4 (δ':=[.sh (stD T),.sh (.list (ts.map D6)),.sh (stD []),.un,.un,.un,.un]) rfl).trans ?_;refine(B4 (δ':=[.sh (stD T),.sh (.list (ts.map D6)),.sh (stD (drL T ts (rgN 0 (T.length+1)))),r3,r4,r5,r6]) ?_).trans rfl;unfold U6 K7;rw[Yx (n:=T.length+1) (by lia) (B3 (x:=.int (T.length:Int)) (y:=.int 1) (N4 (A6 (d:=stD T) rfl rfl) (by rw[Tc,Z1])) rfl W4),D2]
 exact e
def lY(K:K4 L T ts O f):Lz [bkD L]=.ok (stD (drL T ts (rgN 0 (T.length+1)))):=by
 have hT:=K.k.tl;have c:=W3 (δc:=[.sh (.list (ts.map D6)),.sh (stD T)]) (tt:=M5) (el:=b2 (C9 (A2 (A0 1) (A2 (A0 0) A7)) Ah) (Ml (A0 2) (M7 (A0 0)) (M7 (b2 (A0 0) (vC (.int 1)) C7))) C7) nD (λx=>stD (drx T ts x)) (λ_=>true) (rgN 0 (T.length+1)) (λ_ _=>rfl) (λx hx=>by
  have hx:=Yy.mp hx;have hd:=(Tn K x).2;have hl:(sl T x (x+1)).length<=1:=by unfold sl;rw[EY];lia
  exact B3 (x:=stD (dra ts x)) (y:=stD (sl T x (x+1))) (D1 (A6 (d:=.list (ts.map D6)) rfl (A6 (d:=nD x) rfl rfl)) (cZ K x)) (jF K (by lia) rfl rfl (B3 (x:=nD x) (y:=.int 1) rfl rfl W4)) (Uj (by lia)))
 rw[JN.mpr λ_ _=>rfl]at c;refine N2 ?_;show C5 _ _ [.sh (bkD L),.un,.un]=_;refine(B4 (δ':=[.sh (bkD L),.sh (stD T),.un]) (D4 (D1 (A6 (d:=bkD L) rfl rfl) K.k.t))).trans ?_;refine(B4 (δ':=[.sh (bkD L),.sh (stD T),.sh (.list (ts.map D6))]) (D4 (D1 (A6 (d:=bkD L) rfl rfl) K.k.m))).trans ?_;refine L3 ?_;unfold Gs;have hj:=cM ((rgN 0 (T.length+1)).map (drx T ts)) (AR K _) (by have:=iW K (rgN 0 (T.length+1));rw[Yz]at this;lia);rw[DU]at hj;rw[N6 (I8 (δc:=[.sh (.list (ts.map D6)),.sh (stD T)]) (Yx (n:=T.length+1) (by lia) (B3 (x:=.int (T.length:Int)) (y:=.int 1) (N4 (A6 (d:=stD T) rfl rfl) (by rw[Tc,Z1])) rfl W4)) (by rw[i7,Yz];lia) rfl c),B9]
 exact congrArg ofO hj
end
noncomputable abbrev Gp:=Str×List Str
noncomputable def gad:List Gp->Str->Str->List Gp
 |[],h,n=>[(h,[n])]
 |p::r,h,n=>if p.1=h then(p.1,p.2++[n])::r else p::gad r h n
abbrev gE(p:Gp):f8×f8:=(.str p.1,.list (p.2.map .str))
theorem eB(h n:Str):∀g:List Gp,Iy (g.map gE) (.str h) (.str n)=(gad g h n).map gE
 |[]=>rfl
 |p::r=>by
  rw[k6];unfold Iy gad;rw[show l6 (gE p).1 (.str h)=(p.1==h) from rfl];by_cases c:p.1=h
  .rw[iq (show(p.1==h)=true by rw[c];exact beq_self_eq_true _),iq c,k6]
   show((BU p.1,IC (p.2.map .str++[.str n])):f8×f8)::r.map gE=(BU p.1,IC ((p.2++[n]).map .str))::r.map gE;rw[z4];rfl
  .rw[ir (show ¬(p.1==h)=true by rw[Z5 c];decide),ir c,k6,eB h n r]
theorem Zt{h n x:Str}:∀{g:List Gp},x∈(gad g h n).map (·.1)↔x=h\/x∈g.map (·.1)
 |[]=>by simp[gad]
 |p::r=>by
  have ih:=Zt (h:=h) (n:=n) (x:=x) (g:=r);unfold gad;split
  .rename_i c;subst c;simp
  .rw[k6,k6,j9,j9,ih]
   exact⟨λz=>by rcases z with z |z |z <;> simp[z],λz=>by rcases z with z |z |z <;> simp[z]⟩
theorem qP{h n:Str}:∀{g:List Gp},(g.map (·.1)).Nodup->((gad g h n).map (·.1)).Nodup
 |[],_=>BQ.mpr ⟨by simp,.nil⟩
 |p::r,z=>by
  rw[k6,BQ]at z;unfold gad;split
  .exact BQ.mpr z
  .rename_i c
   exact BQ.mpr ⟨λy=>(Zt.mp y).elim c z.1,qP z.2⟩
noncomputable def lkp:List Gp->Str->List Str
 |[],_=>[]
 |p::r,h=>if p.1=h then p.2 else lkp r h
theorem iP(h n x:Str):∀g:List Gp,lkp (gad g h n) x=if h=x then lkp g x++[n] else lkp g x
 |[]=>by simp[gad,lkp]
 |p::r=>by
  have ih:=iP h n x r;unfold gad;by_cases c:p.1=h <;> by_cases d:p.1=x <;> by_cases e:h=x <;> simp_all [lkp]
theorem qB{p:Gp}:∀{G:List Gp},(G.map (·.1)).Nodup->p∈G->lkp G p.1=p.2
 |q::r,nd,z=>by
  rw[k6,BQ]at nd;unfold lkp;rcases j9.mp z with rfl |z
  .exact iq rfl
  .rw[ir λy=>nd.1 (by rw[y];exact BW (f:=(·.1)) z)]
   exact qB nd.2 z
noncomputable def gds:List Gp->List (Str×Str)->List Gp
 |g,[]=>g
 |g,x::r=>gds (gad g x.1 x.2) r
theorem qO:∀(xs:List (Str×Str)) (g:List Gp),(g.map (·.1)).Nodup->((gds g xs).map (·.1)).Nodup/\(∀x,x∈(gds g xs).map (·.1)↔x∈g.map (·.1)\/x∈xs.map (·.1))/\∀x,lkp (gds g xs) x=lkp g x++(xs.filter λp=>p.1==x).map (·.2)
 |[],g,nd=>⟨nd,λx=>by simp[gds],λx=>by simp[gds]⟩
 |y::r,g,nd=>by
  obtain⟨i1,i2,i3⟩:=qO r (gad g y.1 y.2) (qP nd);refine⟨i1,λx=>?_,λx=>?_⟩
  .show x∈(gds (gad g y.1 y.2) r).map (·.1)↔_
   rw[i2,Zt,k6,j9];exact⟨λz=>by rcases z with (z |z) |z <;> simp[z],λz=>by rcases z with z |z |z <;> simp[z]⟩
  .show lkp (gds (gad g y.1 y.2) r) x=_
   rw[i3,iP,z7];by_cases c:y.1=x
   .rw[iq c,iq (by rw[c];exact beq_self_eq_true _),k6,x6];rfl
   .rw[ir c,ir (by rw[Z5 c];decide)]
def hdO(d:f8):Str:=match d with
 |.tuple (_::.tuple [_,.str h]::_)=>h
 |_=>""
def Rows.cs{kvs:Kvs}{O:List As}{f:As->Bool}{ns:List Str}{rs:List Row}(R:Rows kvs O f ns rs){x:Str}(hx:x∈ns):(∃(i:IdP) (a1 a2:f8),L0 kvs (.str x)=some (.tuple [.str "mark",idP i,.str x,a1,a2])/\okH i.2)\/∃i,L0 kvs (.str x)=some (.tuple [.str "unmark",i,.str x]):=by
 induction R with
 |nil=>cases hx
 |mark hg _ _ _ _ _ hi _ ih=>
  rcases j9.mp hx with rfl |hx
  .exact .inl ⟨_,_,_,hg,hi⟩
  .exact ih hx
 |skip hg _ ih=>
  rcases j9.mp hx with rfl |hx
  .exact .inr ⟨_,hg⟩
  .exact ih hx
abbrev fkH:Dn->Res f8:=b2 (b2 (A0 2) (vC (.int 1)) dIx) (vC (.int 1)) dIx
abbrev fvH:Dn->Res f8:=b2 (A0 2) (vC (.int 2)) dIx
def MSh(kvs:Kvs)(x:Str):Prop:=∃(i:IdP) (a1 a2:f8),sel kvs x=.tuple [.str "mark",idP i,.str x,a1,a2]/\okH i.2
abbrev hnd(kvs:Kvs)(x:Str):Str:=hdO (sel kvs x)
theorem MSh.h{kvs:Kvs}{x:Str}(h:MSh kvs x):okH (hnd kvs x):=by
 obtain⟨i,a1,a2,e,o⟩:=h;unfold hnd;rw[e];exact o
theorem iU(b:f8)(kvs:Kvs):∀(X:List Str) (g:List Gp),(∀x∈X,MSh kvs x)->Gh [.sh b,.un,.un] 2 M5 fkH fvH (X.map (sel kvs)) (g.map gE)=.ok ((gds g (X.map λx=>(hnd kvs x,x))).map gE)
 |[],g,_=>rfl
 |x::X,g,h=>by
  obtain⟨q,a1,a2,e,_⟩:=h x (.head _);have ih:=iU b kvs X (gad g (hnd kvs x) x) λy hy=>h y (.tail _ hy);have e1:fkH [.sh b,.un,.sh (sel kvs x)]=.ok (.str q.2):=B3 (x:=idP q) (y:=.int 1) (B3 (x:=sel kvs x) (y:=.int 1) rfl rfl (by rw[e];exact Bd _ _ _)) rfl (Bd _ _ _);have e2:fvH [.sh b,.un,.sh (sel kvs x)]=.ok (.str x):=B3 (x:=sel kvs x) (y:=.int 2) rfl rfl (by rw[e];exact Ur _ _ _ _);have e3:hnd kvs x=q.2:=by unfold hnd;rw[e];rfl
  rw[k6];conv=>lhs;unfold Gh
  rw[show([.sh b,.un,.un]:Dn).set 2 (.sh (sel kvs x))=[.sh b,.un,.sh (sel kvs x)] from rfl,e1,e2];show(if nkD (.str q.2)=true then Gh [.sh b,.un,.un] 2 M5 fkH fvH (X.map (sel kvs)) (Iy (g.map gE) (.str q.2) (.str x)) else Res.no)=_;rw[iq (show nkD (.str q.2)=true from rfl),eB,<-e3,ih];rfl
def hnN(kvs:Kvs)(xs:List Str)(h:Str):List Str:=xs.filter λx=>isM kvs x&&(hnd kvs x==h)
abbrev hvD(kvs:Kvs)(xs:List Str)(h:Str):f8:=.tuple [.str h,.list ((hnN kvs xs h).map .str)]
def hvs(kvs:Kvs)(xs:List Str)(hs:List Str):List f8:=(hs.filter λh=>!(hnN kvs xs h).isEmpty).map (hvD kvs xs)
noncomputable abbrev Ma:List Str:=["a","b","c"]
section
variable {L:List Dp}{O:List As}{f:As->Bool}{kvs:Kvs}{xs:List Str}{rs:List Row}
def Lst.sh(S:Lst L O f kvs xs rs):∀x∈xs.filter (isM kvs),MSh kvs x:=λx hx=>by
 obtain⟨h1,h2⟩:=BN.mp hx;rcases S.R.cs h1 with⟨i,a1,a2,e,o⟩ |⟨i,e⟩
 .exact⟨i,a1,a2,by unfold sel;rw[e];rfl,o⟩
 .rw[Zq e]at h2;cases h2
def uB{h:Str}(o:okH h):(z0 h&&decide (h.length<=1000))=true:=by
 rcases o with rfl |rfl |rfl <;> decide+kernel
def BD:Ma.Pairwise leX:=by
 simp only[Ma,BV];unfold leX;decide+kernel
def BE:Ma.Nodup:=by decide+kernel
def fT(S:Lst L O f kvs xs rs):V8 [bkD L]=.ok (.list (hvs kvs xs Ma)):=by
 have hl:=S.ln;have sh:=S.sh;have hg:=iU (bkD L) kvs (xs.filter (isM kvs)) [] sh;obtain⟨nd,ks,lk⟩:=qO ((xs.filter (isM kvs)).map λx=>(hnd kvs x,x)) [] .nil;have hXl:(xs.filter (isM kvs)).length<=10:=l9 (DL _ _) hl;generalize gds [] ((xs.filter (isM kvs)).map λx=>(hnd kvs x,x))=G at *;have lk2:∀h,lkp G h=hnN kvs xs h:=λh=>by
  rw[lk];show []++_=_;rw[BK,List.filter_map,DU];show List.map (λx=>x) _=_;rw[List.map_id',List.filter_filter];unfold hnN;refine List.filter_congr λx _=>?_;exact Bool.and_comm _ _
 have ks2:∀h,h∈G.map (·.1)↔h∈Ma.filter λh=>!(hnN kvs xs h).isEmpty:=λh=>by
  rw[ks,DU,BN];constructor
  .rintro (z |z)
   .cases z
   .obtain⟨x,hx,e⟩:=t8.mp z
    have e:hnd kvs x=h:=e;have hx2:=BN.mp hx;refine⟨?_,?_⟩
    .rcases (sh x hx).h with z |z |z <;> rw[<-e,z] <;> simp
    .have:x∈hnN kvs xs h:=BN.mpr ⟨hx2.1,by rw[hx2.2,e,beq_self_eq_true];rfl⟩
     cases hh:hnN kvs xs h with
     |nil=>rw[hh]at this;cases this
     |cons _ _=>rfl
  .rintro⟨_,z⟩
   cases hh:hnN kvs xs h with
   |nil=>rw[hh]at z;cases z
   |cons x r=>
    have:x∈hnN kvs xs h:=by rw[hh];exact .head _
    obtain⟨h1,h2⟩:=BN.mp this;rw[x3]at h2;exact .inr (t8.mpr ⟨x,BN.mpr ⟨h1,h2.1⟩,GY h2.2⟩)
 have so:Bw (G.map (·.1))=Ma.filter λh=>!(hnN kvs xs h).isEmpty:=
  Sn ((T3 _).trans ((List.perm_ext_iff_of_nodup nd (KC _ BE)).mpr ks2)) (Ry _) (KC _ BD)
 have hGl:G.length<=3:=by
  have h1:=(T3 (G.map (·.1))).length_eq;rw[so,i7]at h1;rw[<-h1];exact DL _ _
 have hok:∀h∈G.map (·.1),okH h:=λh hh=>by
  have:=(BN.mp ((ks2 h).mp hh)).1;simpa[okH] using this
 have htx:∀(l:List Gp),V4 ((l.map gE).map (·.1))=some (l.map (·.1)):=λl=>by
  induction l with
  |nil=>rfl
  |cons p l ih=>show(V4 ((l.map gE).map (·.1))).map (p.1::·)=_;rw[ih];rfl
 have hsort:Z7 1 [.sh (bkD L),oN (G.map gE),.un]=.ok (.list ((Ma.filter λh=>!(hnN kvs xs h).isEmpty).map .str)):=by
  unfold Z7;show(match V4 ((G.map gE).map (·.1))with |some ss=>_ |none=>_)=_;rw[htx];show(if _ then _ else _)=_;rw[iq ⟨by rw[i7];lia,EZ.mpr λx hx=>uB (hok x hx)⟩,so]
 have pw:G.Pairwise (λa b=>l6 (gE a).1 (gE b).1=false):=by
  have:=nd;rw[HQ,IL]at this;exact this.imp λ{a b} h=>show(a.1==b.1)=false from Z5 h
 have hc:=W3 (δc:=[oN (G.map gE)]) (tt:=M5) (el:=E5 (A2 (A0 0) (A2 (X7 1 (A0 0)) A7))) BU (hvD kvs xs) (λ_=>true) (Ma.filter λh=>!(hnN kvs xs h).isEmpty) (λ_ _=>rfl) (λh hh=>by
  obtain⟨p,hp,rfl⟩:=t8.mp ((ks2 h).mpr hh);have hget:=Ik gE (u:=p) (show(p.1==p.1)=true from beq_self_eq_true _) (more:=[]) hp pw;rw[u8]at hget;refine T0 (A6 (d:=.str p.1) rfl (A6 (d:=.list ((hnN kvs xs p.1).map .str)) ?_ rfl));show Res.bind (Res.ok (BU p.1)) (λkd'=>if nkD kd'=true then ofO (L0 (G.map gE) kd') else Res.no)=_;rw[B9,iq (show nkD (.str p.1)=true from rfl),hget,<-lk2,qB nd hp];rfl)
 rw[JN.mpr (λ_ _=>rfl)]at hc;unfold V8 Cy Cb;refine N2 ?_;show C5 _ _ [.sh (bkD L),.un,.un]=_;rw[B4 (δ':=[.sh (bkD L),oN [],.un]) (by rfl)];have hsrc:(λδ=>((C9 (A2 (A0 0) A7) M0) δ).bind D8) [.sh (bkD L),.un,.un]=.ok ((xs.filter (isM kvs)).map (sel kvs)):=E3 (d:=.list ((xs.filter (isM kvs)).map (sel kvs))) (D1 (A6 (d:=bkD L) rfl rfl) S.md) rfl;rw[B4 (δ':=[.sh (bkD L),oN (G.map gE),.un]) (by
  unfold bH;show K1 ((λδ=>((C9 (A2 (A0 0) A7) M0) δ).bind D8) [.sh (bkD L),.un,.un]) _=_;rw[hsrc,D2,iq ⟨by rw[i7];lia,by decide⟩];show(match Gh [.sh (bkD L),.un,.un] 2 M5 fkH fvH ((xs.filter (isM kvs)).map (sel kvs)) []with |.ok kvs=>_ |_=>_)=_;rw[show Gh [.sh (bkD L),.un,.un] 2 M5 fkH fvH ((xs.filter (isM kvs)).map (sel kvs)) []=_ from hg];rfl)]
 exact L3 (N6 (I8 (E3 (d:=.list ((Ma.filter λh=>!(hnN kvs xs h).isEmpty).map .str)) hsort rfl) (by rw[i7];exact l9 (DL _ _) (by decide)) rfl hc))
def uS(S:Lst L O f kvs xs rs)(h:Str):E2 F7 [oN kvs,.sh (.str h)] (O5 (C3 (b2 (b2 (X7 1 (A0 0)) (vC (.int 0)) dIx) (vC (.str "mark")) dEq)) (C3 (b2 (b2 (b2 (X7 1 (A0 0)) (vC (.int 1)) dIx) (vC (.int 1)) dIx) (A0 2) dEq))) (A0 0) (xs.map .str)=.ok ((hnN kvs xs h).map .str):=by
 refine W3 (δc:=[oN kvs,.sh (.str h)]) BU BU (λx=>isM kvs x&&(hnd kvs x==h)) xs (λx hx=>?_) λ_ _=>rfl;have get:∀{d:f8},L0 kvs (.str x)=some d->(X7 1 (A0 0)) ([.sh (.str x)]++[oN kvs,.sh (.str h)])=.ok d:=λ{d} e=>by
  show Res.bind (Res.ok (BU x)) (λkd'=>if nkD kd'=true then ofO (L0 kvs kd') else Res.no)=_;rw[B9,iq (show nkD (.str x)=true from rfl),e];rfl
 rcases S.R.cs hx with⟨i,a1,a2,e,o⟩ |⟨i,e⟩
 .rw[Te e,show hnd kvs x=i.2 by unfold hnd sel;rw[e];rfl]
  refine aE (C4 (B3 (x:=.str "mark") (y:=.str "mark") (B3 (get e) rfl (T2 _ _)) rfl (by rw[W6,Hs]))) (C4 (B3 (x:=.str i.2) (y:=.str h) (B3 (x:=idP i) (y:=.int 1) (B3 (get e) rfl (Bd _ _ _)) rfl (Bd _ _ _)) rfl (W6 _ _)))
 .rw[Zq e]
  exact Gn (C4 (B3 (x:=.str "unmark") (y:=.str "mark") (B3 (get e) rfl (T2 _ _)) rfl (by rw[W6,Z5 (by decide)])))
def AY:Dn->Out:=(C5 (Ic 4 (G6 (λδ=>((Z7 1) δ).bind D8) F7 [1,3] (O5 (C3 (b2 (b2 (X7 1 (A0 0)) (vC (.int 0)) dIx) (vC (.str "mark")) dEq)) (C3 (b2 (b2 (b2 (X7 1 (A0 0)) (vC (.int 1)) dIx) (vC (.int 1)) dIx) (A0 2) dEq))) (A0 0))) (sIf (C3 (b2 (A0 4) (K8 A7) dNe)) (Dj 2 (E5 (A2 (A0 3) (A2 (A0 4) A7)))) F8))
theorem Zp(S:Lst L O f kvs xs rs)(b:Sl):∀(hs:List Str) (F:List f8) (s3 s4:Sl),F.length+hs.length<=900->∃t3 t4,E9 (st1 3) AY (hs.map .str) [b,oN kvs,.ow (.list F),s3,s4]=.nx [b,oN kvs,.ow (.list (F++hvs kvs xs hs)),t3,t4]
 |[],F,s3,s4,_=>⟨s3,s4,by show _=Out.nx [_,_,.ow (.list (F++[])),_,_];rw[u8];rfl⟩
 |h::hs,F,s3,s4,hl=>by
  rw[l7]at hl;have hln:=S.ln;have e1:Ic 4 (G6 (λδ=>((Z7 1) δ).bind D8) F7 [1,3] (O5 (C3 (b2 (b2 (X7 1 (A0 0)) (vC (.int 0)) dIx) (vC (.str "mark")) dEq)) (C3 (b2 (b2 (b2 (X7 1 (A0 0)) (vC (.int 1)) dIx) (vC (.int 1)) dIx) (A0 2) dEq))) (A0 0)) [b,oN kvs,.ow (.list F),.sh (.str h),s4]=.nx [b,oN kvs,.ow (.list F),.sh (.str h),.sh (.list ((hnN kvs xs h).map .str))]:=
   Lp (I8 (E3 (d:=.list (xs.map .str)) (S.so _ _ rfl) rfl) (by rw[i7];lia) rfl (uS S h))
  have e2:(C3 (b2 (A0 4) (K8 A7) dNe)) [b,oN kvs,.ow (.list F),.sh (.str h),.sh (.list ((hnN kvs xs h).map .str))]=.ok (!(hnN kvs xs h).isEmpty):=C4 (B3 (x:=.list ((hnN kvs xs h).map .str)) (y:=.list []) rfl rfl (by rw[AU,List.isEmpty_map]));unfold hvs;rw[z7];by_cases c:(!(hnN kvs xs h).isEmpty)=true
  .rw[c]at e2
   obtain⟨t3,t4,e⟩:=Zp S b hs (F++[hvD kvs xs h]) (.sh (.str h)) (.sh (.list ((hnN kvs xs h).map .str))) (by rw[k7];simp;lia);refine⟨t3,t4,(F6 (δ1:=[b,oN kvs,.ow (.list F),.sh (.str h),s4]) rfl ((B4 e1).trans ((W5 e2).trans (Fz rfl (T0 (A6 (d:=.str h) rfl (A6 (d:=.list ((hnN kvs xs h).map .str)) rfl rfl))) (by lia))))).trans ?_⟩;rw[iq c,k6];refine e.trans ?_;rw[x6];rfl
  .rw[Bool.not_eq_true]at c
   rw[c]at e2;obtain⟨t3,t4,e⟩:=Zp S b hs F (.sh (.str h)) (.sh (.list ((hnN kvs xs h).map .str))) (by lia);refine⟨t3,t4,(F6 (δ1:=[b,oN kvs,.ow (.list F),.sh (.str h),s4]) rfl ((B4 e1).trans ((Q4 e2).trans rfl))).trans ?_⟩;rw[ir (by rw[c];decide)];exact e
def lF(S:Lst L O f kvs xs rs):W2 [bkD L]=.ok (.list (hvs kvs xs Ma)):=by
 obtain⟨t3,t4,e⟩:=Zp S (.sh (bkD L)) Ma [] .un .un (by decide);unfold W2;refine N2 ?_;show C5 _ _ [.sh (bkD L),.un,.un,.un,.un]=_;rw[B4 (δ':=[.sh (bkD L),oN kvs,.un,.un,.un]) (by unfold Bq U7 Ey;simp_arith [S.ll])];rw[B4 (δ':=[.sh (bkD L),oN kvs,.ow (.list []),.un,.un]) (by rfl)];rw[B4 (δ':=[.sh (bkD L),oN kvs,.ow (.list ([]++hvs kvs xs Ma)),t3,t4]) (by
  unfold Bp K7;rw[E3 (d:=.str "abc") (ds:=Ma.map .str) rfl rfl,D2];exact e)]
 rfl
def yO(kvs:Kvs)(xs:List Str):Rf 3 (.list (hvs kvs xs Ma)):=Rf.list λd hd=>by
 obtain⟨h,_,rfl⟩:=t8.mp hd;refine Rf.tup λe he=>?_;rcases j9.mp he with rfl |he
 .exact .str _
 .rw [m9.mp he]; exact Rf.list λd hd => by
   obtain⟨h,_,rfl⟩:=t8.mp hd;exact .str _
end
theorem Rf.int{n:Nat}(i:Int):Rf n (.int i):=⟨by simp[l6],by simp[CW]⟩
theorem Rf.none{n:Nat}:Rf n .none:=⟨by simp[l6],by simp[CW]⟩
def Rf.two{n:Nat}{a b:f8}(h1:Rf n a)(h2:Rf n b):∀x∈[a,b],Rf n x:=λx hx=>by
 rcases j9.mp hx with rfl |hx
 .exact h1
 .rw[m9.mp hx];exact h2
def Rf.sg{n:Nat}(u:As):Rf (n+2) (sgA u):=Rf.tup (Rf.two (Rf.tup (Rf.two (.int _) (.str _))) (.int _))
def Rf.at{n:Nat}(o:Option As):Rf (n+2) (Sd o):=by
 cases o with
 |none=>exact .none
 |some u=>exact .sg u
def Rf.eq{n:Nat}{d:f8}(h:Rf n d)(hn:n<=62):dEq d d=some (.bool true):=by
 unfold dEq;rw[iq (l9 (LF _ _) (l9 h.2 (l9 hn (by decide)))),h.1]
abbrev d14(v0 v1 v2 v3 v4 v5 v6 v7 v8 v9 v10 v11 v12 v13:Sl):Dn:=[v0,v1,v2,v3,v4,v5,v6,v7,v8,v9,v10,v11,v12,v13]
section
variable {L:List Dp}{T:List Nat}{ts:List Row}{O:List As}{f:As->Bool}{v0 v1 v7 v8 v9 v10 v11 v12 v13:Sl}
def b6i:Dn->Out:=(sIf (C3 (b2 (C9 (A2 (vC (.int 0)) (A2 (A0 2) (A2 (E5 (A2 (A0 7) (A2 (A0 12) A7))) (A2 (vC .none) A7)))) C6) (C9 (A2 (A0 3) (A2 (A0 4) (A2 (E5 (A2 (A0 7) (A2 (A0 12) A7))) A7))) E1) dNe)) (L5 (vC (.bool false))) F8)
def b6:Dn->Out:=(K7 (λδ=>((vC (.str "lr")) δ).bind D8) (st1 12) b6i)
abbrev d6(L:List Dp)(T:List Nat)(ts:List Row)(O:List As)(f:As->Bool)(v0 v1 v7 v8 v9 v10 v11 v12 v13:Sl):Dn:=d14 v0 v1 (.sh (bkD L)) (.sh (.list (O.map sgA))) (.sh (.list ((O.filter f).map sgA))) (.sh (.list (ts.map D6))) (.sh (.str (mk T))) v7 v8 v9 v10 v11 v12 v13
def qE(K:K4 L T ts O f){s:f8}(hs:s=.none\/∃u∈O,s=sgA u){x:Str}(hx:cE x):b6i (d6 L T ts O f v0 v1 (.sh s) v8 v9 v10 v11 (.sh (.str x)) v13)=.nx (d6 L T ts O f v0 v1 (.sh s) v8 v9 v10 v11 (.sh (.str x)) v13):=by
 obtain⟨n,h1,h2⟩:=bQ K (d:=.tuple [s,.str x]) ⟨s,x,rfl,hx,hs⟩;exact(Q4 (C4 (B3 (D1 (A6 (d:=.int 0) rfl (A6 (d:=bkD L) rfl (A6 (d:=.tuple [s,.str x]) rfl (A6 (d:=.none) rfl rfl)))) h1) (D1 (A6 (d:=.list (O.map sgA)) rfl (A6 (d:=.list ((O.filter f).map sgA)) rfl (A6 (d:=.tuple [s,.str x]) rfl rfl))) h2) ((Rf.int (n:=0) _).ne (by decide))))).trans rfl
def uU(K:K4 L T ts O f):∀(ss:List f8),(∀s∈ss,s=.none\/∃u∈O,s=sgA u)->∀s7 s12:Sl,∃r7 r12,E9 (st1 7) b6 ss (d6 L T ts O f v0 v1 s7 v8 v9 v10 v11 s12 v13)=.nx (d6 L T ts O f v0 v1 r7 v8 v9 v10 v11 r12 v13):=by
 intro ss;induction ss with
 |nil=>intro _ s7 s12;exact⟨s7,s12,rfl⟩
 |cons s ss ih=>
  intro h s7 s12;obtain⟨r7,r12,e⟩:=ih (λy hy=>h y (.tail _ hy)) (.sh s) (.sh (.str "r"));refine⟨r7,r12,(F6 (δ1:=d6 L T ts O f v0 v1 (.sh s) v8 v9 v10 v11 s12 v13) rfl ?_).trans e⟩;unfold b6 K7;rw[E3 (d:=.str "lr") (ds:=[.str "l",.str "r"]) rfl rfl,D2];exact(F6 (δ1:=d6 L T ts O f v0 v1 (.sh s) v8 v9 v10 v11 (.sh (.str "l")) v13) rfl (qE K (h s (.head _)) (.inl rfl))).trans ((F6 (δ1:=d6 L T ts O f v0 v1 (.sh s) v8 v9 v10 v11 (.sh (.str "r")) v13) rfl (qE K (h s (.head _)) (.inr rfl))).trans rfl)
def xM{δc:Dn}{tt:Dn->Res Bool}{el:Dn->Res f8}(h:Row->f8)(g:Row->Bool):∀xs:List Row,(∀t∈xs,tt ([.sh (.str t.1),.sh (nD t.2.1),.sh (nD t.2.2)]++δc)=.ok (g t))->(∀t∈xs,el ([.sh (.str t.1),.sh (nD t.2.1),.sh (nD t.2.2)]++δc)=.ok (h t))->E2 Iv δc tt el (xs.map D6)=.ok ((xs.filter g).map h):=by
 intro xs;induction xs with
 |nil=>intro _ _;rfl
 |cons x xs ih=>
  intro ht he;have i:=ih (λy hy=>ht y (.tail _ hy)) λy hy=>he y (.tail _ hy);have h1:=ht x (.head _);have h2:=he x (.head _);rw[k6];unfold E2;cases c:g x with
  |true=>
   rw[c]at h1;simp only[Iv,h1,h2,i];rw[z7,c,iq rfl,k6]
  |false=>
   rw[c]at h1;simp only[Iv,h1,i];rw[z7,c,ir (by decide)]
abbrev cX(P R:List As):f8:=.list [.tuple [Sd P.getLast?,.str "l"],.tuple [Sd R.head?,.str "r"]]
def yP(P R:List As):Rf 4 (cX P R):=Rf.list (Rf.two (Rf.tup (Rf.two (Rf.at (n:=0) _) (.str _))) (Rf.tup (Rf.two (.at _) (.str _))))
def ix_l(P R:List As):dIx (.list ([JW]++(P++R).map sgA)) (nD P.length)=some (Sd P.getLast?):=by
 show atI _ _=_;rw[P8 (by simp;lia)];congr 1;rcases List.eq_nil_or_concat P with rfl |⟨Q,u,rfl⟩
 .rfl
 .simp[Sd]
def ix_r(P R:List As):dIx (.list ((P++R).map sgA++[JW])) (nD P.length)=some (Sd R.head?):=by
 show atI _ _=_;rw[P8 (by simp)];congr 1;cases R with
 |nil=>simp[Sd]
 |cons u R=>simp[Sd]
def b7:Dn->Out:=(C5 (E4 13 (K8 (A2 (E5 (A2 (b2 (b2 (K8 (A2 (vC .none) A7)) (A0 4) C7) (A0 8) dIx) (A2 (vC (.str "l")) A7))) (A2 (E5 (A2 (b2 (b2 (A0 4) (K8 (A2 (vC .none) A7)) C7) (A0 8) dIx) (A2 (vC (.str "r")) A7))) A7)))) (C5 (sIf (C3 (b2 (K8 (A2 (C9 (A2 (vC (.int 1)) (A2 (A0 2) (A2 (A0 8) (A2 (vC (.str "l")) A7)))) C6) (A2 (C9 (A2 (vC (.int 1)) (A2 (A0 2) (A2 (A0 8) (A2 (vC (.str "r")) A7)))) C6) A7))) (A0 13) dNe)) (L5 (vC (.bool false))) F8) (C5 (Ic 11 (G6 (λδ=>((A0 5) δ).bind D8) Iv [8] (C3 (K6 (A0 1) (A0 3) (A0 2) (E6 .LtE) (E6 .Lt))) (A0 0))) (sIf (C3 (b2 (C9 (A2 (vC (.int 3)) (A2 (A0 2) (A2 (A0 8) (A2 (vC .none) A7)))) C6) (vIf (C3 (b2 (A0 8) (vFn (A2 (A0 6) A7) Q3) (E6 .Lt))) (A0 11) (E5 (A2 (vC (.str "refused")) (A2 (vC (.int 1)) A7)))) dNe)) (L5 (vC (.bool false))) F8))))
def lS(x:Nat):E2 Iv [.sh (nD x)] (C3 (K6 (A0 1) (A0 3) (A0 2) (E6 .LtE) (E6 .Lt))) (A0 0) (ts.map D6)=.ok ((iT ts (x,x+1)).map .str):=by
 have c:=xM (δc:=[.sh (nD x)]) (tt:=C3 (K6 (A0 1) (A0 3) (A0 2) (E6 .LtE) (E6 .Lt))) (el:=A0 0) (λt=>BU t.1) (λt=>hb t (x,x+1)) ts (λt _=>C4 (aD (x:=nD t.2.1) (y:=nD x) (z:=nD t.2.2) rfl rfl rfl (leN _ _) (ltN _ _))) λ_ _=>rfl;rw[c];unfold iT;rw[DU];rfl
def sR(p:Nat×Nat):Rf 1 (fR ts p):=Rf.list λd hd=>by
 obtain⟨h,_,rfl⟩:=t8.mp hd;exact .str _
def zY(K:K4 L T ts O f){x:Nat}(hx:x<=T.length)(s11 s13:Sl):∃r11 r13,b7 (d6 L T ts O f v0 v1 v7 (.sh (nD x)) v9 v10 s11 v12 s13)=.nx (d6 L T ts O f v0 v1 v7 (.sh (nD x)) v9 v10 r11 v12 r13):=by
 have hfl:=K.fl;have hln:=K.k.ln;have hol:=K.ol;have hT:=K.k.tl;obtain⟨P,R,hv,hp⟩:∃P R,O.filter f=P++R/\P.length=x:=⟨(O.filter f).take x,(O.filter f).drop x,(List.take_append_drop _ _).symm,by rw[EY];lia⟩;subst hp;have hPR:P.length+R.length=T.length:=by rw[<-hfl,hv,k7]
 refine⟨.sh (fR ts (P.length,P.length+1)),.sh (cX P R),?_⟩;unfold b7;refine(B4 (δ':=d6 L T ts O f v0 v1 v7 (.sh (nD P.length)) v9 v10 s11 v12 (.sh (cX P R))) (D4 (N6 (A6 (T0 (A6 (B3 (x:=.list ([JW]++(P++R).map sgA)) (y:=nD P.length) (B3 (x:=.list [.none]) (y:=.list ((O.filter f).map sgA)) rfl rfl (by rw[Ld (by simp[hfl];lia),hv])) rfl (ix_l P R)) (A6 (d:=.str "l") rfl rfl))) (A6 (T0 (A6 (B3 (x:=.list ((P++R).map sgA++[JW])) (y:=nD P.length) (B3 (x:=.list ((O.filter f).map sgA)) (y:=.list [.none]) rfl rfl (by rw[Ld (by simp[hfl];lia),hv])) rfl (ix_r P R)) (A6 (d:=.str "r") rfl rfl))) rfl))))).trans ?_
 refine(B4 (δ':=d6 L T ts O f v0 v1 v7 (.sh (nD P.length)) v9 v10 s11 v12 (.sh (cX P R))) ((Q4 (C4 (B3 (x:=cX P R) (y:=cX P R) (N6 (A6 (D1 (A6 (d:=.int 1) rfl (A6 (d:=bkD L) rfl (A6 (d:=nD P.length) rfl (A6 (d:=.str "l") rfl rfl)))) (wJ (aa_l K hv))) (A6 (D1 (A6 (d:=.int 1) rfl (A6 (d:=bkD L) rfl (A6 (d:=nD P.length) rfl (A6 (d:=.str "r") rfl rfl)))) (wJ (aa_r K hv))) rfl))) rfl ((yP P R).ne (by decide))))).trans rfl)).trans ?_;refine(B4 (δ':=d6 L T ts O f v0 v1 v7 (.sh (nD P.length)) v9 v10 (.sh (fR ts (P.length,P.length+1))) v12 (.sh (cX P R))) (Lp (I8 (δc:=[.sh (nD P.length)]) (E3 (d:=.list (ts.map D6)) rfl rfl) (by rw[i7];lia) rfl (lS P.length)))).trans ?_
 have hlt:(C3 (b2 (A0 8) (vFn (A2 (A0 6) A7) Q3) (E6 .Lt))) (d6 L T ts O f v0 v1 v7 (.sh (nD P.length)) v9 v10 (.sh (fR ts (P.length,P.length+1))) v12 (.sh (cX P R)))=.ok (decide (P.length<T.length)):=C4 (B3 (x:=nD P.length) (y:=nD T.length) rfl (N4 (A6 (d:=.str (mk T)) rfl rfl) (by rw[Tc,Z1])) (ltN _ _));refine(Q4 (C4 ?_)).trans rfl;by_cases c:P.length<T.length
 .rw[decide_eq_true c]at hlt
  exact B3 (D1 (A6 (d:=.int 3) rfl (A6 (d:=bkD L) rfl (A6 (d:=nD P.length) rfl (A6 (d:=.none) rfl rfl)))) (told3 (rP K c))) (by unfold vIf;rw[hlt];rfl) ((sR _).ne (by decide))
 .rw[decide_eq_false c]at hlt
  refine B3 (x:=U8 1) (y:=U8 1) (D1 (A6 (d:=.int 3) rfl (A6 (d:=bkD L) rfl (A6 (d:=nD P.length) rfl (A6 (d:=.none) rfl rfl)))) (cA K (by lia) (by lia) (by lia))) (by unfold vIf;rw[hlt];rfl) ((Rf.tup (n:=0) (Rf.two (.str _) (.int _))).ne (by decide))
def uT(K:K4 L T ts O f):∀(xs:List Nat),(∀x∈xs,x<=T.length)->∀s8 s11 s13:Sl,∃r8 r11 r13,E9 (st1 8) b7 (xs.map nD) (d6 L T ts O f v0 v1 v7 s8 v9 v10 s11 v12 s13)=.nx (d6 L T ts O f v0 v1 v7 r8 v9 v10 r11 v12 r13):=by
 intro xs;induction xs with
 |nil=>intro _ s8 s11 s13;exact⟨s8,s11,s13,rfl⟩
 |cons x xs ih=>
  intro h s8 s11 s13;obtain⟨r11,r13,e1⟩:=zY (v0:=v0) (v1:=v1) (v7:=v7) (v9:=v9) (v10:=v10) (v12:=v12) K (h x (.head _)) s11 s13;obtain⟨q8,q11,q13,e⟩:=ih (λy hy=>h y (.tail _ hy)) (.sh (nD x)) r11 r13;exact⟨q8,q11,q13,(F6 (δ1:=d6 L T ts O f v0 v1 v7 (.sh (nD x)) v9 v10 s11 v12 s13) rfl e1).trans e⟩
abbrev tE(T:List Nat)(t:Row):f8×f8:=(.str t.1,.str (mk (sl T t.2.1 t.2.2)))
def t_pw(up:ts.Pairwise ltW):ts.Pairwise (λa b=>l6 (tE T a).1 (tE T b).1=false):=up.imp λ{a b} h=>show(a.1==b.1)=false from Z5 h.2
def xX(K:K4 L T ts O f):Li (d6 L T ts O f v0 v1 v7 v8 v9 v10 v11 v12 v13)=.nx (d6 L T ts O f v0 v1 v7 v8 (oN (ts.map (tE T))) v10 v11 v12 v13):=by
 have hln:=K.k.ln;have c:=xM (δc:=[.sh (.str (mk T))]) (tt:=M5) (el:=E5 (A2 (A0 0) (A2 (Ml (A0 3) (M7 (A0 1)) (M7 (A0 2))) A7))) (λt=>EX [(tE T t).1,(tE T t).2]) (λ_=>true) ts (λ_ _=>rfl) λt ht=>by
  have h:=K.k.ok t ht;exact T0 (A6 (d:=.str t.1) rfl (A6 (gD K.k.ch K.k.tl h.1 h.2 rfl rfl rfl) rfl))
 rw[JN.mpr λ_ _=>rfl]at c;have hd:(K8 (G6 (λδ=>((A0 5) δ).bind D8) Iv [6] M5 (E5 (A2 (A0 0) (A2 (Ml (A0 3) (M7 (A0 1)) (M7 (A0 2))) A7))))) (d6 L T ts O f v0 v1 v7 v8 v9 v10 v11 v12 v13)=.ok (.list (ts.map λt=>.tuple [(tE T t).1,(tE T t).2])):=N6 (I8 (δc:=[.sh (.str (mk T))]) (E3 (d:=.list (ts.map D6)) rfl rfl) (by rw[i7];lia) rfl c);have hp:Gf (ts.map λt=>.tuple [(tE T t).1,(tE T t).2]) []=some (ts.map (tE T)):=Mx (tE T) (λ_=>rfl) ts [] (t_pw K.k.up);unfold Li U7 Ta;rw[hd,B9];show K1 (if _ then _ else _) _=_;rw[iq (by rw[i7];lia),hp];rfl
def b10:Dn->Out:=(sIf (C3 (b2 (C9 (A2 (vC (.int 2)) (A2 (A0 2) (A2 (A0 10) (A2 (vC .none) A7)))) C6) (Jq 9 (A0 10) (E5 (A2 (vC (.str "refused")) (A2 (vC (.int 2)) A7)))) dNe)) (L5 (vC (.bool false))) F8)
def uW(K:K4 L T ts O f){x:Str}(hx:U5 x):b10 (d6 L T ts O f v0 v1 v7 v8 (oN (ts.map (tE T))) (.sh (.str x)) v11 v12 v13)=.nx (d6 L T ts O f v0 v1 v7 v8 (oN (ts.map (tE T))) (.sh (.str x)) v11 v12 v13):=by
 have hg:(Jq 9 (A0 10) (E5 (A2 (vC (.str "refused")) (A2 (vC (.int 2)) A7)))) (d6 L T ts O f v0 v1 v7 v8 (oN (ts.map (tE T))) (.sh (.str x)) v11 v12 v13)=.ok ((L0 (ts.map (tE T)) (.str x)).getD (U8 2)):=rfl;refine(Q4 (C4 ?_)).trans rfl;by_cases c:∃t∈ts,t.1=x
 .obtain⟨t,ht,rfl⟩:=c
  have h2:=Ik (tE T) (u:=t) (show(t.1==t.1)=true from beq_self_eq_true _) (more:=[]) ht (t_pw K.k.up);rw[u8]at h2;rw[h2]at hg;exact B3 (D1 (A6 (d:=.int 2) rfl (A6 (d:=bkD L) rfl (A6 (d:=.str t.1) rfl (A6 (d:=.none) rfl rfl)))) (told2 (mO K ht))) hg ((Rf.str (n:=0) _).ne (by decide))
 .have h2 : L0 (ts.map (tE T)) (.str x) = none:= by
   have:=Ji (k:=.str x) (more:=[]) (kvs:=ts.map (tE T)) λp hp=>by
    obtain⟨t,ht,rfl⟩:=t8.mp hp;exact Z5 λz=>c ⟨t,ht,z⟩
   rw[u8]at this;exact this
  rw[h2]at hg;exact B3 (D1 (A6 (d:=.int 2) rfl (A6 (d:=bkD L) rfl (A6 (d:=.str x) rfl (A6 (d:=.none) rfl rfl)))) (lB K hx λu hu z=>c ⟨u,hu,z⟩)) hg ((Rf.tup (n:=0) (Rf.two (.str _) (.int _))).ne (by decide))
def qF(K:K4 L T ts O f):∀(xs:List Str),(∀x∈xs,U5 x)->∀s10:Sl,∃r10,E9 (st1 10) b10 (xs.map .str) (d6 L T ts O f v0 v1 v7 v8 (oN (ts.map (tE T))) s10 v11 v12 v13)=.nx (d6 L T ts O f v0 v1 v7 v8 (oN (ts.map (tE T))) r10 v11 v12 v13):=by
 intro xs;induction xs with
 |nil=>intro _ s10;exact⟨s10,rfl⟩
 |cons x xs ih=>
  intro h s10;obtain⟨r,e⟩:=ih (λy hy=>h y (.tail _ hy)) (.sh (.str x));exact⟨r,(F6 (δ1:=d6 L T ts O f v0 v1 v7 v8 (oN (ts.map (tE T))) (.sh (.str x)) v11 v12 v13) rfl (uW K (h x (.head _)))).trans e⟩
end
def zz_ok:U5 "zzzzzz":=⟨by decide,by decide,by unfold chOk;decide⟩
def sQ(ts:List Row):Rf 2 (.list (ts.map D6)):=Rf.list λd hd=>by
 obtain⟨p,_,rfl⟩:=t8.mp hd;refine Rf.tup (n:=0) λe he=>?_;rcases j9.mp he with rfl |he
 .exact .str _
 .exact Rf.two (.int _) (.int _) e he
def oH(ns:List Int)(hns:ns.length<=63):iO [.list (ns.map DZ)]=.ok (.bool true):=by
 obtain⟨x,y,z,hxyz,en⟩:=pN ns hns 0;obtain⟨L,eb,hl,W⟩:=wE ns hns x y z hxyz;obtain⟨T,ts,O,f,K⟩:=k4_ex W (by lia);have hT:=K.k.tl;have hol:=K.ol;refine N2 ?_;show C5 _ _ (d14 (.sh (scr ns)) .un .un .un .un .un .un .un .un .un .un .un .un .un)=_;refine(B4 (δ':=d14 (.sh (scr ns)) (.sh (.list [.str x,.str y,.str z])) .un .un .un .un .un .un .un .un .un .un .un .un) (D4 (D1 (A6 rfl (A6 rfl rfl)) en))).trans ?_;refine(B4 (δ':=d14 (.sh (scr ns)) (.sh (.list [.str x,.str y,.str z])) (.sh (bkD L)) .un .un .un .un .un .un .un .un .un .un .un) (D4 (D1 (A6 rfl (A6 rfl (A6 rfl (A6 rfl rfl)))) eb))).trans ?_
 refine(B4 (δ':=d14 (.sh (scr ns)) (.sh (.list [.str x,.str y,.str z])) (.sh (bkD L)) (.sh (.list (O.map sgA))) .un .un .un .un .un .un .un .un .un .un) (D4 (D1 (A6 (d:=bkD L) rfl rfl) K.lo))).trans ?_;refine(B4 (δ':=d14 (.sh (scr ns)) (.sh (.list [.str x,.str y,.str z])) (.sh (bkD L)) (.sh (.list (O.map sgA))) (.sh (.list ((O.filter f).map sgA))) .un .un .un .un .un .un .un .un .un) (D4 (D1 (A6 (d:=bkD L) rfl rfl) K.lt))).trans ?_;refine(B4 (δ':=d14 (.sh (scr ns)) (.sh (.list [.str x,.str y,.str z])) (.sh (bkD L)) (.sh (.list (O.map sgA))) (.sh (.list ((O.filter f).map sgA))) (.sh (.list (ts.map D6))) .un .un .un .un .un .un .un .un) (D4 (D1 (A6 (d:=bkD L) rfl rfl) K.k.lm))).trans ?_
 refine(B4 (δ':=d6 L T ts O f (.sh (scr ns)) (.sh (.list [.str x,.str y,.str z])) .un .un .un .un .un .un .un) (D4 (D1 (A6 (d:=bkD L) rfl (A6 (d:=.list ((O.filter f).map sgA)) rfl rfl)) K.lx))).trans ?_;generalize (Sl.sh (scr ns))=v0;obtain⟨r7,r12,e6⟩:=uU (v0:=v0) (v1:=.sh (.list [.str x,.str y,.str z])) (v8:=.un) (v9:=.un) (v10:=.un) (v11:=.un) (v13:=.un) K (O.map sgA++[.none]) (λs hs=>by
  rcases m6.mp hs with hs |hs
  .obtain⟨u,hu,rfl⟩:=t8.mp hs
   exact .inr ⟨u,hu,rfl⟩
  .exact .inl (m9.mp hs)) .un .un
 refine(B4 (δ':=d6 L T ts O f v0 (.sh (.list [.str x,.str y,.str z])) r7 .un .un .un .un r12 .un) ?_).trans ?_
 .unfold Qx K7
  rw[E3 (d:=.list (O.map sgA++[.none])) (ds:=O.map sgA++[.none]) (B3 (x:=.list (O.map sgA)) (y:=.list [.none]) rfl rfl (Ld (by simp;lia))) rfl,D2];exact e6
 obtain⟨r8,r11,r13,e7⟩:=uT (v0:=v0) (v1:=.sh (.list [.str x,.str y,.str z])) (v7:=r7) (v9:=.un) (v10:=.un) (v12:=r12) K (rgN 0 (T.length+1)) (λx hx=>by have:=Yy.mp hx;lia) .un .un .un;refine(B4 (δ':=d6 L T ts O f v0 (.sh (.list [.str x,.str y,.str z])) r7 r8 .un .un r11 r12 r13) ?_).trans ?_
 .unfold Qw K7
  rw[Yx (n:=T.length+1) (by lia) (B3 (x:=.int (T.length:Int)) (y:=.int 1) (N4 (A6 (d:=.str (mk T)) rfl rfl) (by rw[Tc,Z1])) rfl W4),D2];exact e7
 obtain⟨kvs,xs,S⟩:=K.hh;refine(B4 (δ':=d6 L T ts O f v0 (.sh (.list [.str x,.str y,.str z])) r7 r8 .un .un r11 r12 r13) ((Q4 (rM (C4 (B3 (D1 (A6 (d:=bkD L) rfl rfl) K.k.m) (y:=.list (ts.map D6)) rfl ((sQ ts).ne (by decide)))) (rM (C4 (B3 (D1 (A6 (d:=bkD L) rfl rfl) (lY K)) (D1 (A6 (d:=.str (mk T)) rfl (A6 (d:=.list (ts.map D6)) rfl rfl)) (lJ K)) ((Rf.str (n:=0) _).ne (by decide)))) (C4 (B3 (D1 (A6 (d:=bkD L) rfl rfl) (fT S)) (D1 (A6 (d:=bkD L) rfl rfl) (lF S)) ((yO kvs xs).ne (by decide))))))).trans rfl)).trans ?_;refine(B4 (xX K)).trans ?_;obtain⟨r10,e10⟩:=qF (v0:=v0) (v1:=.sh (.list [.str x,.str y,.str z])) (v7:=r7) (v8:=r8) (v11:=r11) (v12:=r12) (v13:=r13) K [x,y,z,"zzzzzz"] (λw hw=>by
  rcases j9.mp hw with rfl |hw
  .exact hxyz.1
  rcases j9.mp hw with rfl |hw
  .exact hxyz.2.1
  rcases j9.mp hw with rfl |hw
  .exact hxyz.2.2
  .rw[m9.mp hw];exact zz_ok) .un
 refine(B4 (δ':=d6 L T ts O f v0 (.sh (.list [.str x,.str y,.str z])) r7 r8 (oN (ts.map (tE T))) r10 r11 r12 r13) ?_).trans ?_
 .unfold Mm K7
  rw[E3 (d:=.list ([x,y,z,"zzzzzz"].map .str)) (ds:=[x,y,z,"zzzzzz"].map .str) (B3 (x:=.list [.str x,.str y,.str z]) (y:=.list [.str "zzzzzz"]) rfl rfl (Ld (by simp))) rfl,D2];exact e10
 refine(B4 (δ':=d6 L T ts O f v0 (.sh (.list [.str x,.str y,.str z])) r7 r8 (oN (ts.map (tE T))) r10 (.sh (.list [U8 0,U8 1])) r12 r13) (D4 (N6 (A6 (D1 (A6 (d:=.int 0) rfl (A6 (d:=bkD L) rfl (A6 (d:=.tuple [.tuple [.tuple [.int 99,.str "a"],.int 0],.str "l"]) rfl (A6 (d:=.none) rfl rfl)))) (AO K)) (A6 (D1 (A6 (d:=.int 1) rfl (A6 (d:=bkD L) rfl (A6 (d:=.int (-1)) rfl (A6 (d:=.str "l") rfl rfl)))) (xO K (by decide) (by decide) (by lia) _)) rfl))))).trans ?_;refine(B4 (δ':=d6 L T ts O f v0 (.sh (.list [.str x,.str y,.str z])) r7 r8 (oN (ts.map (tE T))) r10 (.sh (.list [U8 0,U8 1,U8 1,U8 1])) r12 r13) (D4 (B3 (x:=.list [U8 0,U8 1]) (y:=.list [U8 1,U8 1]) rfl (N6 (A6 (D1 (A6 (d:=.int 1) rfl (A6 (d:=bkD L) rfl (A6 (d:=.int ((T.length:Int)+1)) (B3 (x:=.int (T.length:Int)) (y:=.int 1) (N4 (A6 (d:=.str (mk T)) rfl rfl) (by rw[Tc,Z1])) rfl W4) (A6 (d:=.str "r") rfl rfl)))) (xO K (by lia) (by lia) (by lia) _)) (A6 (D1 (A6 (d:=.int 3) rfl (A6 (d:=bkD L) rfl (A6 (d:=.int (-1)) rfl (A6 (d:=.none) rfl rfl)))) (cA K (by decide) (by decide) (by lia))) rfl))) (Ld (by simp))))).trans ?_
 exact L3 (B3 (x:=.list [U8 0,U8 1,U8 1,U8 1]) (y:=.list [U8 0,U8 1,U8 1,U8 1]) rfl rfl ((Rf.list (n:=1) λd hd=>by
  have rr:∀i,Rf 1 (U8 i):=λi=>Rf.tup (n:=0) (Rf.two (.str _) (.int _));rcases j9.mp hd with rfl |hd
  .exact rr _
  rcases j9.mp hd with rfl |hd
  .exact rr _
  exact Rf.two (rr _) (rr _) d hd).eq (by decide)))
end Sm
end
set_option maxRecDepth 100000 in
set_option maxHeartbeats 0 in
theorem PySem.Challenge.cw_staymark_k20_marks_holds : PySem.Challenge.rw_staymark_k20_marks.Holds := by
 w_on; o_law
 refine PySem.W.holds_open (XP:=PySem.W.XL Sm.owV []) Sm.owL (PySem.W.Hook.of _) (PySem.W.Hook.keeps _) (fun s e=>PySem.W.xl_of s (Bool.and_eq_true_iff.mp (show (_&&_)=true from e)).1) PySem.W.XL.keeps (by rfl) (by rfl) (by rfl) (fun s e=>PySem.W.recFacts_of (Bool.and_eq_true_iff.mp (show (_&&_)=true from e)).2) (by rfl) (by first | assumption | decide +kernel) (by decide +kernel) ⟨rfl,rfl,rfl,rfl,rfl,by decide +kernel⟩ ?hw ?hc
 (case hw=>w_witness2)
 k_fill
 refine Sm.walkD (l:=PySem.Challenge.rw_staymark_k20_marks) rfl rfl rfl (fun w h Y=>PySem.W.kIn_of Y) (fun w=>?hK) ?F Sm.oH
 case hK=>kernel_rfl
 case F =>
   intro w mg h KX G; refine' ⟨⟨?b0,?b1,?b2,?b3,?b4,?b5,?b6,?b7,?b8,?b9,?b10,?b11,?c0⟩,⟨?d40,?d0,?d1,?d2,?d3,?d4,?d5,?d6,?d7,?d8,?d9,?d10,?d11,?d12,?d13,?d14,?d15,?d16,?d17,?d18,?d19,?d20,?d21,?d22,?d23,?d24,?d25,?d26,?d27,?d28,?d29,?d30,?d31,?d32,?d33,?d34,?d35,?d36,?d37,?d38,?d39⟩,_,_,_,_,⟨?o0,?o1⟩,⟨?o2,?o3⟩,⟨?o4,?o5⟩,⟨?ui,?uM,?u0,?u1,?u2,?un,?uV,⟨?uy0,?uy1,?uy2,?uy3,?uy4,?uy5,?uy6,?uy7⟩,?uk1,?uk2,?uk3,?uk4,?ut0,?ut1,?ut2,?ut4⟩,⟨?vi,?vM,?v0,?v1,?v2,?vn,?vV,⟨?vy0,?vy1,?vy2,?vy3,?vy4,?vy5,?vy6,?vy7⟩,?vk1,?vk2,?vk3,?vk4,?vt0,?vt1,?vt2,?vt4⟩,⟨?wi,?wM,?w0,?w1,?w2,?wn,?wV,⟨?wy0,?wy1,?wy2,?wy3,?wy4,?wy5,?wy6,?wy7⟩,?wk1,?wk2,?wk3,?wk4,?wt0,?wt1,?wt2,?wt4⟩⟩
   case b0 | b1 | b2 | b3 | b4 | b5 | b6 | b7 | b8 | b9 | b10 | b11=>exact PySem.W.mg_none_of KX G (by k_is)
   case c0=>exact ⟨_,(PySem.W.mg_of KX G (by k_is)).trans rfl⟩
   case d0 | d1 | d2 | d3 | d5 | d6 | d7 | d8 | d12 | d13 | d19 | d20 | d25 | d29 | d30 | d31 | d34 | d35 | d36 | d39 | d40=>exact Sm.vP KX G (by k_is) (by k_is) (by k_is) (by k_is) (fun _ _ _ _ _ _ _=>rfl) rfl
   case d4 | d9 | d10 | d14 | d15 | d17 | d18 | d21 | d23 | d24 | d32 | d38=>exact Sm.vO KX G (by k_is) (by k_is) (by k_is) (by k_is) (fun _ _ _ _ _ _ _ _=>rfl) rfl
   case d11 | d16 | d22 | d26 | d33=>exact Sm.vN KX G (by k_is) (by k_is) (by k_is) (by k_is) (fun _ _ _ _ _ _ _ _ _=>rfl) rfl
   case d27=>exact Sm.vK KX G (by k_is) (by k_is) (by k_is) (by k_is) (fun _ _ _ _ _ _ _ _ _ _ _=>rfl) rfl
   case d28 | d37=>exact Sm.vL KX G (by k_is) (by k_is) (by k_is) (by k_is) (fun _ _ _ _ _ _ _ _ _ _=>rfl) rfl
   case o0 | o2 | o4=>exact PySem.W.mg_of KX G (by k_is)
   case o1 | o3 | o5=>k_exc
   case ui=>decide
   case uM | u0 | u1 | u2=>exact PySem.W.mg_of KX G (by k_is)
   case un | uV=>exact PySem.W.mg_none_of KX G (by k_is)
   case uy0 | uy1 | uy2 | uy3 | uy4 | uy5 | uy6 | uy7 | uk1 | uk2 | uk3 | uk4 | ut0 | ut1 | ut2 | ut4=>(first | k_is | kernel_rfl)
   case vi=>decide
   case vM | v0 | v1 | v2=>exact PySem.W.mg_of KX G (by k_is)
   case vn | vV=>exact PySem.W.mg_none_of KX G (by k_is)
   case vy0 | vy1 | vy2 | vy3 | vy4 | vy5 | vy6 | vy7 | vk1 | vk2 | vk3 | vk4 | vt0 | vt1 | vt2 | vt4=>(first | k_is | kernel_rfl)
   case wi=>decide
   case wM | w0 | w1 | w2=>exact PySem.W.mg_of KX G (by k_is)
   case wn | wV=>exact PySem.W.mg_none_of KX G (by k_is)
   case wy0 | wy1 | wy2 | wy3 | wy4 | wy5 | wy6 | wy7 | wk1 | wk2 | wk3 | wk4 | wt0 | wt1 | wt2 | wt4=>(first | k_is | kernel_rfl)
