import PyProof.Rows.All
import Wide.All
import OpenK.AllK
import Wide.FinOn
import Lean
import PySem.SetOps
import PyProof.SetScanFacts
import PyProof.SetKind
import PyProof.IsRules
import PyProof.EqAt
import PyProof.EqKinds
import PyProof.TupleCall
import PyProof.TupleKey
import PyProof.P3Eq
import Wide.Seal
import PyProof.StrCalls
import PyProof.SeqI3
import PyProof.Draws
import PyProof.EnumMake
import PyProof.DictValues
import PyProof.DictWalks
import PyProof.TupleOfSeq
import PyProof.TupleOfGen
import KE.KDictList
import PyProof.AttrMiss
import PyProof.IsiH_list
import KE.KRevIter
import PyProof.MinMaxWalk
import PyProof.Rows.CallKwBuiltin
import KE.KSortTup
import PyProof.Rows.SortWalk
import PyProof.Rows.SortShell
import PyProof.DictIter
import PyProof.P3In
import PyProof.Rows.SortStr
import PyProof.MeetsStr
import PyProof.FactsAll.str_6
import PyProof.StrCalls2
import PyProof.MeetsStr2
import KE.KIntText
import PyProof.SliceStr2
import PyProof.Rows.Range3
import PyProof.SetRoads
import PyProof.Rows.SetFrom
import PyProof.SetNew
import PyProof.WalksMore
import PySem.Challenge.RW_staymark_k32_whole_counts
set_option Elab.async false
set_option linter.all false
set_option maxRecDepth 100000
set_option maxHeartbeats 4000000
set_option compiler.extract_closed false
set_option bootstrap.genMatcherCode false
set_option genSizeOf false
local macro_rules | `(⋯) => `(by kernel_rfl)
open PySem renaming PyData→xC,wpAny_bind→xD,wpAny_pure→xE,Value→xF,Shared→xH,Spec→xM,Addr→xO,starEach→xR,model→yC,Program→yI,World→yR,wpAny_newObj_type→yZ,wpAny_call_entry→zD,wpAny_callSpecial?_slot→zI,Heap→zJ,wpAny_holding→zK,Around→zL,DictEntry→zO,foldedSetIterable→zP,mainGlobals→a9,compareOp→c9,wpAny_mono→e8,wpAny_dictEpoch→f8,backTo→f9,wpAny_rule→i7,wpAny_loadPart'→i9,Paired→j3,Builtin→k7,wpAny_setState_of→l4,SetTable→l5,cLine→m8,CmpOp→m9,wpAny_truthy_bool→n6,relabel→n8,wpAny_specialOf→o4,codeAny_builtin→o5,wpAny_of_eq→p5,attributeBase→p6,swapsWith→p7,sysModules→p9,builtinLookup_eq_fast→t8,mem_of_lookup→t9,sizeLine_eq→u5,wpAny_attempt→w6,Stmt→w8,wpAny_typeNameOfWhole_keyiter→z5,wpAny_passesOwn→AE,wpAny_ite_split→AF,SetTable→AG,rawInt→AJ,wpAny_dictEntries→AL,Keyword→AQ,isSubtype_type→AU,wpAny_isInstance→AX,wpAny_askSetting→AY,codeAny_mono→AZ,bootBuiltins→BA,wpAny_setEntries_of→BF,plainId_quiet→BK,typeLookup_type→BN,wpAny_setField_rec→BS,wpAny_Call_Name_kw→BT,wpAny_field→BV,keywordEach→BW,wpAny_fieldsOf→CD,firstArgMember→CF,FuncData→CH,wpAny_forIn_list→CM,sliceBounds→CP,getItem→DH,codeAny→DJ,scanBound→DP,wpAny_setField→DX,assignEach→DZ,NameKind→EB,wpAny_sequenceKey→EG,wpAny_pyIter_slot→EH,bindArgs→EW,binaryOp→EX,backToKw→EY,wpAny_typeOf→FE,builtinsNs→FF,Params→FG,IsPart→FH,wpAny_execs_nil→FJ,letOwnedTupleGo→FK,wpAny_notOrdered_dict→FR,wpAny_isOneOf_keyiter→FS,assign→GE,call_meets→GS,wpAny_pyIter_list→HA,slot_list_getitem→HB,setField→HC,relayAll→HD,intKind→HE,callerA→HF,call_meetsIn→HG,pyIter→HU,noFill_tuple_add→HV,beq_builtin_none→HW,argsOk→HX,subscripted→IE,codeAny_of_tree→II,setNext→IN,wpAny_seqItems→IU,wpAny_runValue→IV,wpAny_load→IW,slotArgs→IZ,isSubtype_stop→JB,entryFor_alias→JD,entryFor→JE,carriedByValue→JF,ReadsAll→JH
open List renaming mem_cons→xG,length_map→xJ,map_cons→xL,mem_singleton→xS,length_cons→xU,size_toArray→xW,mem_append→xY,length_append→yB,replicate→yD,set_cons_zero→yF,set_cons_succ→yG,mem_map→yH,getElem?_eq_some_iff→yJ,pairwise_cons→yK,filter_cons→yL,find?_cons→yN,getElem?_map→yQ,map_append→yV,getElem?_eq_getElem→yW,mem_map_of_mem→zA,getElem?_append_left→zC,nil_append→zE,getElem?_append_right→zF,append_nil→zN,nodup_cons→zS,length_nil→zT,append_assoc→zU,mem_cons_self→zV,cons_append→a8,mem_cons_of_mem→c6,drop_eq_getElem_cons→c7,range→c8,length_eq_zero_iff→i4,map_map→i6,flatten_cons→j0,mem_filter→j4,mem_of_getElem?→j9,mem_append_right→l6,getElem?_eq_none→l7,map_nil→l9,getElem?_replicate→m7,replicate_succ→n5,all_eq_true→o9,foldl_cons→s0,pairwise_singleton→u7,mem_range→u8,getElem?_cons_zero→u9,any_eq_true→w5,filter_eq_nil_iff→x6,dropLast_concat_getLast→y4,length_replicate→z7,pairwise_map→z8,nodup_append→z9,pairwise_append→AI,getElem_mem→AN,reverse_append→AS,filter_eq_self→AT,length→BI,getElem?_cons_succ→BJ,ext_getElem?→BO,drop_eq_nil_of_le→BP,length_filter_le→BY,not_mem_nil→CB,length_take→CC,getElem?_set_ne→CK,zip_cons_cons→CS,nodup_iff_pairwise_ne→CT,filter_append→CU,drop_zero→CV,filter_congr→DL,any_cons→DR,length_drop→EC,pairwise_lt_range→EM,mem_iff_getElem?→ET,mem_of_mem_drop→FC,mem_append_left→FD,map_congr_left→FL,length_reverse→FM,getElem_of_mem→FN,filterMap_cons→FO,mem_filterMap→GB,foldl→GC,take_sublist→GG,getElem_map→GO,eq_nil_of_length_eq_zero→GT,of_mem_zip→GV,length_set→GW,forIn_cons→GX,length_eraseIdx_of_lt→HP,getD_eq_getElem?_getD→HQ,find?→HR,pairwise_iff_getElem→IB,mem_of_find?_eq_some→IC,toArray→IQ,length_pos_of_mem→IR,getElem?_set_self→IS,any_map→IT,length_singleton→JK,dropLast_eq_take→JL,reverse_reverse→JQ,mem_of_mem_take→JR,getElem?_mapIdx→JS
open PySem.W renaming Frag→xI,fnOf→zQ,keepIn→i3,codeIn→o6,nsIn→CL,methodObj→FU,cellsFrom_some→HY
open PySem.Heap renaming get?_push_of_some→xK,get?_push_size→xT,lt_size→xZ,get?_update_self→zX,get?_none_of_le→i5,SameBut→o3,get?_update_other→BQ,size_push→CW,ExtBut→DM,get?_update_ne→FQ
open Nat renaming le_refl→xN,le_trans→yA,lt_of_lt_of_le→yS,ne_of_lt→yU,zero_le→zY,lt_irrefl→e9,not_lt→l0,reduceSub→o7,reduceAdd→o8,min_le_right→p0,ne_of_gt→y3,le_succ_of_le→AB,le_succ→AK,lt_succ_self→CG,min_le_left→CO,le_of_lt→CQ,lt_of_le_of_lt→DB,lt_succ_of_lt→DQ,succ_le_succ→ED,lt_trans→EQ,lt_or_ge→ER,zero_add→JI,mul_comm→JJ
open PySem.PyData renaming int→xV,eqv→xX,strOk→yP,str→zM,depth→zR,depthAll→zW,canLayAll0→m6,tuple→n0,eqvAll→AR,bool→CA,list→IP
open Bool renaming and_eq_true→yE,false_eq_true→yY,eq_iff_iff→l3,false_ne_true→l8,not_eq_true'→BR,and_false→CY,or_false→DV,not_true→FZ,or_eq_true→GY,and_true→IG
open Option renaming map_eq_some_iff→yT,bind_eq_some_iff→BC,map_some→CJ
open Array renaming getElem?_eq_getElem→zB,length_toList→zG,getElem?_toList→z0,getElem?_eq_none→BM,getD→EF,all_eq_true'→GA,all_toList→GN,toList→IM,getElem_toList→JO
open Option.some renaming inj→zH,injEq→IF
open PySem.Builtin.Str renaming strSliceIndices→zZ,occurrences→AV
open List.Perm renaming refl→g9,swap→EE,cons_inv→IK,nil_eq→JM
open PySem.Value renaming none→j5,ref→k6,type→x4,notImplemented→EZ,bool→FT,int→GI,isStrOf_shape→JP
open LawfulBEq renaming eq_of_beq→j6
open PySem.Around renaming under_plainId→j7
open PySem.Heap.SameBut renaming update→j8,refl→ID
open PyProof.Rows renaming slot_tuple_getitem→k5,callWith_type1→x3,seqObj→BU,StrsAre→EL,IntsAre→EN,AllBare→FI,IsTup→FP,slot_tuple_getitem→GP,envOfC→GQ,entry_list_sort→IH,sortedHeap→IX,slot_list_sort→IY,args_list_sort→JG
open PySem.Str renaming ofString→k8,join→k9
open ForInStep renaming yield→p4
open PySem.NameKind renaming free→x5
open PySem.Obj renaming data_mapFields→x8,mapSeq→BH,mapDictKeys→ES,isFreed_of_fields→FA,isFreed_of_dict→FV,putSet→IA,mapFields→IJ
open PySem.Builtin.Slice renaming slicePlaces→y9,sliceAdjust→CI,sliceApplied→FW
open PySem.SetTable renaming grown→z6,below→BE
open PySem.Builtin.Tuple renaming tupleExact→AA,tupleItemsOf→BZ,tupleCompareSizes→EV,tupleHashOf→GD
open Classical renaming byContradiction→AC
open PySem.Builtin.List renaming listTooLong→AD,listLengthHint→FX,listExtendWith→FY,listSameRef→GH
open False renaming elim→AH
open List.cons renaming injEq→AO
open PySem.F renaming plainAttrs_list→AW,args_tuple_add_2→CZ,entry_tuple_add→DK,slot_tuple_add→EA,type_list_append→HI,slot_list_append→HJ,plainAttrs_dict→HM,plainAttrs_str→HZ
open PySem.Calls renaming spliced_cons→BD,callWith_builtin→BL,call_function_entry→DD,evalArgs_plain→FB,spliced_nil→GF,Name_function_global→HK
open PySem.PassesOwn renaming never→BX
open Int renaming emod_lt_of_pos→DC,toNat_natCast→DU,emod_nonneg→EU,add_zero→GM,zero_add→JN
open PySem.Builtin.Dict_items renaming ownsTuple→EO
open Sum renaming inr→GJ,inl→GK
open PySem.SeqAt.ReadsAll renaming length→GL
open PySem.Builtin.Dict renaming showsAll→GU
open PySem.AutoSeq1 renaming sub_tuple_tuple→GZ,idx_int→JT
open PySem.SetTable.probe renaming go→HH
open PySem.Shared renaming TypeIs→HL
open PySem.PyData.tuple renaming injEq→HN
open List.Pairwise renaming nil→HS
open PySem.Heap.ExtBut renaming push→IL
section
namespace Sm
open PySem PySem.SetTable
theorem Ct {xs:Array Nat} (hr:xs.toList.Pairwise (· < ·)) {a b d:Nat} (h:a < b) (hb:b < xs.size):xs.getD a d < xs.getD b d:=by
 have ha:a < xs.size:=by lia
 have:=(IB.mp hr) a b (by simpa using ha) (by simpa using hb) h;simpa [EF,ha,hb] using this
theorem nE (xs:Array Nat) (j:Nat) (hr:xs.toList.Pairwise (· < ·)) :
   ∀ (fuel lo hi:Nat),lo<=hi->hi<=xs.size->hi - lo<=fuel->(∀ i,i < lo->xs.getD i j < j)->(∀ i,hi<=i->i < xs.size->j<=xs.getD i j) ->
     below.go xs j fuel lo hi<=hi/\(∀ i,i < below.go xs j fuel lo hi->xs.getD i j < j)/\(∀ i,below.go xs j fuel lo hi<=i->i < xs.size->j<=xs.getD i j):=by
 intro iN; induction iN with
 | zero =>
   intro lo hi h1 h2 h3 h4 h5; have:lo=hi:=by lia
   subst this; exact ⟨xN _,h4,h5⟩
 | succ fuel ih =>
   intro lo hi h1 h2 h3 h4 h5; unfold below.go;by_cases hl:lo < hi
   . rw [if_pos hl]
     by_cases hm:xs.getD ((lo+hi) / 2) j < j
     . simp only [hm,if_true]
       refine ih _ hi (by lia) h2 (by lia) ?_ h5;intro i hi';by_cases he:i=(lo+hi) / 2
       . subst he; exact hm
       . exact EQ (Ct hr (by lia) (by lia)) hm
     . simp only [hm,if_false]
       have r:=ih lo ((lo+hi) / 2) (by lia) (by lia) (by lia) h4 (by
         intro i hi' hs;by_cases he:i=(lo+hi) / 2
         . subst he; lia
         . have:=Ct hr (d:=j) (show (lo+hi) / 2 < i by lia) hs
           lia)
       exact ⟨by lia,r.2⟩
   . rw [if_neg hl]
     have:lo=hi:=by lia
     subst this; exact ⟨xN _,h4,h5⟩
theorem Hr (xs:Array Nat) (j:Nat) (hr:xs.toList.Pairwise (· < ·)) :
   below xs j<=xs.size/\(∀ i,i < below xs j->xs.getD i j < j)/\(∀ i,below xs j<=i->i < xs.size->j<=xs.getD i j) :=
 nE xs j hr xs.size 0 xs.size (zY _) (xN _) (by lia) (fun _ h=>absurd h (Nat.not_lt_zero _)) (fun _ h h'=>absurd h' (by lia))
theorem nF {xs:Array Nat} (hr:xs.toList.Pairwise (· < ·)) {i j:Nat} (h:xs[i]? = some j):below xs j=i:=by
 obtain ⟨h1,h2,h3⟩:=Hr xs j hr;have hi:i < xs.size:=by
   rcases ER i xs.size with h' | h'
   . exact h'
   . rw [BM h'] at h; exact nomatch h
 have e:xs.getD i j=j:=by simp only [EF,hi,dif_pos]; rw [zB hi] at h; simpa using h
 rcases Nat.lt_trichotomy (below xs j) i with hl | hl | hl
 . have a:=h3 _ (xN _) (by lia)
   have b:=Ct hr (d:=j) hl hi;lia
 . exact hl
 . have:=h2 i hl; lia
theorem cY (j:Nat):has #[] j=false:=rfl
theorem eZ {t:l5} (hr:t.place.toList.Pairwise (· < ·)) {i j:Nat} (h:t.place[i]? = some j):t.slot j=.live i:=by
 unfold slot;simp only [nF hr h,h,beq_self_eq_true,if_true]
theorem few:∀ (n:Nat) (L:List Nat),(∀ e,e < n->e∈L)->n<=L.length:=by
 intro iN; induction iN with
 | zero=>intro _ _; exact zY _
 | succ n ih =>
   intro L h; have a:=h n (by lia);have b:=ih (L.erase n) (fun e he=>(List.mem_erase_of_ne (by lia)).mpr (h e (by lia)));have c:=List.length_erase_of_mem a; have d:=IR a;lia
theorem room {L:List Nat} {mask:Nat} (h:L.length<=mask):∃ e,e<=mask/\e∉L:=by
 by_cases c:∃ e,e<=mask/\e∉L
 . exact c
 . have:=few (mask+1) L (fun e he=>AC fun hn=>c ⟨e,by lia,hn⟩)
   lia
end Sm
end
section
namespace Sm
open PySem PySem.SetTable
theorem fY {t:l5} {j:Nat} (h:j∈t.place.toList):∃ i:Nat,t.place[i]? = some j:=by
 rw [<- Array.mem_def] at h;obtain ⟨i,hi,e⟩:=Array.getElem_of_mem h;exact ⟨i,by rw [zB hi,e]⟩
theorem Qv {xs:Array Nat} (hr:xs.toList.Pairwise (· < ·)) {j:Nat} (hj:j∉xs.toList):(insertAt xs (below xs j) j).toList.Pairwise (· < ·):=by
 obtain ⟨h1,h2,h3⟩:=Hr xs j hr;rw [SetTable.toList_insertAt,AI];have ht:∀ a,a∈xs.toList.take (below xs j)->a < j:=by
   intro a ha; obtain ⟨i,hi,e⟩:=FN ha; have hi':i < below xs j:=by simp at hi; lia
   have:=h2 i hi'; have hs:i < xs.size:=by lia
   simp only [List.getElem_take,JO] at e;simpa [EF,hs,e] using this
 have hd:∀ a,a∈xs.toList.drop (below xs j)->j < a:=by
   intro a ha; have hm:=FC ha; obtain ⟨i,hi,e⟩:=FN ha; simp only [List.getElem_drop,JO] at e; simp at hi;have:=h3 (below xs j+i) (by lia) (by lia);have hs:below xs j+i < xs.size:=by lia
   simp [EF,hs,e] at this;rcases ER j a with c | c
   . exact c
   . have:j=a:=by lia
     subst this; exact absurd hm hj
 refine ⟨hr.sublist (GG _ _),?_,?_⟩
 . rw [yK]
   exact ⟨hd,hr.sublist (List.drop_sublist _ _)⟩
 . intro a ha b hb
   rw [xG] at hb; rcases hb with hb | hb
   . subst hb; exact ht a ha
   . exact EQ (ht a ha) (hd b hb)
end Sm
end
section
namespace Sm
open PySem PySem.SetTable
end Sm
end
section
namespace Sm
open PySem PySem.SetTable
def aR (mask:Nat) (ow:Array (Option Nat)):List (Nat×Nat):=(c8 (mask+1)).filterMap fun j=>(ow.getD j none).map (j,·)
theorem lP (mask:Nat) (ow:Array (Option Nat)):(aR mask ow).Pairwise (fun a b=>a.1 < b.1):=by
 unfold aR;rw [List.pairwise_filterMap];refine EM.imp ?_;intro a b hab x hx y hy;rw [yT] at hx hy;obtain ⟨_,_,rfl⟩:=hx;obtain ⟨_,_,rfl⟩:=hy;exact hab
end Sm
end
section
namespace Sm
open PySem PySem.SetTable
structure Elems (prog:yI) (w:yR) (A:zL) (E:xF->xH->Prop) (a:xO) where
 D:Type
 dec:DecidableEq D
 I:xH->Prop
 R:xF->D->Prop
 hash:D->Int
 heap:∀ {s:xH} {h':zJ},I s->o3 a s.heap h'->I { s with heap:=h' }
 toks:∀ {s:xH} (tk:Nat),I s->I { s with toks:=tk }
 ref:∀ {v:xF} {d:D},R v d->∃ b,v=.ref b
 eqB:∀ {s:xH} {y x:xF} {d d':D} {Q:Bool->xH->Prop},I s->R y d->R x d'->Q (@decide (d=d') (dec d d')) s->wpAny (yC prog w) A (eqBool y x) Q E s
 byV:∀ {s:xH} {x:xF} {d:D} {Q:Bool->xH->Prop},I s->R x d->(∀ b,Q b s)->wpAny (yC prog w) A (hashByValue 8 x) Q E s
 seen:∀ {s:xH} {x:xF} {d:D} {ys:List xF} {Q:Bool->xH->Prop},I s->R x d->(∀ y,y∈ys->∃ d',R y d')->Q false s->wpAny (yC prog w) A (searchCouldBeSeen x ys) Q E s
end Sm
end
section
namespace Sm
open PySem PySem.SetTable
end Sm
end
namespace L2
open PySem PySem.Spec PyProof.Rows
abbrev Key:=Sum Int Str
def sN:Key->xF->Bool
 | .inl k,v=>Value.isInt k v
 | .inr x,v=>Value.isStrOf x v
def keyH (w:yR):Key->Int
 | .inl k=>hashInt k
 | .inr x=>hashStr w x
theorem L0:∀ {k:Key} {v:xF},sN k v=true->(∃ i t,k=GK i/\v=GI i t)\/(∃ x t,k=GJ x/\v=Value.str x t)
 | .inl i,v,h=>by
   obtain ⟨t,e⟩:=Value.isInt_shape (k:=i) (v:=v) h; exact .inl ⟨i,t,rfl,e⟩
 | .inr x,v,h=>by
   obtain ⟨t,e⟩:=JP (x:=x) (v:=v) h; exact .inr ⟨x,t,rfl,e⟩
theorem vT (a b:Int):decide ((GK a:Key)=GK b)=(a==b):=by
 by_cases e:a=b
 . subst e; simp
 . have h:¬ (GK a:Key)=GK b:=fun q=>e (Sum.inl.inj q)
   rw [decide_eq_false h]; exact (beq_eq_false_iff_ne.mpr e).symm
theorem vQ (a b:Str):decide ((GJ a:Key)=GJ b)=decide (a=b):=by
 by_cases e:a=b
 . subst e; simp
 . have h:¬ (GJ a:Key)=GJ b:=fun q=>e (Sum.inr.inj q)
   rw [decide_eq_false h,decide_eq_false e]
theorem vS (a:Int) (b:Str):decide ((GK a:Key)=GJ b)=false:=decide_eq_false (fun q=>nomatch q)
theorem vR (a:Str) (b:Int):decide ((GJ a:Key)=GK b)=false:=decide_eq_false (fun q=>nomatch q)
def Up (prog:yI) (w:yR):PySem.KeyKind prog w Key where
 is:=sN
 hash:=keyH w
 inj:=fun v a b ha hb=>by
   rcases L0 ha with ⟨i,t,rfl,rfl⟩ | ⟨x,t,rfl,rfl⟩
   . rcases L0 hb with ⟨j,u,rfl,e⟩ | ⟨y,u,rfl,e⟩
     . injection e with e1 _; rw [e1]
     . exact nomatch e
   . rcases L0 hb with ⟨j,u,rfl,e⟩ | ⟨y,u,rfl,e⟩
     . exact nomatch e
     . injection e with e1 _; rw [e1]
 byValue:=fun k v h=>by
   rcases L0 h with ⟨i,t,rfl,rfl⟩ | ⟨x,t,rfl,rfl⟩ <;> rfl
 pyHash:=fun hv h=>by
   rcases L0 hv with ⟨i,t,rfl,rfl⟩ | ⟨x,t,rfl,rfl⟩
   . exact wpAny_pyHash_int h
   . exact wpAny_pyHash_str h
 eqBool:=fun hu hv h=>by
   rcases L0 hu with ⟨i,t,rfl,rfl⟩ | ⟨x,t,rfl,rfl⟩
   . rcases L0 hv with ⟨j,u,rfl,rfl⟩ | ⟨y,u,rfl,rfl⟩
     . rw [vT] at h; exact wpAny_eqBool_int h
     . rw [vS] at h; exact SeqAt.EqAt.int_str i t y u _ _ _ _ h
   . rcases L0 hv with ⟨j,u,rfl,rfl⟩ | ⟨y,u,rfl,rfl⟩
     . rw [vR] at h; exact SeqAt.EqAt.str_int x t j u _ _ _ _ h
     . rw [vQ] at h; exact wpAny_eqBool_str h
 «strs» := fun k x t v h=>by
   rcases L0 h with ⟨i,u,rfl,e⟩ | ⟨y,u,rfl,e⟩
   . exact nomatch e
   . injection e with e1 _
     subst e1;cases v <;> rfl
end L2
namespace L2
open PySem PySem.Spec PyProof.Rows
inductive V where
 | non | bl (b:Bool) | int (i:Int) | str (x:Str) | byt (b:Array UInt8) | flt (b:UInt64) | ref (a:xO) | ty (n:String)
 deriving DecidableEq
def RelV:V->xF->Prop
 | .non,u=>u=j5
 | .bl b,u=>u=FT b
 | .int i,u=>∃ t,u=GI i t
 | .str x,u=>∃ t,u=Value.str x t
 | .byt b,u=>∃ t,u=Value.bytes b t
 | .flt b,u=>∃ t,u=Value.float b t
 | .ref a,u=>u=k6 a
 | .ty n,u=>u=x4 n
abbrev Vals:List V->List xF->Prop:=j3 RelV
theorem Vals.length {xs:List V} {us:List xF} (r:Vals xs us):xs.length=us.length:=Paired.length r
theorem Vals.get:∀ {xs:List V} {us:List xF} {i:Nat} {x:V},Vals xs us->xs[i]? = some x->∃ u,us[i]? = some u/\RelV x u
 | _,_,_,_,.nil,e=>by simp at e
 | _,_,0,_,.cons r _,e=>by simp at e; subst e; exact ⟨_,rfl,r⟩
 | _,_,i+1,x,.cons _ t,e=>by
   obtain ⟨u,h1,h2⟩:=Vals.get (i:=i) (x:=x) t (by simpa using e);exact ⟨u,by simpa using h1,h2⟩
theorem Vals.set {x:V} {u:xF} (r:RelV x u):∀ {xs:List V} {us:List xF} (i:Nat),Vals xs us->Vals (xs.set i x) (us.set i u)
 | _,_,_,.nil=>.nil
 | _,_,0,.cons _ t=>.cons r t
 | _,_,i+1,.cons q t=>.cons q (Vals.set r i t)
theorem Vals.append:∀ {xs ys:List V} {us ws:List xF},Vals xs us->Vals ys ws->Vals (xs++ys) (us++ws)
 | _,_,_,_,.nil,s=>s
 | _,_,_,_,.cons r t,s=>.cons r (Vals.append t s)
theorem Vals.take:∀ {xs:List V} {us:List xF} (n:Nat),Vals xs us->Vals (xs.take n) (us.take n)
 | _,_,0,_=>.nil
 | _,_,_+1,.nil=>.nil
 | _,_,n+1,.cons r t=>.cons r (Vals.take n t)
theorem Vals.drop:∀ {xs:List V} {us:List xF} (n:Nat),Vals xs us->Vals (xs.drop n) (us.drop n)
 | _,_,0,r=>r
 | _,_,_+1,.nil=>.nil
 | _,_,n+1,.cons _ t=>Vals.drop n t
def RelO:Option V->Option xF->Prop
 | some v,some u=>RelV v u
 | none,none=>True
 | _,_=>False
def KV {κ:Type}:List (κ×V)->List (κ×xF)->Prop:=j3 fun (p:κ×V) (q:κ×xF)=>p.1=q.1/\RelV p.2 q.2
def kV:Key->V
 | .inl i=>.int i
 | .inr x=>.str x
inductive HO where
 | lst (xs:List V)
 | tup (xs:List V)
 | dK (kvs:List (Key×V)) | dT (kvs:List (List Key×V))
 | dN (kvs:List (xC×V))
 | set (S:Int->Bool) (n:Nat)
 | ins (C dx:xO) (fs:List (Str×V))
 | own (x:xO)
 | xd (fs:List (Str×V))
 | met (f x:xO)
 | rng (lo hi:Int)
 | frz (o:Obj) (u:HO)
 | tbl (ps:Array xF)
 | ext (φ:zJ->Prop)
abbrev Hp:=xO->Option HO
def upd (H:Hp) (a:xO) (o:HO):Hp:=fun b=>if b=a then some o else H b
theorem C1 {H:Hp} {a:xO} {o:HO}:upd H a o a=some o:=by unfold upd; rw [if_pos rfl]
theorem C3 {H:Hp} {a b:xO} {o:HO} (h:b≠a):upd H a o b=H b:=by unfold upd; rw [if_neg h]
theorem nQ {H:Hp} {a:xO} {o u:HO}:upd (upd H a o) a u=upd H a u:=by
 funext b; unfold upd; split <;> rfl
theorem cO {H:Hp} {a b:xO} {o u:HO} (h:H a=some o) (h':H b=some u) (d:o≠u):a≠b:=by
 intro e; subst e; rw [h] at h'; exact d (zH h')
theorem E3 {H:Hp} {a b:xO} {o:HO} (h:H a=some o) (h':H b=none):a≠b:=by
 intro e; subst e; rw [h] at h'; cases h'
mutual
def isK:xC->Bool
 | .int _=>true
 | .str _=>true
 | .tuple xs=>Hf xs
 | .none | .bool _ | .list _ | .dict _=>false
def Hf:List xC->Bool
 | []=>true
 | x::r=>isK x&&Hf r
end
mutual
def Yj (w:yR):xC->Int
 | .int i=>hashInt i
 | .str x=>hashStr w x
 | .tuple xs=>reduceHash (GD (Fm w xs))
 | .none | .bool _ | .list _ | .dict _=>0
def Fm (w:yR):List xC->List Int
 | []=>[]
 | x::r=>Yj w x::Fm w r
end
def T7 (w:yR):xC->Int
 | .none=>0xFCA86420
 | d=>Yj w d
def nkD (d:xC):Bool:=match d with
 | .none=>true
 | .str _=>true
 | .tuple xs=>Hf xs&&decide ((n0 xs).depth<=8)
 | _=>false
mutual
def KRep (H:Hp):xC->V->Prop
 | .none,v=>v=.non
 | .int i,v=>v=.int i
 | .str x,v=>v=.str x/\yP x=true/\x.length<=sizeLine
 | .tuple ds,v=>∃ b xs,v=.ref b/\H b=some (.tup xs)/\KRepL H ds xs
 | .bool _,_=>False
 | .list _,_=>False
 | .dict _,_=>False
def KRepL (H:Hp):List xC->List V->Prop
 | [],xs=>xs=[]
 | d::ds,xs=>∃ x r,xs=x::r/\KRep H d x/\KRepL H ds r
end
mutual
theorem KRep.mono {H H':Hp} (ht:∀ b xs,H b=some (.tup xs)->H' b=some (.tup xs)):∀ {d:xC} {v:V},KRep H d v->KRep H' d v
 | .none,_,r=>r
 | .int _,_,r=>r
 | .str _,_,r=>r
 | .tuple _,_,r=>by obtain ⟨b,xs,e,q,l⟩:=r; exact ⟨b,xs,e,ht _ _ q,KRepL.mono ht l⟩
 | .bool _,_,r=>r.elim
 | .list _,_,r=>r.elim
 | .dict _,_,r=>r.elim
theorem KRepL.mono {H H':Hp} (ht:∀ b xs,H b=some (.tup xs)->H' b=some (.tup xs)):∀ {ds:List xC} {xs:List V},KRepL H ds xs->KRepL H' ds xs
 | [],_,r=>r
 | _::_,_,r=>by obtain ⟨x,t,e,q,l⟩:=r; exact ⟨x,t,e,KRep.mono ht q,KRepL.mono ht l⟩
end
def O9 (w:yR) (kvs:List (xC×V)) (xs:List (xF×xF)):List zO:=List.zipWith (fun p q=>⟨T7 w p.1,q.1,q.2⟩) kvs xs
section
variable (P:yI) (w:yR)
def ObjOk (H:Hp) (h:zJ) (a:xO):HO->Prop
 | .lst xs=>xs.length<=sizeLine/\∃ (its:List xF) (n:Nat),Vals xs its/\h.get? a=some { cls:=.type "list",data:=.seq its.toArray n }
 | .tup xs=>xs.length<=sizeLine/\∃ its:List xF,Vals xs its/\FP h a its.toArray
 | .dK kvs=>kvs.length<=sizeLine/\(a==p9)=false/\∃ vs,KV kvs vs/\h.DictOf (Up P w) a vs
 | .dT kvs => kvs.length <= sizeLine /\ (a == p9) = false /\ ∃ xs : List (List Key × xO × xF),
     j3 (fun (p:List Key×V) (q:List Key×xO×xF)=>p.1=q.1/\H q.2.1=some (.tup (p.1.map kV))/\RelV p.2 q.2.2) kvs xs /\
     ∃ o es ep,h.get? a=some o/\o.ExactDict/\o.data=.dict es ep/\es.toList=xs.map (entryOfKey (tupleKind (Up P w)))/\(xs.map (·.1)).Nodup
 | .dN kvs => kvs.length <= sizeLine /\ (a == p9) = false /\ (kvs.map (·.1)).Nodup /\ (∀ p ∈ kvs, nkD p.1 = true) /\ ∃ xs : List (xF × xF),
     j3 (fun (p:xC×V) (q:xF×xF)=>(∃ v,KRep H p.1 v/\RelV v q.1)/\RelV p.2 q.2) kvs xs/\∃ ep,h.get? a=some { cls:=.type "dict",data:=.dict (O9 w kvs xs).toArray ep }
 | .set S n=>h.SetOf (HE P w) a S n
 | .ins C dx fs => H dx = some (.own a) /\ fs.length <= 1000 /\ dx ≠ a /\ h.get? a = some (PySem.W.instObj C dx) /\
     ∃ mA,h.Ns1 dx mA/\(∀ f,RelO (fs.lookup f) (mA f))/\PySem.Within mA (fs.map (·.1))
 | .own _=>∃ o,h.get? a=some o
 | .xd fs=>∃ mA,h.Ns1 a mA/\∀ f,RelO (fs.lookup f) (mA f)
 | .rng lo hi=>∃ t u v,h.get? a=some { cls:=.type "range",data:=.fields #[.int lo t,.int hi u,.int 1 v] }
 | .frz o u=>h.get? a=some o/\ObjOk H h a u
 | .tbl ps=>h.get? a=some { cls:=.none,data:=.fields ps }
 | .met f x=>h.get? a=some (FU (.ref f) (.ref x))
 | .ext φ=>φ h/\(∃ o,h.get? a=some o)/\∀ h1 h2:zJ,φ h1->(∀ o,h1.get? a=some o->h2.get? a=some o)->φ h2
def HOk (H:Hp) (h:zJ):Prop:=∀ a o,H a=some o->ObjOk P w H h a o
end
section
variable {P:yI} {w:yR} {H H':Hp} {h h':zJ} {a:xO} {o:HO}
theorem ObjOk.lt (x:ObjOk P w H h a o):a < h.objs.size:=by
 cases o with
 | lst xs=>obtain ⟨_,_,_,_,e⟩:=x; exact xZ e
 | tup xs=>obtain ⟨_,_,_,p⟩:=x; exact p.lt
 | dK kvs=>obtain ⟨_,_,_,_,o,_,_,e,_⟩:=x; exact xZ e
 | dT kvs=>obtain ⟨_,_,_,_,o,_,_,e,_⟩:=x; exact xZ e
 | dN kvs=>obtain ⟨_,_,_,_,_,_,_,e⟩:=x; exact xZ e
 | set S n=>obtain ⟨o,_,_,_,e,_⟩:=x; exact xZ e
 | ins C dx fs=>obtain ⟨_,_,_,e,_⟩:=x; exact xZ e
 | own y=>obtain ⟨_,e⟩:=x; exact xZ e
 | xd fs=>obtain ⟨_,⟨_,_,_,e,_⟩,_⟩:=x; exact xZ e
 | rng lo hi=>obtain ⟨_,_,_,e⟩:=x; exact xZ e
 | frz ob u=>obtain ⟨e,_⟩:=x; exact xZ e
 | tbl ps=>exact xZ (show h.get? a=some _ from x)
 | met f y=>exact xZ (show h.get? a=some _ from x)
 | ext φ=>obtain ⟨_,⟨_,e⟩,_⟩:=x; exact xZ e
theorem Paired.mapP {α β:Type} {F G:α->β->Prop}:∀ {l₁:List α} {l₂:List β},j3 F l₁ l₂->(∀ a b,F a b->G a b)->j3 G l₁ l₂
 | _,_,.nil,_=>.nil
 | _,_,.cons r t,f=>.cons (f _ _ r) (Paired.mapP t f)
theorem ObjOk.stay (x:ObjOk P w H h a o) (k:∀ b u,(b=a\/H b=some (.own a))->h.get? b=some u->h'.get? b=some u)
   (ho:∀ b,H b=some (.own a)->H' b=some (.own a)) (ht:∀ b xs,H b=some (.tup xs)->H' b=some (.tup xs)):ObjOk P w H' h' a o:=by
 induction o with
 | lst xs=>obtain ⟨z,its,n,r,e⟩:=x; exact ⟨z,its,n,r,k _ _ (.inl rfl) e⟩
 | tup xs=>obtain ⟨z,its,r,ob,e,c⟩:=x; exact ⟨z,its,r,ob,k _ _ (.inl rfl) e,c⟩
 | dK kvs=>obtain ⟨z,y,vs,r,ob,es,ep,e,c⟩:=x; exact ⟨z,y,vs,r,ob,es,ep,k _ _ (.inl rfl) e,c⟩
 | dT kvs =>
   obtain ⟨z,y,xs,r,ob,es,ep,e,c⟩:=x; exact ⟨z,y,xs,Paired.mapP r fun p q z=>⟨z.1,ht _ _ z.2.1,z.2.2⟩,ob,es,ep,k _ _ (.inl rfl) e,c⟩
 | dN kvs =>
   obtain ⟨z,y,nd,nk,xs,r,ep,e⟩:=x; exact ⟨z,y,nd,nk,xs,Paired.mapP r fun p q hZ2=>by obtain ⟨⟨v,z1,z2⟩,z3⟩:=hZ2; exact ⟨⟨v,z1.mono ht,z2⟩,z3⟩,ep,k _ _ (.inl rfl) e⟩
 | set S n=>obtain ⟨ob,es,ep,t,e,c⟩:=x; exact ⟨ob,es,ep,t,k _ _ (.inl rfl) e,c⟩
 | ins C dx fs =>
   obtain ⟨d,z,ne,e,mA,⟨od,es,ep,e2,c⟩,r⟩:=x; exact ⟨ho _ d,z,ne,k _ _ (.inl rfl) e,mA,⟨od,es,ep,k _ _ (.inr d) e2,c⟩,r⟩
 | own y=>obtain ⟨ob,e⟩:=x; exact ⟨ob,k _ _ (.inl rfl) e⟩
 | xd fs=>obtain ⟨mA,⟨od,es,ep,e,c⟩,r⟩:=x; exact ⟨mA,⟨od,es,ep,k _ _ (.inl rfl) e,c⟩,r⟩
 | rng lo hi=>obtain ⟨t,u,v,e⟩:=x; exact ⟨t,u,v,k _ _ (.inl rfl) e⟩
 | frz ob u ih=>obtain ⟨e,q⟩:=x; exact ⟨k _ _ (.inl rfl) e,ih q⟩
 | tbl ps =>
   have e:h.get? a=some { cls:=.none,data:=.fields ps }:=x; show h'.get? a=some { cls:=.none,data:=.fields ps };exact k a _ (.inl rfl) e
 | met f y =>
   have e:h.get? a=some (FU (.ref f) (.ref y)):=x; show h'.get? a=some (FU (.ref f) (.ref y));exact k a _ (.inl rfl) e
 | ext φ=>obtain ⟨p,⟨o,e⟩,st⟩:=x; exact ⟨st _ _ p fun o q=>k _ _ (.inl rfl) q,⟨o,k _ _ (.inl rfl) e⟩,st⟩
theorem HOk.lt (x:HOk P w H h) (e:H a=some o):a < h.objs.size:=(x a o e).lt
theorem HOk.fresh (x:HOk P w H h) (e:h.objs.size<=a):H a=none:=by
 cases q:H a with
 | none=>rfl
 | some u=>exact absurd (yS (x.lt q) e) (e9 _)
theorem HOk.kept (x:HOk P w H h) (k:∀ b u,h.get? b=some u->h'.get? b=some u):HOk P w H h':=fun a o e =>
 (x a o e).stay (fun b u _ q=>k b u q) (fun _ q=>q) fun _ _ q=>q
theorem HOk.laid (x:HOk P w H h) (k:∀ b u,h.get? b=some u->h'.get? b=some u) (hp:h.objs.size<=a) (new:ObjOk P w (upd H a o) h' a o):HOk P w (upd H a o) h':=fun b u e=>by
 have hn:=x.fresh hp;by_cases hb:b=a
 . subst hb; rw [C1] at e; cases e; exact new
 . rw [C3 hb] at e
   exact (x b u e).stay (fun c v _ q=>k c v q) (fun c q=>by rw [C3 (E3 q hn)]; exact q) fun c xs q=>by rw [C3 (E3 q hn)]; exact q
end
def Rd (H:Hp) (a:xO) (u:HO):Prop:=H a=some u\/∃ o,H a=some (.frz o u)
theorem Rd.ok {P:yI} {w:yR} {H:Hp} {h:zJ} {a:xO} {u:HO} (r:Rd H a u) (x:HOk P w H h):ObjOk P w H h a u:=by
 rcases r with r | ⟨o,r⟩
 . exact x a u r
 . obtain ⟨_,q⟩:=x a _ r
   exact q
def Mut:Option HO->Prop
 | some (.lst _)=>True
 | some (.dK _)=>True
 | some (.dT _)=>True
 | some (.dN _)=>True
 | some (.set _ _)=>True
 | some (.ins _ _ _)=>True
 | some (.ext _)=>True
 | _=>False
section
variable {P:yI} {w:yR} {H:Hp} {h h':zJ} {x e:xO} {o':HO}
theorem HOk.write (ok:HOk P w H h) (mu:Mut (H x)) (he:e=x\/H e=some (.own x)) (k:∀ b u,b≠e->h.get? b=some u->h'.get? b=some u) (heo:∃ u,h'.get? e=some u)
   (new:ObjOk P w (upd H x o') h' x o'):HOk P w (upd H x o') h':=fun b u q=>by
 have nown:∀ c y,H c=some (.own y)->c≠x:=fun c y r z=>by subst z; rw [r] at mu; exact mu
 have ntup:∀ c xs,H c=some (.tup xs)->c≠x:=fun c xs r z=>by subst z; rw [r] at mu; exact mu
 by_cases hb:b=x
 . subst hb; rw [C1] at q; cases q; exact new
 . rw [C3 hb] at q
   by_cases hbe:b=e
   . have q' : H b = some (.own x) := by
       rcases he with z | z
       . exact absurd (hbe.trans z) hb
       . rw [hbe]; exact z
     rw [q] at q'; cases q';obtain ⟨v,hv⟩:=heo; exact ⟨v,by rw [hbe]; exact hv⟩
   . refine (ok b u q).stay (fun c v hc r=>k c v ?_ r) (fun c r=>by rw [C3 (nown c b r)]; exact r) fun c xs r=>by rw [C3 (ntup c xs r)]; exact r
     rcases hc with rfl | hc
     . exact hbe
     . rintro rfl
       rcases he with z | z
       . exact nown c b hc z
       . rw [hc] at z; cases z; exact hb rfl
end
structure Un (fs ex:List xO) (H H':Hp) (h h':zJ):Prop where
 keep:∀ b o,h.get? b=some o->H b=none->b∉fs->b∉ex->h'.get? b=some o
 slot:∀ b o,h.get? b=some o->H b=none->b∈fs->b∉ex->∃ sl,h'.get? b=some { o with slots:=sl }
 free:∀ b o,h.get? b=some o->H b=none->b∉ex->H' b=none
 there:∀ b o,h.get? b=some o->b∉ex->∃ o',h'.get? b=some o'
 tups:∀ b xs,H b=some (.tup xs)->H' b=some (.tup xs)
 frzs:∀ b o u,H b=some (.frz o u)->H' b=some (.frz o u)
 tbls:∀ b ps,H b=some (.tbl ps)->∃ U8,H' b=some (.tbl (ps++U8))
section
variable {fs ex:List xO} {H H1:Hp} {h h1 h':zJ} {a x e:xO} {o:HO}
theorem Un.any (u:Un fs ex H H1 h h1) {b:xO} {ob:Obj} (q:h.get? b=some ob) (n:H b=none) (hx:b∉ex):∃ sl,h1.get? b=some { ob with slots:=sl }:=by
 by_cases hb:b∈fs
 . exact u.slot b ob q n hb hx
 . exact ⟨ob.slots,u.keep b ob q n hb hx⟩
theorem Un.kept (k:∀ b u,h.get? b=some u->h'.get? b=some u):Un fs ex H H h h' :=
 ⟨fun b ob q _ _ _=>k b ob q,fun b ob q _ _ _=>⟨ob.slots,k b ob q⟩,fun _ _ _ n _=>n,fun b ob q _=>⟨ob,k b ob q⟩,fun _ _ q=>q,fun _ _ _ q=>q,fun _ ps q=>⟨#[],by rw [q]; simp⟩⟩
theorem Un.refl:Un fs ex H H h h:=Un.kept fun _ _ q=>q
theorem Un.laid (k:∀ b u,h.get? b=some u->h'.get? b=some u) (hp:h.objs.size<=a) (hn:H a=none):Un fs ex H (upd H a o) h h' where
 keep:=fun b u q _ _ _=>k b u q
 slot:=fun b u q _ _ _=>⟨u.slots,k b u q⟩
 free:=fun b u q n _=>by rw [C3 (yU (yS (xZ q) hp))]; exact n
 there:=fun b u q _=>⟨u,k b u q⟩
 tups:=fun b xs q=>by rw [C3 (E3 q hn)]; exact q
 frzs:=fun b u xs q=>by rw [C3 (E3 q hn)]; exact q
 tbls:=fun b ps q=>⟨#[],by rw [C3 (E3 q hn),q]; simp⟩
theorem Un.write (mu:Mut (H x)) (he:e=x\/H e=some (.own x)) (k:∀ b u,b≠e->h.get? b=some u->h'.get? b=some u) (heo:∃ u,h'.get? e=some u):Un fs ex H (upd H x o) h h':=by
 have hx:∀ b,H b=none->b≠x:=fun b n z=>by subst z; rw [n] at mu; exact mu
 have hb:∀ b,H b=none->b≠e:=fun b n z=>by
   subst z; rcases he with r | r
   . exact hx b n r
   . rw [n] at r; cases r
 have hm:∀ b u,H b=some u->¬ Mut (some u)->b≠x:=fun b u q nm z=>by subst z; rw [q] at mu; exact nm mu
 refine ⟨fun b u q n _ _=>k b u (hb b n) q,fun b u q n _ _=>⟨u.slots,k b u (hb b n) q⟩,fun b u q n _=>by rw [C3 (hx b n)]; exact n,fun b u q _=>?_,
   fun b xs q=>by rw [C3 (hm b _ q fun z=>z)]; exact q,fun b u xs q=>by rw [C3 (hm b _ q fun z=>z)]; exact q,fun b ps q=>⟨#[],by rw [C3 (hm b _ q fun z=>z),q]; simp⟩⟩
 by_cases hbe:b=e
 . subst hbe; exact heo
 . exact ⟨u,k b u hbe q⟩
end
def trk (h:zJ) (H:Hp):List xO:=(c8 h.objs.size).filter fun a=>(H a).isSome
def Uu (h:zJ) (H:Hp):zJ:=PySem.W.hideAll h (trk h H)
theorem gN (h:zJ) (H:Hp):(Uu h H).objs.size=h.objs.size:=PySem.W.hideAll_size _ _
theorem mC {h:zJ} {H:Hp} {b:xO} {o:Obj} (e:h.get? b=some o) (n:H b=none):(Uu h H).get? b=some o :=
 PySem.W.hideAll_get _ e fun hm=>by
   have q:(H b).isSome=true:=(j4.mp hm).2; rw [n] at q; simp at q
theorem pS {h:zJ} {H:Hp} {b:xO} {o:Obj} (e:(Uu h H).get? b=some o):h.get? b=some o/\H b=none:=by
 have e':h.get? b=some o:=PySem.W.of_hideAll (trk h H) e;refine ⟨e',?_⟩;cases q:H b with
 | none=>rfl
 | some x =>
   have hm:b∈trk h H:=j4.mpr ⟨u8.mpr (xZ e'),by simp [q]⟩;have z:(Uu h H).get? b=none:=PySem.W.hideAll_none (trk h H) hm; rw [z] at e; cases e
def rT (g h:zJ) (L:xO):List (xO×Obj):=(c8 h.objs.size).filterMap fun a=>if a=L\/(g.get? a).isSome=true then none else (h.get? a).map fun o=>(a,o)
def rest (g h:zJ) (L d:xO):List (xO×Obj):=(rT g h L).filter fun p=>decide (p.1≠d)
end L2
namespace L2
open PySem PySem.Spec PyProof.Rows
structure Mod (K:xI) (mg:Str->Option xF) (base:zJ):Prop where
 kin:K.In base
 glob:base.Ns a9 mg
 blt:∃ mb,base.Ns FF mb/\∀ x:Str,x ≠ "__name__" -> mb x=BA x
 nolimit:base.NoLimit
structure Cx where
 prog:yI
 w:yR
 K:xI
 mg:Str->Option xF
 base:zJ
 A:zL
 N:List Str
 s₀:xH
 H₀:Hp
 env:Env
 outer:List Env
 stack:List Env
 ex:List xO
 fn:Str->Bool
 calm:Bool
 pn:List (xO×Obj)
 xe:xF->xH->Prop
def frs (l:List Env):List xO:=l.filterMap (·.frame)
abbrev Cx.fs (X:Cx):List xO:=frs X.outer
def Vis (sc:Scope) (x:Str):Prop:=sc.names.lookup x=some .local\/sc.names.lookup x=some .cell\/sc.names.lookup x=some .free
def Loc (sc:Scope) (x:Str):Prop:=sc.names.lookup x=some .local\/sc.names.lookup x=some .cell
def Look (env:Env) (h:zJ) (m:Str->Option xF) (x:Str) (u:xF):Prop :=
 (env.kindOf x=some .local/\m x=some u)\/((env.kindOf x=some .cell\/env.kindOf x=some .free)/\∃ c,env.cells.lookup x=some c/\h.IsCell c (some u))
structure Cx.Ok (X:Cx):Prop where
 mod:Mod X.K X.mg X.base
 kind:X.env.scope.kind=.function
 glob:X.env.globals=a9
 blt:X.env.builtins=FF
 above:X.s₀.heap.objs.size<=X.env.locals
 inj:∀ x y c,X.env.cells.lookup x=some c->X.env.cells.lookup y=some c->x=y
 has:∀ x,(X.env.kindOf x=some .cell\/X.env.kindOf x=some .free)->∃ c,X.env.cells.lookup x=some c
 cab:∀ x c,X.fn x=true->X.env.cells.lookup x=some c->X.s₀.heap.objs.size<=c
 hd:X.calm=true->X.A.handled=none
 frames:X.A.frames=some X.stack
 stk:X.stack=X.outer\/(X.stack=X.env::X.outer/\X.env.frame=some X.env.locals)
 exf:∀ b∈X.ex,b≠X.env.locals/\∀ x c,X.env.cells.lookup x=some c->c≠b
 bs:∀ b o,X.base.get? b=some o->X.s₀.heap.get? b=some o/\X.H₀ b=none
 bsz:X.base.objs.size<=X.s₀.heap.objs.size
 noex:∀ b o,X.base.get? b=some o->b∉X.ex
 exfs:∀ b∈X.ex,b∉X.fs
 funs:X.s₀.heap.FunFrames X.base X.outer
 frf:∀ b∈X.fs,X.H₀ b=none
structure Inv (X:Cx) (pins:List (xO×Obj)) (Z:List (Option V)) (H:Hp) (s:xH):Prop where
 ok:X.Ok
 os:s.os=X.s₀.os
 bare:FI s.gens
 base:Un X.fs X.ex X.H₀ H X.s₀.heap s.heap
 loc:∃ m,s.heap.Ns X.env.locals m/\∀ (i:Nat) (x:Str) (v:V),X.N[i]? = some x->Z[i]? = some (some v)->Vis X.env.scope x->∃ u,RelV v u/\Look X.env s.heap m x u
 cell:∀ x c,X.env.cells.lookup x=some c->∃ v,s.heap.IsCell c v
 free:H X.env.locals=none
 freeC:∀ x c,X.env.cells.lookup x=some c->H c=none
 pin:∀ p∈X.pn++pins,s.heap.get? p.1=some p.2/\H p.1=none/\p.1≠X.env.locals/\p.1∉X.fs/\∀ v,p.2.data≠.cell v
 hok:HOk X.prog X.w H s.heap
 len:Z.length=X.N.length
section
variable {X:Cx} {pins:List (xO×Obj)} {Z:List (Option V)} {H H':Hp} {s:xH} {h':zJ}
theorem Cx.Ok.nofr (ok:X.Ok) {b:xO} {o:Obj} (e:X.base.get? b=some o):b∉X.fs:=fun hb=>by
 have:=(ok.funs.mem hb).1;rw [e] at this; cases this
theorem Inv.bs (I:Inv X pins Z H s):∀ b o,X.base.get? b=some o->s.heap.get? b=some o/\H b=none:=fun b o e =>
 ⟨I.base.keep b o (I.ok.bs b o e).1 (I.ok.bs b o e).2 (I.ok.nofr e) (I.ok.noex b o e),I.base.free b o (I.ok.bs b o e).1 (I.ok.bs b o e).2 (I.ok.noex b o e)⟩
theorem Inv.bk (I:Inv X pins Z H s):∀ b o,X.base.get? b=some o->s.heap.get? b=some o:=fun b o e=>(I.bs b o e).1
theorem Inv.mod (I:Inv X pins Z H s):Mod X.K X.mg X.base:=I.ok.mod
theorem Inv.kIn (I:Inv X pins Z H s):X.K.In s.heap:=I.ok.mod.kin.keeps I.bk
theorem Inv.fr (I:Inv X pins Z H s):∃ m,Fr X.base X.env.locals s.heap m :=
 let ⟨m,hn,_⟩:=I.loc
 ⟨m,hn,I.bk,yA I.ok.bsz I.ok.above⟩
theorem Inv.lt (I:Inv X pins Z H s):X.env.locals < s.heap.objs.size:=let ⟨_,hn,_⟩:=I.loc; hn.lt
theorem Inv.sz (I:Inv X pins Z H s):X.s₀.heap.objs.size<=s.heap.objs.size:=yA I.ok.above (CQ I.lt)
theorem Inv.nofs (I:Inv X pins Z H s) {a:xO} (h:s.heap.objs.size<=a):a∉X.fs:=fun hb=>by
 obtain ⟨_,o,ho,_⟩:=I.ok.funs.mem hb;exact absurd (yS (xZ ho) (yA I.sz h)) (e9 _)
theorem Inv.cne (I:Inv X pins Z H s):∀ x c,X.env.cells.lookup x=some c->c≠X.env.locals:=fun x c e z=>by
 obtain ⟨v,o,ho,hd⟩:=I.cell x c e;obtain ⟨m,⟨o',es,ep,ho',hd',_⟩,_⟩:=I.loc;rw [z,ho'] at ho; cases ho; rw [hd'] at hd; cases hd
theorem Inv.funs (I:Inv X pins Z H s):s.heap.FunFrames X.base X.outer:=by
 have all:∀ (l:List Env),(∀ b∈frs l,b∈X.fs)->X.s₀.heap.FunFrames X.base l->s.heap.FunFrames X.base l:=by
   intro l;induction l with
   | nil=>intro _ _; trivial
   | cons env r ih =>
     intro hs hl; obtain ⟨hk,⟨L,o,hf,hn,ho,hd⟩,hr⟩:=hl; have hL:L∈X.fs:=hs L (by unfold frs; rw [FO,hf]; exact zV);obtain ⟨sl,e⟩:=I.base.slot L o ho (I.ok.frf L hL) hL fun z=>I.ok.exfs L z hL;exact ⟨hk,⟨L,_,hf,hn,e,hd⟩,ih (fun b hb=>hs b (by unfold frs; rw [FO,hf]; exact c6 _ hb)) hr⟩
 exact all X.outer (fun _ hb=>hb) I.ok.funs
theorem Inv.stack (I:Inv X pins Z H s):s.heap.FunFrames X.base X.stack:=by
 rcases I.ok.stk with e | ⟨e,hf⟩
 . rw [e]; exact I.funs
 . rw [e]
   obtain ⟨m,hn,_⟩:=I.loc; refine .cons (by rw [I.ok.kind]; decide) hf hn ?_ I.funs;exact i5 (yA I.ok.bsz I.ok.above)
theorem Inv.stkSub (I:Inv X pins Z H s):∀ b∈frs X.stack,b∈X.env.locals::X.fs:=fun b hb=>by
 rcases I.ok.stk with e | ⟨e,hf⟩
 . rw [e] at hb; exact c6 _ hb
 . rw [e] at hb
   unfold frs at hb; rw [FO,hf] at hb; exact hb
theorem Inv.stkFree (I:Inv X pins Z H s):∀ b∈frs X.stack,H b=none:=fun b hb=>by
 rcases xG.mp (I.stkSub b hb) with e | hb
 . rw [e]; exact I.free
 . obtain ⟨_,o,ho,_⟩:=I.ok.funs.mem hb
   exact I.base.free b o ho (I.ok.frf b hb) fun z=>I.ok.exfs b z hb
theorem Inv.step {g':Array GenState} {t':Nat} {d':Drawn} {ch:List xO} (I:Inv X pins Z H s)
   (hch:∀ b∈ch,(b∈X.ex\/X.s₀.heap.objs.size<=b)/\b≠X.env.locals/\(∀ x c,X.env.cells.lookup x=some c->c≠b)/\∀ p∈X.pn++pins,p.1≠b)
   (keep:∀ b o,b≠X.env.locals->b∉X.fs->b∉ch->s.heap.get? b=some o->H b=none->h'.get? b=some o)
   (slot:∀ b o,b≠X.env.locals->b∈X.fs->b∉ch->s.heap.get? b=some o->H b=none->∃ sl,h'.get? b=some { o with slots:=sl }) (free:∀ b o,b∉ch->s.heap.get? b=some o->H b=none->H' b=none)
   (there:∀ b o,b∉ch->s.heap.get? b=some o->∃ o',h'.get? b=some o')
   (tups:∀ b xs,H b=some (.tup xs)->H' b=some (.tup xs)) (frzs:∀ b o u,H b=some (.frz o u)->H' b=some (.frz o u)) (tbls:∀ b ps,H b=some (.tbl ps)->∃ U8,H' b=some (.tbl (ps++U8)))
   (ns:∀ m,s.heap.Ns X.env.locals m->h'.Ns X.env.locals m) (hok:HOk X.prog X.w H' h') (hg:FI g') :
   Inv X pins Z H' { s with heap:=h',gens:=g',drawn:=d',toks:=t' }:=by
 have neL:∀ b o,X.s₀.heap.get? b=some o->b≠X.env.locals:=fun b o e=>yU (yS (xZ e) I.ok.above);have neC:∀ b o,X.s₀.heap.get? b=some o->b∉X.ex->b∉ch:=fun b o e hx hb=>by
   rcases (hch b hb).1 with z | z
   . exact hx z
   . exact absurd (yS (xZ e) z) (e9 _)
 have cellK:∀ x c,X.env.cells.lookup x=some c->∀ v,s.heap.IsCell c v->h'.IsCell c v:=fun x c e v hZ4=>by
   obtain ⟨o,ho,hd⟩:=hZ4; have nch:c∉ch:=fun z=>(hch c z).2.2.1 x c e rfl;by_cases hc:c∈X.fs
   . obtain ⟨sl,q⟩:=slot c o (I.cne x c e) hc nch ho (I.freeC x c e)
     exact ⟨_,q,hd⟩
   . exact ⟨o,keep c o (I.cne x c e) hc nch ho (I.freeC x c e),hd⟩
 refine ⟨I.ok,I.os,hg,⟨fun b o e n hb hx=>?_,fun b o e n hb hx=>?_,fun b o e n hx=>?_,fun b o e hx=>?_,fun b xs e=>tups b xs (I.base.tups b xs e),fun b o xs e=>frzs b o xs (I.base.frzs b o xs e),fun b ps e=>?_⟩,?_,fun x c e=>?_,?_,fun x c e=>?_,fun p hp=>?_,hok,I.len⟩
 . exact keep b o (neL b o e) hb (neC b o e hx) (I.base.keep b o e n hb hx) (I.base.free b o e n hx)
 . obtain ⟨sl,e1⟩:=I.base.slot b o e n hb hx
   obtain ⟨sl',e2⟩:=slot b _ (neL b o e) hb (neC b o e hx) e1 (I.base.free b o e n hx); exact ⟨sl',e2⟩
 . obtain ⟨o',e1⟩:=I.base.there b o e hx
   exact free b o' (neC b o e hx) e1 (I.base.free b o e n hx)
 . obtain ⟨o',e1⟩:=I.base.there b o e hx
   exact there b o' (neC b o e hx) e1
 . obtain ⟨m1,e1⟩:=I.base.tbls b ps e
   obtain ⟨m2,e2⟩:=tbls b _ e1; exact ⟨m1++m2,by rw [e2,Array.append_assoc]⟩
 . obtain ⟨m,hn,hl⟩:=I.loc
   refine ⟨m,ns m hn,fun i x v e1 e2 e3=>?_⟩;obtain ⟨u,r,l⟩:=hl i x v e1 e2 e3; refine ⟨u,r,?_⟩; rcases l with l | ⟨k,c,e,z⟩
   . exact .inl l
   . exact .inr ⟨k,c,e,cellK x c e _ z⟩
 . obtain ⟨v,z⟩:=I.cell x c e
   exact ⟨v,cellK x c e v z⟩
 . obtain ⟨m,⟨o,_,_,ho,_⟩,_⟩:=I.loc
   exact free _ o (fun z=>(hch _ z).2.1 rfl) ho I.free
 . obtain ⟨v,o,ho,hd⟩:=I.cell x c e
   exact free c o (fun z=>(hch c z).2.2.1 x c e rfl) ho (I.freeC x c e)
 . obtain ⟨e,n,ne,nf,d⟩:=I.pin p hp
   have nch:p.1∉ch:=fun z=>(hch p.1 z).2.2.2 p hp rfl;exact ⟨keep p.1 p.2 ne nf nch e n,free p.1 p.2 nch e n,ne,nf,d⟩
theorem Inv.un {t':Nat} (I:Inv X pins Z H s) (u:Un X.fs [] H H' s.heap h') (hok:HOk X.prog X.w H' h'):Inv X pins Z H' { s with heap:=h',toks:=t' }:=by
 obtain ⟨m,⟨o,es,ep,ho,r⟩,_⟩:=id I.loc;obtain ⟨sl,hL⟩:=u.any ho I.free (by simp);exact I.step (g':=s.gens) (d':=s.drawn) (ch:=[]) (fun _ z=>nomatch z) (fun b o _ hb _ e n=>u.keep b o e n hb (by simp)) (fun b o _ hb _ e n=>u.slot b o e n hb (by simp)) (fun b o _ e n=>u.free b o e n (by simp)) (fun b o _ e=>u.there b o e (by simp)) u.tups u.frzs u.tbls (fun m' hm=>by
   obtain ⟨o',es',ep',ho',r'⟩:=hm; rw [ho] at ho'; cases ho'; exact ⟨_,es',ep',hL,r'⟩) hok I.bare
theorem Inv.call {g':Array GenState} {t':Nat} {d':Drawn} {ch:List xO} (I:Inv X pins Z H s) (u:Un (frs X.stack) ch H H' s.heap h') (hok:HOk X.prog X.w H' h') (hg:FI g')
   (hch:∀ b∈ch,(b∈X.ex\/X.s₀.heap.objs.size<=b)/\b≠X.env.locals/\(∀ x c,X.env.cells.lookup x=some c->c≠b)/\∀ p∈X.pn++pins,p.1≠b) :
   Inv X pins Z H' { s with heap:=h',gens:=g',drawn:=d',toks:=t' }:=by
 obtain ⟨m,⟨o,es,ep,ho,r⟩,_⟩:=id I.loc;obtain ⟨sl,hL⟩:=u.any ho I.free fun z=>(hch _ z).2.1 rfl;exact I.step (ch:=ch) hch (fun b o hL hb hc e n=>u.keep b o e n (fun z=>(xG.mp (I.stkSub b z)).elim hL hb) hc) (fun b o _ _ hc e n=>u.any e n hc) (fun b o hc e n=>u.free b o e n hc) (fun b o hc e=>u.there b o e hc) u.tups u.frzs u.tbls (fun m' hm=>by
   obtain ⟨o',es',ep',ho',r'⟩:=hm; rw [ho] at ho'; cases ho'; exact ⟨_,es',ep',hL,r'⟩) hok hg
theorem Inv.turned {t':Nat} {it:xO} (I:Inv X pins Z H s) (k:∀ b o,b≠it->s.heap.get? b=some o->h'.get? b=some o) (hn:H it=none) (hL:it≠X.env.locals)
   (h1:it∈X.ex\/X.s₀.heap.objs.size<=it) (h2:∀ x c,X.env.cells.lookup x=some c->c≠it) (h3:∀ p∈X.pn++pins,p.1≠it):Inv X pins Z H { s with heap:=h',toks:=t' }:=by
 have nit:∀ b u,H b=some u->b≠it:=fun b u e z=>by rw [z,hn] at e; cases e
 refine I.step (g':=s.gens) (d':=s.drawn) (ch:=[it]) (fun b hb=>?_) (fun b o _ _ hc e _=>k b o (fun z=>hc (by simp [z])) e) (fun b o _ _ hc e _=>⟨o.slots,k b o (fun z=>hc (by simp [z])) e⟩) (fun _ _ _ _ n=>n)
   (fun b o hc e=>⟨o,k b o (fun z=>hc (by simp [z])) e⟩) (fun _ _ e=>e) (fun _ _ _ e=>e) (fun b ps e=>⟨#[],by rw [e]; simp⟩) (fun m hm=>?_) (fun b u e=>?_) I.bare
 . have e:b=it:=by simpa using hb
   subst e; exact ⟨h1,hL,h2,h3⟩
 . obtain ⟨o,es,ep,ho,r⟩:=hm
   exact ⟨o,es,ep,k _ o (Ne.symm hL) ho,r⟩
 . refine (I.hok b u e).stay (fun c v hc q=>k c v ?_ q) (fun _ q=>q) fun _ _ q=>q
   rcases hc with z | z
   . rw [z]; exact nit b u e
   . exact nit c _ z
theorem Inv.tok (I:Inv X pins Z H s) (t:Nat):Inv X pins Z H { s with toks:=t }:=I.un (h':=s.heap) (t':=t) Un.refl I.hok
theorem Inv.kept {t':Nat} (I:Inv X pins Z H s) (k:∀ b u,s.heap.get? b=some u->h'.get? b=some u):Inv X pins Z H { s with heap:=h',toks:=t' }:=I.un (Un.kept k) (I.hok.kept k)
theorem Inv.laid {a:xO} {o:HO} {t':Nat} (I:Inv X pins Z H s) (k:∀ b u,s.heap.get? b=some u->h'.get? b=some u) (hp:s.heap.objs.size<=a) (new:ObjOk X.prog X.w (upd H a o) h' a o) :
   Inv X pins Z (upd H a o) { s with heap:=h',toks:=t' }:=I.un (Un.laid k hp (I.hok.fresh hp)) (I.hok.laid k hp new)
theorem Inv.write {x e:xO} {o:HO} {t':Nat} (I:Inv X pins Z H s) (mu:Mut (H x)) (he:e=x\/H e=some (.own x)) (k:∀ b u,b≠e->s.heap.get? b=some u->h'.get? b=some u) (heo:∃ u,h'.get? e=some u)
   (new:ObjOk X.prog X.w (upd H x o) h' x o):Inv X pins Z (upd H x o) { s with heap:=h',toks:=t' }:=I.un (Un.write mu he k heo) (I.hok.write mu he k heo new)
theorem Inv.weak {Z':List (Option V)} (I:Inv X pins Z H s) (hl:Z'.length=Z.length) (w:∀ (i:Nat) v,Z'[i]? = some (some v)->Z[i]? = some (some v)):Inv X pins Z' H s :=
 ⟨I.ok,I.os,I.bare,I.base,let ⟨m,hn,hl'⟩:=I.loc; ⟨m,hn,fun i x v e1 e2 e3=>hl' i x v e1 (w i v e2) e3⟩,I.cell,I.free,I.freeC,I.pin,I.hok,hl.trans I.len⟩
theorem Inv.pins_of {pins':List (xO×Obj)} (I:Inv X pins Z H s) (h:∀ p∈pins',s.heap.get? p.1=some p.2/\H p.1=none/\p.1≠X.env.locals/\p.1∉X.fs/\∀ v,p.2.data≠.cell v):Inv X pins' Z H s :=
 ⟨I.ok,I.os,I.bare,I.base,I.loc,I.cell,I.free,I.freeC,fun p hp=>(xY.mp hp).elim (fun z=>I.pin p (FD _ z)) (h p),I.hok,I.len⟩
theorem Xu {N:List Str} (hN:N.Nodup) {i j:Nat} {x:Str} (a:N[i]? = some x) (b:N[j]? = some x):i=j:=by
 obtain ⟨h1,e1⟩:=yJ.mp a;obtain ⟨h2,e2⟩:=yJ.mp b;exact (List.getElem_inj hN).mp (e1.trans e2.symm)
theorem Rs {M:Model} {A:zL} {E:xF->xH->Prop} {i:Nat} {x:Str} {v:V} {u:xF} {Q:Unit->xH->Prop} (I:Inv X pins Z H s) (hN:X.N.Nodup) (hi:X.N[i]? = some x) (hx:Loc X.env.scope x) (r:RelV v u)
   (h:∀ s',Inv X pins (Z.set i (some v)) H s'->(∃ a,o3 a s.heap s'.heap/\(a=X.env.locals\/X.env.cells.lookup x=some a))->Q () s') (hf:X.fn x=true\/X.env.scope.names.lookup x=some .local:=by first | exact .inl rfl | exact .inr rfl | assumption):wpAny M A (storeName X.env x u) Q E s:=by
 obtain ⟨m,hn,hl⟩:=id I.loc;have hcls:(X.env.scope.kind==.class||(X.env.scope.kind==.module&&X.env.locals != X.env.globals))=false:=by rw [I.ok.kind]; rfl
 have hiσ:i < Z.length:=by rw [I.len]; exact (yJ.mp hi).1
 have cne:=I.cne;have tracked:∀ {a:xO} {h':zJ},(∃ o,s.heap.get? a=some o/\H a=none)->o3 a s.heap h'->HOk X.prog X.w H h':=fun {a h'} ha hs b ob e=>by
   obtain ⟨_,_,hfree⟩:=ha; refine (I.hok b ob e).stay (fun c w' hc q=>(hs.2 c ?_).trans q) (fun _ q=>q) fun _ _ q=>q;rintro rfl;rcases hc with rfl | hc
   . rw [hfree] at e; cases e
   . rw [hfree] at hc; cases hc
 rcases hx with hk | hk
 . refine wpAny_storeName_local hk hn (fun h' hn' hs=>?_) hcls
   obtain ⟨oL,_,_,hoL,_⟩:=id hn; refine h _ ⟨I.ok,I.os,I.bare,⟨fun b o e n hb hx=>?_,fun b o e n hb hx=>?_,I.base.free,fun b o e hx=>?_,I.base.tups,I.base.frzs,I.base.tbls⟩,⟨_,hn',fun j y v' e1 e2 e3=>?_⟩,fun y c e=>?_,I.free,I.freeC,fun p hp=>?_,tracked ⟨oL,hoL,I.free⟩ hs,by simpa using I.len⟩ ⟨_,hs,.inl rfl⟩
   . exact (hs.2 b (yU (yS (xZ e) I.ok.above))).trans (I.base.keep b o e n hb hx)
   . obtain ⟨sl,e1⟩:=I.base.slot b o e n hb hx
     exact ⟨sl,(hs.2 b (yU (yS (xZ e) I.ok.above))).trans e1⟩
   . obtain ⟨o',e1⟩:=I.base.there b o e hx
     exact ⟨o',(hs.2 b (yU (yS (xZ e) I.ok.above))).trans e1⟩
   . by_cases hj:j=i
     . subst hj
       rw [hi] at e1; cases e1;rw [IS hiσ] at e2; cases e2; exact ⟨u,r,.inl ⟨hk,by simp⟩⟩
     . rw [CK (Ne.symm hj)] at e2
       obtain ⟨u',r',q⟩:=hl j y v' e1 e2 e3; refine ⟨u',r',?_⟩; rcases q with ⟨k,e⟩ | ⟨k,c,e,z⟩
       . refine .inl ⟨k,?_⟩
         have:y≠x:=fun e=>hj (Xu hN e1 (e▸hi));simp [this,e]
       . exact .inr ⟨k,c,e,z.sameBut hs (cne y c e)⟩
   . obtain ⟨w',z⟩:=I.cell y c e
     exact ⟨w',z.sameBut hs (cne y c e)⟩
   . obtain ⟨e,n,ne,nf,d⟩:=I.pin p hp
     exact ⟨(hs.2 p.1 ne).trans e,n,ne,nf,d⟩
 . have hfn : X.fn x = true := by
     rcases hf with z | z
     . exact z
     . rw [z] at hk; cases hk
   obtain ⟨c,hc⟩:=I.ok.has x (.inl hk); obtain ⟨w',z⟩:=I.cell x c hc; refine wpAny_storeName_cell I.ok.kind hk hc z (fun h' hc' hs=>?_);obtain ⟨oc,hoc,hocd⟩:=id z; refine h { s with heap:=h' } ⟨I.ok,I.os,I.bare,⟨fun b o e n hb hx=>?_,fun b o e n hb hx=>?_,I.base.free,fun b o e hx=>?_,I.base.tups,I.base.frzs,I.base.tbls⟩,⟨m,hn.sameBut hs (Ne.symm (cne x c hc)),fun j y v' e1 e2 e3=>?_⟩,fun y c' e=>?_,I.free,I.freeC,fun p hp=>?_,tracked ⟨oc,hoc,I.freeC x c hc⟩ hs,by simpa using I.len⟩ ⟨c,hs,.inr hc⟩
   . exact (hs.2 b (yU (yS (xZ e) (I.ok.cab x c hfn hc)))).trans (I.base.keep b o e n hb hx)
   . obtain ⟨sl,e1⟩:=I.base.slot b o e n hb hx
     exact ⟨sl,(hs.2 b (yU (yS (xZ e) (I.ok.cab x c hfn hc)))).trans e1⟩
   . obtain ⟨o',e1⟩:=I.base.there b o e hx
     exact ⟨o',(hs.2 b (yU (yS (xZ e) (I.ok.cab x c hfn hc)))).trans e1⟩
   . by_cases hj:j=i
     . subst hj
       rw [hi] at e1; cases e1;rw [IS hiσ] at e2; cases e2; exact ⟨u,r,.inr ⟨.inl hk,c,hc,hc'⟩⟩
     . rw [CK (Ne.symm hj)] at e2
       obtain ⟨u',r',q⟩:=hl j y v' e1 e2 e3; refine ⟨u',r',?_⟩; rcases q with q | ⟨k,c',e,z'⟩
       . exact .inl q
       . refine .inr ⟨k,c',e,z'.sameBut hs ?_⟩
         rintro rfl;exact hj (Xu hN e1 (I.ok.inj _ _ _ e hc▸hi))
   . by_cases hcc:c'=c
     . subst hcc; exact ⟨_,hc'⟩
     . obtain ⟨w2,z2⟩:=I.cell y c' e
       exact ⟨w2,z2.sameBut hs hcc⟩
   . obtain ⟨e,n,ne,nf,d⟩:=I.pin p hp
     refine ⟨(hs.2 p.1 ?_).trans e,n,ne,nf,d⟩; intro q; rw [q,hoc] at e; have q':oc=p.2:=zH e; exact d w' (by rw [<- q']; exact hocd)
theorem Wc {M:Model} {A:zL} {E:xF->xH->Prop} {i:Nat} {x:Str} {v:V} {u:xF} {Q:Unit->xH->Prop} (I:Inv X pins Z H s) (hN:X.N.Nodup) (hi:X.N[i]? = some x) (hx:Loc X.env.scope x) (r:RelV v u)
   (h:∀ s',Inv X pins (Z.set i (some v)) H s'->Q () s') (hf:X.fn x=true\/X.env.scope.names.lookup x=some .local:=by first | exact .inl rfl | exact .inr rfl | assumption):wpAny M A (storeName X.env x u) Q E s :=
 Rs I hN hi hx r (fun s' I' _=>h s' I') hf
theorem Inv.call' {s':xH} {ch:List xO} (I:Inv X pins Z H s) (ho:s'.os=s.os) (u:Un (frs X.stack) ch H H' s.heap s'.heap) (hok:HOk X.prog X.w H' s'.heap) (hg:FI s'.gens)
   (hch:∀ b∈ch,(b∈X.ex\/X.s₀.heap.objs.size<=b)/\b≠X.env.locals/\(∀ x c,X.env.cells.lookup x=some c->c≠b)/\∀ p∈X.pn++pins,p.1≠b):Inv X pins Z H' s':=by
 obtain ⟨h',g',d',t',o'⟩:=s';have e:o'=s.os:=ho;subst e;exact I.call (g':=g') (t':=t') (d':=d') u hok hg hch
end
abbrev XK:=xF->Option xO->Hp->Prop
abbrev St:=List (Option V)
abbrev VK:=V->Hp->Prop
abbrev TE:=St->Hp->VK->Prop
abbrev TT:=St->Hp->(Bool->Hp->Prop)->Prop
abbrev TA:=St->Hp->(List V->Hp->Prop)->Prop
structure Ends where
 nx:St->Hp->Prop
 rt:VK
 bk:St->Hp->Prop:=fun _ _=>False
 ct:St->Hp->Prop:=fun _ _=>False
abbrev TS:=Ends->St->Hp->Prop
def EP (X:Cx) (pins:List (xO×Obj)) (Z:St) (Q:VK) (u:xF) (s':xH):Prop:=∃ v H',Inv X pins Z H' s'/\RelV v u/\Q v H'
def TP (X:Cx) (pins:List (xO×Obj)) (Z:St) (Q:Bool->Hp->Prop) (b:Bool) (s':xH):Prop:=∃ H',Inv X pins Z H' s'/\Q b H'
def AP (X:Cx) (pins:List (xO×Obj)) (Z:St) (Q:List V->Hp->Prop) (us:List xF) (s':xH):Prop:=∃ vs H',Inv X pins Z H' s'/\Vals vs us/\Q vs H'
def SP (X:Cx) (pins:List (xO×Obj)) (D:Ends) (f:Flow) (s':xH):Prop :=
 match f with
 | .next=>∃ Z' H',Inv X pins Z' H' s'/\D.nx Z' H'
 | .brk=>∃ Z' H',Inv X pins Z' H' s'/\D.bk Z' H'
 | .cont=>∃ Z' H',Inv X pins Z' H' s'/\D.ct Z' H'
 | .ret u=>∃ v Z' H',Inv X pins Z' H' s'/\RelV v u/\D.rt v H'
def PE (X:Cx) (e:Expr) (t:TE):Prop :=
 ∀ (pins:List (xO×Obj)) (s:xH) (Z:St) (H:Hp) (Q:VK),Inv X pins Z H s->t Z H Q->wpAny (yC X.prog X.w) X.A (eval e X.env) (EP X pins Z Q) X.xe s
def PT (X:Cx) (e:Expr) (t:TT):Prop :=
 ∀ (pins:List (xO×Obj)) (s:xH) (Z:St) (H:Hp) (Q:Bool->Hp->Prop),Inv X pins Z H s->t Z H Q->wpAny (yC X.prog X.w) X.A (isTrue e X.env (eval e X.env)) (TP X pins Z Q) X.xe s
def PW (X:Cx) (e:Expr) (t:TT):Prop :=
 ∀ (whole:Sem xF) (pins:List (xO×Obj)) (s:xH) (Z:St) (H:Hp) (Q:Bool->Hp->Prop),Inv X pins Z H s->t Z H Q->wpAny (yC X.prog X.w) X.A (isTrue e X.env whole) (TP X pins Z Q) X.xe s
theorem PW.pt {X:Cx} {e:Expr} {t:TT} (h:PW X e t):PT X e t:=h _
def PA (X:Cx) (es:List Expr) (t:TA):Prop :=
 ∀ (pos:Pos) (pins:List (xO×Obj)) (s:xH) (Z:St) (H:Hp) (Q:List V->Hp->Prop),Inv X pins Z H s->t Z H Q->wpAny (yC X.prog X.w) X.A (spliced (f9 pos (xR es X.env))) (AP X pins Z Q) X.xe s
def PS (X:Cx) (st:w8) (t:TS):Prop :=
 ∀ (pins:List (xO×Obj)) (s:xH) (Z:St) (H:Hp) (D:Ends),Inv X pins Z H s->t D Z H->wpAny (yC X.prog X.w) X.A (exec st X.env) (SP X pins D) X.xe s
def PSs (X:Cx) (st:List w8) (t:TS):Prop :=
 ∀ (pins:List (xO×Obj)) (s:xH) (Z:St) (H:Hp) (D:Ends),Inv X pins Z H s->t D Z H->wpAny (yC X.prog X.w) X.A (execs st X.env) (SP X pins D) X.xe s
theorem thn {α:Type} {t:Sem α} {Q Q':α->xH->Prop} {M:Model} {A:zL} {E:xF->xH->Prop} {s:xH} (h:wpAny M A t Q E s) (hQ:∀ a s,Q a s->Q' a s):wpAny M A t Q' E s:=e8 h hQ fun _ _ x=>x
end L2
namespace L2
open PySem PySem.Spec PyProof.Rows
section
variable {X:Cx}
def nU (i:Nat):TE:=fun Z H Q=>∃ v,Z[i]? = some (some v)/\Q v H
def tC (v:V):TE:=fun _ H Q=>Q v H
theorem aJ {i:Nat} {x:Str} {pos:Pos} (hN:X.N[i]? = some x) (hv:Vis X.env.scope x) (hd:(x==("__debug__" : Str))=false:=by decide) (hcd:(x==("__classdict__" : Str))=false:=by decide):PE X (.Name x pos) (nU i):=by
 intro pins s Z H Q I h;obtain ⟨v,e,h⟩:=h;obtain ⟨m,hn,hl⟩:=I.loc;obtain ⟨u,r,l⟩:=hl i x v hN e hv;have fin:EP X pins Z Q u s:=⟨v,H,I,r,h⟩;rcases l with ⟨hk,hm⟩ | ⟨hk,c,hc,hcell⟩
 . exact wpAny_Name (wpAny_loadName_local I.ok.kind hk hn hm fin) hd
 . rcases hk with hk | hk
   . exact wpAny_Name (wpAny_loadName_cell I.ok.kind hk hc hcell fin) hd
   . exact wpAny_Name (wpAny_loadName_free I.ok.kind hk hc hcell fin hcd) hd
theorem uW {i j pos}:PE X (.Constant (.int i) j pos) (tC (.int i)):=fun _ _ _ H _ I h=>wpAny_Constant_int ⟨.int i,H,I.tok _,⟨_,rfl⟩,h⟩
theorem pe_bl {b j pos}:PE X (.Constant (.bool b) j pos) (tC (.bl b)):=fun _ _ _ H _ I h=>Constant_bool ⟨.bl b,H,I,rfl,h⟩
theorem uU {j pos}:PE X (.Constant .none j pos) (tC .non):=fun _ _ _ H _ I h=>Constant_none ⟨.non,H,I,rfl,h⟩
theorem kI {x j pos}:PE X (.Constant (.str x) j pos) (tC (.str x)):=fun _ _ _ H _ I h=>Calls.Constant_str ⟨.str x,H,I.tok _,⟨_,rfl⟩,h⟩
def Gl (X:Cx) (x:Str):Prop:=X.env.kindOf x=some .globalImplicit
theorem cT {E:xF->xH->Prop} {pins:List (xO×Obj)} {s:xH} {Z:St} {H:Hp} {x:Str} {u:xF} {pos:Pos} {Q:xF->xH->Prop} (I:Inv X pins Z H s) (hg:Gl X x) (hm:X.mg x=some u) (h:Q u s)
   (hd:(x==("__debug__" : Str))=false:=by decide):wpAny (yC X.prog X.w) X.A (eval (.Name x pos) X.env) Q E s :=
 HK I.ok.kind hg (Calls.loadGlobal_global (by rw [I.ok.glob]; exact I.mod.glob.keeps I.bk) hm h) hd
theorem Ow {E:xF->xH->Prop} {pins:List (xO×Obj)} {s:xH} {Z:St} {H:Hp} {x:Str} {u:xF} {pos:Pos} {Q:xF->xH->Prop} (I:Inv X pins Z H s) (hg:Gl X x) (hm:X.mg x=none) (hv:BA x=some u) (h:Q u s)
   (hn:x ≠ "__name__" := by decide) (hd:(x==("__debug__" : Str))=false:=by decide):wpAny (yC X.prog X.w) X.A (eval (.Name x pos) X.env) Q E s:=by
 obtain ⟨mb,h1,h2⟩:=I.mod.blt;exact HK I.ok.kind hg (Calls.loadGlobal_builtin (by rw [I.ok.glob]; exact I.mod.glob.keeps I.bk) hm (by rw [I.ok.blt]; exact h1.keeps I.bk) ((h2 x hn).trans hv) h) hd
theorem pE {x:Str} {v:V} {u:xF} {pos:Pos} (hg:Gl X x) (hm:X.mg x=some u) (r:RelV v u) (hd:(x==("__debug__" : Str))=false:=by decide):PE X (.Name x pos) (tC v) :=
 fun _ _ _ H _ I h=>cT I hg hm ⟨v,H,I,r,h⟩ hd
variable {a b:Expr} {ta tb:TE} {pos:Pos}
def PC (X:Cx) (op:m9) (a b:Expr) (t:TE):Prop :=
 ∀ (pins:List (xO×Obj)) (s:xH) (Z:St) (H:Hp) (Q:VK),Inv X pins Z H s->t Z H Q ->
   wpAny (yC X.prog X.w) X.A (eval a X.env) (fun v s₁=>wpAny (yC X.prog X.w) X.A (eval b X.env) (fun u s₂=>wpAny (yC X.prog X.w) X.A (c9 op v u) (EP X pins Z Q) X.xe s₂) X.xe s₁) X.xe s
theorem Xv (b:Expr) {op:m9} (h:op≠.In) (h2:op≠.NotIn):behindInMarks op b=false:=by
 have e1:(op==CmpOp.In)=false:=by cases op <;> first | rfl | exact absurd rfl h
 have e2:(op==CmpOp.NotIn)=false:=by cases op <;> first | rfl | exact absurd rfl h2
 cases b <;> simp [behindInMarks,e1,e2]
def tB (t:TE):TT:=fun Z H Q=>t Z H fun x H1=>∃ c,x=.bl c/\Q c H1
theorem uX {op:m9} {t:TE} (h:PC X op a b t) (h1:behindInMarks op b=false:=by first | exact Xv _ (by decide) (by decide) | rfl):PE X (.Compare a [op] [b] pos) t:=fun pins s Z H Q I hw=>wpAny_Compare1 (h pins s Z H Q I hw) h1
theorem uP {op:m9} {t:TE} (h:PC X op a b t) (h1:behindInMarks op b=false:=by first | exact Xv _ (by decide) (by decide) | rfl):PT X (.Compare a [op] [b] pos) (tB t):=by
 intro pins s Z H Q I hw;refine wpAny_isTrue_Compare1 (thn (h pins s Z H _ I hw) fun v s1 h1=>thn h1 fun u s2 h2=>thn h2 fun c s3 hY1=>?_) h1;obtain ⟨x,H1,I1,r1,q1⟩:=hY1;obtain ⟨d,rfl,q⟩:=q1;cases r1;exact n6 ⟨H1,I1,q⟩
variable {tA tB':TT} {rest:List Expr}
def tAnd (t u:TT):TT:=fun Z H Q=>t Z H fun c H1=>if c=true then u Z H1 Q else Q false H1
def tOr (t u:TT):TT:=fun Z H Q=>t Z H fun c H1=>if c=true then Q true H1 else u Z H1 Q
def tNot (t:TT):TT:=fun Z H Q=>t Z H fun c H1=>Q (!c) H1
theorem oR (ha:PT X a tA):PW X (.BoolOp .And [a] pos) tA:=by
 intro wh pins s Z H Q I h;refine isTrue_and (thn (ha pins s Z H Q I h) fun c s1 e=>?_);cases c with
 | true=>exact isTrue_and_nil e
 | false=>exact e
theorem uM (ha:PT X a tA):PW X (.BoolOp .Or [a] pos) tA:=by
 intro wh pins s Z H Q I h;refine isTrue_or (thn (ha pins s Z H Q I h) fun c s1 e=>?_);cases c with
 | false=>exact isTrue_or_nil e
 | true=>exact e
theorem uN (ha:PT X a tA) (hb:PW X (.BoolOp .And (b::rest) pos) tB'):PW X (.BoolOp .And (a::b::rest) pos) (tAnd tA tB'):=by
 intro wh pins s Z H Q I h;refine isTrue_and (thn (ha pins s Z H _ I h) fun c s1 hZ2=>?_);obtain ⟨H1,I1,q1⟩:=hZ2;cases c with
 | true=>exact hb wh pins s1 Z H1 Q I1 q1
 | false=>exact ⟨H1,I1,q1⟩
theorem pw_or (ha:PT X a tA) (hb:PW X (.BoolOp .Or (b::rest) pos) tB'):PW X (.BoolOp .Or (a::b::rest) pos) (tOr tA tB'):=by
 intro wh pins s Z H Q I h;refine isTrue_or (thn (ha pins s Z H _ I h) fun c s1 hZ2=>?_);obtain ⟨H1,I1,q1⟩:=hZ2;cases c with
 | true=>exact ⟨H1,I1,q1⟩
 | false=>exact hb wh pins s1 Z H1 Q I1 q1
theorem uO (ha:PT X a tA):PT X (.UnaryOp .Not a pos) (tNot tA):=by
 intro pins s Z H Q I h;exact isTrue_not (ha pins s Z H (fun c H1=>Q (!c) H1) I h)
def tAndV (ta tb:TE):TE:=fun Z H Q=>ta Z H fun x H1=>∃ c,x=.bl c/\if c=true then tb Z H1 Q else Q (.bl false) H1
theorem uT {op} {t:TE} (h:PE X a t):PE X (.BoolOp op [a] pos) t:=fun pins s Z H Q I hw=>BoolOp_one (h pins s Z H Q I hw)
theorem uZ (ha:PE X a ta) (hb:PE X (.BoolOp .And (b::rest) pos) tb):PE X (.BoolOp .And (a::b::rest) pos) (tAndV ta tb):=by
 intro pins s Z H Q I h;refine BoolOp_and (thn (ha pins s Z H _ I h) fun v s1 hZ2=>?_);obtain ⟨x,H1,I1,r1,q1⟩:=hZ2;obtain ⟨c,rfl,q1⟩:=q1;cases r1;refine n6 ?_;cases c with
 | true=>exact hb pins s1 Z H1 Q I1 q1
 | false=>exact ⟨.bl false,H1,I1,rfl,q1⟩
def tIf (t:TT) (ta tb:TE):TE:=fun Z H Q=>t Z H fun c H1=>if c=true then ta Z H1 Q else tb Z H1 Q
theorem kM {c:Expr} (hc:PT X c tA) (ha:PE X a ta) (hb:PE X b tb):PE X (.IfExp c a b pos) (tIf tA ta tb):=by
 intro pins s Z H Q I h;refine wpAny_IfExp (thn (hc pins s Z H _ I h) fun d s1 hZ2=>?_);obtain ⟨H1,I1,q1⟩:=hZ2;cases d with
 | true=>exact ha pins s1 Z H1 Q I1 q1
 | false=>exact hb pins s1 Z H1 Q I1 q1
end
end L2
namespace L2
open PySem PySem.Spec PyProof.Rows
def SqL (K:xI) (H:Hp) (a:xO) (xs:List V):Prop :=
 Rd H a (.lst xs) \/
   ∃ (o:Obj) (its:Array xF) (n:Nat),K.lookup a=some o/\o.cls=.type "list" /\ o.dict=none/\o.data=.seq its n/\its.size<=sizeLine/\Vals xs its.toList
def SqT (K:xI) (H:Hp) (a:xO) (xs:List V):Prop :=
 Rd H a (.tup xs) \/
   ∃ (o:Obj) (its:Array xF) (n:Nat),K.lookup a=some o/\o.cls=.type "tuple" /\ o.data=.seq its n/\its.size<=sizeLine/\Vals xs its.toList
def absV:xF->Option V
 | .none=>some .non
 | .bool b=>some (.bl b)
 | .int i _=>some (.int i)
 | .str x _=>some (.str x)
 | .bytes b _=>some (.byt b)
 | .float b _=>some (.flt b)
 | .ref a=>some (.ref a)
 | .type n=>some (.ty n)
 | _=>none
theorem RelV.abs {x:V} {u:xF} (r:RelV x u):absV u=some x:=by
 cases x with
 | non=>cases r; rfl
 | bl _=>cases r; rfl
 | int _=>obtain ⟨t,rfl⟩:=r; rfl
 | str _=>obtain ⟨t,rfl⟩:=r; rfl
 | byt _=>obtain ⟨t,rfl⟩:=r; rfl
 | flt _=>obtain ⟨t,rfl⟩:=r; rfl
 | ref _=>cases r; rfl
 | ty _=>cases r; rfl
theorem RelV.inj {x y:V} {u:xF} (r:RelV x u) (q:RelV y u):x=y:=zH (r.abs.symm.trans q.abs)
theorem Vals.inj {xs:List V}:∀ {ys:List V} {us:List xF},Vals xs us->Vals ys us->xs=ys:=by
 induction xs with
 | nil=>intro ys us h q; cases h; cases q; rfl
 | cons x xs ih=>intro ys us h q; cases h with | cons r t=>cases q with | cons r' t'=>rw [r.inj r',ih t t']
section
variable {X:Cx} {pins:List (xO×Obj)} {Z:St} {H:Hp} {s:xH} {a:xO} {xs ys:List V}
theorem Inv.list (I:Inv X pins Z H s) (h:SqL X.K H a xs):∃ its:List xF,Vals xs its/\PlainL s.heap a its.toArray/\xs.length<=sizeLine:=by
 rcases h with h | ⟨o,its,n,hk,hc,hd,hs,hz,r⟩
 . obtain ⟨z,its,n,r,e⟩:=h.ok I.hok
   exact ⟨its,r,⟨_,n,e,rfl,rfl,rfl⟩,z⟩
 . refine ⟨its.toList,r,⟨o,n,I.kIn a o hk,hc,hd,by simpa using hs⟩,?_⟩
   have e:=r.length; simp only [zG] at e;lia
theorem Inv.tuple (I:Inv X pins Z H s) (h:SqT X.K H a xs):∃ its:List xF,Vals xs its/\FP s.heap a its.toArray/\xs.length<=sizeLine:=by
 rcases h with h | ⟨o,its,n,hk,hc,hs,hz,r⟩
 . obtain ⟨z,its,r,p⟩:=h.ok I.hok
   exact ⟨its,r,p,z⟩
 . refine ⟨its.toList,r,⟨o,I.kIn a o hk,hc,n,by simpa using hs⟩,?_⟩
   have e:=r.length; simp only [zG] at e;lia
theorem Inv.list_inj (I:Inv X pins Z H s) (h:SqL X.K H a xs) (h':SqL X.K H a ys):xs=ys:=by
 obtain ⟨its,r,⟨o,n,e,_,_,d⟩,_⟩:=I.list h;obtain ⟨its',r',⟨o',n',e',_,_,d'⟩,_⟩:=I.list h';rw [e] at e'; cases e';rw [d] at d';injection d' with d1 _
 have:its=its':=by simpa using congrArg IM d1
 subst this;exact r.inj r'
theorem Inv.tuple_inj (I:Inv X pins Z H s) (h:SqT X.K H a xs) (h':SqT X.K H a ys):xs=ys:=by
 obtain ⟨its,r,⟨o,e,_,n,d⟩,_⟩:=I.tuple h;obtain ⟨its',r',⟨o',e',_,n',d'⟩,_⟩:=I.tuple h';rw [e] at e'; cases e';rw [d] at d';injection d' with d1 _
 have:its=its':=by simpa using congrArg IM d1
 subst this;exact r.inj r'
end
abbrev Cx.wish (X:Cx) (E:xF->xH->Prop):Cx:={ X with xe:=E }
abbrev Cx.nox (X:Cx):Cx:=X.wish fun _ _=>False
theorem Cx.Ok.wish {X:Cx} (ok:X.Ok) (E:xF->xH->Prop):(X.wish E).Ok :=
 ⟨ok.mod,ok.kind,ok.glob,ok.blt,ok.above,ok.inj,ok.has,ok.cab,ok.hd,ok.frames,ok.stk,ok.exf,ok.bs,ok.bsz,ok.noex,ok.exfs,ok.funs,ok.frf⟩
theorem Cx.Ok.unwish {X:Cx} {E:xF->xH->Prop} (ok:(X.wish E).Ok):X.Ok :=
 ⟨ok.mod,ok.kind,ok.glob,ok.blt,ok.above,ok.inj,ok.has,ok.cab,ok.hd,ok.frames,ok.stk,ok.exf,ok.bs,ok.bsz,ok.noex,ok.exfs,ok.funs,ok.frf⟩
section
variable {X:Cx} {pins:List (xO×Obj)} {Z:St} {H:Hp} {s:xH} {E:xF->xH->Prop}
theorem Inv.wish (I:Inv X pins Z H s) (E:xF->xH->Prop):Inv (X.wish E) pins Z H s:=⟨I.ok.wish E,I.os,I.bare,I.base,I.loc,I.cell,I.free,I.freeC,I.pin,I.hok,I.len⟩
theorem Inv.unwish (I:Inv (X.wish E) pins Z H s):Inv X pins Z H s:=⟨I.ok.unwish,I.os,I.bare,I.base,I.loc,I.cell,I.free,I.freeC,I.pin,I.hok,I.len⟩
theorem SP.unwish {D:Ends} {f:Flow} {s':xH} (h:SP (X.wish E) pins D f s'):SP X pins D f s':=by
 cases f with
 | next=>obtain ⟨Z',H',I,q⟩:=h; exact ⟨Z',H',I.unwish,q⟩
 | brk=>obtain ⟨Z',H',I,q⟩:=h; exact ⟨Z',H',I.unwish,q⟩
 | cont=>obtain ⟨Z',H',I,q⟩:=h; exact ⟨Z',H',I.unwish,q⟩
 | ret u=>obtain ⟨v,Z',H',I,r,q⟩:=h; exact ⟨v,Z',H',I.unwish,r,q⟩
theorem PSs.nox {st:List w8} {t:TS} (h:PSs X.nox st t):PSs X st t:=fun pins s Z H D I hw =>
 e8 (h pins s Z H D (I.wish _) hw) (fun _ _ q=>q.unwish) fun _ _ z=>AH z
end
section
variable {X:Cx} {st:w8} {rest:List w8} {t u:TS} {e:Expr} {te:TE} {pos:Pos}
def tNext:TS:=fun D Z H=>D.nx Z H
def tSeq (t u:TS):TS:=fun D Z H=>t { D with nx:=u D } Z H
theorem cE:PSs X [] tNext:=fun _ _ Z H _ I h=>FJ ⟨Z,H,I,h⟩
theorem Xn (h1:PS X st t) (h2:PSs X rest u):PSs X (st::rest) (tSeq t u):=by
 intro pins s Z H D I h;refine wpAny_execs_cons (thn (h1 pins s Z H { D with nx:=u D } I h) fun f s1 q=>?_);cases f with
 | next =>
   obtain ⟨Z',H',I',q⟩:=q; exact h2 pins s1 Z' H' D I' q
 | ret v=>exact q
 | brk=>exact q
 | cont=>exact q
theorem Mf (h1:PS X st t):PSs X [st] t:=by
 intro pins s Z H D I h;refine wpAny_execs_cons (thn (h1 pins s Z H D I h) fun f s1 q=>?_);cases f with
 | next=>exact FJ q
 | ret v=>exact q
 | brk=>exact q
 | cont=>exact q
theorem Inv.quiet {pins:List (xO×Obj)} {Z:St} {H:Hp} {s:xH} (I:Inv X pins Z H s):interactive X.env=false:=by simp [interactive,I.ok.kind]
def tDrop (te:TE):TS:=fun D Z H=>te Z H fun _ H1=>D.nx Z H1
theorem Uf (he:PE X e te) (hs:p7 e none pos.line X.env=pure false:=by rfl):PS X (.Expr e pos) (tDrop te):=by
 intro pins s Z H D I h;exact wpAny_Expr_any (thn (he pins s Z H _ I h) fun v s1 hZ2=>by obtain ⟨x,H1,I1,r1,q1⟩:=hZ2; exact ⟨Z,H1,I1,q1⟩) I.quiet hs
def tRet (te:TE):TS:=fun D Z H=>te Z H D.rt
theorem kF (he:PE X e te):PS X (.Return (some e) pos) (tRet te):=by
 intro pins s Z H D I h;exact wpAny_Return_some (thn (he pins s Z H _ I h) fun v s1 hZ2=>by obtain ⟨x,H1,I1,r1,q1⟩:=hZ2; exact ⟨x,Z,H1,I1,r1,q1⟩)
def tIfS (c:TT) (t u:TS):TS:=fun D Z H=>c Z H fun b H1=>if b=true then t D Z H1 else u D Z H1
theorem sH {c:Expr} {a b:List w8} {tc:TT} (hc:PT X c tc) (ha:PSs X a t) (hb:PSs X b u):PS X (.If c a b pos) (tIfS tc t u):=by
 intro pins s Z H D I h;refine wpAny_If (thn (hc pins s Z H _ I h) fun d s1 hZ2=>?_);obtain ⟨H1,I1,q1⟩:=hZ2;cases d with
 | true=>exact ha pins s1 Z H1 D I1 q1
 | false=>exact hb pins s1 Z H1 D I1 q1
end
abbrev TG:=V->St->Hp->(St->Hp->Prop)->Prop
abbrev TGs:=List V->St->Hp->(St->Hp->Prop)->Prop
def PG (X:Cx) (target:Expr) (t:TG):Prop :=
 ∀ (pins:List (xO×Obj)) (s:xH) (Z:St) (H:Hp) (v:V) (u:xF) (Q:St->Hp->Prop),Inv X pins Z H s->RelV v u->t v Z H Q ->
   wpAny (yC X.prog X.w) X.A (GE target X.env u) (fun _ s'=>∃ Z' H',Inv X pins Z' H' s'/\Q Z' H') X.xe s
def PGs (X:Cx) (ts:List Expr) (t:TGs):Prop :=
 ∀ (pins:List (xO×Obj)) (s:xH) (Z:St) (H:Hp) (vs:List V) (us:List xF) (Q:St->Hp->Prop),Inv X pins Z H s->Vals vs us->t vs Z H Q ->
   wpAny (yC X.prog X.w) X.A (assignInOrder ((DZ ts X.env).map (·.2)) us) (fun _ s'=>∃ Z' H',Inv X pins Z' H' s'/\Q Z' H') X.xe s
abbrev wZ:=V->V->V->Hp->(Hp->Prop)->Prop
def PSet (X:Cx) (t:wZ):Prop :=
 ∀ (pins:List (xO×Obj)) (s:xH) (Z:St) (H:Hp) (o i v:V) (ov iv u:xF) (Q:Hp->Prop),Inv X pins Z H s->RelV o ov->RelV i iv->RelV v u->t o i v H Q ->
   wpAny (yC X.prog X.w) X.A (setItem ov iv u) (fun _ s'=>∃ H',Inv X pins Z H' s'/\Q H') X.xe s
section
variable {X:Cx} {pos:Pos}
def L3 (i:Nat):TG:=fun v Z H Q=>Q (Z.set i (some v)) H
theorem O4 {i:Nat} {x:Str} (hN:X.N.Nodup) (hi:X.N[i]? = some x) (hx:Loc X.env.scope x) (hf:X.fn x=true\/X.env.scope.names.lookup x=some .local:=by first | exact .inl rfl | exact .inr rfl | assumption):PG X (.Name x pos) (L3 i):=by
 intro pins s Z H v u Q I r h;exact wpAny_assign_Name (Wc I hN hi hx r (fun s' I'=>⟨_,H,I',h⟩) hf)
def aV:TGs:=fun vs Z H Q=>vs=[]/\Q Z H
def Bb (t:TG) (u:TGs):TGs:=fun vs Z H Q=>∃ v r,vs=v::r/\t v Z H fun Z' H'=>u r Z' H' Q
theorem Mg:PGs X [] aV:=by
 intro pins s Z H vs us Q I r h;obtain ⟨e,h⟩:=h;subst e;cases r;exact assignInOrder_nil ⟨Z,H,I,h⟩
theorem U1 {e:Expr} {es:List Expr} {t:TG} {u:TGs} (h1:PG X e t) (h2:PGs X es u)
   (hs:(DZ (e::es) X.env).map (·.2)=GE e X.env::(DZ es X.env).map (·.2):=by rfl):PGs X (e::es) (Bb t u):=by
 intro pins s Z H vs us Q I r h;obtain ⟨v,vr,e1,h⟩:=h;subst e1;cases r with
 | cons r rr =>
   rw [hs]; refine assignInOrder_cons (thn (h1 pins s Z H _ _ _ I r h) fun _ s1 hZ2=>?_);obtain ⟨Z1,H1,I1,q1⟩:=hZ2; exact h2 pins s1 Z1 H1 _ _ Q I1 rr q1
def aU (K:xI) (n:Nat) (t:TGs):TG:=fun v Z H Q=>∃ a xs,v=.ref a/\SqT K H a xs/\xs.length=n/\t xs Z H Q
theorem Ug {es:List Expr} {k:Nat} {t:TGs} {n:Nat} (hc:X.calm=true) (h:PGs X es t)
   (hn:(DZ es X.env).length=n:=by rfl) (hst:(DZ es X.env).findIdx? (·.1)=none:=by rfl):PG X (.Tuple es k pos) (aU X.K n t):=by
 intro pins s Z H v u Q I r hw;obtain ⟨a,xs,e1,hq,hl,hw⟩:=hw;subst e1;cases r;obtain ⟨its,rv,ht,hz⟩:=I.tuple hq;refine assign_Tuple_tuple (I.ok.hd hc) ht (by simp [hn,<- hl,rv.length]) hst fun h' hx=>?_;have I1:Inv X pins Z H { s with heap:=h' }:=I.kept (t':=s.toks) fun b o e=>hx b o (yU (xZ e)) e;exact h pins _ Z H xs _ Q I1 (by simpa using rv) hw
def gSub (to ti:TE) (t:wZ):TG:=fun v Z H Q=>to Z H fun o H1=>ti Z H1 fun i H2=>t o i v H2 fun H3=>Q Z H3
theorem uR {o i:Expr} {to ti:TE} {t:wZ} (ho:PE X o to) (hi:PE X i ti) (hs:PSet X t)
   (ha:∀ v,GE (.Subscript o i pos) X.env v=(do
     let ov <- holding [v] (eval o X.env)
     let iv <- holding [v,ov] (eval i X.env)
     standAt pos
     holding [v,ov,iv] (setItem ov iv v)
     release [v,ov,iv] []):=by intro _; rfl):PG X (.Subscript o i pos) (gSub to ti t):=by
 intro pins s Z H v u Q I r h;rw [ha];refine xD (zK (thn (ho pins s Z H _ I h) fun ov s1 hZ2=>?_));obtain ⟨x,H1,I1,r1,q1⟩:=hZ2;refine xD (zK (thn (hi pins s1 Z H1 _ I1 q1) fun iv s2 hZ2=>?_));obtain ⟨y,H2,I2,r2,q2⟩:=hZ2;refine xD (wpAny_standAt (xD (zK (thn (hs pins s2 Z H2 x y v ov iv u _ I2 r1 r2 r q2) fun _ s3 hZ2=>?_))));obtain ⟨H3,I3,q3⟩:=hZ2;exact wpAny_release ⟨Z,H3,I3,q3⟩
def tW (te:TE) (g:TG):TS:=fun D Z H=>te Z H fun x H1=>g x Z H1 D.nx
theorem uQ {tg e:Expr} {te:TE} {g:TG} (he:PE X e te) (hg:PG X tg g) (hs:swapsWithSole [tg] e pos.line X.env=pure false:=by rfl) (hw:swappedStores [tg] e X.env=pure none:=by rfl)
   (h1:(DZ [tg] X.env).map (·.2)=[GE tg X.env]:=by rfl):PS X (.Assign [tg] e pos) (tW te g):=by
 intro pins s Z H D I h;refine wpAny_Assign_stores (thn (he pins s Z H _ I h) fun v s1 hY3=>?_) hs hw;obtain ⟨x,H1,I1,r1,q1⟩:=hY3;rw [h1];exact thn (hg pins s1 Z H1 x v _ I1 r1 q1) fun _ s2 q=>q
theorem Op {i:Nat} {x:Str} {e:Expr} {te:TE} {pos':Pos} (hN:X.N.Nodup) (hi:X.N[i]? = some x) (hx:Loc X.env.scope x) (he:PE X e te) (hs:p7 e (some (.Name x pos')) pos.line X.env=pure false:=by rfl) (hf:X.fn x=true\/X.env.scope.names.lookup x=some .local:=by first | exact .inl rfl | exact .inr rfl | assumption) :
   PS X (.Assign [.Name x pos'] e pos) (tW te (L3 i)):=by
 intro pins s Z H D I h;refine wpAny_Assign_Name (thn (he pins s Z H _ I h) fun v s1 hY4=>?_) hs;obtain ⟨y,H1,I1,r1,q1⟩:=hY4;exact Wc I1 hN hi hx r1 (fun s2 I2=>⟨_,H1,I2,q1⟩) hf
end
section
variable {X:Cx} {pos:Pos}
def tP (c:TT) (tb:TS):TS:=fun D Z H=>∃ W:Nat->St->Hp->Prop,(∃ m,W m Z H)/\∀ m Z H,W m Z H ->
 c Z H fun b H1=>if b=true then ∃ N:St->Hp->Prop,(∀ Z' H',N Z' H'->∃ m',m' < m/\W m' Z' H')/\tb { D with nx:=N,ct:=N,bk:=D.nx } Z H1 else D.nx Z H1
theorem kE {c:Expr} {body:List w8} {tc:TT} {tb:TS} (hp:PassesOwn (yC X.prog X.w) X.A X.env X.xe) (hc:PT X c tc) (hb:PSs X body tb):PS X (.While c body [] pos) (tP tc tb):=by
 intro pins s Z H D I h;obtain ⟨W,⟨m0,w0⟩,turn⟩:=h;refine wpAny_While (codeAny_whileLoop (fun n s'=>∃ Z' H',Inv X pins Z' H' s'/\W n Z' H') ?_ m0 ⟨Z,H,I,w0⟩);rintro n s1 ⟨Z1,H1,I1,w1⟩;refine AE hp (thn (hc pins s1 Z1 H1 _ I1 (turn n Z1 H1 w1)) fun b s2 hZ2=>?_);obtain ⟨H2,I2,q2⟩:=hZ2;cases b with
 | true =>
   obtain ⟨N,hN,q2⟩:=q2; rw [if_pos rfl]; refine AE hp (thn (hb pins s2 Z1 H2 _ I2 q2) fun f s3 q3=>?_);cases f with
   | next =>
     obtain ⟨Z3,H3,I3,n3⟩:=q3; obtain ⟨m',hm,w3⟩:=hN Z3 H3 n3; exact ⟨m',hm,Z3,H3,I3,w3⟩
   | cont =>
     obtain ⟨Z3,H3,I3,n3⟩:=q3; obtain ⟨m',hm,w3⟩:=hN Z3 H3 n3; exact ⟨m',hm,Z3,H3,I3,w3⟩
   | brk=>exact q3
   | ret v=>exact q3
 | false =>
   rw [if_neg l8]; exact FJ ⟨Z1,H2,I2,q2⟩
end
structure It where
 go:Nat->Hp->Prop
 yld:Nat->Hp->V->Hp->Prop
 stop:Nat->Hp->Prop
def Rj (X:Cx) (pins:List (xO×Obj)) (H:Hp) (b:xO):Prop :=
 H b=none/\b≠X.env.locals/\b∉X.fs/\(b∈X.ex\/X.s₀.heap.objs.size<=b)/\(∀ x c,X.env.cells.lookup x=some c->c≠b)/\∀ p∈X.pn++pins,p.1≠b
theorem Inv.fpOk {X:Cx} {pins:List (xO×Obj)} {Z:St} {H H':Hp} {s:xH} {b:xO} (I:Inv X pins Z H s) (hb:s.heap.objs.size<=b) (hn:H' b=none):Rj X pins H' b:=by
 refine ⟨hn,y3 (yS I.lt hb),I.nofs hb,.inr (yA I.sz hb),fun x c e z=>?_,fun p hp z=>?_⟩
 . obtain ⟨v,q⟩:=I.cell x c e
   exact absurd (yS q.lt (by rw [z]; exact hb)) (e9 _)
 . exact absurd (yS (xZ (I.pin p hp).1) (by rw [z]; exact hb)) (e9 _)
structure Turn (P:yI) (w:yR) (K:xI) (tg:Expr) (J:It) (fp:List xO) (it:xO) (tn:Nat->zJ->Prop):Prop where
 mem:it∈fp
 obj:∀ i h,tn i h->∀ b∈fp,∃ o,h.get? b=some o/\∀ v,o.data≠.cell v
 keep:∀ i h h',tn i h->(∀ b∈fp,∀ o,h.get? b=some o->h'.get? b=some o)->tn i h'
 item:∀ (X:Cx),X.prog=P->X.w=w->X.K=K->X.calm=true->∀ (i:Nat) (pins:List (xO×Obj)) (s:xH) (Z:St) (H:Hp) (E:xF->xH->Prop),Inv X pins Z H s->(∀ b∈fp,Rj X pins H b)->tn i s.heap->J.go i H ->
   wpAny (yC P w) X.A (pyNext (.ref it)) (fun r s1=>∃ u,r=some u /\
     wpAny (yC P w) X.A (FK tg (.ref it) u) (fun _ s2=>∃ x H',Inv X pins Z H' s2/\RelV x u/\J.yld i H x H'/\tn (i+1) s2.heap/\∀ b∈fp,H' b=none) E s1) E s
 done:∀ (X:Cx),X.prog=P->X.w=w->X.K=K->X.calm=true->∀ (i:Nat) (pins:List (xO×Obj)) (s:xH) (Z:St) (H:Hp) (E:xF->xH->Prop),Inv X pins Z H s->(∀ b∈fp,Rj X pins H b)->tn i s.heap->J.stop i H ->
   wpAny (yC P w) X.A (pyNext (.ref it)) (fun r s1=>r=none/\Inv X pins Z H s1) E s
 self:∀ (A:zL) (i:Nat) (s:xH) (Q:xF->xH->Prop) (E:xF->xH->Prop),tn i s.heap->Q (.ref it) s->wpAny (yC P w) A (HU (.ref it)) Q E s
abbrev TI:=St->Hp->(It->Hp->Prop)->Prop
def PIE (X:Cx) (pins:List (xO×Obj)) (Z:St) (tg:Expr) (R:It->Hp->Prop) (itv:xF) (s2:xH):Prop :=
 ∃ (it:xO) (fp:List xO) (tn:Nat->zJ->Prop) (J:It) (H':Hp),itv=.ref it/\Inv X pins Z H' s2/\Turn X.prog X.w X.K tg J fp it tn/\tn 0 s2.heap/\(∀ b∈fp,Rj X pins H' b)/\R J H'
def PI (X:Cx) (tg iter:Expr) (wi:TI):Prop :=
 ∀ (pins:List (xO×Obj)) (s:xH) (Z:St) (H:Hp) (R:It->Hp->Prop),Inv X pins Z H s->wi Z H R ->
   wpAny (yC X.prog X.w) X.A (eval iter X.env) (fun v s1=>wpAny (yC X.prog X.w) X.A (HU v) (PIE X pins Z tg R) X.xe s1) X.xe s
theorem Ss {M:Model} {A:zL} {E:xF->xH->Prop} {s:xH} {tg:Expr} {it:xO} {u:xF} {o:Obj} {n:String} {vs:Array xF} {Q:Unit->xH->Prop} (ho:s.heap.get? it=some o) (hc:o.cls=.type n) (hd:o.data=.fields vs)
   (hn:["enumerate", "zip", "dict_itemiterator", "dict_reverseitemiterator", "odict_iterator", "itertools.zip_longest", "itertools.pairwise"].contains n=false) (hQ:Q () s):wpAny M A (FK tg (.ref it) u) Q E s:=by
 unfold FK;cases tg <;> first
   | exact xE hQ
   | (cases u <;> first
       | exact xE hQ
       | (refine xD (IW ho ?_)
          rw [hc,hd]; show wpAny M A (if (["enumerate", "zip", "dict_itemiterator", "dict_reverseitemiterator", "odict_iterator", "itertools.zip_longest", "itertools.pairwise"].contains n&&vs[0]? == some (AJ _))=true then _ else _) Q E s;rw [if_neg (by intro h; rw [hn,Bool.false_and] at h; cases h)];exact xE hQ))
def Itl (K:xI) (a:xO):It :=
 ⟨fun i H=>∃ xs x,SqL K H a xs/\xs[i]? = some x,fun i H x H'=>H'=H/\∀ xs,SqL K H a xs->xs[i]? = some x,fun i H=>∃ xs,SqL K H a xs/\xs.length<=i⟩
def Itt (K:xI) (a:xO):It :=
 ⟨fun i H=>∃ xs x,SqT K H a xs/\xs[i]? = some x,fun i H x H'=>H'=H/\∀ xs,SqT K H a xs->xs[i]? = some x,fun i H=>∃ xs,SqT K H a xs/\xs.length<=i⟩
def Itr (lo:Int) (n:Nat):It:=⟨fun i _=>i < n,fun i H x H'=>H'=H/\x=.int (lo+i),fun i _=>n<=i⟩
theorem eD {P:yI} {w:yR} {K:xI} {tg:Expr} (a it:xO):Turn P w K tg (Itl K a) [it] it (fun i h=>h.IsListIter it a i) where
 mem:=by simp
 obj:=fun i h st b hb=>by
   have e:b=it:=by simpa using hb
   subst e; obtain ⟨o,e,c,d⟩:=st; exact ⟨o,e,fun v z=>by rw [d] at z; cases z⟩
 keep:=fun i h h' st k=>st.at fun o e=>k it (by simp) o e
 item:=by
   intro X hP hw hK hc i pins s Z H E I hf st hg; subst hP hw hK; obtain ⟨xs,x,hq,hx⟩:=hg; obtain ⟨its,rv,p,hz⟩:=I.list hq; obtain ⟨u,hu,ru⟩:=rv.get hx; obtain ⟨f0,f1,f2,f3,f4,f5⟩:=hf it (by simp);refine wpAny_pyNext_list_item st p.isList (x:=u) (by simpa using hu) fun h' st' sb=>?_;have I1:Inv X pins Z H { s with heap:=h' }:=I.turned (t':=s.toks) (fun b o hb e=>(sb.2 b hb).trans e) f0 f1 f3 f4 f5;obtain ⟨o,e,c,d⟩:=id st'; exact ⟨u,rfl,Ss (s:={ s with heap:=h' }) e c d (by decide) ⟨x,H,I1,ru,⟨rfl,fun ys hy=>by rw [I.list_inj hy hq]; exact hx⟩,st',fun b hb=>(hf b hb).1⟩⟩
 done:=by
   intro X hP hw hK hc i pins s Z H E I hf st hg; subst hP hw hK; obtain ⟨xs,hq,hx⟩:=hg; obtain ⟨its,rv,p,hz⟩:=I.list hq; obtain ⟨f0,f1,f2,f3,f4,f5⟩:=hf it (by simp);have hl:=rv.length; exact wpAny_pyNext_list_end (I.ok.hd hc) st p.isList (by simp; lia) fun h' eb=>⟨rfl,I.turned (t':=s.toks) (fun b o hb e=>eb b o hb e) f0 f1 f3 f4 f5⟩
 self:=fun _ _ _ _ _ st h=>wpAny_pyIter_listiter st h
theorem Zr {P:yI} {w:yR} {K:xI} {tg:Expr} (a it:xO):Turn P w K tg (Itt K a) [it] it (fun i h=>h.IsTupleIter it a i) where
 mem:=by simp
 obj:=fun i h st b hb=>by
   have e:b=it:=by simpa using hb
   subst e; obtain ⟨o,e,c,d⟩:=st; exact ⟨o,e,fun v z=>by rw [d] at z; cases z⟩
 keep:=fun i h h' st k=>st.at fun o e=>k it (by simp) o e
 item:=by
   intro X hP hw hK hc i pins s Z H E I hf st hg; subst hP hw hK; obtain ⟨xs,x,hq,hx⟩:=hg; obtain ⟨its,rv,p,hz⟩:=I.tuple hq; obtain ⟨u,hu,ru⟩:=rv.get hx; obtain ⟨f0,f1,f2,f3,f4,f5⟩:=hf it (by simp);refine wpAny_pyNext_tuple_item st (show s.heap.IsTuple a its.toArray from p) (x:=u) (by simpa using hu) fun h' st' sb=>?_;have I1:Inv X pins Z H { s with heap:=h' }:=I.turned (t':=s.toks) (fun b o hb e=>(sb.2 b hb).trans e) f0 f1 f3 f4 f5;obtain ⟨o,e,c,d⟩:=id st'; exact ⟨u,rfl,Ss (s:={ s with heap:=h' }) e c d (by decide) ⟨x,H,I1,ru,⟨rfl,fun ys hy=>by rw [I.tuple_inj hy hq]; exact hx⟩,st',fun b hb=>(hf b hb).1⟩⟩
 done:=by
   intro X hP hw hK hc i pins s Z H E I hf st hg; subst hP hw hK; obtain ⟨xs,hq,hx⟩:=hg; obtain ⟨its,rv,p,hz⟩:=I.tuple hq; obtain ⟨f0,f1,f2,f3,f4,f5⟩:=hf it (by simp);have hl:=rv.length; exact wpAny_pyNext_tuple_end (I.ok.hd hc) st (show s.heap.IsTuple a its.toArray from p) (by simp; lia) fun h' eb=>⟨rfl,I.turned (t':=s.toks) (fun b o hb e=>eb b o hb e) f0 f1 f3 f4 f5⟩
 self:=fun _ _ _ _ _ st h=>wpAny_pyIter_tupleiter st h
theorem Zs {P:yI} {w:yR} {K:xI} {tg:Expr} (it:xO) (lo:Int) (n:Nat):Turn P w K tg (Itr lo n) [it] it (fun i h=>IsRangeIter h it (lo+(i:Nat)*1) ((n:Int) - (i:Nat)) 1) where
 mem:=by simp
 obj:=fun i h st b hb=>by
   have e:b=it:=by simpa using hb
   subst e; exact ⟨_,st,fun v z=>by
     have z':Data.fields _=Data.cell v:=z;cases z'⟩
 keep:=fun i h h' st k=>k it (by simp) _ st
 item:=by
   intro X hP hw hK hc i pins s Z H E I hf st hg; subst hP hw hK; obtain ⟨f0,f1,f2,f3,f4,f5⟩:=hf it (by simp);have W:=Walks.range (prog:=X.prog) (w:=X.w) (I.ok.hd hc) it lo 1 n; refine W.item i s _ _ hg st fun v h' tk hv st' kk=>?_;obtain ⟨t,rfl⟩:=hv; have I1:Inv X pins Z H { s with heap:=h',toks:=tk }:=I.turned (fun b o hb e=>kk b o (by simpa using hb) e) f0 f1 f3 f4 f5;refine ⟨_,rfl,Ss (s:={ s with heap:=h',toks:=tk }) (n := "range_iterator") st' rfl rfl (by decide) ⟨.int (lo+i),H,I1,⟨t,?_⟩,⟨rfl,rfl⟩,st',fun b hb=>(hf b hb).1⟩⟩;rw [Int.mul_one]
 done:=by
   intro X hP hw hK hc i pins s Z H E I hf st hg; subst hP hw hK; obtain ⟨f0,f1,f2,f3,f4,f5⟩:=hf it (by simp);exact wpAny_pyNext_range_end (I.ok.hd hc) st (by have:n<=i:=hg; lia) fun h' eb=>⟨rfl,I.turned (t':=s.toks) (fun b o hb e=>eb b o hb e) f0 f1 f3 f4 f5⟩
 self:=fun _ _ _ _ _ st h=>wpAny_pyIter_rangeiter st h
end L2
namespace L2
open PySem PySem.Spec PyProof.Rows
section
variable {X:Cx} {tg:Expr}
theorem kA {pins:List (xO×Obj)} {Z:St} {H:Hp} {s:xH} {R:It->Hp->Prop} {E:xF->xH->Prop} {lo hi:Int} {t u v:Tok} {tk:Nat} (I:Inv X pins Z H s) (h1 : -(2 ^ 62)<=lo) (h2:lo < 2 ^ 62) (h3 : -(2 ^ 62)<=hi) (h4:hi < 2 ^ 62)
   (q:R (Itr lo (hi - lo).toNat) H):wpAny (yC X.prog X.w) X.A (HU (.ref s.heap.objs.size)) (PIE X pins Z tg R) E { s with heap:=s.heap.push { cls:=.type "range",data:=.fields #[.int lo t,.int hi u,.int 1 v] },toks:=tk }:=by
 refine wpAny_pyIter_range (IsRange.new ..) (small_one h1 h2 h3 h4) ?_;have I1:Inv X pins Z H { s with heap:=s.heap.push { cls:=.type "range",data:=.fields #[.int lo t,.int hi u,.int 1 v] },toks:=tk }:=I.kept fun b o e=>xK _ e;refine ⟨(s.heap.push { cls:=.type "range",data:=.fields #[.int lo t,.int hi u,.int 1 v] }).objs.size,[(s.heap.push { cls:=.type "range",data:=.fields #[.int lo t,.int hi u,.int 1 v] }).objs.size],_,_,H,rfl,
   I1.kept (t':=tk) fun b o e=>xK _ e,Zs _ lo (hi - lo).toNat,?_,fun b hb=>?_,q⟩
 . have e1:lo+((0:Nat):Int)*1=lo:=by simp
   have e2:(((hi - lo).toNat:Nat):Int) - ((0:Nat):Int)=Builtin.Range.rangeSize lo hi 1:=by rw [rangeSize_one]; split <;> lia
   show IsRangeIter _ _ (lo+((0:Nat):Int)*1) ((((hi - lo).toNat:Nat):Int) - ((0:Nat):Int)) 1;rw [e1,e2]; exact xT _ rfl
 . have e:b=(s.heap.push { cls:=.type "range",data:=.fields #[.int lo t,.int hi u,.int 1 v] }).objs.size:=by simpa using hb
   subst e; exact I1.fpOk (xN _) (I1.hok.fresh (xN _))
def iRng1 (ta:TA):TI:=fun Z H R=>ta Z H fun vs H1=>∃ j:Int,vs=[.int j] /\ -(2 ^ 62)<=j/\j < 2 ^ 62/\R (Itr 0 j.toNat) H1
theorem fM {a:Expr} {ta:TA} {p pos:Pos} (hg:Gl X "range") (hm:X.mg "range" = none) (ha:PA X [a] ta) (hs:xR [a] X.env=[(false,eval a X.env)]:=by rfl):PI X tg (.Call (.Name "range" p) [a] [] pos) (iRng1 ta):=by
 intro pins s Z H R I h;refine Call_ (Ow I hg hm boot_range (x3 (thn (ha pos pins s Z H _ I h) fun us s1 hY6=>?_) hs rfl));obtain ⟨vs,H1,I1,r1,q1⟩:=hY6;obtain ⟨j,e,q1,q2,q⟩:=q1;subst e;cases r1 with
 | cons r rr =>
   cases rr; obtain ⟨t,rfl⟩:=r; exact call_range_1 (kA I1 (by lia) (by lia) q1 q2 (by simpa using q))
def tFor (wi:TI) (g:TG) (tb:TS):TS:=fun D Z H=>wi Z H fun J H1=>∃ W:Nat->Nat->St->Hp->Prop,(∃ m,W 0 m Z H1)/\∀ i m Z H,W i m Z H ->
 (J.stop i H/\D.nx Z H)\/(J.go i H/\∃ N:St->Hp->Prop,(∀ Z' H',N Z' H'->∃ m',m' < m/\W (i+1) m' Z' H')/\∀ x H',J.yld i H x H'->g x Z H' fun Z2 H2=>tb { D with nx:=N,ct:=N,bk:=D.nx } Z2 H2)
def Oq (fp:List xO) (h:zJ):List (xO×Obj):=fp.filterMap fun b=>(h.get? b).map fun o=>(b,o)
theorem Hd {fp:List xO} {h:zJ} {b:xO} {o:Obj} (hb:b∈fp) (e:h.get? b=some o):(b,o)∈Oq fp h:=GB.mpr ⟨b,hb,by rw [e]; rfl⟩
theorem fS {fp:List xO} {h:zJ} {p:xO×Obj} (hp:p∈Oq fp h):p.1∈fp/\h.get? p.1=some p.2:=by
 obtain ⟨b,hb,e⟩:=GB.mp hp;cases q:h.get? b with
 | none=>rw [q] at e; cases e
 | some o =>
   rw [q] at e; have e':(b,o)=p:=zH e; subst e'; exact ⟨hb,q⟩
theorem Inv.pinned {pins:List (xO×Obj)} {Z:St} {H:Hp} {s:xH} {fp:List xO} (I:Inv X pins Z H s) (hf:∀ b∈fp,Rj X pins H b) (ho:∀ b∈fp,∃ o,s.heap.get? b=some o/\∀ v,o.data≠.cell v):Inv X (pins++Oq fp s.heap) Z H s :=
 I.pins_of fun p hp=>(xY.mp hp).elim (fun z=>I.pin p (l6 _ z)) fun z=>by
   obtain ⟨hb,e⟩:=fS z; obtain ⟨f0,f1,f2,_⟩:=hf p.1 hb; obtain ⟨o,e',d⟩:=ho p.1 hb; rw [e] at e'; cases e'; exact ⟨e,f0,f1,f2,d⟩
theorem Inv.unpinned {pins pl:List (xO×Obj)} {Z:St} {H:Hp} {s:xH} (I:Inv X (pins++pl) Z H s):Inv X pins Z H s:=I.pins_of fun p hp=>I.pin p (l6 _ (FD _ hp))
theorem kG {iter:Expr} {body:List w8} {wi:TI} {g:TG} {tb:TS} {pos:Pos} (hp:PassesOwn (yC X.prog X.w) X.A X.env X.xe) (hc:X.calm=true) (hi:PI X tg iter wi) (hg:PG X tg g) (hb:PSs X body tb)
   (hs:∀ x,zP iter X.env x=pure x:=by intro _; rfl):PS X (.For tg iter body [] pos) (tFor wi g tb):=by
 intro pins s Z H D I h;refine wpAny_For (thn (hi pins s Z H _ I h) fun v s1 h1=>thn h1 fun itv s2 h2=>?_) hs;obtain ⟨it,fp,tn,J,H2,e,I2,T,st2,f2,W,⟨m0,w0⟩,turn⟩:=h2;subst e;have stat:∀ {H':Hp},(∀ b∈fp,H' b=none)->∀ b∈fp,Rj X pins H' b:=fun hn b hb=>⟨hn b hb,(f2 b hb).2⟩;refine codeAny_forLoop_any (fun n s'=>∃ i Z' H',Inv X pins Z' H' s'/\tn i s'.heap/\(∀ b∈fp,H' b=none)/\W i n Z' H') ?_ m0 ⟨0,Z,H2,I2,st2,fun b hb=>(f2 b hb).1,w0⟩;rintro n s3 ⟨i,Z3,H3,I3,st3,fr3,w3⟩;rcases turn i n Z3 H3 w3 with ⟨stop,qn⟩ | ⟨go,N,hN,step⟩
 . refine AE hp (thn (T.done X rfl rfl rfl hc i pins s3 Z3 H3 X.xe I3 (stat fr3) st3 stop) fun r s4 hZ2=>?_)
   obtain ⟨hr,I4⟩:=hZ2; subst hr; exact FJ ⟨Z3,H3,I4,qn⟩
 . refine AE hp (thn (T.item X rfl rfl rfl hc i pins s3 Z3 H3 X.xe I3 (stat fr3) st3 go) fun r s4 hZ2=>?_)
   obtain ⟨u,hr,h4⟩:=hZ2; subst hr; refine AE hp (thn h4 fun _ s5 hZ2=>?_);obtain ⟨x,H5,I5,r5,y5,st5,fr5⟩:=hZ2; have I5':=I5.pinned (stat fr5) (T.obj _ _ st5); refine AE hp (thn (hg _ s5 Z3 H5 x u _ I5' r5 (step x H5 y5)) fun _ s6 hZ2=>?_);obtain ⟨Z6,H6,I6,q6⟩:=hZ2; refine AE hp (thn (hb _ s6 Z6 H6 _ I6 q6) fun f s7 q7=>?_);have again:∀ {Z7:St} {H7:Hp},Inv X (pins++Oq fp s5.heap) Z7 H7 s7->N Z7 H7->∃ m,m < n/\∃ i Z' H',Inv X pins Z' H' s7/\tn i s7.heap/\(∀ b∈fp,H' b=none)/\W i m Z' H':=fun {Z7 H7} I7 n7=>by
     obtain ⟨m',hm,w7⟩:=hN Z7 H7 n7; refine ⟨m',hm,i+1,Z7,H7,I7.unpinned,T.keep _ _ _ st5 fun b hb o e=>(I7.pin (b,o) (l6 _ (l6 _ (Hd hb e)))).1,fun b hb=>?_,w7⟩;obtain ⟨o,e,d⟩:=T.obj _ _ st5 b hb; exact (I7.pin (b,o) (l6 _ (l6 _ (Hd hb e)))).2.1
   cases f with
   | next=>obtain ⟨Z7,H7,I7,n7⟩:=q7; exact again I7 n7
   | cont=>obtain ⟨Z7,H7,I7,n7⟩:=q7; exact again I7 n7
   | brk=>obtain ⟨Z7,H7,I7,q7⟩:=q7; exact ⟨Z7,H7,I7.unpinned,q7⟩
   | ret v=>obtain ⟨x7,Z7,H7,I7,r7,q7⟩:=q7; exact ⟨x7,Z7,H7,I7.unpinned,r7,q7⟩
end
end L2
namespace L2
open PySem PySem.Spec PyProof.Rows
abbrev R2:=V->V->Hp->VK->Prop
def OpR (X:Cx) (f:xF->xF->Sem xF) (r:R2):Prop :=
 ∀ (pins:List (xO×Obj)) (s:xH) (Z:St) (H:Hp) (x y:V) (v u:xF) (Q:VK),Inv X pins Z H s->RelV x v->RelV y u->r x y H Q ->
   wpAny (yC X.prog X.w) X.A (f v u) (EP X pins Z Q) X.xe s
def UnR (X:Cx) (f:xF->Sem xF) (r:V->Hp->VK->Prop):Prop :=
 ∀ (pins:List (xO×Obj)) (s:xH) (Z:St) (H:Hp) (x:V) (v:xF) (Q:VK),Inv X pins Z H s->RelV x v->r x H Q ->
   wpAny (yC X.prog X.w) X.A (f v) (EP X pins Z Q) X.xe s
def U7 (X:Cx) (f:xF) (r:List V->Hp->VK->Prop):Prop :=
 ∀ (pins:List (xO×Obj)) (s:xH) (Z:St) (H:Hp) (xs:List V) (us:List xF) (Q:VK),Inv X pins Z H s->Vals xs us->r xs H Q ->
   wpAny (yC X.prog X.w) X.A (call f us) (EP X pins Z Q) X.xe s
def TruR (X:Cx) (r:V->Hp->(Bool->Hp->Prop)->Prop):Prop :=
 ∀ (pins:List (xO×Obj)) (s:xH) (Z:St) (H:Hp) (x:V) (v:xF) (Q:Bool->Hp->Prop),Inv X pins Z H s->RelV x v->r x H Q ->
   wpAny (yC X.prog X.w) X.A (truthy v) (TP X pins Z Q) X.xe s
def tOp (r:R2) (ta tb:TE):TE:=fun Z H Q=>ta Z H fun x H1=>tb Z H1 fun y H2=>r x y H2 Q
def tUn (r:V->Hp->VK->Prop) (ta:TE):TE:=fun Z H Q=>ta Z H fun x H1=>r x H1 Q
def rI (C:Int->Int->Prop) (g:Int->Int->V):R2:=fun x y H Q=>∃ i j,x=.int i/\y=.int j/\C i j/\Q (g i j) H
def rI0 (g:Int->Int->V):R2:=fun x y H Q=>∃ i j,x=.int i/\y=.int j/\Q (g i j) H
def rU (g:Int->V):V->Hp->VK->Prop:=fun x H Q=>∃ i,x=.int i/\Q (g i) H
section
variable {X:Cx} {a b:Expr} {ta tb:TE} {pos:Pos}
theorem wV (ha:PE X a ta) (hb:PE X b tb) {pins:List (xO×Obj)} {s:xH} {Z:St} {H:Hp} {R:V->V->Hp->Prop} (I:Inv X pins Z H s)
   (h:ta Z H fun x H1=>tb Z H1 fun y H2=>R x y H2) {Q:xF->xH->Prop} {f:xF->xF->Sem xF}
   (hf:∀ v u s2 x y H2,Inv X pins Z H2 s2->RelV x v->RelV y u->R x y H2->wpAny (yC X.prog X.w) X.A (f v u) Q X.xe s2) :
   wpAny (yC X.prog X.w) X.A (eval a X.env) (fun v s₁=>wpAny (yC X.prog X.w) X.A (eval b X.env) (fun u s₂=>wpAny (yC X.prog X.w) X.A (f v u) Q X.xe s₂) X.xe s₁) X.xe s:=by
 refine thn (ha pins s Z H _ I h) fun v s1 hZ2=>?_;obtain ⟨x,H1,I1,r1,q1⟩:=hZ2;refine thn (hb pins s1 Z H1 _ I1 q1) fun u s2 hZ2=>?_;obtain ⟨y,H2,I2,r2,q2⟩:=hZ2;exact hf v u s2 x y H2 I2 r1 r2 q2
theorem pe_op {op:Operator} {r:R2} (ho:OpR X (EX op) r) (ha:PE X a ta) (hb:PE X b tb):PE X (.BinOp a op b pos) (tOp r ta tb):=by
 intro pins s Z H Q I h;exact wpAny_BinOp (wV ha hb I h fun v u s2 x y H2 I2 rx ry q=>ho pins s2 Z H2 x y v u Q I2 rx ry q)
theorem pe_un {op:UnaryOp} {r:V->Hp->VK->Prop} (ho:UnR X (unaryOp op) r) (ha:PE X a ta):PE X (.UnaryOp op a pos) (tUn r ta):=by
 intro pins s Z H Q I h;exact UnaryOp_ (thn (ha pins s Z H _ I h) fun v s1 hZ2=>by obtain ⟨x,H1,I1,r1,q1⟩:=hZ2; exact ho pins s1 Z H1 x v Q I1 r1 q1)
theorem opI {f:xF->xF->Sem xF} {C:Int->Int->Prop} {g:Int->Int->Int}
   (rule:∀ (i j:Int) (t u:Tok) (s:xH) (Q:xF->xH->Prop) (E:xF->xH->Prop),C i j->Q (.int (g i j) s.toks) { s with toks:=s.toks+1 }->wpAny (yC X.prog X.w) X.A (f (.int i t) (.int j u)) Q E s) :
   OpR X f (rI C fun i j=>.int (g i j)):=by
 intro pins s Z H x y v u Q I rx ry h;obtain ⟨i,j,rfl,rfl,hc,q⟩:=h;obtain ⟨t,rfl⟩:=rx;obtain ⟨t',rfl⟩:=ry;exact rule i j t t' s _ _ hc ⟨.int (g i j),H,I.tok _,⟨_,rfl⟩,q⟩
theorem opI0 {f:xF->xF->Sem xF} {g:Int->Int->Int}
   (rule:∀ (i j:Int) (t u:Tok) (s:xH) (Q:xF->xH->Prop) (E:xF->xH->Prop),Q (.int (g i j) s.toks) { s with toks:=s.toks+1 }->wpAny (yC X.prog X.w) X.A (f (.int i t) (.int j u)) Q E s) :
   OpR X f (rI0 fun i j=>.int (g i j)):=by
 intro pins s Z H x y v u Q I rx ry h;obtain ⟨i,j,rfl,rfl,q⟩:=h;obtain ⟨t,rfl⟩:=rx;obtain ⟨t',rfl⟩:=ry;exact rule i j t t' s _ _ ⟨.int (g i j),H,I.tok _,⟨_,rfl⟩,q⟩
def CDiv (i j:Int):Prop:=0 < j/\j < 1073741824
def CMul (i j:Int):Prop:=(-(2 ^ 64) < i/\i < 2 ^ 64)\/(-(2 ^ 64) < j/\j < 2 ^ 64)
theorem CMul.ok {i j:Int} (h:CMul i j):IntMulOk i j:=by
 rcases h with ⟨h1,h2⟩ | ⟨h1,h2⟩
 . exact .of_left (intBits_le_64 h1 h2)
 . exact .of_right (intBits_le_64 h1 h2)
theorem vB:OpR X (EX .Sub) (rI0 fun i j=>.int (i - j)):=opI0 fun _ _ _ _ _ _ _ q=>sub_int q
theorem pK:OpR X (EX .FloorDiv) (rI CDiv fun i j=>.int (i / j)):=opI fun i j _ _ _ _ _ hc q=>by
 have h1:(0:Int) < j:=hc.1;have h2:j < 1073741824:=hc.2;exact floordiv_int (by lia) (by rw [Int.fdiv_eq_ediv_of_nonneg i (by lia)]; exact q) (.inl (PyProof.noPylong_small (by lia)))
theorem vD:OpR X (EX .Mod) (rI (fun _ j=>0 < j) fun i j=>.int (i % j)):=opI fun i j _ _ _ _ _ hc q=>by
 have h1:(0:Int) < j:=hc;exact mod_int' (by lia) (by rw [Int.fmod_eq_emod_of_nonneg i (by lia)]; exact q)
theorem unI {f:xF->Sem xF} {g:Int->Int}
   (rule:∀ (i:Int) (t:Tok) (s:xH) (Q:xF->xH->Prop) (E:xF->xH->Prop),Q (.int (g i) s.toks) { s with toks:=s.toks+1 }->wpAny (yC X.prog X.w) X.A (f (.int i t)) Q E s) :
   UnR X f (rU fun i=>.int (g i)):=by
 intro pins s Z H x v Q I rx h;obtain ⟨i,rfl,q⟩:=h;obtain ⟨t,rfl⟩:=rx;exact rule i t s _ _ ⟨.int (g i),H,I.tok _,⟨_,rfl⟩,q⟩
theorem tG:UnR X (unaryOp .USub) (rU fun i=>.int (-i)):=unI fun _ _ _ _ _ q=>neg_int q
end
section
variable {X:Cx} {a b c:Expr} {ta tb tc:TE} {pos:Pos}
theorem Dl (b:Expr) {op:m9} (h:op≠.In:=by decide) (h2:op≠.NotIn:=by decide):behindInMarks op b=false:=by
 have e1:(op==CmpOp.In)=false:=by cases op <;> first | rfl | exact absurd rfl h
 have e2:(op==CmpOp.NotIn)=false:=by cases op <;> first | rfl | exact absurd rfl h2
 cases b <;> simp [behindInMarks,e1,e2]
theorem pF {op:m9} {r:R2} (ho:OpR X (c9 op) r) (ha:PE X a ta) (hb:PE X b tb) (hm:behindInMarks op b=false):PE X (.Compare a [op] [b] pos) (tOp r ta tb):=by
 intro pins s Z H Q I h;exact wpAny_Compare1 (wV ha hb I h fun v u s2 x y H2 I2 rx ry q=>ho pins s2 Z H2 x y v u Q I2 rx ry q) hm
def sA (t:TE):TT:=fun Z H Q=>t Z H fun x H'=>∃ k,x=.bl k/\Q k H'
theorem oX {op:m9} {r:R2} (ho:OpR X (c9 op) r) (ha:PE X a ta) (hb:PE X b tb) (hm:behindInMarks op b=false):PT X (.Compare a [op] [b] pos) (sA (tOp r ta tb)):=by
 intro pins s Z H Q I h;refine wpAny_isTrue_Compare1 (thn (ha pins s Z H _ I h) fun v s1 hY8=>?_) hm;obtain ⟨x,H1,I1,r1,q1⟩:=hY8;refine thn (hb pins s1 Z H1 _ I1 q1) fun u s2 hY9=>?_;obtain ⟨y,H2,I2,r2,q2⟩:=hY9;refine thn (ho pins s2 Z H2 x y v u _ I2 r1 r2 q2) fun c s3 hY10=>?_;obtain ⟨z,H3,I3,r3,k,e,q3⟩:=hY10;subst e;cases r3;exact n6 ⟨H3,I3,q3⟩
def tV (r r':R2) (ta tb tc:TE):TE:=fun Z H Q=>ta Z H fun x H1=>tb Z H1 fun y H2=>r x y H2 fun z H3=>∃ k,z=.bl k /\
 (if k=true then tc Z H3 fun w' H4=>r' y w' H4 Q else Q (.bl false) H3)
theorem Xm {op op':m9} {r r':R2} (ho:OpR X (c9 op) r) (ho':OpR X (c9 op') r') (ha:PE X a ta) (hb:PE X b tb) (hc:PE X c tc)
   (hm:lastMarks [op,op'] [b,c]=false:=by with_unfolding_all rfl):PT X (.Compare a [op,op'] [b,c] pos) (sA (tV r r' ta tb tc)):=by
 intro pins s Z H Q I h;refine isTrue_chain (thn (ha pins s Z H _ I h) fun v s1 hY14=>?_) hm;obtain ⟨x,H1,I1,r1,q1⟩:=hY14;refine test_link (thn (hb pins s1 Z H1 _ I1 q1) fun u s2 hY15=>?_);obtain ⟨y,H2,I2,r2,q2⟩:=hY15;refine thn (ho pins s2 Z H2 x y v u _ I2 r1 r2 q2) fun d s3 hY16=>?_;obtain ⟨z,H3,I3,r3,k,e,q3⟩:=hY16;subst e;cases r3;refine n6 ?_;cases k with
 | false =>
   obtain ⟨k',e',q'⟩:=q3;cases e'; exact ite_ff ⟨H3,I3,q'⟩
 | true =>
   refine ite_tt (test_last (thn (hc pins s3 Z H3 _ I3 q3) fun w' s4 hY17=>?_));obtain ⟨z',H4,I4,r4,q4⟩:=hY17; refine thn (ho' pins s4 Z H4 y z' u w' _ I4 r2 r4 q4) fun d' s5 hZ2=>?_;obtain ⟨z2,H5,I5,r5,k2,e2,q5⟩:=hZ2; subst e2; cases r5; exact n6 ⟨H5,I5,q5⟩
def wX (K:xI) (x:V) (H:Hp) (k:Bool):Prop :=
 match x with
 | .non=>k=false
 | .bl b=>k=b
 | .int i=>k=(i != 0)
 | .str y=>y.length<=sizeLine/\k=((y.length:Int) != 0)
 | .byt y=>y.size<=sizeLine/\k=((y.size:Int) != 0)
 | .ref p=>(∃ xs,SqL K H p xs/\k = !xs.isEmpty)\/(∃ xs,SqT K H p xs/\k = !xs.isEmpty)\/∃ kvs,H p=some (.dK kvs)/\k = !kvs.isEmpty
 | _=>False
theorem aT {κ:Type} {kvs:List (κ×V)} {vs:List (κ×xF)} (r:KV kvs vs):(!vs.isEmpty) = !kvs.isEmpty:=by
 cases r <;> rfl
theorem Ox {xs:List V} {its:List xF} (r:Vals xs its):(!its.toArray.isEmpty) = !xs.isEmpty:=by
 cases r <;> simp
theorem Dq:(sizeLine:Nat) < 2 ^ 63:=by rw [u5]; decide
theorem tJ:TruR X (fun x H Q=>∃ k,wX X.K x H k/\Q k H):=by
 intro pins s Z H x v Q I rx h;obtain ⟨k,e,q⟩:=h;have hl:=Dq;have hs:sizeLine=16777216:=u5;cases x with
 | non =>
   cases rx; have e':k=false:=e; subst e'; exact truthy_none ⟨H,I,q⟩
 | bl b =>
   cases rx; have e':k=b:=e; subst e'; exact n6 ⟨H,I,q⟩
 | int i =>
   obtain ⟨t,rfl⟩:=rx; have e':k=(i != 0):=e; subst e'; exact PySem.P.truthy_int ⟨H,I,q⟩
 | str y =>
   obtain ⟨t,rfl⟩:=rx; obtain ⟨hy,e'⟩:y.length<=sizeLine/\k=((y.length:Int) != 0):=e; subst e'; exact PySem.P.truthy_str (by lia) ⟨H,I.tok _,q⟩
 | byt y =>
   obtain ⟨t,rfl⟩:=rx; obtain ⟨hy,e'⟩:y.size<=sizeLine/\k=((y.size:Int) != 0):=e; subst e'; exact PySem.W.truthy_bytes (by lia) ⟨H,I.tok _,q⟩
 | ref p =>
   cases rx; have e':(∃ xs,SqL X.K H p xs/\k = !xs.isEmpty)\/(∃ xs,SqT X.K H p xs/\k = !xs.isEmpty)\/∃ kvs,H p=some (.dK kvs)/\k = !kvs.isEmpty:=e; rcases e' with ⟨xs,hx,e'⟩ | ⟨xs,hx,e'⟩ | ⟨kvs,hx,e'⟩
   . subst e'
     obtain ⟨its,r,pl,hz⟩:=I.list hx; have hlen:=r.length; exact wpAny_truthy_list pl.isList (by simp only [xW]; lia) ⟨H,I.tok _,by rw [Ox r]; exact q⟩
   . subst e'
     obtain ⟨its,r,pl,hz⟩:=I.tuple hx; have hlen:=r.length; exact truthy_tuple pl (by simp only [xW]; lia) ⟨H,I.tok _,by rw [Ox r]; exact q⟩
   . subst e'
     obtain ⟨hz,hS,vs,r,m⟩:kvs.length<=sizeLine/\(p==p9)=false/\∃ vs,KV kvs vs/\s.heap.DictOf (Up X.prog X.w) p vs:=I.hok p _ hx; have hlen:kvs.length=vs.length:=Paired.length r; exact wpAny_truthy_dict hS m (by lia) ⟨H,I.tok _,by rw [aT r]; exact q⟩
 | _=>exact (show False from e).elim
theorem Xl (ha:PE X a ta) (he:∀ whole,isTrue a X.env whole=(do let v <- whole; standAt a.pos; holding [v] (truthy v))) :
   PT X a (fun Z H Q=>ta Z H fun x H'=>∃ k,wX X.K x H' k/\Q k H'):=by
 intro pins s Z H Q I h;exact isTrue_plain (thn (ha pins s Z H _ I h) fun v s1 hZ2=>by obtain ⟨x,H1,I1,r1,q1⟩:=hZ2; exact tJ pins s1 Z H1 x v Q I1 r1 q1) (he _)
theorem Mm {x:V} {us:List xF} (r:Vals [x] us):∃ u,us=[u]/\RelV x u:=by
 cases r with
 | cons r1 r2=>cases r2; exact ⟨_,rfl,r1⟩
theorem rZ {x y:V} {us:List xF} (r:Vals [x,y] us):∃ u w',us=[u,w']/\RelV x u/\RelV y w':=by
 cases r with
 | cons r1 r2 =>
   cases r2 with
   | cons r3 r4=>cases r4; exact ⟨_,_,rfl,r1,r3⟩
theorem hE (hc:X.calm=true):U7 X (.builtin "max") (fun xs H Q=>∃ i j,xs=[.int i,.int j]/\Q (.int (if j>i then j else i)) H):=by
 intro pins s Z H xs us Q I r h;obtain ⟨i,j,rfl,q⟩:=h;obtain ⟨u,w',rfl,⟨t,rfl⟩,⟨t',rfl⟩⟩:=rZ r;refine max_two_ints (I.ok.hd hc) fun h' tk k=>⟨_,H,I.kept k,?_,q⟩;by_cases hj:j>i
 . rw [if_pos hj,if_pos hj]; exact ⟨_,rfl⟩
 . rw [if_neg hj,if_neg hj]; exact ⟨_,rfl⟩
theorem gZ (hc:X.calm=true):U7 X (.builtin "min") (fun xs H Q=>∃ i j,xs=[.int i,.int j]/\Q (.int (if j < i then j else i)) H):=by
 intro pins s Z H xs us Q I r h;obtain ⟨i,j,rfl,q⟩:=h;obtain ⟨u,w',rfl,⟨t,rfl⟩,⟨t',rfl⟩⟩:=rZ r;refine min_two_ints (I.ok.hd hc) fun h' tk k=>⟨_,H,I.kept k,?_,q⟩;by_cases hj:j < i
 . rw [if_pos hj,if_pos hj]; exact ⟨_,rfl⟩
 . rw [if_neg hj,if_neg hj]; exact ⟨_,rfl⟩
theorem Tc:U7 X (.type "int") (fun xs H Q=>(∃ i,xs=[.int i]/\Q (.int i) H)\/∃ k,xs=[.bl k]/\Q (.int (if k then 1 else 0)) H):=by
 intro pins s Z H xs us Q I r h;rcases h with ⟨i,rfl,q⟩ | ⟨k,rfl,q⟩
 . obtain ⟨u,rfl,t,rfl⟩:=Mm r
   exact call_int_int ⟨.int i,H,I,⟨_,rfl⟩,q⟩
 . obtain ⟨u,rfl,r1⟩:=Mm r
   cases r1; exact call_int_bool ⟨.int (if k then 1 else 0),H,I.tok _,⟨_,rfl⟩,q⟩
def LenV (K:xI) (x:V) (H:Hp) (n:Nat):Prop :=
 match x with
 | .str y=>y.length<=sizeLine/\n=y.length
 | .byt y=>y.size<=sizeLine/\n=y.size
 | .ref p=>(∃ xs,SqL K H p xs/\n=xs.length)\/∃ xs,SqT K H p xs/\n=xs.length
 | _=>False
theorem Pi:U7 X (.builtin "len") (fun xs H Q=>∃ x n,xs=[x]/\LenV X.K x H n/\Q (.int n) H):=by
 intro pins s Z H xs us Q I r h;obtain ⟨x,n,rfl,e,q⟩:=h;obtain ⟨u,rfl,rx⟩:=Mm r;have hl:=Dq;have hs:sizeLine=16777216:=u5;cases x with
 | str y =>
   obtain ⟨t,rfl⟩:=rx; obtain ⟨hy,e'⟩:y.length<=sizeLine/\n=y.length:=e; subst e'; exact len_str (by lia) ⟨.int _,H,I.tok _,⟨_,rfl⟩,q⟩
 | byt y =>
   obtain ⟨t,rfl⟩:=rx; obtain ⟨hy,e'⟩:y.size<=sizeLine/\n=y.size:=e; subst e'; exact PySem.W.len_bytes (by lia) ⟨.int _,H,I.tok _,⟨_,rfl⟩,q⟩
 | ref p =>
   cases rx; have e':(∃ xs,SqL X.K H p xs/\n=xs.length)\/∃ xs,SqT X.K H p xs/\n=xs.length:=e; rcases e' with ⟨xs,hx,e'⟩ | ⟨xs,hx,e'⟩
   . subst e'
     obtain ⟨its,r',pl,hz⟩:=I.list hx; have hlen:=r'.length; exact Calls.call_len_list pl.isList (by simp only [xW]; lia) ⟨.int xs.length,H,I.tok _,⟨_,by simp only [xW]; rw [hlen]⟩,q⟩
   . subst e'
     obtain ⟨its,r',pl,hz⟩:=I.tuple hx; have hlen:=r'.length; exact len_tuple pl (by simp only [xW]; lia) ⟨.int xs.length,H,I.tok _,⟨_,by simp only [xW]; rw [hlen]⟩,q⟩
 | _=>exact (show False from e).elim
end
end L2
namespace L2
open PySem PySem.Spec PyProof.Rows
end L2
namespace L2
open PySem PySem.Spec PyProof.Rows
structure Room (k:Nat) (A:zL):Prop where
 hd:A.handled=none
 dp:A.depth+3*k+5 < recursionLimit
 un:A.units+16*k+200 < m8
 gd:A.guards=some []
theorem Room.mono {j k:Nat} {A:zL} (r:Room k A) (h:j<=k):Room j A:=⟨r.hd,by have:=r.dp; lia,by have:=r.un; lia,r.gd⟩
theorem Room.deeper {k:Nat} {A:zL} (r:Room (k+1) A) (env:Env):Room k (A.deeper env) :=
 ⟨r.hd,by have:=r.dp; show A.depth+1+3*k+5 < _; lia,by have:=r.un; show A.units+3+16*k+200 < _; lia,r.gd⟩
theorem Room.depth {k:Nat} {A:zL} (r:Room k A):A.depth < recursionLimit:=by have:=r.dp; lia
theorem Room.units {k:Nat} {A:zL} (r:Room k A):A.units+64 < m8:=by have:=r.un; lia
def tNil:TA:=fun _ H Q=>Q [] H
def tCons (ta:TE) (tr:TA):TA:=fun Z H Q=>ta Z H fun x H1=>tr Z H1 fun xs H2=>Q (x::xs) H2
section
variable {X:Cx} {e:Expr} {es:List Expr} {te:TE} {t:TA} {pos:Pos}
theorem Y3:PA X [] tNil:=fun _ _ _ _ H Q I h=>GF ⟨[],H,I,.nil,h⟩
theorem P6 (ha:PE X e te) (hr:PA X es t) (hs:xR (e::es) X.env=(false,eval e X.env)::xR es X.env:=by rfl):PA X (e::es) (tCons te t):=by
 intro pos pins s Z H Q I h;rw [hs];show wpAny _ _ (spliced ((false,eval e X.env)::f9 pos (xR es X.env))) _ _ s;refine BD (thn (ha pins s Z H _ I h) fun u s1 hZ2=>?_);obtain ⟨x,H1,I1,r1,q1⟩:=hZ2;exact thn (hr pos pins s1 Z H1 _ I1 q1) fun us s2 hZ2=>by obtain ⟨xs,H2,I2,r2,q2⟩:=hZ2; exact ⟨x::xs,H2,I2,.cons r1 r2,q2⟩
def tTup (t:TA):TE:=fun Z H Q=>t Z H fun xs H1=>xs.length<=sizeLine/\∀ p,H1 p=none->Q (.ref p) (upd H1 p (.tup xs))
def tLst (t:TA):TE:=fun Z H Q=>t Z H fun xs H1=>xs.length<=sizeLine/\∀ p,H1 p=none->Q (.ref p) (upd H1 p (.lst xs))
theorem uS {x1} (h:PA X es t):PE X (.Tuple es x1 pos) (tTup t):=by
 intro pins s Z H Q I hq;refine wpAny_Tuple_spliced (thn (h pos pins s Z H _ I hq) fun us s1 hY22=>?_);obtain ⟨xs,H1,I1,r,z,q⟩:=hY22;refine ⟨by rw [<- r.length]; exact z,?_⟩;have hf:H1 s1.heap.objs.size=none:=I1.hok.fresh (xN _);refine ⟨.ref s1.heap.objs.size,upd H1 s1.heap.objs.size (.tup xs),I1.laid (t':=s1.toks) (fun b u e=>xK _ e) (xN _) ?_,rfl,q _ hf⟩;exact ⟨z,us,r,⟨_,xT _ rfl,rfl,_,rfl⟩⟩
theorem kL (h:PA X es t):PE X (.List es pos) (tLst t):=by
 intro pins s Z H Q I hq;refine wpAny_List_spliced (thn (h pos pins s Z H _ I hq) fun us s1 hY23=>?_);obtain ⟨xs,H1,I1,r,z,q⟩:=hY23;refine ⟨by rw [<- r.length]; exact z,?_⟩;have hf:H1 s1.heap.objs.size=none:=I1.hok.fresh (xN _);refine ⟨.ref s1.heap.objs.size,upd H1 s1.heap.objs.size (.lst xs),I1.laid (t':=s1.toks) (fun b u e=>xK _ e) (xN _) ?_,rfl,q _ hf⟩;exact ⟨z,us,0,r,xT _ rfl⟩
end
abbrev Sp:=List V->Hp->VK->XK->Prop
abbrev CXT:=List Env->Hp->xH->XK->xF->xH->Prop
structure Env0 (P:yI) (w:yR) (K:xI) (mg:Str->Option xF) (base:zJ) (A:zL) (outer:List Env) (s:xH) (H:Hp):Prop where
 frames:A.frames=some outer
 mod:Mod K mg base
 bs:∀ b o,base.get? b=some o->s.heap.get? b=some o/\H b=none
 bsz:base.objs.size<=s.heap.objs.size
 funs:s.heap.FunFrames base outer
 frf:∀ b∈frs outer,H b=none
 hok:HOk P w H s.heap
 bare:FI s.gens
def CE (outer:List Env) (P:yI) (w:yR) (H:Hp) (s:xH) (Q:VK) (u:xF) (s':xH):Prop :=
 ∃ v H',s'.os=s.os/\FI s'.gens/\Un (frs outer) [] H H' s.heap s'.heap/\HOk P w H' s'.heap/\RelV v u/\Q v H'
def CR (CX:CXT) (outer:List Env) (P:yI) (w:yR) (H:Hp) (s:xH) (Q:VK) (E:XK) (r:Result) (s':xH):Prop :=
 match r with
 | .ok (.ret u)=>CE outer P w H s Q u s'
 | .ok _=>False
 | .error e=>CX outer H s E e s'
structure FnOk (P:yI) (w:yR) (K:xI) (mg:Str->Option xF) (base:zJ) (CX:CXT) (k:Nat) (f:xO) (fd:CH) (ps:List Str) (sp:Sp):Prop where
 len:∀ vs H Q E,sp vs H Q E->vs.length=ps.length
 run:∀ (A:zL) (outer:List Env) (s:xH) (H:Hp) (args:Args) (us:List xF) (vs:List V) (Q:VK) (E:XK),Room k A->Env0 P w K mg base A outer s H->BindsTo s fd args (ps.zip us)->Vals vs us->sp vs H Q E ->
   DJ (yC P w) A (.call (.ref f) args) (CR CX outer P w H s Q E) s
section
variable {X:Cx} {pins:List (xO×Obj)} {Z:St} {H:Hp} {s s':xH}
theorem Inv.env0 (I:Inv X pins Z H s):Env0 X.prog X.w X.K X.mg X.base X.A X.stack s H :=
 ⟨I.ok.frames,I.ok.mod,I.bs,yA I.ok.bsz I.sz,I.stack,I.stkFree,I.hok,I.bare⟩
theorem Inv.after {Q:VK} {u:xF} (I:Inv X pins Z H s) (h:CE X.stack X.prog X.w H s Q u s'):EP X pins Z Q u s':=by
 obtain ⟨v,H',os,bare,un,hok,r,q⟩:=h;obtain ⟨hh,g,d,t,os'⟩:=s';obtain rfl:os'=s.os:=os;exact ⟨v,H',I.call (h':=hh) (g':=g) (d':=d) (t':=t) (ch:=[]) un hok bare (fun b z=>absurd z (by simp)),r,q⟩
end
def tCall (sp:Sp) (dvs:List V) (E:XK) (t:TA):TE:=fun Z H Q=>t Z H fun vs H1=>sp (vs++dvs) H1 Q E
def Binds (K:xI) (fd:CH) (ps:List Str) (ds:List xF):Prop :=
 ∀ (s:xH) (us:List xF),K.In s.heap->(us++ds).length=ps.length->BindsTo s fd ⟨us,[]⟩ (ps.zip (us++ds))
theorem Binds.all {K:xI} {fd:CH} {ps:List Str} (h:∀ us:List xF,us.length=ps.length->EW fd ⟨us,[]⟩=pure (ps.zip us)):Binds K fd ps []:=fun s us _ hl=>by
 rw [zN] at hl ⊢;exact .of_eq (h us hl)
def bS (CX:CXT) (X:Cx) (E:XK):Prop:=∀ (pins:List (xO×Obj)) (Z:St) (H:Hp) (s:xH) (e:xF) (s':xH),Inv X pins Z H s->CX X.stack H s E e s'->X.xe e s'
section
variable {X:Cx} {CX:CXT} {k:Nat} {f:xO} {fd:CH} {ps:List Str} {sp:Sp} {dvs:List V} {ds:List xF} {E:XK} {x:Str} {p pos:Pos} {e:Expr} {es:List Expr} {t:TA}
theorem uH {pins:List (xO×Obj)} {Z:St} {H:Hp} {s:xH} {Q:VK} {us:List xF} {vs:List V} (F:FnOk X.prog X.w X.K X.mg X.base CX k f fd ps sp) (hr:Room k X.A) (hb:Binds X.K fd ps ds) (hd:Vals dvs ds) (hx:bS CX X E)
   (I:Inv X pins Z H s) (r:Vals vs us) (h:sp (vs++dvs) H Q E):wpAny (yC X.prog X.w) X.A (call (.ref f) us) (EP X pins Z Q) X.xe s:=by
 have r2:Vals (vs++dvs) (us++ds):=r.append hd;have hl:(us++ds).length=ps.length:=by rw [<- r2.length]; exact F.len _ _ _ _ h
 refine wpAny_call (AZ (F.run X.A X.stack s H ⟨us,[]⟩ (us++ds) (vs++dvs) Q E hr I.env0 (hb s us I.kIn hl) r2 h) fun r s' hq=>?_);cases r with
 | error e=>exact hx pins Z H s e s' I hq
 | ok fl =>
   cases fl with
   | ret u=>exact I.after hq
   | next=>exact AH hq
   | brk=>exact AH hq
   | cont=>exact AH hq
theorem Mh (F:FnOk X.prog X.w X.K X.mg X.base CX k f fd ps sp) (hr:Room k X.A) (hg:Gl X x) (hm:X.mg x=some (.ref f)) (hk:i3 X.K (.ref f)=true) (hb:Binds X.K fd ps ds) (hd:Vals dvs ds) (hx:bS CX X E)
   (ha:PA X (e::es) t) (hdb:(x==("__debug__" : Str))=false:=by decide) (he:xR (e::es) X.env=(false,eval e X.env)::xR es X.env:=by rfl) (hpl:(f9 pos (xR es X.env)).any (·.1)=false:=by rfl) :
   PE X (.Call (.Name x p) (e::es) [] pos) (tCall sp dvs E t):=by
 intro pins s Z H Q I h;refine BT (cT I hg hm ?_ hdb);refine PySem.W.callWith_K (h₀:=X.base) I.ok.mod.kin hk (thn (ha pos pins s Z H _ I h) fun us s1 hY24=>?_) he hpl;obtain ⟨vs,H1,I1,r,q⟩:=hY24;refine ⟨I1.kIn,?_⟩;exact uH F hr hb hd hx I1 r q
end
structure FnScope (N P:List Str) (sc:Scope):Prop where
 kind:sc.kind=.function
 co:sc.isCoroutine=false
 gen:sc.isGenerator=false
 nd:N.Nodup
 pre:N.take P.length=P
 par:∀ x∈P,sc.names.lookup x=some .local\/sc.names.lookup x=some .cell
 nofree:∀ y∈sc.names,y.2≠.free
theorem Th {kindOf:Str->Option EB} {x:Str}:∀ {binds:List (Str×xF)} {m:Str->Option xF},(∀ v,(x,v)∉binds)->bindL kindOf binds m x=m x
 | [],_,_=>rfl
 | (n,v)::r,m,h=>by
   unfold bindL; rw [Th fun w hw=>h w (c6 _ hw)];split
   . have:x≠n:=by rintro rfl; exact h v zV
     simp [this]
   . rfl
theorem Tj {kindOf:Str->Option EB} {x:Str}:∀ {binds:List (Str×xF)} {m:Str->Option xF},(∀ v,(x,v)∉binds)->bindC kindOf binds m x=m x
 | [],_,_=>rfl
 | (n,v)::r,m,h=>by
   unfold bindC; rw [Tj fun w hw=>h w (c6 _ hw)];split
   . rfl
   . have:x≠n:=by rintro rfl; exact h v zV
     simp [this]
theorem Ti {kindOf:Str->Option EB} {x:Str} {v:xF}:∀ {P:List Str} {vs:List xF} {i:Nat} {m:Str->Option xF},P.Nodup->P[i]? = some x->vs[i]? = some v->kindOf x=some .local ->
   bindL kindOf (P.zip vs) m x=some v
 | [],_,_,_,_,h,_,_=>by simp at h
 | _::_,[],_,_,_,_,h,_=>by simp at h
 | p::P,w::vs,0,m,nd,h1,h2,hk=>by
   simp at h1 h2; subst h1; subst h2;show bindL kindOf ((p,w)::P.zip vs) m p=_;unfold bindL; rw [Th fun v hv=>(zS.mp nd).1 (GV hv).1,if_pos hk];simp
 | p::P,w::vs,i+1,m,nd,h1,h2,hk=>by
   show bindL kindOf ((p,w)::P.zip vs) m x=_;unfold bindL; exact Ti (i:=i) (zS.mp nd).2 (by simpa using h1) (by simpa using h2) hk
theorem Tk {kindOf:Str->Option EB} {x:Str} {v:xF}:∀ {P:List Str} {vs:List xF} {i:Nat} {m:Str->Option xF},P.Nodup->P[i]? = some x->vs[i]? = some v->kindOf x≠some .local ->
   bindC kindOf (P.zip vs) m x=some v
 | [],_,_,_,_,h,_,_=>by simp at h
 | _::_,[],_,_,_,_,h,_=>by simp at h
 | p::P,w::vs,0,m,nd,h1,h2,hk=>by
   simp at h1 h2; subst h1; subst h2;show bindC kindOf ((p,w)::P.zip vs) m p=_;unfold bindC; rw [Tj fun v hv=>(zS.mp nd).1 (GV hv).1,if_neg hk];simp
 | p::P,w::vs,i+1,m,nd,h1,h2,hk=>by
   show bindC kindOf ((p,w)::P.zip vs) m x=_;unfold bindC; exact Tk (i:=i) (zS.mp nd).2 (by simpa using h1) (by simpa using h2) hk
def Bf (N:List Str) (vs:List V):St:=vs.map some++yD (N.length - vs.length) none
def gX (CX:CXT) (P:yI) (w:yR) (K:xI) (mg:Str->Option xF) (base:zJ) (N:List Str) (qual:Str) (scope:Scope) (f:xO) (cd:xF) (A:zL) (outer:List Env) (s:xH) (H:Hp) (E:XK):Cx where
 prog:=P
 w:=w
 K:=K
 mg:=mg
 base:=base
 A:=A.deeper (GQ qual scope s.heap.objs.size f cd)
 N:=N
 s₀:=s
 H₀:=H
 env:=GQ qual scope s.heap.objs.size f cd
 outer:=outer
 stack:=GQ qual scope s.heap.objs.size f cd::outer
 ex:=[]
 calm:=true
 fn:=fun _=>true
 pn:=[]
 xe:=fun e s'=>wpAny (yC P w) (A.deeper (GQ qual scope s.heap.objs.size f cd)) (leaving (GQ qual scope s.heap.objs.size f cd) e) (fun _ s''=>CX outer H s E e s'') (fun e' s''=>CX outer H s E e' s'') s'
theorem Zd {sc:Scope} {n:Nat} {x:Str} (h:sc.names.lookup x=some .cell):∃ c,(cellsFrom n sc.names []).lookup x=some c:=by
 have q:=HY sc.names n [] (.inl h);exact Option.isSome_iff_exists.mp q
theorem gJ {CX:CXT} {P:yI} {w:yR} {K:xI} {mg:Str->Option xF} {base:zJ} {N ps:List Str} {qual:Str} {scope:Scope} {f:xO} {cd:xF} {A:zL} {outer:List Env} {s s1:xH} {H:Hp} {E:XK} {us:List xF} {vs:List V}
   (S:FnScope N ps scope) (hd:A.handled=none) (e0:Env0 P w K mg base A outer s H) (hl:vs.length=ps.length) (r:Vals vs us)
   (x:InCallC s s.heap.objs.size (bindL (GQ qual scope s.heap.objs.size f cd).kindOf (ps.zip us) fun _=>none) (cellsFrom (s.heap.objs.size+1) scope.names []) (bindC (GQ qual scope s.heap.objs.size f cd).kindOf (ps.zip us) fun _=>none) s1) :
   Inv (gX CX P w K mg base N qual scope f cd A outer s H E) [] (Bf N vs) H s1:=by
 have hpl:ps.length<=N.length:=by have:=congrArg BI S.pre; rw [CC] at this; lia
 obtain ⟨h1,tk,rfl,hk⟩:=x.done;have noA:∀ b:xO,b∉(gX CX P w K mg base N qual scope f cd A outer s H E).ex:=fun b z=>absurd (show b∈([]:List xO) from z) (by simp);refine ⟨⟨e0.mod,S.kind,rfl,rfl,xN _,fun y z c h1 h2=>?_,fun y hy=>?_,fun y c _ h=>?_,fun _=>hd,Around.frames_deeper e0.frames,.inr ⟨rfl,rfl⟩,fun b z=>absurd z (noA b),e0.bs,e0.bsz,fun b _ _=>noA b,fun b z=>absurd z (noA b),e0.funs,e0.frf⟩,
   rfl,e0.bare,Un.kept hk,⟨_,x.toInCall.ns,fun i y v h1 h2 h3=>?_⟩,fun y c h=>⟨_,x.cell y c h⟩,e0.hok.fresh (xN _),fun y c h=>?_,fun p hp=>absurd (show p∈([]:List (xO×Obj)) from hp) (by simp),e0.hok.kept hk,?_⟩
 . exact name_of_addr x.apart (t9 h1) (t9 h2)
 . have hy:scope.names.lookup y=some .cell\/scope.names.lookup y=some .free:=hy
   rcases hy with hy | hy
   . exact Zd hy
   . exact absurd rfl (S.nofree _ (t9 hy))
 . exact CQ (x.above y c (t9 h))
 . have hi : i < vs.length := by
     unfold Bf at h2;by_cases hi:i < vs.length
     . exact hi
     . rw [zF (by simpa using hi)] at h2
       rw [m7] at h2;split at h2 <;> cases h2
   have ha:vs[i]? = some v:=by
     unfold Bf at h2; rw [zC (by simpa using hi),yQ] at h2;cases e:vs[i]? with
     | none=>rw [e] at h2; cases h2
     | some a=>rw [e] at h2; cases h2; rfl
   obtain ⟨u,hu,rv⟩:=r.get ha; have hp:ps[i]? = some y:=by
     rw [<- S.pre,List.getElem?_take_of_lt (by lia)]; exact h1
   have ndP:ps.Nodup:=by rw [<- S.pre]; exact S.nd.sublist (GG _ _)
   refine ⟨u,rv,?_⟩; rcases S.par y (j9 hp) with k | k
   . exact .inl ⟨k,Ti ndP hp hu k⟩
   . obtain ⟨c,e⟩:=Zd (n:=s.heap.objs.size+1) k
     refine .inr ⟨.inl k,c,e,?_⟩; have q:=x.cell y c e; rw [Tk ndP hp hu (by show scope.names.lookup y≠_; rw [k]; decide)] at q;exact q
 . exact e0.hok.fresh (CQ (x.above y c (t9 h)))
 . unfold Bf
   show _=N.length;rw [yB,xJ,z7];lia
theorem fn_of {CX:CXT} {P:yI} {w:yR} {K:xI} {mg:Str->Option xF} {base:zJ} {k:Nat} {f:xO} {name qual:Str} {params:Arguments} {body:List w8} {scope:Scope} {dV kV doc pm cdv ct oc:xF} {an od:Option xO}
   {osl:Array (Option xF)} {N ps:List Str} {sp:Sp} (lk:K.lookup f=some ⟨oc,od,.func (zQ name qual params body scope dV kV doc pm an cdv ct),osl⟩) (hcd:o6 K cdv qual=true) (S:FnScope N ps scope)
   (len:∀ vs H Q E,sp vs H Q E->vs.length=ps.length)
   (hbody:∀ (A:zL) (outer:List Env) (s:xH) (H:Hp) (vs:List V) (Q:VK) (E:XK),Room k (A.deeper (GQ qual scope s.heap.objs.size f cdv))->sp vs H Q E ->
     ∃ t,PSs (gX CX P w K mg base N qual scope f cdv A outer s H E) body t/\t { nx:=fun _ H'=>Q .non H',rt:=Q } (Bf N vs) H) :
   FnOk P w K mg base CX (k+1) f (zQ name qual params body scope dV kV doc pm an cdv ct) ps sp:=by
 refine ⟨len,fun A outer s H args us vs Q E hr e0 hb r hsp=>?_⟩;have hl:=len _ _ _ _ hsp;have KX:K.In s.heap:=e0.mod.kin.keeps fun b o e=>(e0.bs b o e).1;have lim:s.heap.NoLimit:=e0.mod.nolimit.keeps fun b o e=>(e0.bs b o e).1;have hkind:∀ y∈ps.zip us,scope.names.lookup y.1=some .local\/(scope.names.lookup y.1=some .cell/\((cellsFrom (s.heap.objs.size+1) scope.names []).lookup y.1).isSome=true):=fun hZ0 hy=>by
   obtain ⟨n,v⟩:=hZ0; rcases S.par n (GV hy).1 with q | q
   . exact .inl q
   . exact .inr ⟨q,HY _ _ _ (.inl q)⟩
 refine codeAny_call_function hr.depth (KX _ _ lk) rfl S.co S.gen rfl (PySem.W.codeRec_of KX hcd) (hb _ _ _ _ ?_);refine wpAny_newFunctionEnv_cells S.kind hkind fun env he s1 x=>?_;subst he;refine ⟨lim.keeps x.toInCall.keep,codeAny_func ?_⟩;obtain ⟨t,ht,hq⟩:=hbody A outer s H vs Q E (hr.deeper _) hsp;have I:Inv (gX CX P w K mg base N qual scope f cdv A outer s H E) [] (Bf N vs) H s1:=gJ S hr.hd e0 hl r x;refine e8 (ht [] s1 (Bf N vs) H _ I hq) (fun fl s' hs=>?_) fun e s' hs=>hs;have fin:∀ {Z':St} {H':Hp} {v:V} {u:xF},Inv (gX CX P w K mg base N qual scope f cdv A outer s H E) [] Z' H' s'->RelV v u->Q v H'->CE outer P w H s Q u s' :=
   fun {Z' H' v u} J rv q=>⟨v,H',J.os,J.bare,J.base,J.hok,rv,q⟩
 cases fl with
 | ret u =>
   obtain ⟨v,Z',H',J,rv,q⟩:=hs; exact fin J rv q
 | next =>
   obtain ⟨Z',H',J,q⟩:=hs; exact fin (v:=V.non) (u:=j5) J rfl q
 | brk =>
   obtain ⟨_,_,_,q⟩:=hs; exact AH q
 | cont =>
   obtain ⟨_,_,_,q⟩:=hs; exact AH q
end L2
namespace L2
open PySem PySem.Spec PyProof.Rows
section
variable {X:Cx} {x:Str} {p pos:Pos} {e:Expr} {es:List Expr} {t:TA} {id T:String} {r:List V->Hp->VK->Prop}
def tCB (r:List V->Hp->VK->Prop) (t:TA):TE:=fun Z H Q=>t Z H fun vs H1=>r vs H1 Q
theorem Os (hc:U7 X (.builtin id) r) (hg:Gl X x) (hm:X.mg x=none) (hv:BA x=some (.builtin id)) (ha:PA X (e::es) t) (hn:x ≠ "__name__" := by decide) (hdb:(x==("__debug__" : Str))=false:=by decide)
   (he:xR (e::es) X.env=(false,eval e X.env)::xR es X.env:=by rfl) (hpl:(f9 pos (xR es X.env)).any (·.1)=false:=by rfl):PE X (.Call (.Name x p) (e::es) [] pos) (tCB r t):=by
 intro pins s Z H Q I h;refine BT (Ow I hg hm hv ?_ hn hdb);exact PyProof.Rows.callWith_builtin1 (thn (ha pos pins s Z H _ I h) fun us s1 hZ2=>by obtain ⟨vs,H1,I1,r1,q1⟩:=hZ2; exact hc pins s1 Z H1 vs us Q I1 r1 q1) he hpl
theorem Se (hc:U7 X (.type T) r) (hg:Gl X x) (hm:X.mg x=none) (hv:BA x=some (.type T)) (ha:PA X (e::es) t) (hn:x ≠ "__name__" := by decide) (hdb:(x==("__debug__" : Str))=false:=by decide)
   (he:xR (e::es) X.env=(false,eval e X.env)::xR es X.env:=by rfl) (hpl:(f9 pos (xR es X.env)).any (·.1)=false:=by rfl):PE X (.Call (.Name x p) (e::es) [] pos) (tCB r t):=by
 intro pins s Z H Q I h;refine BT (Ow I hg hm hv ?_ hn hdb);exact x3 (thn (ha pos pins s Z H _ I h) fun us s1 hZ2=>by obtain ⟨vs,H1,I1,r1,q1⟩:=hZ2; exact hc pins s1 Z H1 vs us Q I1 r1 q1) he hpl
end
end L2
namespace HT
open PySem PyProof.Rows
section
variable {prog:yI} {w:yR} {A:zL} {E:xF->xH->Prop} {s:xH}
theorem cat_tup {t b:xO} {vs ws:List xF} {Q:xF->xH->Prop} (ht:FP s.heap t vs.toArray) (hb:FP s.heap b ws.toArray) (hv:vs≠[])
   (h1:ws=[]->Q (.ref t) s) (h2:ws≠[]->Q (.ref s.heap.objs.size) { s with heap:=s.heap.push { cls:=.type "tuple",data:=.seq (vs++ws).toArray } })
   (hsz:vs.length+ws.length<=sizeLine):wpAny (yC prog w) A (EX .Add (.ref t) (.ref b)) Q E s:=by
 obtain ⟨⟨cls,dd,data,sl⟩,ho,hc,n,hd⟩:=id ht;obtain ⟨⟨cls2,dd2,data2,sl2⟩,ho2,hc2,n2,hd2⟩:=id hb;simp only at hc hd hc2 hd2;subst hc hd hc2 hd2;have e:vs.toArray++ws.toArray=(vs++ws).toArray:=by simp
 by_cases hw:ws=[]
 . exact concat_meets ⟨_, ho, rfl⟩ ⟨_, ho2, rfl⟩ HV seq_tuple_add EA DK (CZ _ _)
     (tuple_addW1 t b vs.toArray ws.toArray n n2 dd dd2 sl sl2 (by simpa using hv) (by simp [hw])) ⟨ho,ho2,h1 hw⟩
 . refine concat_meets ⟨_, ho, rfl⟩ ⟨_, ho2, rfl⟩ HV seq_tuple_add EA DK (CZ _ _)
     (tuple_addW2 t b vs.toArray ws.toArray n n2 dd dd2 sl sl2 (by simpa using hv) (by simpa using hw) (by rw [xW,xW]; exact hsz)) ⟨ho,ho2,?_⟩
   rw [e]; exact h2 hw
def sIx (n d:Nat):Option Int->Nat
 | none=>d
 | some v=>if v < 0 then (v+(n:Int)).toNat else min v.toNat n
theorem uD (n d:Nat) (hd:d<=n) (o:Option Int):sIx n d o<=n:=by
 cases o with
 | none=>exact hd
 | some v =>
   show (if v < 0 then (v+(n:Int)).toNat else min v.toNat n)<=n;by_cases hv:v < 0
   . rw [if_pos hv]; lia
   . rw [if_neg hv]; exact p0 _ _
theorem dI (v:Int) (n d:Nat):(if v < 0 then max (v+(n:Int)) 0 else min v (n:Int))=((sIx n d (some v):Nat):Int):=by
 show (if v < 0 then max (v+(n:Int)) 0 else min v (n:Int))=(((if v < 0 then (v+(n:Int)).toNat else min v.toNat n):Nat):Int);by_cases hv:v < 0
 . simp only [if_pos hv]; lia
 . simp only [if_neg hv]; lia
theorem bR (lo hi:Option Int) (n:Nat):CI lo hi 1 (n:Int)=(((sIx n 0 lo:Nat):Int),((sIx n n hi:Nat):Int)):=by
 have h1:¬ ((1:Int) < 0):=by lia
 unfold CI;simp only [h1,if_false];refine Prod.ext ?_ ?_
 . cases lo with
   | none=>rfl
   | some v=>exact dI v n 0
 . cases hi with
   | none=>rfl
   | some v=>exact dI v n n
theorem aI (i j:Nat):y9 (i:Int) (j:Int) 1=j - i:=by
 unfold y9;have h1:(1:Int)>0:=by lia
 simp only [h1,if_true,Int.ediv_one];split <;> lia
theorem Nu {v:xF} {o:Option Int} {Q:Option Int->xH->Prop} (p:FH v o) (h:Q o s):wpAny (yC prog w) A (Builtin.Slice.slicePartIndex v) Q E s:=by
 cases p with
 | none=>exact slicePart_none h
 | int i t=>exact slicePart_int h
theorem sliceApplied_gen {sl:xO} {vl vu:xF} {lo hi:Option Int} {n:Nat} {Q:Int×Int×Nat->xH->Prop} (hs:s.heap.IsSliceOf sl vl vu .none) (pl:FH vl lo) (pu:FH vu hi)
   (h:Q (((sIx n 0 lo:Nat):Int),1,sIx n n hi - sIx n 0 lo) s):wpAny (yC prog w) A (FW (.ref sl) (pure (n:Int))) Q E s:=by
 obtain ⟨os,hos,hcs,hds⟩:=id hs;unfold FW Builtin.Slice.sliceFields;refine xD (xD (BV hos hds (x:=vl) rfl (xD (BV hos hds (x:=vu) rfl (xD (BV hos hds (x:=.none) rfl (xE ?_)))))));refine xD (slicePart_none ?_);show wpAny _ _ (if ((1:Int)==0)=true then _ else _) _ _ s;rw [if_neg (by decide)];refine xD (Nu pl (xD (Nu pu (xD (xE ?_)))));show wpAny _ _ (match CI lo hi 1 (n:Int) with | (lo,hi)=>pure (lo,(1:Int),y9 lo hi 1)) _ _ s
 rw [bR lo hi n];show wpAny _ _ (pure (((sIx n 0 lo:Nat):Int),(1:Int),y9 ((sIx n 0 lo:Nat):Int) ((sIx n n hi:Nat):Int) 1)) _ _ s;rw [aI];exact xE h
theorem kH (xs:Array xF) (i k:Nat):((c8 k).filterMap fun (m:Nat)=>xs[((i:Int)+(m:Int)*1).toNat]?).toArray=((xs.toList.drop i).take k).toArray:=by
 have e:(fun (m:Nat)=>xs[((i:Int)+(m:Int)*1).toNat]?)=fun m=>xs[i+m]? := by
   funext m
   have:((i:Int)+(m:Int)*1).toNat=i+m:=by lia
   rw [this]
 rw [e];have:=pick_run xs i k;rw [List.filterMap_map] at this;have e2:((fun x=>xs[x]?)∘fun x=>i+x)=fun m=>xs[i+m]? := rfl;rw [e2] at this;rw [this]
theorem getItem_tuple_cut {t sl:xO} {items:Array xF} {vl vu:xF} {lo hi:Option Int} {Q:xF->xH->Prop} (ht:FP s.heap t items) (hs:s.heap.IsSliceOf sl vl vu .none) (pl:FH vl lo) (pu:FH vu hi)
   (hw:¬ (sIx items.size 0 lo=0/\sIx items.size items.size hi=items.size))
   (h:Q (.ref s.heap.objs.size) { s with heap:=s.heap.push { cls:=.type "tuple",data:=.seq ((items.toList.drop (sIx items.size 0 lo)).take (sIx items.size items.size hi - sIx items.size 0 lo)).toArray } })
   (hsz:items.size<=sizeLine):wpAny (yC prog w) A (DH (.ref t) (.ref sl)) Q E s:=by
 have htake:sizeOk (.seq ((items.toList.drop (sIx items.size 0 lo)).take (sIx items.size items.size hi - sIx items.size 0 lo)).toArray):=by
   show ((items.toList.drop (sIx items.size 0 lo)).take (sIx items.size items.size hi - sIx items.size 0 lo)).toArray.size<=sizeLine;rw [xW,CC,EC,zG]; omega
 have hj:sIx items.size items.size hi<=items.size:=uD _ _ (xN _) hi;obtain ⟨os,hos,hcs,hds⟩:=id hs;have hTs:s.TypeIs (.ref sl) "slice" := ⟨os,hos,hcs⟩;unfold DH;try with_reducible refine zK ?_
 first | refine xD (xE ?_) | skip
 refine xD (EG ht.typeIs (by decide) ?_);refine xD (zI (name:=k8 "__getitem__") ht.typeIs k5
   (zD k5 ht.typeIs entry_tuple_getitem ?_ (args_tuple_getitem _ _)))
 show wpAny _ _ (BZ (.ref t)>>=_) _ _ s;refine xD (tupleItemsOf_ ht ?_);refine xD (FE hTs ?_);rw [if_pos (by decide)];refine xD (sliceApplied_gen hs pl pu ?_);have hno:¬ ((((sIx items.size 0 lo:Nat):Int)==0&&(1:Int)==1&&(sIx items.size items.size hi - sIx items.size 0 lo)==items.size)=true):=by
   intro q; rw [yE,yE] at q; have q1:((sIx items.size 0 lo:Nat):Int)=0:=j6 q.1.1; have q2:sIx items.size items.size hi - sIx items.size 0 lo=items.size:=j6 q.2; exact hw ⟨by omega,by omega⟩
 show wpAny _ _ (if (((sIx items.size 0 lo:Nat):Int)==0&&(1:Int)==1&&(sIx items.size items.size hi - sIx items.size 0 lo)==items.size)=true then _ else _) _ _ s;rw [if_neg hno,kH];first
   | exact xD (m:=AA _) (yZ (xE ⟨_,rfl,xE h⟩) htake)
   | exact xD (m:=AA _) (yZ (xD (xE (xE ⟨_,rfl,xE h⟩))) htake)
   | exact xD (xD (m:=AA _) (yZ (xE (xE ⟨_,rfl,xE h⟩)) htake))
   | exact xD (xD (m:=AA _) (yZ (xE ⟨_,rfl,xE h⟩) htake))
end
end HT
namespace L2
open PySem PySem.Spec PyProof.Rows
abbrev TO:=St->Hp->(Option Int->Hp->Prop)->Prop
def PO (X:Cx) (e:Option Expr) (t:TO):Prop :=
 ∀ (pins:List (xO×Obj)) (s:xH) (Z:St) (H:Hp) (Q:Option Int->Hp->Prop),Inv X pins Z H s->t Z H Q ->
   wpAny (yC X.prog X.w) X.A (evalPart e X.env) (fun u s'=>∃ o H',Inv X pins Z H' s'/\FH u o/\Q o H') X.xe s
def nV:TO:=fun _ H Q=>Q none H
def tPart (t:TE):TO:=fun Z H Q=>t Z H fun x H1=>∃ i,x=.int i/\Q (some i) H1
section
variable {X:Cx} {e:Expr} {te:TE} {lo hi:Option Expr} {tl th:TO} {pos p2:Pos}
theorem pA:PO X none nV:=by
 intro pins s Z H Q I h;rw [evalPart_none];exact xE ⟨none,H,I,.none,h⟩
theorem oZ (h:PE X e te):PO X (some e) (tPart te):=by
 intro pins s Z H Q I hw;rw [evalPart_some];refine thn (h pins s Z H _ I hw) fun u s1 hZ2=>?_;obtain ⟨x,H1,I1,r1,q1⟩:=hZ2;obtain ⟨i,rfl,q⟩:=q1;obtain ⟨t,rfl⟩:=r1;exact ⟨some i,H1,I1,.int i t,q⟩
def SlR (X:Cx) (r:V->Option Int->Option Int->Hp->VK->Prop):Prop :=
 ∀ (pins:List (xO×Obj)) (s:xH) (Z:St) (H:Hp) (x:V) (v vl vu:xF) (lo hi:Option Int) (sl:xO) (Q:VK),Inv X pins Z H s->RelV x v->s.heap.IsSliceOf sl vl vu .none->FH vl lo->FH vu hi->r x lo hi H Q ->
   ∃ T id,typeLookup (.type T) "__getitem__" = pure (some (.builtin id))/\s.TypeIs v T/\wpAny (yC X.prog X.w) X.A (DH v (.ref sl)) (EP X pins Z Q) X.xe s
def tSl (r:V->Option Int->Option Int->Hp->VK->Prop) (te:TE) (tl th:TO):TE:=fun Z H Q=>te Z H fun x H1=>tl Z H1 fun l H2=>th Z H2 fun u H3=>r x l u H3 Q
theorem Xo {r:V->Option Int->Option Int->Hp->VK->Prop} (hr:SlR X r) (he:PE X e te) (hl:PO X lo tl) (hu:PO X hi th):PE X (.Subscript e (.Slice lo hi none p2) pos) (tSl r te tl th):=by
 intro pins s Z H Q I h;refine Subscript_ (thn (he pins s Z H _ I h) fun v s1 hZ2=>?_);obtain ⟨x,H1,I1,r1,q1⟩:=hZ2;refine wpAny_Slice (thn (hl pins s1 Z H1 _ I1 q1) fun vl s2 hY32=>?_);obtain ⟨l,H2,I2,pl,q2⟩:=hY32;refine thn (hu pins s2 Z H2 _ I2 q2) fun vu s3 hZ2=>?_;obtain ⟨u,H3,I3,pu,q3⟩:=hZ2;rw [evalPart_none];refine xE ?_;have I4:Inv X pins Z H3 { s3 with heap:=s3.heap.push { cls:=.type "slice",data:=.fields #[vl,vu,.none] } }:=I3.kept (t':=s3.toks) fun b ob q=>xK _ q;obtain ⟨T,id,hT,ht,hg⟩:=hr pins { s3 with heap:=s3.heap.push { cls:=.type "slice",data:=.fields #[vl,vu,.none] } } Z H3 x v vl vu l u s3.heap.objs.size Q I4 r1 (Heap.IsSliceOf.new ..) pl pu q3
 show wpAny (yC X.prog X.w) X.A (subscriptTail e (.Slice lo hi none p2) v (.ref s3.heap.objs.size)) (EP X pins Z Q) X.xe { s3 with heap:=s3.heap.push { cls:=.type "slice",data:=.fields #[vl,vu,.none] } };exact tail_any (ops:=[.ref s3.heap.objs.size,v]) ht hT hg (by with_unfolding_all rfl)
def gY (xs:List V) (lo hi:Option Int):List V:=(xs.drop (HT.sIx xs.length 0 lo)).take (HT.sIx xs.length xs.length hi - HT.sIx xs.length 0 lo)
theorem Ex (xs:List V) (lo hi:Option Int):(gY xs lo hi).length<=xs.length:=by
 unfold gY;rw [CC,EC];lia
end
end L2
namespace L2
open PySem PySem.Spec PyProof.Rows
def ixN (n:Nat) (i:Int):Option Nat:=if 0<=i then (if i < n then some i.toNat else none) else if -(n:Int)<=i then some (i+n).toNat else none
def atI {α:Type} (xs:List α) (i:Int):Option α:=(ixN xs.length i).bind fun j=>xs[j]?
theorem cU {n:Nat} {i:Int} {j:Nat} (h:ixN n i=some j):seqIndex? i n=some j/\j < n /\ -(n:Int)<=i/\i < n:=by
 unfold ixN at h;by_cases h0:0<=i
 . rw [if_pos h0] at h
   by_cases h1:i < n
   . rw [if_pos h1] at h
     have e:i.toNat=j:=zH h; exact ⟨by rw [seqIndex_of h0 h1,e],by lia,by lia,h1⟩
   . rw [if_neg h1] at h; cases h
 . rw [if_neg h0] at h
   by_cases h1 : -(n:Int)<=i
   . rw [if_pos h1] at h
     have e:(i+n).toNat=j:=zH h; exact ⟨by rw [seqIndex_neg (by lia) h1,e],by lia,h1,by lia⟩
   . rw [if_neg h1] at h; cases h
theorem Mk {α:Type} {xs:List α} {i:Int} {v:α} (h:atI xs i=some v):∃ j,seqIndex? i xs.length=some j/\xs[j]? = some v/\j < xs.length /\ -(xs.length:Int)<=i/\i < xs.length:=by
 unfold atI at h;cases e:ixN xs.length i with
 | none=>rw [e] at h; cases h
 | some j =>
   rw [e] at h; obtain ⟨h1,h2,h3,h4⟩:=cU e; exact ⟨j,h1,h,h2,h3,h4⟩
def dW (b:Expr):Prop:=∀ o i,IE b false o i=operate [o,i] (DH o i)
def IxR (X:Cx) (r:R2):Prop :=
 ∀ (value slice:Expr) (pins:List (xO×Obj)) (s:xH) (Z:St) (H:Hp) (x y:V) (v u:xF) (Q:VK),Inv X pins Z H s->RelV x v->RelV y u->r x y H Q ->
   IE slice false v u=operate [v,u] (DH v u)->wpAny (yC X.prog X.w) X.A (subscriptTail value slice v u) (EP X pins Z Q) X.xe s
def MtR (X:Cx) (id:String) (r:V->List V->Hp->VK->Prop):Prop :=
 ∀ (pins:List (xO×Obj)) (s:xH) (Z:St) (H:Hp) (x:V) (xs:List V) (v:xF) (us:List xF) (Q:VK),Inv X pins Z H s->RelV x v->Vals xs us->r x xs H Q ->
   wpAny (yC X.prog X.w) X.A (call (.builtin id) (v::us)) (EP X pins Z Q) X.xe s
section
variable {X:Cx} {a b:Expr} {ta tb:TE} {pos:Pos}
theorem IxR.or {r r':R2} (h:IxR X r) (h':IxR X r'):IxR X (fun x y H Q=>r x y H Q\/r' x y H Q):=by
 intro value slice pins s Z H x y v u Q I rx ry q hs;rcases q with q | q
 . exact h value slice pins s Z H x y v u Q I rx ry q hs
 . exact h' value slice pins s Z H x y v u Q I rx ry q hs
theorem pe_ix {r:R2} (hr:IxR X r) (ha:PE X a ta) (hb:PE X b tb) (hs:dW b):PE X (.Subscript a b pos) (tOp r ta tb):=by
 intro pins s Z H Q I h;exact Subscript_ (wV ha hb I h fun v u s2 x y H2 I2 rx ry q=>hr a b pins s2 Z H2 x y v u Q I2 rx ry q (hs _ _))
def rIxL (K:xI):R2:=fun x y H Q=>∃ p xs i v,x=.ref p/\y=.int i/\SqL K H p xs/\atI xs i=some v/\Q v H
def rIxT (K:xI):R2:=fun x y H Q=>∃ p xs i v,x=.ref p/\y=.int i/\SqT K H p xs/\atI xs i=some v/\Q v H
def rIxS:R2:=fun x y H Q=>∃ z i c,x=.str z/\y=.int i/\z.length<=sizeLine/\atI z.cps.toList i=some c/\Q (.str ⟨#[c]⟩) H
theorem qF:IxR X (rIxL X.K):=by
 intro value slice pins s Z H x y v u Q I rx ry h hs;obtain ⟨p,xs,i,z,rfl,rfl,hq,he,q⟩:=h;cases rx;obtain ⟨t,rfl⟩:=ry;obtain ⟨its,r,pl,hz⟩:=I.list hq;obtain ⟨j,h1,h2,h3,h4,h5⟩:=Mk he;obtain ⟨w,ew,rw'⟩:=r.get h2;have hl:=r.length;have hn:=Dq;have fin:EP X pins Z Q w s:=⟨z,H,I,rw',q⟩;by_cases h0:0<=i
 . have hj : i.toNat = j := by
     rw [seqIndex_of h0 h5] at h1; exact zH h1
   exact item_listR pl.isList h0 (by lia) (by rw [hj]; simpa using ew) fin hs
 . have hj : (i + (its.toArray.size : Int)).toNat = j := by
     rw [seqIndex_neg (by lia) h4] at h1; rw [xW,<- hl]; exact zH h1
   exact subscriptTail_builtinR (x:=w) pl.isList.typeIs HB.lookup
     (wpAny_getItem_list_neg (Q:=fun r s'=>r=w/\EP X pins Z Q r s') pl.isList (by lia) (by rw [xW] <;> lia) (by lia) (by rw [hj]; simpa using ew) ⟨rfl,fin⟩) hs
theorem vV:IxR X (rIxT X.K):=by
 intro value slice pins s Z H x y v u Q I rx ry h hs;obtain ⟨p,xs,i,z,rfl,rfl,hq,he,q⟩:=h;cases rx;obtain ⟨t,rfl⟩:=ry;obtain ⟨its,r,pl,hz⟩:=I.tuple hq;obtain ⟨j,h1,h2,h3,h4,h5⟩:=Mk he;obtain ⟨w,ew,rw'⟩:=r.get h2;have hl:=r.length;have hn:=Dq;have fin:EP X pins Z Q w s:=⟨z,H,I,rw',q⟩;exact subscriptTail_builtinR (x:=w) pl.typeIs GP.lookup
   (getItem_tuple (j:=j) (Q:=fun r s'=>r=w/\EP X pins Z Q r s') pl (by lia) (by lia) (by rw [xW,<- hl]; exact h1) (by simpa using ew) ⟨rfl,fin⟩) hs
theorem vW:IxR X rIxS:=by
 intro value slice pins s Z H x y v u Q I rx ry h hs;obtain ⟨z,i,c,rfl,rfl,hz,he,q⟩:=h;obtain ⟨t,rfl⟩:=rx;obtain ⟨t',rfl⟩:=ry;obtain ⟨j,h1,h2,h3,h4,h5⟩:=Mk he;have hl:z.cps.toList.length=z.length:=by simp [Str.length]
 rw [hl] at h1 h4 h5;have hn:=Dq;exact tail_any (typeIs_str s z t) slot_str_getitem.lookup (getItem_str (c:=c) (by
   have e1:decide (i < -(2 ^ 63:Int))=false:=decide_eq_false (by lia);have e2:decide (i≥2 ^ 63)=false:=decide_eq_false (by lia);rw [e1,e2,DV]) (by rw [h1]; simpa using h2) ⟨.str ⟨#[c]⟩,H,I.tok _,⟨_,rfl⟩,q⟩) hs
def rIx (K:xI):R2:=fun x y H Q=>rIxL K x y H Q\/rIxT K x y H Q\/rIxS x y H Q
theorem vX:IxR X (rIx X.K):=qF.or (vV.or vW)
theorem aP (its:List xF) (n j:Nat) (u:xF):BH (·.setIfInBounds j u) { cls:=.type "list",data:=.seq its.toArray n }={ cls:=.type "list",data:=.seq (its.set j u).toArray n }:=by
 simp [BH]
theorem Inv.lst {pins:List (xO×Obj)} {Z:St} {H:Hp} {s:xH} {p:xO} {xs:List V} (I:Inv X pins Z H s) (h:H p=some (.lst xs)) :
   ∃ (its:List xF) (n:Nat),Vals xs its/\s.heap.get? p=some { cls:=.type "list",data:=.seq its.toArray n }/\xs.length<=sizeLine:=by
 obtain ⟨z,its,n,r,e⟩:=I.hok p _ h;exact ⟨its,n,r,e,z⟩
theorem Inv.lstUpd {pins:List (xO×Obj)} {Z:St} {H:Hp} {s:xH} {p:xO} {xs ys:List V} {its its':List xF} {n n':Nat} {f:Obj->Obj} (I:Inv X pins Z H s) (h:H p=some (.lst xs))
   (ho:s.heap.get? p=some { cls:=.type "list",data:=.seq its.toArray n }) (hf:f { cls:=.type "list",data:=.seq its.toArray n }={ cls:=.type "list",data:=.seq its'.toArray n' }) (r:Vals ys its') (hz:ys.length<=sizeLine) (t:Nat) :
   Inv X pins Z (upd H p (.lst ys)) { s with heap:=s.heap.update p f,toks:=t }:=by
 have e:(s.heap.update p f).get? p=some { cls:=.type "list",data:=.seq its'.toArray n' }:=by
   rw [zX f ho (by rw [hf] <;> rfl),hf]
 refine I.write (x:=p) (e:=p) (by rw [h]; trivial) (.inl rfl) (fun b u hb q=>(BQ _ _ (Ne.symm hb)).trans q) ⟨_,e⟩ ?_;exact ⟨hz,its',n',r,e⟩
def rSetL:V->V->V->Hp->(Hp->Prop)->Prop:=fun o i v H Q=>∃ p xs k j,o=.ref p/\i=.int k/\H p=some (.lst xs)/\ixN xs.length k=some j/\Q (upd H p (.lst (xs.set j v)))
theorem jN:PSet X rSetL:=by
 intro pins s Z H o i v ov iv u Q I ro ri rv h;obtain ⟨p,xs,k,j,rfl,rfl,hp,hj,q⟩:=h;cases ro;obtain ⟨t,rfl⟩:=ri;obtain ⟨its,n,r,ho,hz⟩:=I.lst hp;obtain ⟨h1,h2,h3,h4⟩:=cU hj;have hl:=r.length;have hn:=Dq;have I':Inv X pins Z (upd H p (.lst (xs.set j v))) { s with heap:=s.heap.update p (BH (·.setIfInBounds j u)) } :=
   I.lstUpd hp ho (aP its n j u) (r.set rv j) (by rw [GW]; exact hz) s.toks
 by_cases h0:0<=k
 . have hk : k.toNat = j := by
     rw [seqIndex_of h0 h4] at h1; exact zH h1
   exact PySem.W.ki_setAt ho h0 (by lia) (by rw [xW,<- hl]; exact h4) (by rw [hk]; exact ⟨_,I',q⟩)
 . have hk : (k + (its.toArray.size : Int)).toNat = j := by
     rw [seqIndex_neg (by lia) h3] at h1; rw [xW,<- hl]; exact zH h1
   exact PySem.W.ki_setBack ho (by lia) (by rw [xW,<- hl]; exact h3) (by lia) (by rw [hk]; exact ⟨_,I',q⟩)
theorem Tq (lo hi:Option Int) (n:Nat):(CP lo hi none n).1=((HT.sIx n 0 lo:Nat):Int)/\(CP lo hi none n).2.1=((HT.sIx n n hi:Nat):Int)/\(CP lo hi none n).2.2=1:=by
 refine ⟨?_,?_,rfl⟩
 . cases lo with
   | none=>simp [CP,HT.sIx]
   | some i =>
     simp only [CP,HT.sIx,Option.getD_none,show (1:Int)>0 by decide,if_true];by_cases h:i < 0
     . simp only [h,if_true] <;> lia
     . simp only [h,if_false] <;> lia
 . cases hi with
   | none=>simp [CP,HT.sIx]
   | some i =>
     simp only [CP,HT.sIx,Option.getD_none,show (1:Int)>0 by decide,if_true];by_cases h:i < 0
     . simp only [h,if_true] <;> lia
     . simp only [h,if_false] <;> lia
theorem Gi (its:List xF) (lo hi:Option Int):slicePick its.toArray lo hi none=((its.drop (HT.sIx its.length 0 lo)).take (HT.sIx its.length its.length hi - HT.sIx its.length 0 lo)).toArray:=by
 obtain ⟨h1,h2,h3⟩:=Tq lo hi its.toArray.size;unfold slicePick;rw [h1,h2,h3];simp only [sliceRange_one,pick_run,xW] <;> rfl
def rSlL (K:xI):V->Option Int->Option Int->Hp->VK->Prop:=fun x lo hi H Q=>∃ a xs,x=.ref a/\SqL K H a xs/\∀ p,H p=none->Q (.ref p) (upd H p (.lst (gY xs lo hi)))
theorem sl_list:SlR X (rSlL X.K):=by
 intro pins s Z H x v vl vu lo hi sl Q I rx hs pl pu h;obtain ⟨a,xs,rfl,hx,q⟩:=h;cases rx;obtain ⟨its,r,ht,hz⟩:=I.list hx;have hlen:=r.length;refine ⟨"list",_,HB.lookup,ht.isList.typeIs,?_⟩;refine wpAny_getItem_list_slice ht.isList hs pl pu .none (by simp) ?_ (by rw [xW] <;> lia)
 rw [Gi,<- hlen];refine ⟨.ref s.heap.objs.size,_,I.laid (t':=s.toks) (o:=.lst (gY xs lo hi)) (fun b ob q=>xK _ q) (xN _) ?_,rfl,q _ (I.hok.fresh (xN _))⟩;exact ⟨yA (Ex xs lo hi) hz,_,0,(r.drop (HT.sIx xs.length 0 lo)).take (HT.sIx xs.length xs.length hi - HT.sIx xs.length 0 lo),xT _ rfl⟩
theorem Gq:U7 X (.type "tuple") (fun xs H Q=>∃ p ys,xs=[.ref p]/\((SqL X.K H p ys/\∀ l,H l=none->Q (.ref l) (upd H l (.tup ys)))\/(SqT X.K H p ys/\Q (.ref p) H))):=by
 intro pins s Z H xs us Q I r h;obtain ⟨p,ys,rfl,h⟩:=h;obtain ⟨u,rfl,rx⟩:=Mm r;cases rx;rcases h with ⟨hq,q⟩ | ⟨hq,q⟩
 . obtain ⟨its,r',pl,hz⟩:=I.list hq
   have hlen:=r'.length; refine call_tuple_list pl.isList (fun h' kp=>?_) (by simp only [xW] <;> lia)
   have I1:Inv X pins Z H { s with heap:=h' }:=I.kept (t':=s.toks) kp; have I2:Inv X pins Z (upd H h'.objs.size (.tup ys)) { s with heap:=h'.push { cls:=.type "tuple",data:=.seq its.toArray } } :=
     I1.laid (t':=s.toks) (fun b o e=>xK _ e) (xN _) (show ObjOk X.prog X.w _ _ _ (.tup ys) from ⟨hz,its,r',IsTup.new _ _⟩)
   exact ⟨.ref h'.objs.size,_,I2,rfl,q _ (I1.hok.fresh (xN _))⟩
 . obtain ⟨its,r',pl,hz⟩:=I.tuple hq
   exact call_tuple_same pl ⟨.ref p,H,I,rfl,q⟩
def tyV (K:xI) (T:String) (x:V) (H:Hp):Prop:=match x with
 | .str _=>T = "str"
 | .int _=>T = "int"
 | .ref p => (T = "list" /\ ∃ xs, SqL K H p xs) \/ (T = "tuple" /\ ∃ o, K.lookup p = some o /\ o.cls = .type "tuple" /\ o.dict = none) \/
     (T = "dict" /\ ((∃ kvs,H p=some (.dK kvs))\/∃ kvs,H p=some (.dT kvs)))\/(T = "set" /\ ∃ S n,H p=some (.set S n))
 | _=>False
theorem iO {pins:List (xO×Obj)} {Z:St} {H:Hp} {s:xH} {T:String} {x:V} {v:xF} (I:Inv X pins Z H s) (r:RelV x v) (ty:tyV X.K T x H) :
   s.TypeIs v T/\∀ a,v=.ref a->∃ ob,s.heap.get? a=some ob/\ob.dict=none:=by
 cases x with
 | str z =>
   obtain ⟨t,rfl⟩:=r;cases (show T = "str" from ty);exact ⟨typeIs_str s z t,fun _ e=>nomatch e⟩
 | int i =>
   obtain ⟨t,rfl⟩:=r;cases (show T = "int" from ty);exact ⟨typeIs_int s i t,fun _ e=>nomatch e⟩
 | ref p =>
   cases r; rcases ty with ⟨rfl,xs,hq⟩ | ⟨rfl,o,hk,hc,hd⟩ | ⟨rfl,hk⟩ | ⟨rfl,S,n,hk⟩
   . obtain ⟨its,_,pl,_⟩:=I.list hq
     refine ⟨pl.isList.typeIs,fun a e=>?_⟩;cases e; obtain ⟨o,n,e,c,hd,_⟩:=pl; exact ⟨o,e,hd⟩
   . refine ⟨⟨o,I.kIn p o hk,hc⟩,fun a e=>?_⟩
     cases e; exact ⟨o,I.kIn _ o hk,hd⟩
   . have z : ∃ o, s.heap.get? p = some o /\ o.ExactDict := by
       rcases hk with ⟨kvs,hk⟩ | ⟨kvs,hk⟩
       . obtain ⟨_,_,_,_,o,_,_,e,ex,_⟩:=I.hok p _ hk
         exact ⟨o,e,ex⟩
       . obtain ⟨_,_,_,_,o,_,_,e,ex,_⟩:=I.hok p _ hk
         exact ⟨o,e,ex⟩
     obtain ⟨o,e,ex⟩:=z; refine ⟨⟨o,e,ex.1⟩,fun a e2=>?_⟩;cases e2; exact ⟨o,e,ex.2.1⟩
   . obtain ⟨o,_,_,_,e,ex,_⟩:=I.hok p _ hk
     refine ⟨⟨o,e,ex.1⟩,fun a e2=>?_⟩;cases e2; exact ⟨o,e,ex.2.1⟩
 | _=>exact AH ty
def tBM0 (K:xI) (T:String) (r:V->List V->Hp->VK->Prop) (to:TE):TE:=fun Z H Q=>to Z H fun x H1=>tyV K T x H1/\r x [] H1 Q
def tBM (K:xI) (T:String) (r:V->List V->Hp->VK->Prop) (to:TE) (t:TA):TE:=fun Z H Q=>to Z H fun x H1=>tyV K T x H1/\t Z H1 fun xs H2=>r x xs H2 Q
variable {o e:Expr} {es:List Expr} {to:TE} {t:TA} {name:Str} {apos cpos:Pos} {T id:String} {r:V->List V->Hp->VK->Prop}
theorem uY (pa:PlainAttrs T) (slot:Slot T name id) (hty:typeOf (.builtin id)=pure (.type "method_descriptor")) (hm:MtR X id r) (ho:PE X o to)
   (hbase:p6 o name X.env (eval o X.env)=eval o X.env:=by rfl) (hline:(apos.endLine==cpos.line)=true:=by rfl):PE X (.Call (.Attribute o name apos) [] [] cpos) (tBM0 X.K T r to):=by
 intro pins s Z H Q I h;refine wpAny_Call_method0_late hbase hline (thn (ho pins s Z H _ I h) fun v s1 hZ2=>?_);obtain ⟨x,H1,I1,r1,ty,q1⟩:=hZ2;obtain ⟨h1,h2⟩:=iO I1 r1 ty;exact ⟨T,id,pa,slot,hty,h1,h2,BL rfl (PySem.evalArgs_none (hm pins s1 Z H1 x [] v [] Q I1 r1 .nil q1))⟩
theorem Xp (pa:PlainAttrs T) (slot:Slot T name id) (hty:typeOf (.builtin id)=pure (.type "method_descriptor")) (hm:MtR X id r) (ho:PE X o to) (ha:PA X (e::es) t)
   (hbase:p6 o name X.env (eval o X.env)=eval o X.env:=by rfl)
   (hfew:((f9 cpos (xR (e::es) X.env)).all (fun x => !x.1)&&(EY cpos (BW [] X.env)).all (fun x=>x.1.isSome)
     && decide ((e::es).length+([]:List AQ).length+(if ([]:List AQ).isEmpty then 0 else 1) < 30))=true:=by rfl)
   (hline:(apos.endLine==cpos.line)=true:=by rfl) (hs:xR (e::es) X.env=(false,eval e X.env)::xR es X.env:=by rfl) (hplain:(f9 cpos (xR es X.env)).any (·.1)=false:=by rfl) :
   PE X (.Call (.Attribute o name apos) (e::es) [] cpos) (tBM X.K T r to t):=by
 intro pins s Z H Q I h;refine wpAny_Call_method_late hbase hfew hline rfl (thn (ho pins s Z H _ I h) fun v s1 hZ2=>?_);obtain ⟨x,H1,I1,r1,ty,q1⟩:=hZ2;obtain ⟨h1,h2⟩:=iO I1 r1 ty;refine ⟨T,id,pa,slot,hty,h1,h2,?_⟩;have hA:=ha cpos pins s1 Z H1 _ I1 q1;rw [hs] at hA ⊢;refine BL (by show (false||(f9 cpos (xR es X.env)).any (·.1))=false; rw [hplain] <;> rfl) (FB ?_)
 exact thn hA fun us s2 hZ2=>by obtain ⟨vs,H2,I2,r2,q2⟩:=hZ2; exact hm pins s2 Z H2 x vs v us Q I2 r1 r2 q2
end
end L2
namespace L2
open PySem PySem.Spec PyProof.Rows
def MtM (X:Cx) (id:String) (r:V->List V->Hp->VK->Prop):Prop :=
 ∀ (pins:List (xO×Obj)) (s:xH) (Z:St) (H:Hp) (x:V) (xs:List V) (v:xF) (us:List xF) (Q:VK),Inv X pins Z H s->RelV x v->Vals xs us->r x xs H Q ->
   wpAny (yC X.prog X.w) X.A (call (.builtin id) (v::us)) (EP X pins Z Q) X.xe s
theorem Vals.zero {us:List xF} (h:Vals [] us):us=[]:=by cases h; rfl
theorem Vals.uncons {x:V} {xs:List V} {us:List xF} (h:Vals (x::xs) us):∃ u r,us=u::r/\RelV x u/\Vals xs r:=by cases h with | cons a t=>exact ⟨_,_,rfl,a,t⟩
theorem Vals.one {x:V} {us:List xF} (h:Vals [x] us):∃ u,us=[u]/\RelV x u:=by
 obtain ⟨u,r,rfl,a,t⟩:=h.uncons;exact ⟨u,by rw [t.zero],a⟩
theorem Vals.dropLast {xs:List V} {us:List xF} (h:Vals xs us):Vals xs.dropLast us.dropLast:=by
 induction h with
 | nil=>exact .nil
 | cons r t ih =>
   cases t with
   | nil=>exact .nil
   | cons q t'=>exact .cons r ih
theorem Vals.rep {xs:List V} {us:List xF} (h:Vals xs us):∀ k:Nat,Vals (yD k xs).flatten (yD k us).flatten:=by
 intro iN; induction iN with
 | zero=>skip; exact .nil
 | succ k ih =>
   skip
   rw [n5,n5,j0,j0]; exact Vals.append h (ih)
theorem aX {α:Type} (l:List α):l.eraseIdx (l.length - 1)=l.dropLast:=by
 induction l with
 | nil=>rfl
 | cons a r ih =>
   cases r with
   | nil=>rfl
   | cons b r =>
     have e:(a::b::r).length - 1=((b::r).length - 1)+1:=by
       have h1:(a::b::r).length=r.length+2:=rfl; have h2:(b::r).length=r.length+1:=rfl;lia
     rw [e,List.eraseIdx_cons_succ,ih];all_goals rfl
theorem gP (its:List xF):∀ (k:Nat) (acc:List xF),
   GC (fun x1 x2=>x1++x2) acc.toArray (yD k its.toArray)=(acc++(yD k its).flatten).toArray:=by
 intro iN; induction iN with
 | zero=>intro acc; simp
 | succ k ih =>
   intro acc; have e:acc.toArray++its.toArray=(acc++its).toArray:=by simp
   have e2:(acc++its)++(yD k its).flatten=acc++(yD (k+1) its).flatten:=by
     rw [n5,j0,zU]
   rw [<- e2,<- ih (acc++its),<- e,n5,s0]
section
variable {X:Cx} {pins:List (xO×Obj)} {Z:St} {H:Hp} {s:xH} {l:xO} {xs ys:List V}
theorem Inv.lset {its its':List xF} {n:Nat} {f:Array xF->Array xF} {t':Nat} (I:Inv X pins Z H s) (hH:H l=some (.lst xs))
   (e:s.heap.get? l=some { cls:=.type "list",data:=.seq its.toArray n }) (hf:f its.toArray=its'.toArray) (hv:Vals ys its') (hz:ys.length<=sizeLine) :
   Inv X pins Z (upd H l (.lst ys)) { s with heap:=s.heap.update l (BH f),toks:=t' }:=by
 have q:=PySem.IsL.update e f;rw [hf] at q;refine I.write (x:=l) (e:=l) (by rw [hH]; exact trivial) (.inl rfl) (fun b' u hb hu=>(BQ s.heap (BH f) (Ne.symm hb)).trans hu) ⟨_,q⟩ ?_;exact ⟨hz,its',_,hv,q⟩
theorem Inv.lnew {its:List xF} {t':Nat} (I:Inv X pins Z H s) (hv:Vals ys its) (hz:ys.length<=sizeLine) :
   Inv X pins Z (upd H s.heap.objs.size (.lst ys)) { s with heap:=s.heap.push { cls:=.type "list",data:=.seq its.toArray },toks:=t' } :=
 I.laid (fun _ _ q=>xK _ q) (xN _) ⟨hz,its,0,hv,xT _ rfl⟩
theorem Inv.fresh (I:Inv X pins Z H s):H s.heap.objs.size=none:=I.hok.fresh (xN _)
theorem Inv.lstM (I:Inv X pins Z H s) (hH:H l=some (.lst xs)):xs.length<=sizeLine/\∃ (its:List xF) (n:Nat),Vals xs its/\xs.length=its.length/\s.heap.get? l=some { cls:=.type "list",data:=.seq its.toArray n }:=by
 obtain ⟨z,its,n,r,e⟩:=I.hok l _ hH;exact ⟨z,its,n,r,r.length,e⟩
theorem Xt {n:Nat} (h:n<=sizeLine):AD n=false:=by
 unfold AD;exact decide_eq_false (by lia)
end
section
variable {X:Cx}
def oQ:V->List V->Hp->VK->Prop:=fun x vs H Q=>∃ l xs y,x=.ref l/\vs=[y]/\H l=some (.lst xs)/\xs.length < sizeLine/\Q .non (upd H l (.lst (xs++[y])))
theorem Jv:MtM X "list.append" oQ:=by
 intro pins s Z H x vs v us Q I rx rv h;obtain ⟨l,xs,y,rfl,rfl,hH,hz,q⟩:=h;cases rx;obtain ⟨u,rfl,ru⟩:=rv.one;obtain ⟨z,its,n,r,hl,e⟩:=I.lstM hH;refine GS F.slot_list_append ⟨_,e,rfl⟩ F.entry_list_append (F.args_list_append_2 _ _) (PySem.list_append l its.toArray n u (by rw [xW]; lia)) ⟨e,?_⟩;refine ⟨.non,_,I.lset (its':=its++[u]) hH e (by simp) (r.append (.cons ru .nil)) ?_,rfl,q⟩;rw [yB,JK];lia
def oO:V->List V->Hp->VK->Prop:=fun x vs H Q=>∃ l b xs zs,x=.ref l/\vs=[.ref b]/\H l=some (.lst xs)/\H b=some (.lst zs)/\xs.length+zs.length<=sizeLine/\Q .non (upd H l (.lst (xs++zs)))
theorem fW:MtM X "list.extend" oO:=by
 intro pins s Z H x vs v us Q I rx rv h;obtain ⟨l,b,xs,zs,rfl,rfl,hH,hB,hz,q⟩:=h;cases rx;obtain ⟨u,rfl,ru⟩:=rv.one;cases ru;obtain ⟨z,its,n,r,hl,e⟩:=I.lstM hH;obtain ⟨z2,its2,n2,r2,hl2,e2⟩:=I.lstM hB;have hsz:its.toArray.size+its2.toArray.size<=sizeLine:=by rw [xW,xW]; lia
 have hlong:¬ (!its.toArray.isEmpty&&AD (its.toArray.size+its2.toArray.size))=true:=by
   rw [Xt hsz,CY]; exact l8
 refine GS F.slot_list_extend ⟨_,e,rfl⟩ F.entry_list_extend (F.args_list_extend_2 _ _)
   (AutoSeq1.list_extend_list_list_0 l its.toArray n b its2.toArray n2 hlong (by rw [xW]; lia) (by lia)) ⟨e,e2,?_⟩
 refine ⟨.non,_,I.lset (its':=its++its2) hH e (by simp) (r.append r2) ?_,rfl,q⟩;rw [yB];lia
def rPop:V->List V->Hp->VK->Prop:=fun x vs H Q=>∃ l xs y,x=.ref l/\vs=[]/\H l=some (.lst xs)/\xs[xs.length - 1]? = some y/\Q y (upd H l (.lst xs.dropLast))
theorem vL:MtM X "list.pop" rPop:=by
 intro pins s Z H x vs v us Q I rx rv h;obtain ⟨l,xs,y,rfl,rfl,hH,hy,q⟩:=h;cases rx;have hus:=rv.zero;subst hus;obtain ⟨z,its,n,r,hl,e⟩:=I.lstM hH;obtain ⟨u,hu,ru⟩:=r.get hy;have hy':its.toArray[its.toArray.size - 1]? = some u:=by
   show its.toArray[its.length - 1]? = some u;rw [<- z0,<- hl]; exact hu
 refine GS F.slot_list_pop ⟨_,e,rfl⟩ F.entry_list_pop (F.args_list_pop_1 _) (MeetsSeq.list_pop_last l its.toArray n u hy' (by rw [xW]; lia)) ⟨e,?_⟩;refine ⟨y,_,I.lset (its':=its.dropLast) hH e ?_ r.dropLast ?_,ru,q⟩
 . show its.toArray.eraseIdxIfInBounds (its.toArray.size - 1)=its.dropLast.toArray
   rw [xW,List.eraseIdxIfInBounds_toArray,aX]
 . rw [List.length_dropLast]
   lia
theorem cS {α:Type} (xs:List α) (k:Nat):(yD k xs).flatten.length=k*xs.length:=by
 induction k with
 | zero=>simp
 | succ k ih=>rw [n5,j0,yB,ih,Nat.succ_mul,Nat.add_comm]
end
end L2
namespace Att
open PySem PySem.W PySem.Calls PyProof.Rows
theorem Lr {P:FG} {h:zJ}:∀ (ns:List Int) (vs:List xF),WellAll P h vs (ns.map WData.int)->EN vs ns:=by
 intro ns;induction ns with
 | nil =>
   intro vs w; rw [l9] at w; cases w; exact .nil
 | cons n ns ih =>
   intro vs w; rw [xL] at w;cases w with
   | cons a b =>
     cases a; exact .cons _ _ (ih _ b)
theorem fC {l:OpenLaw} {n:Nat} (hn:l.most=some n) {P:FG} {h:zJ} {args:List WData} {vals:List xF}
   (hpre:l.row.toRowW.claim.pre args=true) (hwl:WellAll P h vals args) :
   ∃ a vs ns,vals=[k6 a]/\args=[WData.list (ns.map WData.int)]/\h.get? a=some { cls:=.type "list",data:=.seq vs.toArray }/\EN vs ns/\ns.length<=n:=by
 have hsh:WShape.hasAll [] args [.list .int]=true:=(pre_splitW hpre).1;have hc:l.pre.holds [] { args:=args }=true:=(pre_splitW hpre).2;obtain ⟨d,r,rfl,h1,h2⟩:=hasAllW_cons hsh;obtain rfl:=hasAllW_nil h2;obtain ⟨xs,rfl,h3⟩:=hasW_list h1;obtain ⟨ns,rfl⟩:=items_int h3;have hlen:ns.length<=n:=by
   unfold OpenLaw.pre at hc; have h4:(WTm.not (.lt (.lit (.int (n:Int))) (.len (.arg 0)))).holds [] { args:=[.list (ns.map .int)] }=true:=by
     have h4:=(holds_andW hc).1; rw [hn] at h4; exact h4
   have h5:=condW_of h4 (w_not (w_lt w_lit (w_len_list (w_arg rfl)))); rw [xJ] at h5; refine Nat.le_of_not_lt fun q=>?_;have q':(n:Int) < ((ns.length:Nat):Int):=by lia
   first
     | (rw [decide_eq_true q'] at h5; exact absurd h5 (by decide))
     | (simp at h5; lia)
 cases hwl with
 | cons w1 w2 =>
   cases w2;cases w1 with
   | list ho hall=>exact ⟨_,_,ns,rfl,rfl,ho,Lr ns _ hall,hlen⟩
theorem fK (l:OpenLaw) (args:List WData):l.row.toRowW.claim.post args (.bool true) args=true :=
 postW_of (r:=l.row.toRowW) (X:=(true==true))
   (show WShape.has [] (.bool true) .bool=true by first | rfl | decide | simp [WShape.has,WShape.arms,WShape.armsAll])
   (show (WTm.eq .res (.lit (.bool true))).value [] { args:=args,res:=some (.bool true),after:=args }=some (.bool (true==true)) from w_eq_bool (w_res rfl) w_lit) rfl
theorem attach_call {l:OpenLaw} {n:Nat} {q:yI} {loose:List Str} {XP:(Str->Option xF)->zJ->Prop} {YP:yR->zJ->Prop} {d:DefRec}
   (hn:l.most=some n) (hdf:d.params.defaults=[])
   (call:∀ (w:yR) (s₀ s₁:xH) (mg mb:Str->Option xF) (fa:xO) (o:Obj) (pm cd doc:xF) (a:xO) (vs:List xF) (ns:List Int),
     Ground q loose [] XP w s₀ mg mb s₁.heap->YP w s₁.heap ->
     s₁.heap.get? fa=some o->o.data=.func (docDef d.name d.params d.body d.scope pm cd doc)->s₁.heap.CodeRec cd d.name->mg d.name=some (.ref fa) ->
     s₁.heap.get? a=some { cls:=.type "list",data:=.seq vs.toArray }->EN vs ns->ns.length<=n->s₁.gens = #[] ->
     DJ (yC l.prog w) HF (.call (.ref fa) ⟨[.ref a],[]⟩) (fun r s'=>r=.ok (.ret (.bool true))/\OldK s₁.heap s'.heap/\s'.os=s₁.os/\FI s'.gens) s₁) :
   WalkO q loose XP YP l.row.toRowW d [] (fun f vs=>PySem.call f vs):=by
 intro w s₀ s₁ mg mb G Y fa o pm cd doc dV kV ho hd hcd hD hmg hg args vals as hpre hlay hrd hwl hlo;obtain rfl:dV=.none:=Dflts.none hD hdf;obtain rfl:kV=.none:=Dflts.noKw hD;obtain ⟨a,vs,ns,rfl,rfl,hobj,hints,hlen⟩:=fC hn hpre hwl;refine enter_call (AZ (call w s₀ s₁ mg mb fa o pm cd doc a vs ns G Y ho (fd_plain hd) hcd hmg hobj hints hlen hg) fun r s' hq=>?_);obtain ⟨rfl,h2,h3,h4⟩:=hq;exact ⟨.inl ⟨.bool true,.bool true,[],rfl,fun _=>rfl,.bool true,fK l _,fun _=>⟨HS,fun _ hm=>(nomatch hm)⟩⟩,h2,h3,h4⟩
end Att
namespace L2
open PySem PySem.Spec PyProof.Rows
theorem Rk:∀ {vs:List xF} {ns:List Int},EN vs ns->Vals (ns.map V.int) vs
 | _,_,.nil=>.nil
 | _,_,.cons n t h=>.cons ⟨t,rfl⟩ (Rk h)
def xA (H:Hp):Prop:=∀ b,H b=none\/∃ o xs,H b=some (.frz o (.lst xs))
theorem lQ {P:yI} {w:yR} {K:xI} {mg mb:Str->Option xF} {CX:CXT} {k:Nat} {fa a:xO} {fd:CH} {x:Str} {sp:Sp} {s₁:xH} {vs:List xF} {ns:List Int}
   (KX:K.In s₁.heap) (hns:s₁.heap.Ns a9 mg) (hb:s₁.heap.Ns FF mb) (hbb:∀ x:Str,x ≠ "__name__" -> mb x=BA x) (hlim:s₁.heap.NoLimit) (hg:s₁.gens = #[])
   (ha:s₁.heap.get? a=some { cls:=.type "list",data:=.seq vs.toArray }) (hi:EN vs ns) (hl:ns.length<=sizeLine) (hr:Room k HF)
   (F:∀ base:zJ,K.In base->base.Ns a9 mg->FnOk P w K mg base CX k fa fd [x] sp) (hbind:∀ (s:xH) (u:xF),BindsTo s fd ⟨[u],[]⟩ [(x,u)])
   (hsp:∀ H:Hp,xA H->SqL K H a (ns.map V.int)->sp [.ref a] H (fun v _=>v=.bl true) fun _ _ _=>False)
   (hCX:∀ H e s',CX [] H s₁ (fun _ _ _=>False) e s'->False) :
   DJ (yC P w) HF (.call (.ref fa) ⟨[.ref a],[]⟩) (fun r s'=>r=.ok (.ret (.bool true))/\OldK s₁.heap s'.heap/\s'.os=s₁.os/\FI s'.gens) s₁:=by
 have rv:=Rk hi;have lenV:=hi.length;have core : ∀ H : Hp, xA H -> SqL K H a (ns.map V.int) -> HOk P w H s₁.heap -> (∀ b, H b ≠ none -> b = a) -> (H a ≠ none -> K.lookup a = none) ->
     DJ (yC P w) HF (.call (.ref fa) ⟨[.ref a],[]⟩) (fun r s'=>r=.ok (.ret (.bool true))/\OldK s₁.heap s'.heap/\s'.os=s₁.os/\FI s'.gens) s₁:=by
   intro H hO hS hok hA hK; have base_of:∀ {b:xO} {o:Obj},s₁.heap.get? b=some o->H b=none->(Uu s₁.heap H).get? b=some o:=fun e n=>mC e n;have noA:∀ {b:xO} {o:Obj} {es:Array zO} {ep:Nat},s₁.heap.get? b=some o->o.data=.dict es ep->H b=none:=fun {b o es ep} e d=>by
     cases q:H b with
     | none=>rfl
     | some u =>
       have e':b=a:=hA b (by rw [q]; simp);subst e'; rw [ha] at e; cases e; have d':Data.seq vs.toArray _=Data.dict es ep:=d;cases d'
   have nsK:∀ {b:xO} {m:Str->Option xF},s₁.heap.Ns b m->(Uu s₁.heap H).Ns b m:=fun {b m} ⟨o,es,ep,e,d,r⟩=>⟨o,es,ep,base_of e (noA e d),d,r⟩;have hKb:K.In (Uu s₁.heap H):=fun b o e=>base_of (KX b o e) (by
     cases q:H b with
     | none=>rfl
     | some u =>
       have e':b=a:=hA b (by rw [q]; simp);subst e'; rw [hK (by rw [q]; simp)] at e; cases e)
   have hM:Mod K mg (Uu s₁.heap H):=⟨hKb,nsK hns,⟨mb,nsK hb,hbb⟩,let ⟨mc,h1,h2⟩:=hlim; ⟨mc,nsK h1,h2⟩⟩;have e0:Env0 P w K mg (Uu s₁.heap H) HF [] s₁ H:=⟨rfl,hM,fun b o e=>pS e,Nat.le_of_eq (gN _ _),trivial,fun b hb=>absurd (show b∈([]:List xO) from hb) (by simp),hok,.of_eq hg⟩;refine AZ ((F _ hKb (nsK hns)).run HF [] s₁ H ⟨[.ref a],[]⟩ [.ref a] [.ref a] _ _ hr e0 (hbind s₁ (.ref a)) (.cons rfl .nil) (hsp H hO hS)) fun r s' h=>?_;cases r with
   | error e=>exact (hCX H e s' h).elim
   | ok fl =>
     cases fl with
     | next=>exact AH h
     | brk=>exact AH h
     | cont=>exact AH h
     | ret u =>
       obtain ⟨v,H',os,bare,un,hok',r',q⟩:=h; have q':v=.bl true:=q; subst q'; obtain rfl:u=FT true:=r'; refine ⟨rfl,OldK.of_keep fun b o e=>?_,os,bare⟩;cases q:H b with
       | none=>exact un.keep b o e q (by intro z; exact absurd (show b∈([]:List xO) from z) (by simp)) (by simp)
       | some u =>
         rcases hO b with z | ⟨ob,xs,z⟩
         . rw [q] at z; cases z
         . have z2:=un.frzs b ob _ z
           obtain ⟨e1,_⟩:=hok b _ z; obtain ⟨e2,_⟩:=hok' b _ z2; rw [e] at e1; cases e1; exact e2
 cases hk:K.lookup a with
 | some o =>
   have e:=KX a o hk; rw [ha] at e; cases e; refine core (fun _=>none) (fun _=>.inl rfl) (.inr ⟨_,vs.toArray,_,hk,rfl,rfl,rfl,by rw [xW,lenV]; exact hl,by simpa using rv⟩) (fun b u z=>by have z':(none:Option HO)=some u:=z; cases z') (fun b z=>absurd rfl z) fun z=>absurd rfl z
 | none =>
   refine core (fun b=>if b=a then some (.frz { cls:=.type "list",data:=.seq vs.toArray } (.lst (ns.map V.int))) else none) (fun b=>?_) (.inl (.inr ⟨{ cls:=.type "list",data:=.seq vs.toArray },if_pos rfl⟩)) (fun b u z=>?_) (fun b z=>?_) fun _=>hk
   . by_cases hb:b=a
     . exact .inr ⟨_,_,if_pos hb⟩
     . exact .inl (if_neg hb)
   . by_cases hb:b=a
     . have z':=(if_pos hb).symm.trans z
       cases z'; subst hb; exact ⟨ha,by rw [xJ]; exact hl,vs,_,rv,ha⟩
     . have z':=(if_neg hb).symm.trans z
       cases z'
   . by_cases hb:b=a
     . exact hb
     . exact absurd (if_neg hb) z
end L2
namespace L2
open PySem PySem.Spec PyProof.Rows
theorem nO {l:PySem.W.OpenLaw} {n k:Nat} {q:yI} {loose:List Str} {XP:(Str->Option xF)->zJ->Prop} {YP:yR->zJ->Prop} {d:DefRec} {K:FG->xI} {CX:yR->CXT} {sp:yR->Sp} {x:Str}
   (hn:l.most=some n) (hn2:n<=sizeLine) (hdf:d.params.defaults=[]) (hr:Room k HF)
   (hY:∀ (w:yR) (h:zJ),YP w h->(K w.params).In h)
   (F:∀ (w:yR) (mg:Str->Option xF) (fa:xO) (h:zJ),(K w.params).In h->h.Ns a9 mg->mg d.name=some (.ref fa) ->
     ∃ fd:CH,(∀ (s:xH) (u:xF),BindsTo s fd ⟨[u],[]⟩ [(x,u)]) /\
       ∀ base:zJ,(K w.params).In base->base.Ns a9 mg->FnOk l.prog w (K w.params) mg base (CX w) k fa fd [x] (sp w))
   (hsp:∀ (w:yR) (H:Hp) (a:xO) (ns:List Int),ns.length<=n->xA H->SqL (K w.params) H a (ns.map V.int)->sp w [.ref a] H (fun v _=>v=.bl true) fun _ _ _=>False)
   (hCX:∀ (w:yR) (H:Hp) (s:xH) (e:xF) (s':xH),CX w [] H s (fun _ _ _=>False) e s'->False) :
   PySem.W.WalkO q loose XP YP l.row.toRowW d [] (fun f vs=>PySem.call f vs):=by
 refine Att.attach_call hn hdf fun w s₀ s₁ mg mb fa o pm cd doc a vs ns G Y ho hd hcd hmg hobj hints hlen hg=>?_;have KX:=hY w _ Y;obtain ⟨fd,hb,hF⟩:=F w mg fa _ KX G.T.g hmg;exact lQ KX G.T.g G.T.b G.T.builtins G.T.nolimit hg hobj hints (yA hlen hn2) hr hF hb (fun H hO hS=>hsp w H a ns hlen hO hS) fun H e s'=>hCX w H s₁ e s'
end L2
namespace L2
open PySem PySem.Spec PyProof.Rows
def L4 (s:w8):Arguments:=match s with
 | .FunctionDef _ a _ _ _ _ _ _ _ _=>a
 | _=>{ posonlyargs:=[],args:=[],vararg:=none,kwonlyargs:=[],kw_defaults:=[],kwarg:=none,defaults:=[] }
def B3 (s:w8):List w8:=match s with
 | .FunctionDef _ _ b _ _ _ _ _ _ _=>b
 | _=>[]
def A4 (s:w8):Scope:=match s with
 | .FunctionDef _ _ _ _ _ _ sc _ _ _=>sc
 | _=>{ kind:=.function,names:=[],isGenerator:=false,isCoroutine:=false }
abbrev CX0:CXT:=fun _ _ _ _ _ _=>False
abbrev E0:XK:=fun _ _ _=>False
theorem cI {X:Cx}:bS CX0 X E0:=fun _ _ _ _ _ _ _ h=>h.elim
structure Fun (K:xI) (x qual:Str) (st:w8) (f:xO) (fd:CH):Prop where
 ex:∃ (oc:xF) (od:Option xO) (kV doc pm:xF) (an:Option xO) (cdv ct:xF) (osl:Array (Option xF)),
   fd=zQ x qual (L4 st) (B3 st) (A4 st) .none kV doc pm an cdv ct/\K.lookup f=some ⟨oc,od,.func fd,osl⟩/\o6 K cdv qual=true
 kp:i3 K (.ref f)=true
section
variable {P:yI} {w:yR} {K:xI} {mg:Str->Option xF} {base:zJ}
theorem Fun.ok {x qual:Str} {st:w8} {f:xO} {fd:CH} {N ps:List Str} {k:Nat} {sp:Sp} (F:Fun K x qual st f fd) (S:FnScope N ps (A4 st)) (len:∀ vs H Q E,sp vs H Q E->vs.length=ps.length)
   (hbody:∀ (cdv:xF) (A:zL) (outer:List Env) (s:xH) (H:Hp) (vs:List V) (Q:VK) (E:XK),Room k (A.deeper (GQ qual (A4 st) s.heap.objs.size f cdv))->sp vs H Q E ->
     ∃ t,PSs (gX CX0 P w K mg base N qual (A4 st) f cdv A outer s H E).nox (B3 st) t/\t { nx:=fun _ H'=>Q .non H',rt:=Q } (Bf N vs) H):FnOk P w K mg base CX0 (k+1) f fd ps sp:=by
 obtain ⟨oc,od,kV,doc,pm,an,cdv,ct,osl,rfl,lk,hcd⟩:=F.ex;refine fn_of lk hcd S len fun A outer s H vs Q E hr hsp=>?_;obtain ⟨t,h,q⟩:=hbody cdv A outer s H vs Q E hr hsp;exact ⟨t,h.nox,q⟩
theorem Fun.binds {x qual:Str} {st:w8} {f:xO} {fd:CH} {ps:List Str} (F:Fun K x qual st f fd)
   (h:∀ (kV doc pm:xF) (an:Option xO) (cdv ct:xF) (us:List xF),us.length=ps.length->EW (zQ x qual (L4 st) (B3 st) (A4 st) .none kV doc pm an cdv ct) ⟨us,[]⟩=pure (ps.zip us)):Binds K fd ps []:=by
 obtain ⟨oc,od,kV,doc,pm,an,cdv,ct,osl,rfl,lk,hcd⟩:=F.ex;exact .all (h kV doc pm an cdv ct)
theorem mE {x qual:Str} {st:w8} {f:xO} {oc:xF} {od an:Option xO} {osl:Array (Option xF)} {kV doc pm cdv ct:xF} (l:K.lookup f=some ⟨oc,od,.func (zQ x qual (L4 st) (B3 st) (A4 st) .none kV doc pm an cdv ct),osl⟩)
   (c:o6 K cdv qual=true) (k:i3 K (.ref f)=true):Fun K x qual st f (zQ x qual (L4 st) (B3 st) (A4 st) .none kV doc pm an cdv ct):=⟨⟨oc,od,kV,doc,pm,an,cdv,ct,osl,rfl,l,c⟩,k⟩
end
def Same (H H':Hp):Prop:=∀ b o,H b=some o->H' b=some o
theorem Same.refl (H:Hp):Same H H:=fun _ _ h=>h
theorem Same.trans {H H1 H2:Hp} (a:Same H H1) (b:Same H1 H2):Same H H2:=fun c o h=>b c o (a c o h)
theorem Same.free {H H':Hp} (e:Same H H') {l:xO} (h:H' l=Option.none):H l=Option.none:=by
 cases q:H l with
 | none=>rfl
 | some o =>
   rw [e l o q] at h; cases h
end L2
section
namespace Sm
open PySem PySem.SetTable
open L2 (isK Hf Yj Fm)
mutual
theorem eqvK:∀ (a b:xC),isK a=true->isK b=true->(xX a b=true↔a=b)
 | .int i,.int j,_,_=>by simp [xX]
 | .str x,.str y,_,_=>by simp [xX]
 | .tuple xs,.tuple ys,ha,hb=>by
   simp only [xX,HN]; exact sR xs ys (by simpa [isK] using ha) (by simpa [isK] using hb)
 | .int _,.str _,_,_ | .int _,.tuple _,_,_ | .str _,.int _,_,_ | .str _,.tuple _,_,_ | .tuple _,.int _,_,_ | .tuple _,.str _,_,_=>by simp [xX]
 | .none,_,h,_ | .bool _,_,h,_ | .list _,_,h,_ | .dict _,_,h,_=>by simp [isK] at h
 | .int _,.none,_,h | .int _,.bool _,_,h | .int _,.list _,_,h | .int _,.dict _,_,h=>by simp [isK] at h
 | .str _,.none,_,h | .str _,.bool _,_,h | .str _,.list _,_,h | .str _,.dict _,_,h=>by simp [isK] at h
 | .tuple _,.none,_,h | .tuple _,.bool _,_,h | .tuple _,.list _,_,h | .tuple _,.dict _,_,h=>by simp [isK] at h
theorem sR:∀ (a b:List xC),Hf a=true->Hf b=true->(AR a b=true↔a=b)
 | [],[],_,_=>by simp [AR]
 | [],_::_,_,_=>by simp [AR]
 | _::_,[],_,_=>by simp [AR]
 | x::xs,y::ys,ha,hb=>by
   simp only [Hf,yE] at ha hb; simp only [AR,yE,AO]; rw [eqvK x y ha.1 hb.1,sR xs ys ha.2 hb.2]
end
section
variable {prog:yI} {w:yR} {E:xF->xH->Prop}
mutual
theorem Pb:∀ (k:xC) (v:xF) (as:List xO) (A:zL) (s:xH) (Q:Int->xH->Prop),isK k=true->Reads s.heap v k as->A.units+k.depth < m8 ->
   (∀ tk,s.toks<=tk->Q (Yj w k) { s with toks:=tk })->wpAny (yC prog w) A (pyHash v) Q E s
 | .int i,_,_,A,s,Q,_,x,_,h=>by cases x; exact wpAny_pyHash_int (h _ (AK _))
 | .str y,_,_,A,s,Q,_,x,_,h=>by cases x; exact wpAny_pyHash_str (h _ (AK _))
 | .tuple xs,_,_,A,s,Q,hk,x,hu,h=>by
   cases x with
   | tuple hg hc hd hr =>
     rename_i _ a o vs n;refine PySem.W.pyHash_slot (T := "tuple") ⟨_,hg,hc⟩ F.slot_tuple_hash F.entry_tuple_hash (F.args_tuple_hash_1 _) (HW _) (.inr (by lia)) ?_;show wpAny _ _ (BZ (.ref a)>>=_) _ _ s;refine xD (wpAny_tupleItemsOf hg hd ?_); refine xD ?_; rw [<- Array.forIn_toList]; refine Sr xs _ _ A.in1 s #[] _ (by simpa [isK] using hk) hr (by simp only [zR,Around.in1_units] at hu ⊢; lia) fun tk b ht hb=>?_;show wpAny _ _ (retInt (GD b.toList)) _ _ _;rw [hb]; exact xD (wpAny_mkInt (xE ⟨_,_,rfl,h _ (AB ht)⟩))
 | .none,_,_,_,_,_,hk,_,_,_ | .bool _,_,_,_,_,_,hk,_,_,_ | .list _,_,_,_,_,_,hk,_,_,_ | .dict _,_,_,_,_,_,hk,_,_,_=>by simp [isK] at hk
theorem Sr:∀ (xs:List xC) (vs:List xF) (as:List xO) (A:zL) (s:xH) (b:Array Int) (Q:Array Int->xH->Prop),Hf xs=true->JH s.heap vs xs as ->
   A.units+zW xs < m8->(∀ tk b',s.toks<=tk->b'.toList=b.toList++Fm w xs->Q b' { s with toks:=tk }) ->
   wpAny (yC prog w) A (forIn vs b fun x r=>do let h <- pyHash x; pure PUnit.unit; pure (p4 (r.push h))) Q E s
 | [],_,_,A,s,b,Q,_,x,_,h=>by cases x; exact xE (h s.toks b (xN _) (by simp [Fm]))
 | k::xs,_,_,A,s,b,Q,hk,x,hu,h=>by
   cases x with
   | cons x1 x2 =>
     simp only [Hf,yE,zW] at hk hu; rw [GX]; refine xD (xD (Pb k _ _ A s _ hk.1 x1 (by lia) fun tk ht=>?_));refine xD (xE (xE ?_)); exact Sr xs _ _ A _ _ Q hk.2 x2 (by lia) fun tk' b' ht' hb=>h tk' b' (yA ht ht') (by simp [hb,Fm])
end
end
section
variable {prog:yI} {w:yR} {A:zL} {E:xF->xH->Prop}
mutual
theorem Ld:∀ (fuel:Nat) (k:xC) (v:xF) (as:List xO) (s:xH) (Q:Bool->xH->Prop),isK k=true->k.depth<=fuel->Reads s.heap v k as->Q true s ->
   wpAny (yC prog w) A (eqIsQuiet fuel v) Q E s
 | fuel,.int _,_,_,s,Q,_,_,x,h=>by cases x; rw [eqIsQuiet_byValue _ rfl]; exact xE h
 | fuel,.str _,_,_,s,Q,_,_,x,h=>by cases x; rw [eqIsQuiet_byValue _ rfl]; exact xE h
 | 0,.tuple _,_,_,s,Q,_,hd,x,h=>by simp [zR] at hd
 | fuel+1,.tuple xs,_,_,s,Q,hk,hdp,x,h=>by
   cases x with
   | tuple hg hc hd hr =>
     rename_i _ a o vs n;have hT:s.TypeIs (.ref a) "tuple" := ⟨_,hg,hc⟩; unfold eqIsQuiet; refine xD (o4 hT F.slot_tuple_eq.lookup ?_); show wpAny _ _ (isInstance (.ref a) (.type "tuple")>>=_) _ _ s;refine xD (AX hT isSubtype_tuple_tuple ?_); simp only [FZ,yY,if_false]; refine xD (IU hg hd ?_); refine xD ?_; show wpAny _ _ (forIn vs _ _) _ _ s;rw [<- Array.forIn_toList]; refine On fuel xs _ _ s _ (by simpa [isK] using hk) (by simp only [zR] at hdp; lia) hr ?_;exact xE h
 | _,.none,_,_,_,_,hk,_,_,_ | _,.bool _,_,_,_,_,hk,_,_,_ | _,.list _,_,_,_,_,hk,_,_,_ | _,.dict _,_,_,_,_,hk,_,_,_=>by simp [isK] at hk
theorem On:∀ (fuel:Nat) (xs:List xC) (vs:List xF) (as:List xO) (s:xH) (Q:Option Bool×Unit->xH->Prop),Hf xs=true->zW xs<=fuel->JH s.heap vs xs as ->
   Q (none,()) s ->
   wpAny (yC prog w) A (forIn vs ((none,()):Option Bool×Unit) fun x r=>do
     let b <- eqIsQuiet fuel x
     if (!b)=true then pure (ForInStep.done (some false,())) else do
       pure PUnit.unit
       pure (p4 (none,()))) Q E s
 | _,[],_,_,s,Q,_,_,x,h1=>by cases x; exact xE h1
 | fuel,k::xs,_,_,s,Q,hk,hdp,x,h1=>by
   cases x with
   | cons x1 x2 =>
     simp only [Hf,yE,zW] at hk hdp; rw [GX]; refine xD (xD (Ld fuel k _ _ s _ hk.1 (by lia) x1 ?_));simp only [FZ,yY,if_false]; exact xE (On fuel xs _ _ s Q hk.2 (by lia) x2 h1)
end
end
end Sm
end
section
namespace Sm
open PySem PySem.Spec PyProof.Rows L2
abbrev St:=L2.St
section
variable {prog:yI} {w:yR} {A:zL} {R:Result->xH->Prop} {s:xH}
theorem Vd {elt target iter:Expr} {ifs:List Expr} {scope:Scope} {pos:Pos} {it acc:xF} {env:Env} (I:Nat->xH->Prop)
   (turn:∀ n s,I n s->wpAny (yC prog w) A (pyNext it) (fun r s₁=>match r with
     | none=>R (.ok .next) s₁
     | some v => wpAny (yC prog w) A (FK target it v) (fun _ s₁' => wpAny (yC prog w) A (GE target env v) (fun _ s₂ =>
         wpAny (yC prog w) A (forIn ifs true fun c r=>if r=true then do let ok <- isTrue c env (eval c env); pure (p4 ok) else pure (p4 r)) (fun ok s₃ =>
           if ok=true then wpAny (yC prog w) A (eval elt env) (fun x s₄ =>
             wpAny (yC prog w) A (call (.builtin "list.append") [acc,x]) (fun _ s₅=>∃ m,m < n/\I m s₅) (fun _ _=>False) s₄) (fun _ _=>False) s₃
           else ∃ m,m < n/\I m s₃) (fun _ _=>False) s₂) (fun _ _=>False) s₁') (fun _ _=>False) s₁) (fun _ _=>False) s)
   (n:Nat) (h:I n s):DJ (yC prog w) A (.compLoop (.ListComp elt [⟨target,iter,ifs,0⟩] scope pos) 0 it acc env) R s:=by
 refine codeAny_loop rfl I (fun n s hI=>?_) n h;show wpAny _ A ((compTurn (.ListComp elt [⟨target,iter,ifs,0⟩] scope pos) 0 it acc env).onRaise (fun x=>do noteFrame x env; theTreesLotGoes x)) _ _ s;refine wpAny_noted ?_;rw [compTurn_list];refine xD (wpAny_standAt (xD (e8 (turn n s hI) (fun r s₁ h₁=>?_) fun _ _ h'=>h'.elim)));cases r with
 | none=>exact xE h₁
 | some v =>
   refine xD (e8 h₁ (fun _ s₁' h₁'=>?_) fun _ _ h'=>h'.elim);refine xD (e8 h₁' (fun _ s₂ h₂=>xD (e8 h₂ (fun ok s₃ h₃=>?_) fun _ _ h'=>h'.elim)) fun _ _ h'=>h'.elim);cases ok with
   | false=>exact xE ⟨rfl,h₃⟩
   | true =>
     exact xD (xD (e8 h₃ (fun x s₄ h₄=>xD (e8 h₄ (fun _ s₅ h₅=>xE (xE ⟨rfl,h₅⟩)) fun _ _ h'=>h'.elim)) fun _ _ h'=>h'.elim))
end
def Zi (X:Cx) (s₃:xH) (H₃:Hp) (scope:Scope) (cl:List (Str×xO)) (N':List Str) (fp:List xO):Cx :=
 { X with N:=N',s₀:=s₃,H₀:=H₃,env:=compEnvC scope cl s₃.heap.objs.size X.env,outer:=X.stack,stack:=X.stack,ex:=fp,fn:=fun _=>false,pn:=[],xe:=fun _ _=>False }
structure Blk (X X':Cx) (N':List Str) (sc':Scope):Prop where
 prog:X'.prog=X.prog
 w:X'.w=X.w
 K:X'.K=X.K
 mg:X'.mg=X.mg
 base:X'.base=X.base
 A:X'.A=X.A
 calm:X'.calm=X.calm
 N:X'.N=N'
 sc:X'.env.scope=sc'
 xe:X'.xe=fun _ _=>False
structure Clos (X:Cx) (scope:Scope) (cl:List (Str×xO)):Prop where
 clo:closureFor scope X.env=pure cl
 sub:∀ x c,cl.lookup x=some c->X.env.cells.lookup x=some c
 has:∀ x,(n8 scope X.env).names.lookup x=some .cell\/(n8 scope X.env).names.lookup x=some .free->∃ c,cl.lookup x=some c
section
variable {X:Cx} {pins:List (xO×Obj)} {Z:St} {H:Hp} {s₃:xH}
theorem wU {scope:Scope} {cl:List (Str×xO)} {N':List Str} {fp:List xO} (I:Inv X pins Z H s₃) (hk:scope.kind=.function) (C:Clos X scope cl) (hfp:∀ b∈fp,Rj X pins H b) (hlt:∀ b∈fp,b < s₃.heap.objs.size) :
   (Zi X s₃ H scope cl N' fp).Ok where
 mod:=I.ok.mod
 kind:=hk
 glob:=I.ok.glob
 blt:=I.ok.blt
 above:=xN _
 inj:=fun x y c h1 h2=>I.ok.inj x y c (C.sub x c h1) (C.sub y c h2)
 has:=fun x h=>C.has x h
 cab:=fun x c h=>nomatch h
 hd:=I.ok.hd
 frames:=I.ok.frames
 stk:=.inl rfl
 exf:=fun b hb=>⟨yU (hlt b hb),fun x c h=>(hfp b hb).2.2.2.2.1 x c (C.sub x c h)⟩
 bs:=fun b o e=>I.bs b o e
 bsz:=yA I.ok.bsz I.sz
 noex:=fun b o e hb=>by
   rcases (hfp b hb).2.2.2.1 with z | z
   . exact I.ok.noex b o e z
   . exact absurd (yS (xZ e) (yA I.ok.bsz z)) (e9 _)
 exfs:=fun b hb z=>by
   rcases xG.mp (I.stkSub b z) with q | q
   . exact (hfp b hb).2.1 q
   . exact (hfp b hb).2.2.1 q
 funs:=I.stack
 frf:=I.stkFree
def Ee (Z:St) (cap:List Nat):St:=cap.map fun j=>Z[j]?.join
theorem rR {scope:Scope} {cl:List (Str×xO)} {xs:List Str} {cap:List Nat} {capN:List Str} {fp:List xO} {h₁:zJ} {tk:Nat} (I:Inv X pins Z H s₃) (hk:scope.kind=.function) (C:Clos X scope cl) (hfp:∀ b∈fp,Rj X pins H b) (hlt:∀ b∈fp,b < s₃.heap.objs.size)
   (hcap:cap.map (fun j=>X.N[j]?)=capN.map some) (hcl:∀ x∈capN,(n8 scope X.env).names.lookup x=some .cell\/(n8 scope X.env).names.lookup x=some .free)
   (hvis:∀ x∈capN,X.env.scope.names.lookup x=some .cell\/X.env.scope.names.lookup x=some .free) {m:Str->Option xF}
   (hns:h₁.Ns s₃.heap.objs.size m) (old:∀ b o,s₃.heap.get? b=some o->h₁.get? b=some o) :
   Inv (Zi X s₃ H scope cl (xs++capN) fp) [] (xs.map (fun _=>none)++Ee Z cap) H { s₃ with heap:=h₁,toks:=tk }:=by
 have hlen:cap.length=capN.length:=by simpa using congrArg BI hcap
 refine ⟨wU I hk C hfp hlt,rfl,I.bare,Un.kept old,⟨m,hns,fun i x v e1 e2 e3=>?_⟩,fun x c e=>?_,I.hok.fresh (xN _),fun x c e=>I.freeC x c (C.sub x c e),fun p hp=>absurd (show p∈([]:List (xO×Obj)) from hp) (by simp),I.hok.kept old,?_⟩
 . have e1':(xs++capN)[i]? = some x:=e1
   by_cases hi:i < xs.length
   . rw [zC (by simpa using hi),yQ] at e2
     cases q:xs[i]? with
     | none=>rw [q] at e2; cases e2
     | some z=>rw [q] at e2; cases e2
   . rw [zF (by simpa using hi)] at e2
     rw [zF (by lia)] at e1'; rw [xJ] at e2;generalize i - xs.length=j at e1' e2;unfold Ee at e2; rw [yQ] at e2; have hc:(cap.map (fun j=>X.N[j]?))[j]? = some (some x):=by rw [hcap,yQ,e1']; rfl
     rw [yQ] at hc;cases q:cap[j]? with
     | none=>rw [q] at e2; cases e2
     | some k =>
       rw [q] at e2 hc; simp only [CJ] at e2 hc; have hc':X.N[k]? = some x:=zH hc; have hs:Z[k]? = some (some v):=by
         cases z:Z[k]? with
         | none=>rw [z] at e2; cases e2
         | some z'=>rw [z] at e2; cases z' with
           | none=>cases e2
           | some z''=>cases e2; rfl
       have hx:x∈capN:=j9 e1'; obtain ⟨m',hm',hl'⟩:=I.loc; obtain ⟨u,r,l⟩:=hl' k x v hc' hs (by rcases hvis x hx with z | z; exact .inr (.inl z); exact .inr (.inr z));refine ⟨u,r,.inr ⟨hcl x hx,?_⟩⟩; obtain ⟨c,hcc⟩:=C.has x (hcl x hx); refine ⟨c,hcc,?_⟩; rcases l with ⟨z,_⟩ | ⟨_,c',e',z⟩
       . have z':X.env.scope.names.lookup x=some .local:=z
         rcases hvis x hx with y | y <;> (rw [z'] at y; cases y)
       . rw [C.sub x c hcc] at e'; cases e'
         obtain ⟨o,ho,hd⟩:=z; exact ⟨o,old _ _ ho,hd⟩
 . obtain ⟨v,o,ho,hd⟩:=I.cell x c (C.sub x c e)
   exact ⟨v,o,old _ _ ho,hd⟩
 . show (xs.map (fun _=>none)++Ee Z cap).length=(xs++capN).length
   unfold Ee; rw [yB,yB,xJ,xJ,hlen]
end
def Wk (Z1 Z2:St):Prop:=Z1.length=Z2.length/\∀ (i:Nat) v,Z1[i]? = some (some v)->Z2[i]? = some (some v)
def bT (wi:TI) (Zb:St->St) (g:TG) (tt:TT) (te:TE):TE:=fun Z H Q=>wi Z H fun J H1=>∀ D,H1 D=none->∃ W:Nat->Nat->Hp->Prop,(∃ m,W 0 m (upd H1 D (.lst [])))/\∀ i m H,W i m H ->
 (J.stop i H/\Q (.ref D) H)\/(J.go i H/\∃ N:Hp->Prop,(∀ H',N H'->∃ m',m' < m/\W (i+1) m' H')/\∀ x H',J.yld i H x H'->g x (Zb Z) H' fun Z2 H2=>Wk (Zb Z) Z2/\tt Z2 H2 fun b H3 =>
   if b=true then te Z2 H3 fun y H4=>∃ acc,H4 D=some (.lst acc)/\acc.length < sizeLine/\N (upd H4 D (.lst (acc++[y]))) else N H3)
def PTs (X:Cx) (ifs:List Expr) (t:TT):Prop :=
 ∀ (pins:List (xO×Obj)) (s:xH) (Z:St) (H:Hp) (Q:Bool->Hp->Prop),Inv X pins Z H s->t Z H Q ->
   wpAny (yC X.prog X.w) X.A (forIn ifs true fun c r=>if r=true then do let ok <- isTrue c X.env (eval c X.env); pure (p4 ok) else pure (p4 r)) (TP X pins Z Q) X.xe s
theorem oW {X:Cx}:PTs X [] (fun _ H Q=>Q true H):=fun _ _ _ H _ I h=>wpAny_tests_nil ⟨H,I,h⟩
theorem oV {X:Cx} {c:Expr} {t:TT} (h:PT X c t):PTs X [c] t:=fun pins s Z H Q I q=>wpAny_tests_one (h pins s Z H Q I q)
structure CompFacts (X:Cx) (scope:Scope) (xs capN:List Str) (cap:List Nat):Prop where
 kind:scope.kind=.function
 nocell:∀ y∈scope.names,y.2≠.cell
 names:∀ y∈scope.names,y.2=.local->scope.names.lookup y.1=some .local
 clos:∃ cl,Clos X scope cl
 hcap:cap.map (fun j=>X.N[j]?)=capN.map some
 hcl:∀ x∈capN,(n8 scope X.env).names.lookup x=some .cell\/(n8 scope X.env).names.lookup x=some .free
 hvis:∀ x∈capN,X.env.scope.names.lookup x=some .cell\/X.env.scope.names.lookup x=some .free
section
variable {X:Cx} {tg elt iter:Expr} {ifs:List Expr} {scope:Scope} {pos:Pos} {wi:TI} {g:TG} {tt:TT} {te:TE} {xs capN:List Str} {cap:List Nat}
theorem Yx {use:Option (xF->Sem Unit)} {Q:xF->xH->Prop} {QQ:VK} (hc:X.calm=true) (F:CompFacts X scope xs capN cap) (hi:PI X tg iter wi)
   (hg:∀ X',Blk X X' (xs++capN) (n8 scope X.env)->PG X' tg g) (ht:∀ X',Blk X X' (xs++capN) (n8 scope X.env)->PTs X' ifs tt) (he:∀ X',Blk X X' (xs++capN) (n8 scope X.env)->PE X' elt te)
   (hs:∀ x,zP iter X.env x=pure x)
   {pins:List (xO×Obj)} {s:xH} {Z:St} {H:Hp} (I:Inv X pins Z H s) (h:bT wi (fun Z=>xs.map (fun _=>none)++Ee Z cap) g tt te Z H QQ) {ps:Pos}
   (fin:∀ (s':xH) (H':Hp) (D C:xO) (m:Str->Option xF),Inv X pins Z H' s'->s'.heap.Ns C m->(H' C=none/\X.s₀.heap.objs.size<=C/\C≠X.env.locals/\(∀ x c,X.env.cells.lookup x=some c->c≠C)/\∀ p∈X.pn++pins,p.1≠C) ->
     QQ (.ref D) H'->compPost (yC X.prog X.w) X.A X.xe use Q (.ref D) C (.ok .next) s') :
   wpAny (yC X.prog X.w) X.A (comprehension (.ListComp elt [⟨tg,iter,ifs,0⟩] scope pos) scope X.env ps (newList []) false (eval iter X.env) use) Q X.xe s:=by
 obtain ⟨cl,C⟩:=F.clos;refine wpAny_comprehension_free rfl hs C.clo F.kind F.names (thn (hi pins s Z H _ I h) fun v s1 h1=>thn h1 fun itv s2 h2=>?_);obtain ⟨it,fp,tn,J,H2,e,I2,T,st2,f2,h3⟩:=h2;subst e;refine yZ ?_;obtain ⟨W,⟨m0,w0⟩,turn⟩:=h3 s2.heap.objs.size I2.fresh;have I3:Inv X pins Z (upd H2 s2.heap.objs.size (.lst [])) { s2 with heap:=s2.heap.push { cls:=.type "list",dict:=none,data:=.seq ([]:List xF).toArray } }:=I2.lnew (t':=s2.toks) .nil (zY _);generalize hH3:upd H2 s2.heap.objs.size (HO.lst [])=H3 at I3 w0;generalize hs3:({ s2 with heap:=s2.heap.push { cls:=.type "list",dict:=none,data:=.seq ([]:List xF).toArray } }:xH)=s3 at I3
 have hD3:H3 s2.heap.objs.size=some (.lst []):=by rw [<- hH3]; exact C1
 have kp3:∀ b o,s2.heap.get? b=some o->s3.heap.get? b=some o:=fun b o e=>by rw [<- hs3]; exact xK _ e
 have hDlt:s2.heap.objs.size < s3.heap.objs.size:=by rw [<- hs3]; show _ < (s2.heap.push _).objs.size; rw [CW]; exact CG _
 have flt:∀ b∈fp,b < s2.heap.objs.size:=fun b hb=>by
   obtain ⟨o,e,_⟩:=T.obj 0 _ st2 b hb; exact xZ e
 have flt3:∀ b∈fp,b < s3.heap.objs.size:=fun b hb=>EQ (flt b hb) hDlt;have f3:∀ b∈fp,Rj X pins H3 b:=fun b hb=>⟨by rw [<- hH3,C3 (yU (flt b hb))]; exact (f2 b hb).1,(f2 b hb).2⟩;have st3:tn 0 s3.heap:=T.keep 0 _ _ st2 fun b hb o e=>kp3 b o e;show wpAny _ _ (newFunctionEnv scope X.env.globals cl [] X.env.qual none .none (some X.env)) _ _ s3;refine wpAny_newFunctionEnv F.nocell (by intro y hy; simp at hy) (fun h₁ hns₁ hsb₁=>?_) F.kind;have old:∀ b o,s3.heap.get? b=some o->h₁.get? b=some o:=fun b o e=>hsb₁.extBut b o (yU (xZ e)) (xK _ e);have B:Blk X (Zi X s3 H3 scope cl (xs++capN) fp) (xs++capN) (n8 scope X.env):=⟨rfl,rfl,rfl,rfl,rfl,rfl,rfl,rfl,rfl,rfl⟩
 have J0:Inv (Zi X s3 H3 scope cl (xs++capN) fp) [] (xs.map (fun _=>none)++Ee Z cap) H3 { s3 with heap:=h₁,toks:=s3.toks+([]:List (Str×xF)).length } :=
   rR I3 F.kind C f3 flt3 F.hcap F.hcl F.hvis hns₁ old
 have st4:tn 0 h₁:=T.keep 0 _ _ st3 fun b hb o e=>old b o e;have hg':=hg _ B;have ht':=ht _ B;have he':=he _ B;generalize hX':Zi X s3 H3 scope cl (xs++capN) fp=X' at B J0 hg' ht' he';have hex:X'.ex=fp:=by rw [<- hX']; rfl
 have hloc:X'.env.locals=s3.heap.objs.size:=by rw [<- hX']; rfl
 have henv:X'.env=compEnvC scope cl s3.heap.objs.size X.env:=by rw [<- hX']; rfl
 have hpn:X'.pn=[]:=by rw [<- hX']; rfl
 have hxe:X'.xe=fun _ _=>False:=by rw [<- hX']; rfl
 have hH0:X'.H₀=H3:=by rw [<- hX']; rfl
 have hs0:X'.s₀=s3:=by rw [<- hX']; rfl
 have hfs:X'.fs=frs X.stack:=by rw [<- hX']; rfl
 have hP:X'.prog=X.prog:=B.prog;have hw:X'.w=X.w:=B.w;have hA:X'.A=X.A:=B.A;have nfs:∀ b∈fp,b∉X'.fs:=fun b hb z=>J0.ok.exfs b (by rw [hex]; exact hb) z;have stat:∀ {pn':List (xO×Obj)} {H':Hp},(∀ b∈fp,H' b=none)->(∀ p∈pn',p.1∉fp)->∀ b∈fp,Rj X' pn' H' b:=fun {pn' H'} hn hp b hb =>
   ⟨hn b hb,by rw [hloc]; exact yU (flt3 b hb),nfs b hb,.inl (by rw [hex]; exact hb),fun x c e=>(J0.ok.exf b (by rw [hex]; exact hb)).2 x c e,fun p hp' z=>by
     rw [hpn,zE] at hp'; exact hp p hp' (z▸hb)⟩
 have loop : ∀ s₀' : xH, Inv X' [] (xs.map (fun _ => none) ++ Ee Z cap) H3 s₀' -> tn 0 s₀'.heap ->
     DJ (yC X.prog X.w) X.A (.compLoop (.ListComp elt [⟨tg,iter,ifs,0⟩] scope pos) 0 (.ref it) (.ref s2.heap.objs.size) X'.env) (compPost (yC X.prog X.w) X.A X.xe use Q (.ref s2.heap.objs.size) s3.heap.objs.size) s₀':=by
   intro s₀' J1 st5; refine Vd (fun n s'=>∃ i H',Inv X' [] (xs.map (fun _=>none)++Ee Z cap) H' s'/\tn i s'.heap/\(∀ b∈fp,H' b=none)/\W i n H') ?_ m0 ⟨0,H3,J1,st5,fun b hb=>(f3 b hb).1,w0⟩;rintro n s4 ⟨i,H4,J4,st4,fr4,w4⟩;rcases turn i n H4 w4 with ⟨stop,qn⟩ | ⟨go,N,hN,step⟩
   . have hd:=T.done X' B.prog B.w B.K (B.calm.trans hc) i [] s4 _ H4 (fun _ _=>False) J4 (stat fr4 (by simp)) st4 stop
     rw [hA] at hd; refine thn hd fun r s5 hZ2=>?_;obtain ⟨hr,J5⟩:=hZ2; subst hr; have un:Un (frs X.stack) fp H3 H4 s3.heap s5.heap:=by
       have:=J5.base; rw [hfs,hex,hH0,hs0] at this; exact this
     have ho:s5.os=s3.os:=by rw [J5.os,hs0]
     have hok5:HOk X.prog X.w H4 s5.heap:=by have:=J5.hok; rw [hP,hw] at this; exact this
     have I5:Inv X pins Z H4 s5:=I3.call' ho un hok5 J5.bare fun b hb=>⟨(f3 b hb).2.2.2.1,(f3 b hb).2.1,(f3 b hb).2.2.2.2.1,(f3 b hb).2.2.2.2.2⟩;obtain ⟨m5,hm5,_⟩:=J5.loc; rw [hloc] at hm5; refine fin s5 H4 _ s3.heap.objs.size m5 I5 hm5 ⟨by have:=J5.free; rw [hloc] at this; exact this,I3.sz,y3 I3.lt,fun x c e z=>?_,fun p hp z=>?_⟩ qn
     . obtain ⟨v,q⟩:=I3.cell x c e
       exact absurd q.lt (by rw [z]; exact e9 _)
     . exact absurd (xZ (I3.pin p hp).1) (by rw [z]; exact e9 _)
   . have hd:=T.item X' B.prog B.w B.K (B.calm.trans hc) i [] s4 _ H4 (fun _ _=>False) J4 (stat fr4 (by simp)) st4 go
     rw [hA] at hd; refine thn hd fun r s5 hZ2=>?_;obtain ⟨u,hr,h5⟩:=hZ2; subst hr; refine thn h5 fun _ s6 hZ2=>?_;obtain ⟨x,H6,J6,r6,y6,st6,fr6⟩:=hZ2; have J6':=J6.pinned (stat fr6 (by simp)) (T.obj _ _ st6);rw [zE] at J6'; have hgx:=hg' _ s6 _ H6 x u _ J6' r6 (step x H6 y6); rw [hP,hw,hA,hxe] at hgx; refine thn hgx fun _ s7 hZ2=>?_;obtain ⟨Z7,H7,J7,wk7,q7⟩:=hZ2; have htx:=ht' _ s7 Z7 H7 _ J7 q7; rw [hP,hw,hA,hxe] at htx; refine thn htx fun ok s8 hZ2=>?_;obtain ⟨H8,J8,q8⟩:=hZ2; have again:∀ {H9:Hp} {s9:xH},Inv X' (Oq fp s6.heap) Z7 H9 s9->N H9->(∃ m,m < n/\∃ i H',Inv X' [] (xs.map (fun _=>none)++Ee Z cap) H' s9/\tn i s9.heap/\(∀ b∈fp,H' b=none)/\W i m H'):=fun {H9 s9} J9 n9=>by
       obtain ⟨m',hm,w9⟩:=hN H9 n9; have pin9:∀ b∈fp,∀ o,s6.heap.get? b=some o->s9.heap.get? b=some o/\H9 b=none:=fun b hb o e=>by
         have:=J9.pin (b,o) (l6 _ (Hd hb e)); exact ⟨this.1,this.2.1⟩
       refine ⟨m',hm,i+1,H9,(J9.weak wk7.1 wk7.2).pins_of (fun p hp=>nomatch hp),T.keep _ _ _ st6 fun b hb o e=>(pin9 b hb o e).1,fun b hb=>?_,w9⟩;obtain ⟨o,e,d⟩:=T.obj _ _ st6 b hb; exact (pin9 b hb o e).2
     cases ok with
     | false =>
       rw [if_neg (by decide)] at q8 ⊢;exact again J8 q8
     | true =>
       rw [if_pos rfl] at q8 ⊢;have hex:=he' _ s8 Z7 H8 _ J8 q8; rw [hP,hw,hA,hxe] at hex; refine thn hex fun y s9 hZ2=>?_;obtain ⟨x9,H9,J9,r9,acc,ha,hz,n9⟩:=hZ2; have hap:=Jv (X:=X') _ s9 Z7 H9 (.ref s2.heap.objs.size) [x9] (.ref s2.heap.objs.size) [y] (fun _ H'=>N H') J9 rfl (.cons r9 .nil) ⟨_,acc,x9,rfl,rfl,ha,hz,n9⟩;rw [hP,hw,hA,hxe] at hap; exact thn hap fun _ s10 hZ2=>by obtain ⟨_,H10,J10,_,n10⟩:=hZ2; exact again J10 n10
 have e0:({ (newEnv scope s3.heap.objs.size X.env.globals cl X.env.qual none .none (some X.env) FF:Env) with scope:=n8 scope X.env }:Env)=X'.env:=by rw [henv]; rfl
 have e1:(newEnv scope s3.heap.objs.size X.env.globals cl X.env.qual none .none (some X.env) FF:Env).locals=s3.heap.objs.size:=rfl;show DJ _ _ (.compStart _ 0 (.ref it) (.ref s2.heap.objs.size) ({ (newEnv scope s3.heap.objs.size X.env.globals cl X.env.qual none .none (some X.env) FF:Env) with scope:=n8 scope X.env }:Env)) (compPost _ _ _ _ _ _ s3.heap.objs.size) _;rw [e0];exact codeAny_compStart_list (loop _ J0 st4) (T.self _ 0 _ _ _ st4 (loop _ J0 st4))
theorem cH (hc:X.calm=true) (F:X.Ok->CompFacts X scope xs capN cap) (hi:PI X tg iter wi)
   (hg:∀ X',Blk X X' (xs++capN) (n8 scope X.env)->PG X' tg g) (ht:∀ X',Blk X X' (xs++capN) (n8 scope X.env)->PTs X' ifs tt) (he:∀ X',Blk X X' (xs++capN) (n8 scope X.env)->PE X' elt te)
   (hs:∀ x,zP iter X.env x=pure x:=by intro _; rfl):PE X (.ListComp elt [⟨tg,iter,ifs,0⟩] scope pos) (bT wi (fun Z=>xs.map (fun _=>none)++Ee Z cap) g tt te):=by
 intro pins s Z H Q I h;rw [eval_ListComp];refine Yx (use:=none) hc (F I.ok) hi hg ht he hs I h fun s' H' D C m I' hm hZ7 q=>?_;obtain ⟨c1,c2,c3,c4,c5⟩:=hZ7;refine ⟨m,hm,fun h' sb=>?_⟩;exact ⟨.ref D,H',I'.turned (t':=s'.toks) (fun b o hb e=>(sb.2 b hb).trans e) c1 c3 (.inr c2) c4 c5,rfl,q⟩
theorem Dh {i:Nat} {y:Str} {py spos:Pos} (hc:X.calm=true) (F:X.Ok->CompFacts X scope xs capN cap) (hi:PI X tg iter wi)
   (hg:∀ X',Blk X X' (xs++capN) (n8 scope X.env)->PG X' tg g) (ht:∀ X',Blk X X' (xs++capN) (n8 scope X.env)->PTs X' ifs tt) (he:∀ X',Blk X X' (xs++capN) (n8 scope X.env)->PE X' elt te)
   (hN:X.N.Nodup) (hy:X.N[i]? = some y) (hl:X.env.scope.names.lookup y=some .local) (hsw:p7 (.ListComp elt [⟨tg,iter,ifs,0⟩] scope pos) (some (.Name y py)) spos.line X.env=pure true)
   (hs:∀ x,zP iter X.env x=pure x:=by intro _; rfl):PS X (.Assign [.Name y py] (.ListComp elt [⟨tg,iter,ifs,0⟩] scope pos) spos) (tW (bT wi (fun Z=>xs.map (fun _=>none)++Ee Z cap) g tt te) (L3 i)):=by
 intro pins s Z H D0 I h;rw [exec_Assign_Name_used _ _ _ _ hsw];refine xD (wpAny_standAt (xD ?_));show wpAny _ _ (do let _ <- comprehension (.ListComp elt [⟨tg,iter,ifs,0⟩] scope pos) scope X.env _ (newList []) false (eval iter X.env) (some (GE (.Name y py) X.env))) _ _ s;refine xD (e8 (Yx (use:=some (GE (.Name y py) X.env)) (Q:=fun _ s'=>SP X pins D0 .next s') hc (F I.ok) hi hg ht he hs I h fun s' H' D C m I' hm hY33 q=>?_) (fun _ s' hq=>xE (xE hq)) fun _ _ e=>e);obtain ⟨c1,c2,c3,c4,c5⟩:=hY33;show wpAny _ _ (GE (.Name y py) X.env (.ref D)) _ _ s'
 refine wpAny_assign_Name (Rs I' hN hy (.inl hl) (v:=.ref D) rfl (fun s'' I'' hY34=>?_) (.inr hl));obtain ⟨a,sa,ea⟩:=hY34;have haC:a≠C:=by
   rcases ea with z | z
   . rw [z]; exact Ne.symm c3
   . exact c4 _ _ z
 refine ⟨m,hm.sameBut sa (Ne.symm haC),fun h' sb=>?_⟩;exact ⟨_,H',I''.turned (t':=s''.toks) (fun b o hb e=>(sb.2 b hb).trans e) c1 c3 (.inr c2) c4 c5,q⟩
end
end Sm
end
section
namespace L2
open PySem PySem.Spec PyProof.Rows
section
variable {X:Cx} {pins:List (xO×Obj)} {Z:St} {H:Hp} {s:xH}
theorem Inv.big (I:Inv X pins Z H s):p9 < s.heap.objs.size:=by
 have h:a9 < s.heap.objs.size:=(I.mod.glob.keeps I.bk).lt;exact EQ (by decide) h
end
def xB (i:Expr):Prop:=∀ ov iv,IE i false ov iv=operate [ov,iv] (DH ov iv)
theorem nW {prog:yI} {w:yR} {A:zL} {E:xF->xH->Prop} {s:xH} {env:Env} {value slice:Expr} {pos:Pos} {T id:String} {Q:xF->xH->Prop}
   (hl:typeLookup (.type T) "__getitem__" = pure (some (.builtin id))) (hs:xB slice)
   (h:wpAny (yC prog w) A (eval value env) (fun o s₁=>wpAny (yC prog w) A (eval slice env) (fun i s₂=>s₂.TypeIs o T/\wpAny (yC prog w) A (DH o i) Q E s₂) E s₁) E s) :
   wpAny (yC prog w) A (eval (.Subscript value slice pos) env) Q E s:=by
 refine Subscript_ (e8 h (fun o s₁ h₁=>e8 h₁ (fun i s₂ h₂=>?_) fun _ _ x=>x) fun _ _ x=>x);obtain ⟨hT,h₂⟩:=h₂;unfold subscriptTail;refine xD ?_;rw [getitemInPython_of_ne hT.not_modules];refine xD (o4 hT hl ?_);have fin:wpAny (yC prog w) A (IE slice false o i) (fun r s₃=>wpAny (yC prog w) A (letTemporaryGo value o r>>=fun _=>pure r) Q E s₃) E s₂:=by
   rw [hs o i]; exact wpAny_operating (e8 h₂ (fun r s₃ h₃=>xD (wpAny_letTemporaryGo (xE h₃))) fun _ _ x=>x)
 first
   | exact xE (xD fin)
   | exact xD (xE (xD fin))
   | exact xD fin
theorem mI {P:yI} {w:yR} {H:Hp} (h:zJ) (hb:p9 < h.objs.size):ObjOk P w H (h.push { cls:=.type "dict",data:=.dict #[] }) h.objs.size (.dT []) :=
 ⟨zY _,beq_eq_false_iff_ne.mpr (Ne.symm (yU hb)),[],.nil,_,#[],0,xT _ rfl,⟨rfl,rfl,rfl⟩,rfl,rfl,List.nodup_nil⟩
def tU:TE:=fun _ H Q=>∀ p,H p=none->Q (.ref p) (upd H p (.dT []))
section
variable {X:Cx} {pos:Pos}
theorem kN:PE X (.Dict [] [] pos) tU:=fun pins s Z H Q I h =>
 wpAny_Dict_empty ⟨.ref s.heap.objs.size,_,I.laid (a:=s.heap.objs.size) (o:=.dT []) (t':=s.toks) (fun _ _ q=>xK _ q) (xN _) (mI s.heap I.big),rfl,h _ (I.hok.fresh (xN _))⟩
end
structure M1 (X:Cx) (o:Expr) (m:Str) (apos:Pos) (e:Expr) (cpos:Pos):Prop where
 base:p6 o m X.env (eval o X.env)=eval o X.env
 few:((f9 cpos (xR [e] X.env)).all (fun x => !x.1)&&(EY cpos (BW [] X.env)).all (fun x=>x.1.isSome)
   && decide (([e]:List Expr).length+([]:List AQ).length+(if ([]:List AQ).isEmpty then 0 else 1) < 30))=true
 line:(apos.endLine==cpos.line)=true
 trees:f9 cpos (xR [e] X.env)=[(false,eval e X.env)]
structure M2 (X:Cx) (o:Expr) (m:Str) (apos:Pos) (e f:Expr) (cpos:Pos):Prop where
 base:p6 o m X.env (eval o X.env)=eval o X.env
 few:((f9 cpos (xR [e,f] X.env)).all (fun x => !x.1)&&(EY cpos (BW [] X.env)).all (fun x=>x.1.isSome)
   && decide (([e,f]:List Expr).length+([]:List AQ).length+(if ([]:List AQ).isEmpty then 0 else 1) < 30))=true
 line:(apos.endLine==cpos.line)=true
 trees:f9 cpos (xR [e,f] X.env)=[(false,eval e X.env),(false,eval f X.env)]
end L2
end
section
namespace Sm
open PySem PySem.Spec PyProof.Rows L2
inductive Res (α:Type) where
 | ok (a:α)
 | exc (c:Str)
 | no
noncomputable def Res.bind {α β:Type}:Res α->(α->Res β)->Res β
 | .ok a,k=>k a
 | .exc c,_=>.exc c
 | .no,_=>.no
noncomputable def ofO {α:Type}:Option α->Res α
 | some a=>.ok a
 | none=>.no
inductive Sl where
 | un
 | sh (d:xC)
 | ow (d:xC)
 | fd (kvs:List (xC×xC))
abbrev Dn:=List Sl
mutual
noncomputable def Rep (G:Hp):xC->V->Prop
 | .none,v=>v=.non
 | .bool b,v=>v=.bl b
 | .int i,v=>v=.int i
 | .str x,v=>v=.str x/\yP x=true/\x.length<=sizeLine
 | .list ds,v=>∃ a xs,v=.ref a/\Rd G a (.lst xs)/\RepL G ds xs
 | .tuple ds,v=>∃ a xs,v=.ref a/\G a=some (.tup xs)/\RepL G ds xs
 | .dict _,_=>False
noncomputable def RepL (G:Hp):List xC->List V->Prop
 | [],xs=>xs=[]
 | d::ds,xs=>∃ x r,xs=x::r/\Rep G d x/\RepL G ds r
end
theorem Rd.mono {G G':Hp} (h:Same G G') {a:xO} {u:HO} (r:Rd G a u):Rd G' a u:=by
 rcases r with r | ⟨o,r⟩
 . exact .inl (h _ _ r)
 . exact .inr ⟨o,h _ _ r⟩
mutual
theorem Rep.mono {G G':Hp} (h:Same G G'):∀ {d:xC} {v:V},Rep G d v->Rep G' d v
 | .none,_,r=>r
 | .bool _,_,r=>r
 | .int _,_,r=>r
 | .str _,_,r=>r
 | .list _,_,r=>by obtain ⟨a,xs,e,q,l⟩:=r; exact ⟨a,xs,e,Rd.mono h q,RepL.mono h l⟩
 | .tuple _,_,r=>by obtain ⟨a,xs,e,q,l⟩:=r; exact ⟨a,xs,e,h _ _ q,RepL.mono h l⟩
 | .dict _,_,r=>r.elim
theorem RepL.mono {G G':Hp} (h:Same G G'):∀ {ds:List xC} {xs:List V},RepL G ds xs->RepL G' ds xs
 | [],_,r=>r
 | _::_,_,r=>by obtain ⟨x,t,e,q,l⟩:=r; exact ⟨x,t,e,Rep.mono h q,RepL.mono h l⟩
end
mutual
theorem Rep.lay {G:Hp}:∀ {d:xC} {v:V},Rep G d v->d.canLay0=true
 | .none,_,r=>rfl
 | .bool _,_,r=>rfl
 | .int _,_,r=>rfl
 | .str _,_,r=>r.2.1
 | .list _,_,r=>by obtain ⟨a,xs,e,q,l⟩:=r; exact RepL.lay l
 | .tuple _,_,r=>by obtain ⟨a,xs,e,q,l⟩:=r; exact RepL.lay l
 | .dict _,_,r=>r.elim
theorem RepL.lay {G:Hp}:∀ {ds:List xC} {xs:List V},RepL G ds xs->m6 ds=true
 | [],_,r=>rfl
 | _::_,_,r=>by
   obtain ⟨x,t,e,q,l⟩:=r; rw [m6,Rep.lay q,RepL.lay l]; rfl
end
noncomputable section
variable {G:Hp}
theorem RepL.cons {d:xC} {ds:List xC} {x:V} {xs:List V} (h:Rep G d x) (t:RepL G ds xs):RepL G (d::ds) (x::xs):=⟨x,xs,rfl,h,t⟩
theorem RepL.length:∀ {ds:List xC} {xs:List V},RepL G ds xs->ds.length=xs.length:=by
 intro iN; induction iN with
 | nil=>intro _ r; cases (show _=_ from r); rfl
 | cons d ds ih=>intro _ r; obtain ⟨x,t,rfl,q,l⟩:=r; simp [ih l]
theorem RepL.get:∀ {ds:List xC} {xs:List V} {i:Nat} {d:xC},RepL G ds xs->ds[i]? = some d->∃ x,xs[i]? = some x/\Rep G d x
 | [],_,_,_,_,e=>by simp at e
 | d::ds,_,0,_,r,e=>by obtain ⟨x,t,rfl,q,l⟩:=r; simp at e; subst e; exact ⟨x,rfl,q⟩
 | d::ds,_,i+1,_,r,e=>by
   obtain ⟨x,t,rfl,q,l⟩:=r; obtain ⟨y,h1,h2⟩:=RepL.get (i:=i) l (by simpa using e);exact ⟨y,by simpa using h1,h2⟩
theorem RepL.append:∀ {ds es:List xC} {xs ys:List V},RepL G ds xs->RepL G es ys->RepL G (ds++es) (xs++ys):=by
 intro iN; induction iN with
 | nil=>intro _ _ _ r q; cases (show _=_ from r); exact q
 | cons d ds ih=>intro _ _ _ r q; obtain ⟨x,t,rfl,h,l⟩:=r; exact RepL.cons h (ih l q)
theorem RepL.drop:∀ (n:Nat) {ds:List xC} {xs:List V},RepL G ds xs->RepL G (ds.drop n) (xs.drop n)
 | 0,_,_,r=>r
 | _+1,[],_,r=>by cases (show _=_ from r); exact rfl
 | n+1,d::ds,_,r=>by obtain ⟨x,t,rfl,h,l⟩:=r; exact RepL.drop n l
theorem RepL.take:∀ (n:Nat) {ds:List xC} {xs:List V},RepL G ds xs->RepL G (ds.take n) (xs.take n)
 | 0,_,_,r=>rfl
 | _+1,[],_,r=>by cases (show _=_ from r); exact rfl
 | n+1,d::ds,_,r=>by obtain ⟨x,t,rfl,h,l⟩:=r; exact RepL.cons h (RepL.take n l)
theorem RepL.rep {ds:List xC} {xs:List V} (r:RepL G ds xs):∀ k:Nat,RepL G (yD k ds).flatten (yD k xs).flatten:=by
 intro iN; induction iN with
 | zero=>skip; exact rfl
 | succ k ih =>
   skip
   rw [n5,n5,j0,j0]; exact RepL.append r (ih)
theorem RepL.ints (ns:List Int):RepL G (ns.map xV) (ns.map V.int):=by
 induction ns with
 | nil=>exact rfl
 | cons n ns ih=>exact RepL.cons rfl ih
theorem RepL.dropLast {ds:List xC} {xs:List V} (r:RepL G ds xs):RepL G ds.dropLast xs.dropLast:=by
 rw [JL,JL,r.length];exact RepL.take _ r
end
structure Grow (G H G' H':Hp):Prop where
 g:Same G G'
 h:Same H H'
 gh:Same G' H'
 fr:∀ b o,G' b=some o->G b=some o\/H b=none\/∃ xs,o=HO.tup xs
theorem Grow.refl {G H:Hp} (h:Same G H):Grow G H G H:=⟨Same.refl _,Same.refl _,h,fun _ _ e=>.inl e⟩
theorem Grow.trans {G H G1 H1 G2 H2:Hp} (a:Grow G H G1 H1) (b:Grow G1 H1 G2 H2):Grow G H G2 H2 :=
 ⟨a.g.trans b.g,a.h.trans b.h,b.gh,fun c o e=>by
   rcases b.fr c o e with q | q | q
   . exact a.fr c o q
   . exact .inr (.inl (a.h.free q))
   . exact .inr (.inr q)⟩
theorem Same.upd {H:Hp} {p:xO} {o:HO} (h:H p=none):Same H (upd H p o):=fun b u e=>by
 rw [C3 (E3 e h)]; exact e
theorem Grow.new {G H:Hp} {p:xO} {o:HO} (s:Same G H) (h:H p=none):Grow G H (upd G p o) (upd H p o):=by
 have hg:G p=none:=s.free h;refine ⟨Same.upd hg,Same.upd h,fun b u e=>?_,fun b u e=>?_⟩
 . by_cases hb:b=p
   . subst hb; rw [C1] at e ⊢; exact e
   . rw [C3 hb] at e ⊢; exact s _ _ e
 . by_cases hb:b=p
   . subst hb; exact .inr (.inl h)
   . rw [C3 hb] at e; exact .inl e
theorem Grow.own {G H:Hp} {p:xO} {o:HO} (s:Same G H) (h:H p=none):Grow G H G (upd H p o) :=
 ⟨Same.refl _,Same.upd h,s.trans (Same.upd h),fun _ _ e=>.inl e⟩
noncomputable def vU:Key->xC
 | .inl i=>.int i
 | .inr x=>.str x
noncomputable def sM (kk:List (Key×V)):List (List Key×V):=kk.map fun p=>([p.1],p.2)
noncomputable def OwnK (G H:Hp) (a:xO):List xC->Prop
 | [.dict kvs]=>∃ kk:List (Key×V),H a=some (.dK kk)/\kvs.map (·.1)=(sM kk).map (fun p=>n0 (p.1.map vU))/\RepL G (kvs.map (·.2)) ((sM kk).map (·.2))
 | [.dict kvs,.none]=>∃ kk:List (xC×V),H a=some (.dN kk)/\kvs.map (·.1)=kk.map (·.1)/\RepL G (kvs.map (·.2)) (kk.map (·.2))
 | _=>False
theorem OwnK.keep {G G' H H':Hp} {a:xO} {xs:List xC} (g:Same G G') (e:∀ o,H a=some o->H' a=some o) (h:OwnK G H a xs):OwnK G' H' a xs:=by
 unfold OwnK at h ⊢;split at h
 . obtain ⟨kk,h1,h2,h3⟩:=h
   exact ⟨kk,e _ h1,h2,h3.mono g⟩
 . obtain ⟨kk,h1,h2,h3⟩:=h
   exact ⟨kk,e _ h1,h2,h3.mono g⟩
 . exact h.elim
theorem OwnK.is {G H:Hp} {a:xO} {xs:List xC} (h:OwnK G H a xs):∃ o,H a=.some o:=by
 unfold OwnK at h;split at h
 . obtain ⟨kk,h1,_⟩:=h
   exact ⟨_,h1⟩
 . obtain ⟨kk,h1,_⟩:=h
   exact ⟨_,h1⟩
 . exact h.elim
noncomputable def OwnOk (G H:Hp) (a:xO):xC->Prop
 | .list ds=>∃ xs,H a=some (.lst xs)/\RepL G ds xs
 | .dict kvs=>∃ kk:List (List Key×V),H a=some (.dT kk)/\kvs.map (·.1)=kk.map (fun p=>n0 (p.1.map vU))/\RepL G (kvs.map (·.2)) (kk.map (·.2))
 | .tuple xs=>OwnK G H a xs
 | _=>False
def FdOk (G:Hp) (o:Option V) (kvs:List (xC×xC)):Prop:=match kvs with
 | (.dict [],.none)::r=>∃ a,∃ kk:List (xC×V),o=some (.ref a)/\Rd G a (.dN kk)/\r.map (·.1)=kk.map (·.1)/\RepL G (r.map (·.2)) (kk.map (·.2))
 | _=>∃ a ob,∃ kk:List (List Key×V),o=some (.ref a)/\G a=some (.frz ob (.dT kk))/\kvs.map (·.1)=kk.map (fun p=>n0 (p.1.map vU))/\RepL G (kvs.map (·.2)) (kk.map (·.2))
theorem FdOk.mono {G G':Hp} {o:Option V} {kvs:List (xC×xC)} (g:Same G G') (h:FdOk G o kvs):FdOk G' o kvs:=by
 unfold FdOk at h ⊢;split at h
 . obtain ⟨a,kk,h1,h2,h3,h4⟩:=h
   exact ⟨a,kk,h1,Rd.mono g h2,h3,h4.mono g⟩
 . obtain ⟨a,ob,kk,h1,h2,h3,h4⟩:=h
   exact ⟨a,ob,kk,h1,g _ _ h2,h3,h4.mono g⟩
noncomputable def SlOk (G H:Hp) (o:Option V):Sl->Prop
 | .un=>True
 | .sh d=>∃ v,o=some v/\Rep G d v
 | .ow d=>∃ a,o=some (.ref a)/\G a=none/\OwnOk G H a d
 | .fd kvs=>FdOk G o kvs
structure SR (G H:Hp) (Z:St) (δ:Dn):Prop where
 sub:Same G H
 len:Z.length=δ.length
 sl:∀ (i:Nat) (s:Sl),δ[i]? = some s->SlOk G H (Z[i]?.join) s
 ap:∀ (i j:Nat) (a:xO) (d e:xC),δ[i]? = some (.ow d)->δ[j]? = some (.ow e)->Z[i]?.join=some (.ref a)->Z[j]?.join=some (.ref a)->i=j
theorem OwnOk.some {G H:Hp} {a:xO} {d:xC} (h:OwnOk G H a d):∃ o,H a=some o:=by
 cases d with
 | list ds=>obtain ⟨xs,e,_⟩:=h; exact ⟨_,e⟩
 | dict kvs=>obtain ⟨xs,e,_⟩:=h; exact ⟨_,e⟩
 | tuple xs=>exact OwnK.is h
 | _=>exact (show False from h).elim
theorem OwnOk.grow {G H G' H':Hp} (g:Grow G H G' H') {a:xO} {d:xC} (h:OwnOk G H a d):OwnOk G' H' a d:=by
 cases d with
 | list ds=>obtain ⟨xs,e,r⟩:=h; exact ⟨xs,g.h _ _ e,r.mono g.g⟩
 | dict kvs=>obtain ⟨xs,e,k,r⟩:=h; exact ⟨xs,g.h _ _ e,k,r.mono g.g⟩
 | tuple xs=>exact OwnK.keep g.g (fun o e=>g.h _ _ e) h
 | _=>exact (show False from h).elim
theorem OwnOk.noTup {G H:Hp} {a:xO} {d:xC} (h:OwnOk G H a d) {xs:List V} (e:H a=.some (HO.tup xs)):False:=by
 cases d with
 | list ds=>obtain ⟨_,z,_⟩:=h; rw [e] at z; cases z
 | dict kvs=>obtain ⟨_,z,_⟩:=h; rw [e] at z; cases z
 | tuple ys =>
   have h':OwnK G H a ys:=h; unfold OwnK at h';split at h'
   . obtain ⟨_,z,_⟩:=h'; rw [e] at z; cases z
   . obtain ⟨_,z,_⟩:=h'; rw [e] at z; cases z
   . exact h'
 | _=>exact (show False from h).elim
theorem SlOk.grow {G H G' H':Hp} (g:Grow G H G' H') {o:Option V} {s:Sl} (h:SlOk G H o s):SlOk G' H' o s:=by
 cases s with
 | un=>trivial
 | sh d=>obtain ⟨v,e,r⟩:=h; exact ⟨v,e,r.mono g.g⟩
 | fd kvs=>exact FdOk.mono g.g h
 | ow d =>
   obtain ⟨a,e,n,r⟩:=h; refine ⟨a,e,?_,r.grow g⟩;cases q:G' a with
   | none=>rfl
   | some u =>
     obtain ⟨o',eo⟩:=r.some; rcases g.fr a u q with z | z | ⟨xs,rfl⟩
     . rw [n] at z; cases z
     . rw [eo] at z; cases z
     . exact ((r.grow g).noTup (g.gh _ _ q)).elim
theorem SR.grow {G H G' H':Hp} {Z:St} {δ:Dn} (S:SR G H Z δ) (g:Grow G H G' H'):SR G' H' Z δ :=
 ⟨g.gh,S.len,fun i s e=>(S.sl i s e).grow g,S.ap⟩
abbrev EK:=Str->Hp->Prop
def Aft (E:EK) (G H:Hp) (r:Res xC) (Q:VK):Prop:=match r with
 | .ok d=>∀ v G' H',Grow G H G' H'->Rep G' d v->Q v H'
 | .exc c=>∀ G' H',Grow G H G' H'->E c H'
 | .no=>False
def tD (E:EK) (f:Dn->Res xC):TE:=fun Z H Q=>∃ G δ,SR G H Z δ/\Aft E G H (f δ) Q
abbrev DE (X:Cx) (E:EK) (e:Expr) (f:Dn->Res xC):Prop:=PE X e (tD E f)
theorem Aft.grow {E:EK} {G H G' H':Hp} {r:Res xC} {Q:VK} (g:Grow G H G' H') (a:Aft E G H r Q):Aft E G' H' r Q:=by
 cases r with
 | ok d=>exact fun v G2 H2 g2 q=>a v G2 H2 (g.trans g2) q
 | exc c=>exact fun G2 H2 g2=>a G2 H2 (g.trans g2)
 | no=>exact a
theorem PE.imp {X:Cx} {e:Expr} {t t':TE} (h:PE X e t) (i:∀ Z H Q,t' Z H Q->t Z H Q):PE X e t':=fun pins s Z H Q I q=>h pins s Z H Q I (i _ _ _ q)
theorem L5 {E:EK} {G H:Hp} {Z:St} {δ:Dn} {f:Dn->Res xC} {k:xC->Res xC} {Q R:VK} (S:SR G H Z δ) (a:Aft E G H ((f δ).bind k) Q)
   (h:∀ d v G1 H1,Grow G H G1 H1->Rep G1 d v->SR G1 H1 Z δ->Aft E G1 H1 (k d) Q->R v H1):tD E f Z H R:=by
 refine ⟨G,δ,S,?_⟩;cases e:f δ with
 | ok d =>
   rw [e] at a; exact fun v G' H' g r=>h d v G' H' g r (S.grow g) (Aft.grow g a)
 | exc c=>rw [e] at a; exact a
 | no=>rw [e] at a; exact a
noncomputable section
variable {X:Cx} {E:EK} {pos:Pos}
noncomputable def vC (d:xC):Dn->Res xC:=fun _=>.ok d
noncomputable def A0 (i:Nat):Dn->Res xC:=fun δ=>match δ[i]? with
 | some (.sh d)=>.ok d
 | _=>.no
theorem A8 {i:Int} {j:Nat}:DE X E (.Constant (.int i) j pos) (vC (.int i)):=PE.imp uW fun Z H Q hZ3=>by obtain ⟨G,δ,S,a⟩:=hZ3; exact a _ G H (Grow.refl S.sub) rfl
theorem Cn {b:Bool} {j:Nat}:DE X E (.Constant (.bool b) j pos) (vC (.bool b)):=PE.imp pe_bl fun Z H Q hZ3=>by obtain ⟨G,δ,S,a⟩:=hZ3; exact a _ G H (Grow.refl S.sub) rfl
theorem Kc {j:Nat}:DE X E (.Constant .none j pos) (vC .none):=PE.imp uU fun Z H Q hZ3=>by obtain ⟨G,δ,S,a⟩:=hZ3; exact a _ G H (Grow.refl S.sub) rfl
theorem G6 {x:Str} {j:Nat} (h:yP x=true:=by decide +kernel) (hl:x.length<=sizeLine:=by decide +kernel):DE X E (.Constant (.str x) j pos) (vC (.str x)) :=
 PE.imp kI fun Z H Q hZ3=>by obtain ⟨G,δ,S,a⟩:=hZ3; exact a _ G H (Grow.refl S.sub) ⟨rfl,h,hl⟩
theorem wH {i:Nat} {x:Str} (hN:X.N[i]? = some x) (hv:Vis X.env.scope x) (hd:(x==("__debug__" : Str))=false) (hcd:(x==("__classdict__" : Str))=false):DE X E (.Name x pos) (A0 i) :=
 PE.imp (aJ hN hv hd hcd) fun Z H Q hZ3=>by
   obtain ⟨G,δ,S,a⟩:=hZ3; unfold A0 at a;split at a
   . rename_i d e
     obtain ⟨v,e1,r⟩:=S.sl i _ e; refine ⟨v,?_,a _ G H (Grow.refl S.sub) r⟩;cases q:Z[i]? with
     | none=>rw [q] at e1; cases e1
     | some w=>rw [q] at e1; cases w with
       | none=>cases e1
       | some w=>cases e1; rfl
   . exact a.elim
noncomputable def b2 (f g:Dn->Res xC) (op:xC->xC->Option xC):Dn->Res xC:=fun δ=>(f δ).bind fun x=>(g δ).bind fun y=>ofO (op x y)
def OpD (r:R2) (op:xC->xC->Option xC):Prop:=∀ (G H:Hp) (x y:V) (a b d:xC) (Q:VK),Same G H->Rep G a x->Rep G b y->op a b=some d->(∀ v G' H',Grow G H G' H'->Rep G' d v->Q v H')->r x y H Q
theorem iV {r:R2} {op:xC->xC->Option xC} {f g:Dn->Res xC} (ho:OpD r op) {Z:St} {H:Hp} {Q:VK} (h:tD E (b2 f g op) Z H Q):tOp r (tD E f) (tD E g) Z H Q:=by
 obtain ⟨G,δ,S,a⟩:=h;refine L5 S a fun d1 v1 G1 H1 g1 r1 S1 a1=>?_;refine L5 S1 a1 fun d2 v2 G2 H2 g2 r2 S2 a2=>?_;cases e:op d1 d2 with
 | none=>rw [e] at a2; exact a2.elim
 | some d=>rw [e] at a2; exact ho G2 H2 v1 v2 d1 d2 d Q S2.sub (r1.mono g2.g) r2 e a2
theorem Yv {a b:Expr} {o:Operator} {r:R2} {op:xC->xC->Option xC} {f g:Dn->Res xC} (hr:OpR X (EX o) r) (ho:OpD r op) (ha:DE X E a f) (hb:DE X E b g):DE X E (.BinOp a o b pos) (b2 f g op) :=
 PE.imp (pe_op hr ha hb) fun _ _ _ h=>iV ho h
theorem dB {a b:Expr} {o:m9} {r:R2} {op:xC->xC->Option xC} {f g:Dn->Res xC} (hr:OpR X (c9 o) r) (ho:OpD r op) (ha:DE X E a f) (hb:DE X E b g) (hm:behindInMarks o b=false):DE X E (.Compare a [o] [b] pos) (b2 f g op) :=
 PE.imp (pF hr ha hb hm) fun _ _ _ h=>iV ho h
end
end Sm
end
noncomputable section
namespace Sm
open PySem PySem.Spec PyProof.Rows L2
noncomputable section
variable {X:Cx} {pins:List (xO×Obj)} {Z:St} {H G:Hp} {s:xH}
theorem U0 (I:Inv X pins Z H s) {a:xO} {xs:List V} (hG:Same G H) (r:Rd G a (.lst xs)):xs.length<=sizeLine/\∃ (its:List xF) (n:Nat),Vals xs its/\s.heap.get? a=some { cls:=.type "list",data:=.seq its.toArray n } :=
 (Rd.ok (Rd.mono hG r) I.hok:ObjOk X.prog X.w H s.heap a (.lst xs))
theorem Jq (I:Inv X pins Z H s) {a:xO} {xs:List V} (hG:Same G H) (r:G a=some (.tup xs)):xs.length<=sizeLine/\∃ its:List xF,Vals xs its/\FP s.heap a its.toArray :=
 (I.hok a _ (hG _ _ r):ObjOk X.prog X.w H s.heap a (.tup xs))
mutual
theorem Rep.reads (I:Inv X pins Z H s) (hG:Same G H):∀ {d:xC} {v:V} {u:xF},Rep G d v->RelV v u->∃ as,Reads s.heap u d as
 | .none,_,_,r,q=>by cases (show _=_ from r); cases q; exact ⟨_,.none⟩
 | .bool _,_,_,r,q=>by cases (show _=_ from r); cases q; exact ⟨_,.bool _⟩
 | .int _,_,_,r,q=>by cases (show _=_ from r); obtain ⟨t,rfl⟩:=q; exact ⟨_,.int _ _⟩
 | .str _,_,_,r,q=>by cases r.1; obtain ⟨t,rfl⟩:=q; exact ⟨_,.str _ _⟩
 | .list _,_,_,r,q=>by
   obtain ⟨a,xs,rfl,h,l⟩:=r; cases q; obtain ⟨z,its,n,rv,e⟩:=U0 I hG h; obtain ⟨as,ra⟩:=RepL.reads I hG l rv; exact ⟨_,.list e rfl rfl (by simpa using ra)⟩
 | .tuple _,_,_,r,q=>by
   obtain ⟨a,xs,rfl,h,l⟩:=r; cases q; obtain ⟨z,its,rv,o,e,c,n,hd⟩:=Jq I hG h; obtain ⟨as,ra⟩:=RepL.reads I hG l rv; exact ⟨_,.tuple e c hd (by simpa using ra)⟩
 | .dict _,_,_,r,_=>r.elim
theorem RepL.reads (I:Inv X pins Z H s) (hG:Same G H):∀ {ds:List xC} {xs:List V} {us:List xF},RepL G ds xs->Vals xs us->∃ as,JH s.heap us ds as
 | [],_,_,r,q=>by cases (show _=_ from r); cases q; exact ⟨_,.nil⟩
 | _::_,_,_,r,q=>by
   obtain ⟨x,t,rfl,h,l⟩:=r;cases q with
   | cons q qs =>
     obtain ⟨as,r1⟩:=Rep.reads I hG h q; obtain ⟨bs,r2⟩:=RepL.reads I hG l qs; exact ⟨_,.cons r1 r2⟩
end
end
noncomputable def dEq (a b:xC):Option xC:=if min a.depth b.depth<=64 then some (.bool (xX a b)) else none
noncomputable def dNe (a b:xC):Option xC:=if min a.depth b.depth<=64 then some (.bool (!PyData.eqv a b)) else none
def oP (neg:Bool):R2:=fun x y H Q=>∃ G a b,Same G H/\Rep G a x/\Rep G b y/\min a.depth b.depth<=64/\Q (.bl (if neg then !PyData.eqv a b else xX a b)) H
noncomputable section
variable {X:Cx}
theorem kS (hu:X.A.units+64 < m8):OpR X (c9 .Eq) (oP false):=by
 rintro pins s Z H x y v u Q I rx ry ⟨G,a,b,hG,ra,rb,hm,q⟩;obtain ⟨as,r1⟩:=ra.reads I hG rx;obtain ⟨bs,r2⟩:=rb.reads I hG ry;exact SeqAt.compareEq_reads r1 r2 ra.lay rb.lay (by lia) ⟨.bl _,H,I,rfl,q⟩
theorem kR (hu:X.A.units+64 < m8):OpR X (c9 .NotEq) (oP true):=by
 rintro pins s Z H x y v u Q I rx ry ⟨G,a,b,hG,ra,rb,hm,q⟩;obtain ⟨as,r1⟩:=ra.reads I hG rx;obtain ⟨bs,r2⟩:=rb.reads I hG ry;exact SeqAt.compareNe_reads r1 r2 ra.lay rb.lay (by lia) ⟨.bl _,H,I,rfl,q⟩
theorem kX:OpD (oP false) dEq:=by
 intro G H x y a b d Q hG ra rb e q;unfold dEq at e;split at e
 . rename_i h; cases e; exact ⟨G,a,b,hG,ra,rb,h,q _ G H (Grow.refl hG) rfl⟩
 . cases e
theorem kT:OpD (oP true) dNe:=by
 intro G H x y a b d Q hG ra rb e q;unfold dNe at e;split at e
 . rename_i h; cases e; exact ⟨G,a,b,hG,ra,rb,h,q _ G H (Grow.refl hG) rfl⟩
 . cases e
end
noncomputable def sP (x y:Str):Bool := !(Builtin.Str.occurrences y x 0 y.length 1).isEmpty
noncomputable def dIn (neg:Bool) (a b:xC):Option xC:=match b with
 | .list ds=>if min (zW ds) a.depth<=62 then some (.bool (if neg then !ds.any fun y=>xX y a else ds.any fun y=>xX y a)) else none
 | .tuple ds=>if min (zW ds) a.depth<=62 then some (.bool (if neg then !ds.any fun y=>xX y a else ds.any fun y=>xX y a)) else none
 | .str y=>match a with
   | .str x=>some (.bool (if neg then !sP x y else sP x y))
   | _=>none
 | _=>none
def uL (neg:Bool):R2:=fun x y H Q=>∃ G a b d,Same G H/\Rep G a x/\Rep G b y/\dIn neg a b=some (.bool d)/\Q (.bl d) H
noncomputable section
variable {X:Cx}
theorem vE (hu:X.A.units+64 < m8):OpR X (c9 .In) (uL false):=by
 rintro pins s Z H x y v u Q I rx ry ⟨G,a,b,d,hG,ra,rb,e,q⟩;cases b with
 | list ds =>
   replace e:(if _ then _ else _)=some _:=e;split at e
   . rename_i h
     cases e; obtain ⟨as,r1⟩:=ra.reads I hG rx; obtain ⟨bs,r2⟩:=rb.reads I hG ry; exact SeqAt.in_list_reads r2 r1 rb.lay ra.lay (by lia) ⟨.bl _,H,I,rfl,q⟩
   . cases e
 | tuple ds =>
   replace e:(if _ then _ else _)=some _:=e;split at e
   . rename_i h
     cases e; obtain ⟨as,r1⟩:=ra.reads I hG rx; obtain ⟨bs,r2⟩:=rb.reads I hG ry; exact SeqAt.in_tuple_reads r2 r1 rb.lay ra.lay (by lia) ⟨.bl _,H,I,rfl,q⟩
   . cases e
 | str z =>
   cases a with
   | str z' =>
     cases e;cases ra.1; cases rb.1;obtain ⟨t,rfl⟩:=rx; obtain ⟨t',rfl⟩:=ry; exact in_str ⟨.bl _,H,I,rfl,q⟩
   | _=>cases e
 | _=>cases e
theorem fP (hu:X.A.units+64 < m8):OpR X (c9 .NotIn) (uL true):=by
 rintro pins s Z H x y v u Q I rx ry ⟨G,a,b,d,hG,ra,rb,e,q⟩;cases b with
 | list ds =>
   replace e:(if _ then _ else _)=some _:=e;split at e
   . rename_i h
     cases e; obtain ⟨as,r1⟩:=ra.reads I hG rx; obtain ⟨bs,r2⟩:=rb.reads I hG ry; exact SeqAt.notIn_list_reads r2 r1 rb.lay ra.lay (by lia) ⟨.bl _,H,I,rfl,q⟩
   . cases e
 | tuple ds =>
   replace e:(if _ then _ else _)=some _:=e;split at e
   . rename_i h
     cases e; obtain ⟨as,r1⟩:=ra.reads I hG rx; obtain ⟨bs,r2⟩:=rb.reads I hG ry; exact SeqAt.notIn_tuple_reads r2 r1 rb.lay ra.lay (by lia) ⟨.bl _,H,I,rfl,q⟩
   . cases e
 | str z =>
   cases a with
   | str z' =>
     cases e;cases ra.1; cases rb.1;obtain ⟨t,rfl⟩:=rx; obtain ⟨t',rfl⟩:=ry; exact notIn_str ⟨.bl _,H,I,rfl,q⟩
   | _=>cases e
 | _=>cases e
theorem Ph {neg:Bool} {a b d:xC} (e:dIn neg a b=some d):∃ k,d=.bool k:=by
 cases b with
 | list ds=>replace e:(if _ then _ else _)=some _:=e; split at e <;> cases e; exact ⟨_,rfl⟩
 | tuple ds=>replace e:(if _ then _ else _)=some _:=e; split at e <;> cases e; exact ⟨_,rfl⟩
 | str z=>cases a with
   | str z'=>cases e; exact ⟨_,rfl⟩
   | _=>cases e
 | _=>cases e
theorem kU {neg:Bool}:OpD (uL neg) (dIn neg):=by
 intro G H x y a b d Q hG ra rb e q;obtain ⟨k,rfl⟩:=Ph e;exact ⟨G,a,b,k,hG,ra,rb,e,q _ G H (Grow.refl hG) rfl⟩
end
noncomputable def C5:xC->xC->Option xC
 | .int i,.int j=>some (.int (i+j))
 | .str x,.str y=>if x.length+y.length<=sizeLine then some (.str (x++y)) else none
 | .list xs,.list ys=>if xs.length+ys.length<=sizeLine then some (.list (xs++ys)) else none
 | .tuple xs,.tuple ys=>if xs.length+ys.length<=sizeLine then some (.tuple (xs++ys)) else none
 | _,_=>none
def sG:R2:=fun x y H Q=>∃ G a b d,Same G H/\Rep G a x/\Rep G b y/\C5 a b=some d/\∀ v G' H',Grow G H G' H'->Rep G' d v->Q v H'
theorem Dc {x y:Str} (hx:yP x=true) (hy:yP y=true):yP (x++y)=true:=by
 unfold yP at *;show (x.cps++y.cps).all _=true;rw [Array.all_append,hx,hy]; rfl
theorem Mu (x y:Str):(x++y).length=x.length+y.length:=by
 show (x.cps++y.cps).size=_;rw [Array.size_append]; rfl
noncomputable section
variable {X:Cx}
theorem cZ {pins:List (xO×Obj)} {Z:St} {H G:Hp} {s:xH} {Q:VK} {ds:List xC} {xs:List V} {its:List xF} {t':Nat} (I:Inv X pins Z H s) (hG:Same G H) (rv:Vals xs its) (rl:RepL G ds xs) (hz:xs.length<=sizeLine)
   (q:∀ v G' H',Grow G H G' H'->Rep G' (.tuple ds) v->Q v H'):EP X pins Z Q (.ref s.heap.objs.size) { s with heap:=s.heap.push { cls:=.type "tuple",data:=.seq its.toArray },toks:=t' }:=by
 refine ⟨.ref s.heap.objs.size,_,I.laid (t':=t') (o:=.tup xs) (fun b ob q=>xK _ q) (xN _) ⟨hz,its,rv,IsTup.new _ _⟩,rfl,q _ (upd G s.heap.objs.size (.tup xs)) _ (Grow.new hG I.fresh) ⟨_,xs,rfl,C1,rl.mono (Same.upd (hG.free I.fresh))⟩⟩
theorem Ux {pins:List (xO×Obj)} {Z:St} {H G:Hp} {s:xH} {Q:VK} {ds:List xC} {xs:List V} {its:List xF} {t':Nat} (I:Inv X pins Z H s) (hG:Same G H) (rv:Vals xs its) (rl:RepL G ds xs) (hz:xs.length<=sizeLine)
   (q:∀ v G' H',Grow G H G' H'->Rep G' (.list ds) v->Q v H'):EP X pins Z Q (.ref s.heap.objs.size) { s with heap:=s.heap.push { cls:=.type "list",data:=.seq its.toArray },toks:=t' }:=by
 refine ⟨.ref s.heap.objs.size,_,I.lnew (t':=t') rv hz,rfl,q _ (upd G s.heap.objs.size (.lst xs)) _ (Grow.new hG I.fresh) ⟨_,xs,rfl,.inl C1,rl.mono (Same.upd (hG.free I.fresh))⟩⟩
theorem pM:OpR X (EX .Add) sG:=by
 rintro pins s Z H x y v u Q I rx ry ⟨G,a,b,d,hG,ra,rb,e,q⟩;cases a with
 | int i=>cases b with
   | int j =>
     cases e;cases (show _=_ from ra); cases (show _=_ from rb);obtain ⟨t,rfl⟩:=rx; obtain ⟨t',rfl⟩:=ry; exact add_int ⟨.int _,H,I.tok _,⟨_,rfl⟩,q _ G H (Grow.refl hG) rfl⟩
   | _=>cases e
 | str i=>cases b with
   | str j =>
     replace e:(if _ then _ else _)=some d:=e;split at e
     . rename_i hz
       cases e; obtain ⟨e1,o1,_⟩:=ra; obtain ⟨e2,o2,_⟩:=rb;cases e1; cases e2;obtain ⟨t,rfl⟩:=rx; obtain ⟨t',rfl⟩:=ry; exact add_str (fun t' tk=>⟨.str (i++j),H,I.tok _,⟨_,rfl⟩,q _ G H (Grow.refl hG) ⟨rfl,Dc o1 o2,by rw [Mu]; exact hz⟩⟩) hz
     . cases e
   | _=>cases e
 | list xs=>cases b with
   | list ys =>
     replace e:(if _ then _ else _)=some d:=e;split at e
     . rename_i hz
       cases e; obtain ⟨l,vs,rfl,h1,l1⟩:=ra; obtain ⟨l',ws,rfl,h2,l2⟩:=rb;cases rx; cases ry;obtain ⟨z1,its1,n1,v1,e1⟩:=U0 I hG h1; obtain ⟨z2,its2,n2,v2,e2⟩:=U0 I hG h2; have q1:=v1.length; have q2:=v2.length; have q3:=l1.length; have q4:=l2.length; refine PySem.P.add_list e1 e2 ?_ (by rw [xW,xW]; lia);have ea:its1.toArray++its2.toArray=(its1++its2).toArray:=by simp
       rw [ea]; exact Ux (t':=s.toks) I hG (v1.append v2) (l1.append l2) (by rw [yB]; lia) q
     . cases e
   | _=>cases e
 | tuple xs=>cases b with
   | tuple ys =>
     replace e:(if _ then _ else _)=some d:=e;split at e
     . rename_i hz
       cases e; obtain ⟨l,vs,rfl,h1,l1⟩:=ra; obtain ⟨l',ws,rfl,h2,l2⟩:=rb;cases rx; cases ry;obtain ⟨z1,its1,v1,p1⟩:=Jq I hG h1; obtain ⟨z2,its2,v2,p2⟩:=Jq I hG h2; have q1:=v1.length; have q2:=v2.length; have q3:=l1.length; have q4:=l2.length;by_cases hx:its1=[]
       . subst hx
         obtain ⟨⟨cls,dd,data,sl⟩,ho,hc,n,hd⟩:=id p1; obtain ⟨⟨cls2,dd2,data2,sl2⟩,ho2,hc2,n2,hd2⟩:=id p2; simp only at hc hd hc2 hd2; subst hc hd hc2 hd2; refine concat_meets ⟨_,ho,rfl⟩ ⟨_,ho2,rfl⟩ HV seq_tuple_add EA DK (CZ _ _)
           (tuple_addW0 l l' _ _ n n2 dd dd2 sl sl2 (by simp)) ⟨ho,ho2,?_⟩
         have hxs:xs=[]:=by
           have:xs.length=0:=by rw [q3,q1]; rfl
           exact i4.mp this
         subst hxs; exact ⟨.ref l',H,I,rfl,q _ G H (Grow.refl hG) ⟨l',ws,rfl,h2,l2⟩⟩
       . refine HT.cat_tup p1 p2 hx (fun hy=>?_) (fun hy=>?_) (by lia)
         . subst hy
           have hys:ys=[]:=by
             have:ys.length=0:=by rw [q4,q2]; rfl
             exact i4.mp this
           subst hys; rw [zN] at q; exact ⟨.ref l,H,I,rfl,q _ G H (Grow.refl hG) ⟨l,vs,rfl,h1,l1⟩⟩
         . exact cZ (t':=s.toks) I hG (v1.append v2) (l1.append l2) (by rw [yB]; lia) q
     . cases e
   | _=>cases e
 | _=>cases e
theorem pQ:OpD sG C5:=fun G H x y a b d Q hG ra rb e q=>⟨G,a,b,d,hG,ra,rb,e,q⟩
noncomputable def Hk:xC->xC->Option xC
 | .int i,.int j=>some (.int (i - j))
 | _,_=>none
noncomputable def Qz:xC->xC->Option xC
 | .int i,.int j=>if 0 < j then some (.int (i % j)) else none
 | _,_=>none
noncomputable def Lg:xC->xC->Option xC
 | .int i,.int j=>if 0 < j/\j < 1073741824 then some (.int (i / j)) else none
 | _,_=>none
theorem Uh {r:R2} {op:xC->xC->Option xC} (h:∀ a b d,op a b=some d->∃ i j k,a=.int i/\b=.int j/\d=.int k/\∀ H Q,Q (V.int k) H->r (.int i) (.int j) H Q):OpD r op:=by
 intro G H x y a b d Q hG ra rb e q;obtain ⟨i,j,k,rfl,rfl,rfl,hr⟩:=h a b d e;cases (show _=_ from ra); cases (show _=_ from rb);exact hr H Q (q _ G H (Grow.refl hG) rfl)
theorem pN:OpD (rI0 fun i j=>.int (i - j)) Hk:=Uh fun a b d e=>by
 unfold Hk at e;split at e
 . cases e; exact ⟨_,_,_,rfl,rfl,rfl,fun H Q q=>⟨_,_,rfl,rfl,q⟩⟩
 . cases e
theorem pP:OpD (rI (fun _ j=>0 < j) fun i j=>.int (i % j)) Qz:=Uh fun a b d e=>by
 unfold Qz at e;split at e
 . split at e
   . rename_i h; cases e; exact ⟨_,_,_,rfl,rfl,rfl,fun H Q q=>⟨_,_,rfl,rfl,h,q⟩⟩
   . cases e
 . cases e
theorem kW:OpD (rI CDiv fun i j=>.int (i / j)) Lg:=Uh fun a b d e=>by
 unfold Lg at e;split at e
 . split at e
   . rename_i h; cases e; exact ⟨_,_,_,rfl,rfl,rfl,fun H Q q=>⟨_,_,rfl,rfl,h,q⟩⟩
   . cases e
 . cases e
end
end Sm
end
noncomputable section
namespace Sm
open PySem PySem.Spec PyProof.Rows L2
open PySem.AutoSeq1 (wpAny_loadPart')
noncomputable def L7 (n:Nat) (x:Str):Str:=⟨(yD n x.cps).foldl (· ++ ·) #[]⟩
theorem gQ (l:List (Array Nat)):∀ acc:Array Nat,(l.foldl (· ++ ·) acc).toList=acc.toList++(l.map IM).flatten:=by
 induction l with
 | nil=>intro acc; simp
 | cons a l ih=>intro acc; rw [s0,ih]; simp
theorem V9 (n:Nat) (x:Str):(L7 n x).cps.toList=(yD n x.cps.toList).flatten:=by
 unfold L7;rw [gQ]; simp
theorem eI {x:Str} (h:yP x=true) (n:Nat):yP (L7 n x)=true:=by
 unfold yP at *;rw [<- GN,o9] at *;rw [V9];intro c hc;obtain ⟨l,hl,hc⟩:=List.mem_flatten.mp hc;rw [List.eq_of_mem_replicate hl] at hc;exact h c hc
theorem Mv (n:Nat) (x:Str):(L7 n x).length=n*x.length:=by
 show (L7 n x).cps.size=n*x.cps.size;rw [<- zG,V9,cS,zG]
theorem Wb (x:Str):L7 0 x=Str.empty:=rfl
theorem Zw (x:Str):L7 1 x=x:=by
 have:(L7 1 x).cps=x.cps:=by
   apply Array.toList_inj.mp;rw [V9]; simp
 cases x; cases h:L7 1 _; rw [h] at this; cases this; rfl
theorem Zx {x:Str} (n:Nat) (h:x.length=0):L7 n x=x:=by
 have hx:x.cps = #[]:=Array.size_eq_zero_iff.mp h;have:(L7 n x).cps=x.cps:=by
   apply Array.toList_inj.mp;rw [V9,hx]; simp
 cases x; cases h:L7 n _; rw [h] at this; cases this; rfl
noncomputable def N9:xC->xC->Option xC
 | .int i,.int j=>if (-(2 ^ 64) < i/\i < 2 ^ 64)\/(-(2 ^ 64) < j/\j < 2 ^ 64) then some (.int (i*j)) else none
 | .str x,.int n=>if -(2 ^ 63)<=n/\n < 2 ^ 63/\x.length*n.toNat<=sizeLine then some (.str (L7 n.toNat x)) else none
 | .list xs,.int n=>if -(2 ^ 63)<=n/\n < 2 ^ 63/\xs.length*n.toNat<=sizeLine then some (.list (yD n.toNat xs).flatten) else none
 | _,_=>none
def sF:R2:=fun x y H Q=>∃ G a b d,Same G H/\Rep G a x/\Rep G b y/\N9 a b=some d/\∀ v G' H',Grow G H G' H'->Rep G' d v->Q v H'
theorem pO:OpD sF N9:=fun G H x y a b d Q hG ra rb e q=>⟨G,a,b,d,hG,ra,rb,e,q⟩
theorem fT:fillsNumberSlot (.type "tuple") "mul" = pure false:=by
 unfold fillsNumberSlot;first | rfl | kernel_rfl | decide +kernel
theorem oM:seqRepeat? (.type "tuple")=pure (some (.builtin "tuple.__mul__")):=by
 unfold seqRepeat?;first | rfl | kernel_rfl
theorem lY (a:Int) (t:Tok) (l:xO) (items:Array xF) (n:Nat) (dd:Option xO) (sl:Array (Option xF)) :
   Meets (k7.«int.__rmul__» ⟨[.int a t,.ref l],[]⟩) (fun _ R s=>s.heap.get? l=some { cls:=.type "tuple",dict:=dd,data:=.seq items n,slots:=sl }/\R (.ok (.ret EZ)) s) :=
 .of_wp fun prog w A R s h=>by obtain ⟨hp,g,d,tk,os⟩:=s; obtain ⟨hl,h⟩:=h; wp_walk; exact ⟨_,rfl,h⟩
theorem iR (l:xO) (items:Array xF) (n:Nat) (x:Int) (u:Tok) (dd:Option xO) (sl:Array (Option xF)) (h1:¬ (decide (x < -(2 ^ 63:Int))||decide (x≥2 ^ 63))=true) (h2:¬ (items.isEmpty||x==1)=true) (h3:¬ (decide (x<=0)||items.isEmpty)=true)
   (h4:¬ (items.size:Int)*x>(2 ^ 63 - 1) / 8) (h5:¬ Builtin.Tuple.tupleTooMany (items.size*x)=true) (h6:(GC (fun x1 x2=>x1++x2) #[] (yD x.toNat items)).size<=sizeLine) :
   Meets (k7.«tuple.__mul__» ⟨[.ref l,.int x u],[]⟩) (fun _ R s=>s.heap.get? l=some { cls:=.type "tuple",dict:=dd,data:=.seq items n,slots:=sl }/\R (.ok (.ret (k6 s.heap.objs.size))) { s with heap:=s.heap.push { cls:=x4 "tuple",data:=Data.seq (GC (fun x1 x2=>x1++x2) #[] (yD x.toNat items)) },toks:=s.toks }) :=
 .of_wp fun prog w A R s h=>by
   obtain ⟨hp,g,d,tk,os⟩:=s; obtain ⟨hl,h⟩:=h;have f1:=JT
   wp_walk using i9 hl
   rw [if_neg h1]
   wp_walk using i9 hl
   rw [if_neg h4]
   wp_walk using i9 hl
   exact ⟨_,rfl,h⟩
theorem iQ (l:xO) (items:Array xF) (n:Nat) (x:Int) (u:Tok) (dd:Option xO) (sl:Array (Option xF)) (h1:¬ (decide (x < -(2 ^ 63:Int))||decide (x≥2 ^ 63))=true) (h2:(items.isEmpty||x==1)=true) :
   Meets (k7.«tuple.__mul__» ⟨[.ref l,.int x u],[]⟩) (fun _ R s=>s.heap.get? l=some { cls:=.type "tuple",dict:=dd,data:=.seq items n,slots:=sl }/\R (.ok (.ret (.ref l))) s) :=
 .of_wp fun prog w A R s h=>by
   obtain ⟨hp,g,d,tk,os⟩:=s; obtain ⟨hl,h⟩:=h;have f1:=JT
   wp_walk using i9 hl
   rw [if_neg h1]
   wp_walk using i9 hl
   exact ⟨_,rfl,h⟩
noncomputable section
variable {X:Cx}
theorem pJ:OpR X (EX .Mult) sF:=by
 rintro pins s Z H x y v u Q I rx ry ⟨G,a,b,d,hG,ra,rb,e,q⟩;have h63:=Dq;obtain ⟨k,rfl⟩:∃ k,b=.int k:=by unfold N9 at e; split at e <;> first | exact ⟨_,rfl⟩ | cases e
 cases (show _=_ from rb);obtain ⟨t',rfl⟩:=ry;cases a with
 | int i =>
   replace e:(if _ then _ else _)=some d:=e;split at e
   . rename_i hc
     cases e;cases (show _=_ from ra);obtain ⟨t,rfl⟩:=rx; exact mul_int ⟨.int _,H,I.tok _,⟨_,rfl⟩,q _ G H (Grow.refl hG) rfl⟩ (CMul.ok hc)
   . cases e
 | str z =>
   replace e:(if _ then _ else _)=some d:=e;split at e
   . rename_i hc
     obtain ⟨hc1,hc2,hc3⟩:=hc; cases e; obtain ⟨e1,o1,l1⟩:=ra; cases e1; obtain ⟨t,rfl⟩:=rx; have fin:∀ tk,Q (.str (L7 k.toNat z)) H/\Inv X pins Z H { s with toks:=tk }:=fun tk=>⟨q _ G H (Grow.refl hG) ⟨rfl,eI o1 _,by rw [Mv,JJ]; exact hc3⟩,I.tok _⟩;refine PySem.P.mul_str (by rw [decide_eq_false (by lia),decide_eq_false (by lia)]; rfl) (fun h1 _=>?_) (fun h1 _=>?_) ?_
     . intro hgt
       have hk:(0:Int) < k:=by lia
       have h2:(2 ^ 63 - 1) / k+1<=(z.length:Int):=by lia
       have h3:(2 ^ 63 - 1:Int) < ((2 ^ 63 - 1) / k+1)*k:=Int.lt_ediv_add_one_mul_self _ hk; have h4:((2 ^ 63 - 1) / k+1)*k<=(z.length:Int)*k:=Int.mul_le_mul_of_nonneg_right h2 (by lia);have h5:(z.length:Int)*k=((z.length*k.toNat:Nat):Int):=by
         rw [Int.natCast_mul,Int.toNat_of_nonneg (by lia)]
       lia
     . unfold Builtin.Str.tooLong
       exact decide_eq_false (by lia)
     . by_cases h1:k < 1
       . rw [if_pos h1]
         have:k.toNat=0:=by lia
         rw [this,Wb] at fin; exact ⟨by decide,⟨.str _,H,(fin _).2,⟨_,rfl⟩,(fin 0).1⟩⟩
       . rw [if_neg h1]
         by_cases h2:(k==1||z.length==0)=true
         . rw [if_pos h2]
           rw [GY] at h2; have ez:L7 k.toNat z=z:=by
             rcases h2 with h2 | h2
             . have:k=1:=j6 h2
               subst this; exact Zw z
             . exact Zx _ (j6 h2)
           rw [ez] at fin; exact ⟨.str _,H,I,⟨_,rfl⟩,(fin 0).1⟩
         . rw [if_neg h2]
           exact ⟨by show (L7 k.toNat z).length<=_; rw [Mv,JJ]; exact hc3,⟨.str _,H,(fin _).2,⟨_,rfl⟩,(fin 0).1⟩⟩
   . cases e
 | list xs =>
   replace e:(if _ then _ else _)=some d:=e;split at e
   . rename_i hc
     obtain ⟨hc1,hc2,hc3⟩:=hc; cases e; obtain ⟨l,vs,rfl,h1,l1⟩:=ra; cases rx; have q3:=l1.length; obtain ⟨z,its,n,r,e⟩:=U0 I hG h1; have hl:=r.length; have hlen:its.toArray.size*k.toNat<=sizeLine:=by rw [xW,<- hl,<- q3]; exact hc3
     have hcap:¬ its.toArray.size*k.toNat>(2 ^ 63 - 1) / 8:=by
       have:(sizeLine:Nat)<=(2 ^ 63 - 1) / 8:=by decide
       lia
     have hfit:¬ (!Builtin.List.listFitsIndex k)=true:=by
       rw [fitsIndex_both hc1 hc2]; exact l8
     have hlong:¬ AD (its.toArray.size*k.toNat)=true:=by
       rw [Xt hlen]; exact l8
     have hnew:GC (fun x1 x2=>x1++x2) #[] (yD (if its.toArray.isEmpty=true then 0 else k.toNat) its.toArray)=(yD k.toNat its).flatten.toArray:=by
       have f0:∀ m:Nat,GC (fun x1 x2=>x1++x2) #[] (yD m its.toArray)=(yD m its).flatten.toArray:=fun m=>by
         have:=gP its m []; rw [zE] at this; exact this
       rw [f0];cases its with
       | nil=>simp
       | cons a r'=>rw [if_neg (by simp)]
     refine wpAny_binaryOp_repeat_ref (T := "list") (U := "int") (by decide) ⟨_,e,rfl⟩ (fun s'=>typeIs_int s' k t') noFill_list_mul F.fills_int_mul F.slot_int_rmul repeat_list F.slot_int_index.lookup
       (GS F.slot_int_rmul (typeIs_int s k t') F.entry_int_rmul (F.args_int_rmul_2 _ _) (int___rmul___int_list k t' l its.toArray n)
         ⟨e,rfl,⟨_,e,rfl⟩,GS F.slot_list_mul ⟨_,e,rfl⟩ F.entry_list_mul (F.args_list_mul_2 _ _) (AutoListH.list___mul___list_int_3 l its.toArray n k t' hfit hcap hlong) ⟨e,?_⟩⟩)
     rw [hnew]; exact Ux (t':=s.toks) I hG (r.rep k.toNat) (l1.rep k.toNat) (by rw [cS,JJ,<- q3]; exact hc3) q
   . cases e
 | _=>cases e
end
end Sm
end
noncomputable section
namespace Sm
open PySem PySem.Spec PyProof.Rows L2
open PySem.AutoSeq1 (wpAny_loadPart')
open PySem.MeetsSeq PySem.MeetsSeq2 PySem.MeetsSeq3
noncomputable def gM:m9->Int->Int->Bool
 | .Lt,i,j=>decide (i < j)
 | .LtE,i,j=>decide (i<=j)
 | .Gt,i,j=>decide (j < i)
 | _,i,j=>decide (j<=i)
noncomputable def Xd:m9->Str->Str->Bool
 | .Lt,x,y=>decide (x.cps.toList < y.cps.toList)
 | .LtE,x,y => !decide (y.cps.toList < x.cps.toList)
 | .Gt,x,y=>decide (y.cps.toList < x.cps.toList)
 | _,x,y => !decide (x.cps.toList < y.cps.toList)
noncomputable def Zn:m9->Nat->Nat->Bool
 | .Lt,m,n=>decide (m < n)
 | .LtE,m,n=>decide (m<=n)
 | .Gt,m,n=>decide (m>n)
 | _,m,n=>decide (m≥n)
noncomputable def sK:m9->Bool
 | .Lt=>true | .LtE=>true | .Gt=>true | .GtE=>true | _=>false
mutual
noncomputable def Ra (op:m9):xC->xC->Option Bool
 | .int i,.int j=>some (gM op i j)
 | .str x,.str y=>some (Xd op x y)
 | .tuple xs,.tuple ys=>Fu op xs ys
 | _,_=>none
noncomputable def Fu (op:m9):List xC->List xC->Option Bool
 | [],ys=>some (Zn op 0 ys.length)
 | x::xs,[]=>some (Zn op (xs.length+1) 0)
 | x::xs,y::ys=>if xX x y=true then Fu op xs ys else Ra op x y
end
def nI (op:m9) (A:zL) (s:xH) (u v:xF) (k:Bool):Prop:=∀ (prog:yI) (w:yR) (E:xF->xH->Prop) (Q:xF->xH->Prop),Q (.bool k) s->wpAny (yC prog w) A (richCompare op u v) Q E s
theorem uJ {op:m9} (h:sK op=true) (A:zL) (s:xH) (i j:Int) (t u:Tok):nI op A s (.int i t) (.int j u) (gM op i j):=fun prog w E Q q=>by
 cases op with
 | Lt=>exact (lt_int q:wpAny (yC prog w) A (c9 .Lt (.int i t) (.int j u)) Q E s)
 | LtE=>exact (le_int q:wpAny (yC prog w) A (c9 .LtE (.int i t) (.int j u)) Q E s)
 | Gt=>exact (gt_int q:wpAny (yC prog w) A (c9 .Gt (.int i t) (.int j u)) Q E s)
 | GtE=>exact (ge_int q:wpAny (yC prog w) A (c9 .GtE (.int i t) (.int j u)) Q E s)
 | _=>cases h
theorem uI {op:m9} (h:sK op=true) (A:zL) (s:xH) (x y:Str) (t u:Tok):nI op A s (.str x t) (.str y u) (Xd op x y):=fun prog w E Q q=>by
 cases op with
 | Lt=>exact (PySem.P.lt_str q:wpAny (yC prog w) A (c9 .Lt (.str x t) (.str y u)) Q E s)
 | LtE=>exact (PySem.P.le_str (by simpa [Xd] using q):wpAny (yC prog w) A (c9 .LtE (.str x t) (.str y u)) Q E s)
 | Gt=>exact (PySem.P.gt_str q:wpAny (yC prog w) A (c9 .Gt (.str x t) (.str y u)) Q E s)
 | GtE=>exact (PySem.P.ge_str (by simpa [Xd] using q):wpAny (yC prog w) A (c9 .GtE (.str x t) (.str y u)) Q E s)
 | _=>cases h
def Bs (op:m9) (A:zL) (s:xH) (vs ws:List xF) (ds es:List xC):Prop :=
 ∀ (i:Nat) (v w:xF) (d e:xC),vs[i]? = some v->ws[i]? = some w->ds[i]? = some d->es[i]? = some e->SeqAt.EqAt A s v w (xX d e)/\∀ k,Ra op d e=some k->nI op A s v w k
theorem Pu (l b:xO) (items items2:Array xF) (n n2:Nat) (dd dd2:Option xO) (sl sl2:Array (Option xF)) (ds es:List xC) (k:Bool) (hz1:items.toList.length=ds.length) (hz2:items2.toList.length=es.length) (hk:Fu .Lt ds es=some k) :
   Meets (k7.«tuple.__lt__» ⟨[.ref l,.ref b],[]⟩)
     (fun A R s=>s.heap.get? l=some { cls:=.type "tuple",dict:=dd,data:=.seq items n,slots:=sl }/\s.heap.get? b=some { cls:=.type "tuple",dict:=dd2,data:=.seq items2 n2,slots:=sl2 } /\
       Bs .Lt A.in1 s items.toList items2.toList ds es/\R (.ok (.ret (.bool k))) s) :=
 .of_wp fun prog w A R s h=>by
   obtain ⟨hp,g,d,tk,os⟩:=s; obtain ⟨hl,hb,hI,h⟩:=h;have f2:=GZ; have z1:items.size=ds.length:=by rw [<- hz1]; simp
   have z2:items2.size=es.length:=by rw [<- hz2]; simp
   wp_walk using i9 hl,i9 hb,CM _ (fun rest b s'=>b.1=none/\s'=⟨hp,g,d,tk,os⟩/\∃ (vs ws:List xF) (ds' es':List xC),rest=vs.zip ws /\
     vs.length=ds'.length/\ws.length=es'.length/\ds'.length+items2.size=es'.length+items.size/\Bs .Lt A.in1 ⟨hp,g,d,tk,os⟩ vs ws ds' es'/\Fu .Lt ds' es'=some k) _
   case turn =>
     rintro ⟨y,x⟩ rest b s' ⟨hb',rfl,vs,ws,ds',es',hz,hv,hw,hlen,hI',hR⟩;cases vs with
     | nil=>rw [List.zip_nil_left] at hz; cases hz
     | cons v0 vs =>
       cases ws with
       | nil=>rw [List.zip_nil_right] at hz; cases hz
       | cons w0 ws =>
         cases ds' with
         | nil=>simp at hv
         | cons d0 ds' =>
           cases es' with
           | nil=>simp at hw
           | cons e0 es' =>
             rw [CS] at hz;injection hz with hyx hrest
             injection hyx with hy hx
             subst hy hx; simp only [xU] at hlen hv hw; obtain ⟨he,hc⟩:=hI' 0 y x d0 e0 rfl rfl rfl rfl; have hI2:Bs .Lt A.in1 ⟨hp,g,d,tk,os⟩ vs ws ds' es':=fun i v w d e h1 h2 h3 h4=>hI' (i+1) v w d e (by simpa using h1) (by simpa using h2) (by simpa using h3) (by simpa using h4);rw [Fu] at hR; refine xD (he prog w _ _ ?_);cases q:xX d0 e0 with
             | true =>
               rw [q,if_pos rfl] at hR
               wp_walk
               exact ⟨rfl,rfl,_,_,_,_,hrest,by lia,by lia,by lia,hI2,hR⟩
             | false =>
               rw [q,if_neg (by decide)] at hR; have hri:=hc k hR prog w
               wp_walk using hri
               exact ⟨_,rfl,by simpa using h⟩
   case fin =>
     rintro ⟨b1,b2⟩ s' ⟨hb',rfl,vs,ws,ds',es',hz,hv,hw,hlen,hI',hR⟩;simp only at hb'; subst hb'; have hv':k=decide (items.size < items2.size):=by
       cases ds' with
       | nil =>
         rw [Fu] at hR; have:=zH hR; rw [<- this]; simp only [zT] at hlen; simp only [Zn]; exact decide_eq_decide.mpr (by lia)
       | cons d0 ds' =>
         cases es' with
         | nil =>
           rw [Fu] at hR; have:=zH hR; rw [<- this]; simp only [zT,xU] at hlen; simp only [Zn]; exact decide_eq_decide.mpr (by lia)
         | cons e0 es' =>
           cases vs with
           | nil=>simp at hv
           | cons v0 vs =>
             cases ws with
             | nil=>simp at hw
             | cons w0 ws=>rw [CS] at hz; cases hz
     rw [hv'] at h
     wp_walk
     exact ⟨_,rfl,by simpa [EV] using h⟩
   case h =>
     exact ⟨rfl,rfl,items.toList,items2.toList,ds,es,rfl,hz1,hz2,by lia,hI,hk⟩
theorem Pv (l b:xO) (items items2:Array xF) (n n2:Nat) (dd dd2:Option xO) (sl sl2:Array (Option xF)) (ds es:List xC) (k:Bool) (hz1:items.toList.length=ds.length) (hz2:items2.toList.length=es.length) (hk:Fu .LtE ds es=some k) :
   Meets (k7.«tuple.__le__» ⟨[.ref l,.ref b],[]⟩)
     (fun A R s=>s.heap.get? l=some { cls:=.type "tuple",dict:=dd,data:=.seq items n,slots:=sl }/\s.heap.get? b=some { cls:=.type "tuple",dict:=dd2,data:=.seq items2 n2,slots:=sl2 } /\
       Bs .LtE A.in1 s items.toList items2.toList ds es/\R (.ok (.ret (.bool k))) s) :=
 .of_wp fun prog w A R s h=>by
   obtain ⟨hp,g,d,tk,os⟩:=s; obtain ⟨hl,hb,hI,h⟩:=h;have f2:=GZ; have z1:items.size=ds.length:=by rw [<- hz1]; simp
   have z2:items2.size=es.length:=by rw [<- hz2]; simp
   wp_walk using i9 hl,i9 hb,CM _ (fun rest b s'=>b.1=none/\s'=⟨hp,g,d,tk,os⟩/\∃ (vs ws:List xF) (ds' es':List xC),rest=vs.zip ws /\
     vs.length=ds'.length/\ws.length=es'.length/\ds'.length+items2.size=es'.length+items.size/\Bs .LtE A.in1 ⟨hp,g,d,tk,os⟩ vs ws ds' es'/\Fu .LtE ds' es'=some k) _
   case turn =>
     rintro ⟨y,x⟩ rest b s' ⟨hb',rfl,vs,ws,ds',es',hz,hv,hw,hlen,hI',hR⟩;cases vs with
     | nil=>rw [List.zip_nil_left] at hz; cases hz
     | cons v0 vs =>
       cases ws with
       | nil=>rw [List.zip_nil_right] at hz; cases hz
       | cons w0 ws =>
         cases ds' with
         | nil=>simp at hv
         | cons d0 ds' =>
           cases es' with
           | nil=>simp at hw
           | cons e0 es' =>
             rw [CS] at hz;injection hz with hyx hrest
             injection hyx with hy hx
             subst hy hx; simp only [xU] at hlen hv hw; obtain ⟨he,hc⟩:=hI' 0 y x d0 e0 rfl rfl rfl rfl; have hI2:Bs .LtE A.in1 ⟨hp,g,d,tk,os⟩ vs ws ds' es':=fun i v w d e h1 h2 h3 h4=>hI' (i+1) v w d e (by simpa using h1) (by simpa using h2) (by simpa using h3) (by simpa using h4);rw [Fu] at hR; refine xD (he prog w _ _ ?_);cases q:xX d0 e0 with
             | true =>
               rw [q,if_pos rfl] at hR
               wp_walk
               exact ⟨rfl,rfl,_,_,_,_,hrest,by lia,by lia,by lia,hI2,hR⟩
             | false =>
               rw [q,if_neg (by decide)] at hR; have hri:=hc k hR prog w
               wp_walk using hri
               exact ⟨_,rfl,by simpa using h⟩
   case fin =>
     rintro ⟨b1,b2⟩ s' ⟨hb',rfl,vs,ws,ds',es',hz,hv,hw,hlen,hI',hR⟩;simp only at hb'; subst hb'; have hv':k=decide (items.size<=items2.size):=by
       cases ds' with
       | nil =>
         rw [Fu] at hR; have:=zH hR; rw [<- this]; simp only [zT] at hlen; simp only [Zn]; exact decide_eq_decide.mpr (by lia)
       | cons d0 ds' =>
         cases es' with
         | nil =>
           rw [Fu] at hR; have:=zH hR; rw [<- this]; simp only [zT,xU] at hlen; simp only [Zn]; exact decide_eq_decide.mpr (by lia)
         | cons e0 es' =>
           cases vs with
           | nil=>simp at hv
           | cons v0 vs =>
             cases ws with
             | nil=>simp at hw
             | cons w0 ws=>rw [CS] at hz; cases hz
     rw [hv'] at h
     wp_walk
     exact ⟨_,rfl,by simpa [EV] using h⟩
   case h =>
     exact ⟨rfl,rfl,items.toList,items2.toList,ds,es,rfl,hz1,hz2,by lia,hI,hk⟩
theorem jZ {op:m9} (ho:op=.Lt\/op=.LtE) {A:zL} {s:xH} {l b:xO} {items items2:Array xF} {ds es:List xC} {k:Bool} (hl:FP s.heap l items) (hb:FP s.heap b items2) (hz1:items.toList.length=ds.length) (hz2:items2.toList.length=es.length)
   (hI:Bs op A.in1 s items.toList items2.toList ds es) (hk:Fu op ds es=some k) (hu:A.units < m8):nI op A s (.ref l) (.ref b) k:=fun prog w E Q q=>by
 obtain ⟨⟨cls,dd,data,sl⟩,ho1,hc,n,hd⟩:=id hl;obtain ⟨⟨cls2,dd2,data2,sl2⟩,ho2,hc2,n2,hd2⟩:=id hb;simp only at hc hd hc2 hd2;subst hc hd hc2 hd2;rcases ho with rfl | rfl
 . exact richCompare_meets_room (op := .Lt) ⟨_, ho1, rfl⟩ ⟨_, ho2, rfl⟩ PySem.F.slot_tuple_lt PySem.F.entry_tuple_lt (PySem.F.args_tuple_lt_2 _ _) (Pu l b items items2 n n2 dd dd2 sl sl2 ds es k hz1 hz2 hk)
     ⟨ho1,ho2,hI,show FT k≠EZ/\Q (.bool k) s from ⟨(fun x=>nomatch x),q⟩⟩ hu
 . exact richCompare_meets_room (op := .LtE) ⟨_, ho1, rfl⟩ ⟨_, ho2, rfl⟩ PySem.F.slot_tuple_le PySem.F.entry_tuple_le (PySem.F.args_tuple_le_2 _ _) (Pv l b items items2 n n2 dd dd2 sl sl2 ds es k hz1 hz2 hk)
     ⟨ho1,ho2,hI,show FT k≠EZ/\Q (.bool k) s from ⟨(fun x=>nomatch x),q⟩⟩ hu
theorem wR {op:m9} {i:Int} {b:xC} {k:Bool} (e:Ra op (.int i) b=some k):∃ j,b=.int j/\k=gM op i j:=by cases b <;> cases e; exact ⟨_,rfl,rfl⟩
theorem wQ {op:m9} {i:Str} {b:xC} {k:Bool} (e:Ra op (.str i) b=some k):∃ j,b=.str j/\k=Xd op i j:=by cases b <;> cases e; exact ⟨_,rfl,rfl⟩
theorem wP {op:m9} {i:List xC} {b:xC} {k:Bool} (e:Ra op (.tuple i) b=some k):∃ j,b=.tuple j/\Fu op i j=some k:=by cases b with | tuple j=>exact ⟨j,rfl,e⟩ | _=>cases e
noncomputable def ordB:xC->Bool
 | .int _=>true | .str _=>true | .tuple _=>true | _=>false
theorem Vf {op:m9} {a b:xC} {k:Bool} (h:ordB a=false) (e:Ra op a b=some k):False:=by cases a <;> first | (cases h; done) | cases e
mutual
theorem cC {op:m9} (ho:op=.Lt\/op=.LtE):∀ (a b:xC) (A:zL) (s:xH) (u v:xF) (as bs:List xO) (k:Bool),Reads s.heap u a as->Reads s.heap v b bs->a.canLay0=true->b.canLay0=true->A.units+a.depth < m8->Ra op a b=some k->nI op A s u v k
 | .int i,b,A,s,_,_,_,_,k,ra,rb,_,_,_,e=>by
   obtain ⟨j,rfl,rfl⟩:=wR e;cases ra; cases rb; exact uJ (by rcases ho with rfl | rfl <;> rfl) A s i j _ _
 | .str x,b,A,s,_,_,_,_,k,ra,rb,_,_,_,e=>by
   obtain ⟨j,rfl,rfl⟩:=wQ e;cases ra; cases rb; exact uI (by rcases ho with rfl | rfl <;> rfl) A s x j _ _
 | .tuple xs,b,A,s,_,_,_,_,k,ra,rb,ha,hb,hu,e=>by
   obtain ⟨ys,rfl,e⟩:=wP e;cases ra with
   | tuple h1 h2 h3 h4 =>
     cases rb with
     | tuple k1 k2 k3 k4 =>
       have hu':A.units+(zW xs+1) < m8:=hu; refine jZ ho ⟨_,h1,h2,_,h3⟩ ⟨_,k1,k2,_,k3⟩ (GL _ _ _ h4) (GL _ _ _ k4) ?_ e (by lia);exact Xg ho xs ys A.in1 s _ _ _ _ h4 k4 ha hb (by show A.units+1+_ < _; lia)
 | .none,b,_,_,_,_,_,_,_,_,_,_,_,_,e=>(Vf (a:=.none) rfl e).elim
 | .bool c,b,_,_,_,_,_,_,_,_,_,_,_,_,e=>(Vf (a:=.bool c) rfl e).elim
 | .list c,b,_,_,_,_,_,_,_,_,_,_,_,_,e=>(Vf (a:=.list c) rfl e).elim
 | .dict c,b,_,_,_,_,_,_,_,_,_,_,_,_,e=>(Vf (a:=.dict c) rfl e).elim
theorem Xg {op:m9} (ho:op=.Lt\/op=.LtE):∀ (xs ys:List xC) (A:zL) (s:xH) (vs ws:List xF) (as bs:List xO),JH s.heap vs xs as->JH s.heap ws ys bs->m6 xs=true->m6 ys=true->A.units+zW xs < m8->Bs op A s vs ws xs ys
 | [],_,_,_,_,_,_,_,_,_,_,_,_=>fun i v w d e h1 h2 h3 h4=>by simp at h3
 | _::_,[],_,_,_,_,_,_,_,_,_,_,_=>fun i v w d e h1 h2 h3 h4=>by simp at h4
 | x::xs,y::ys,A,s,_,_,_,_,ra,rb,ha,hb,hu=>by
   have ha':x.canLay0=true/\m6 xs=true:=by simpa [m6] using ha
   have hb':y.canLay0=true/\m6 ys=true:=by simpa [m6] using hb
   have hu':A.units+max x.depth (zW xs) < m8:=hu;cases ra with
   | cons r1 r2 =>
     cases rb with
     | cons q1 q2 =>
       intro i v w d e h1 h2 h3 h4;cases i with
       | zero =>
         simp at h1 h2 h3 h4;subst h1 h2 h3 h4; exact ⟨SeqAt.eqAt_reads _ _ _ _ _ _ _ _ r1 q1 ha'.1 hb'.1 (by lia),fun k hk=>cC ho _ _ A s _ _ _ _ k r1 q1 ha'.1 hb'.1 (by lia) hk⟩
       | succ i=>exact Xg ho xs ys A s _ _ _ _ r2 q2 ha'.2 hb'.2 (by lia) i v w d e (by simpa using h1) (by simpa using h2) (by simpa using h3) (by simpa using h4)
end
noncomputable def D7 (op:m9) (a b:xC):Option xC:=if a.depth<=60 then (Ra op a b).map .bool else none
def Xi (op:m9):R2:=fun x y H Q=>∃ G a b k,Same G H/\Rep G a x/\Rep G b y/\a.depth<=60/\Ra op a b=some k/\Q (.bl k) H
noncomputable section
variable {X:Cx}
theorem Dk {op:m9} (ho:op=.Lt\/op=.LtE) (hu:X.A.units+64 < m8):OpR X (c9 op) (Xi op):=by
 rintro pins s Z H x y v u Q I rx ry ⟨G,a,b,k,hG,ra,rb,hd,e,q⟩;obtain ⟨as,r1⟩:=ra.reads I hG rx;obtain ⟨bs,r2⟩:=rb.reads I hG ry;have:=cC ho a b X.A s v u as bs k r1 r2 ra.lay rb.lay (by lia) e X.prog X.w X.xe (EP X pins Z Q) ⟨.bl k,H,I,rfl,q⟩;rcases ho with rfl | rfl
 . exact this
 . exact this
theorem pL {op:m9} (ho:op=.Gt\/op=.GtE):OpR X (c9 op) (fun x y H Q=>∃ i j,x=.int i/\y=.int j/\Q (.bl (gM op i j)) H):=by
 rintro pins s Z H x y v u Q I rx ry ⟨i,j,e1,e2,q⟩;subst e1 e2;obtain ⟨t,rfl⟩:=rx;obtain ⟨t',rfl⟩:=ry;rcases ho with rfl | rfl
 . exact gt_int ⟨.bl _,H,I,rfl,q⟩
 . exact ge_int ⟨.bl _,H,I,rfl,q⟩
theorem Bi {op:m9}:OpD (Xi op) (D7 op):=by
 intro G H x y a b d Q hG ra rb e q;unfold D7 at e;split at e
 . rename_i h
   cases e1:Ra op a b with
   | none=>rw [e1] at e; cases e
   | some k=>rw [e1] at e; cases e; exact ⟨G,a,b,k,hG,ra,rb,h,e1,q _ G H (Grow.refl hG) rfl⟩
 . cases e
noncomputable def Bl (op:m9):xC->xC->Option xC
 | .int i,.int j=>some (.bool (gM op i j))
 | _,_=>none
theorem kY {op:m9}:OpD (fun x y H Q=>∃ i j,x=.int i/\y=.int j/\Q (.bl (gM op i j)) H) (Bl op):=by
 intro G H x y a b d Q hG ra rb e q;cases a with
 | int i=>cases b with
   | int j=>cases e; cases (show _=_ from ra); cases (show _=_ from rb); exact ⟨i,j,rfl,rfl,q _ G H (Grow.refl hG) rfl⟩
   | _=>cases e
 | _=>cases e
end
end Sm
end
noncomputable section
namespace Sm
open PySem PySem.Spec PyProof.Rows L2
theorem Res.bind_assoc {α β γ:Type} (r:Res α) (f:α->Res β) (g:β->Res γ):(r.bind f).bind g=r.bind fun x=>(f x).bind g:=by cases r <;> rfl
structure Cxt (P:yI) (w:yR) (K:xI) (mg:Str->Option xF) (base:zJ) (X:Cx) (N:List Str) (sc:Scope) (k:Nat) (df:Bool):Prop where
 hP:X.prog=P
 hw:X.w=w
 hK:X.K=K
 hmg:X.mg=mg
 hb:X.base=base
 hN:X.N=N
 hs:X.env.scope=sc
 calm:X.calm=true
 room:Room k X.A
 fn:df=true->∀ x,X.fn x=true
 own:PassesOwn (yC X.prog X.w) X.A X.env X.xe
def Cr (scope sc:Scope):Scope :=
 { scope with names:=scope.names.map fun (n,k)=>if (k==.free&&sc.kind==.function&&sc.names.lookup n==some .cell) then (n,.cell) else (n,k) }
theorem cB {X:Cx} {scope sc:Scope} (h:X.env.scope=sc):n8 scope X.env=Cr scope sc:=by subst h; rfl
noncomputable section
variable {P:yI} {w:yR} {K:xI} {mg:Str->Option xF} {base:zJ} {X:Cx} {N:List Str} {sc:Scope} {k:Nat} {df:Bool} {E:EK} {pos:Pos}
theorem Cxt.blk (C:Cxt P w K mg base X N sc k df) {X':Cx} {N':List Str} {scope:Scope} (B:Blk X X' N' (n8 scope X.env)):Cxt P w K mg base X' N' (Cr scope sc) k false :=
 ⟨B.prog.trans C.hP,B.w.trans C.hw,B.K.trans C.hK,B.mg.trans C.hmg,B.base.trans C.hb,B.N,B.sc.trans (cB C.hs),B.calm.trans C.calm,by rw [B.A]; exact C.room,(fun h=>by cases h),by rw [B.xe]; exact BX⟩
theorem Cxt.hu (C:Cxt P w K mg base X N sc k df):X.A.units+64 < m8:=C.room.units
noncomputable def okVar (N:List Str) (sc:Scope) (i:Nat) (x:Str):Bool :=
 (N[i]? == some x)&&(match sc.names.lookup x with | some .local=>true | some .cell=>true | some .free=>true | _=>false) && !(x==("__debug__" : Str)) && !(x==("__classdict__" : Str))
theorem A2 (C:Cxt P w K mg base X N sc k df) (i:Nat) {x:Str} (h:okVar N sc i x=true):DE X E (.Name x pos) (A0 i):=by
 unfold okVar at h;simp only [yE,BR] at h;obtain ⟨⟨⟨h1,h2⟩,h3⟩,h4⟩:=h;refine wH (by rw [C.hN]; exact j6 h1) ?_ h3 h4;rw [C.hs];unfold Vis;cases q:sc.names.lookup x with
 | none=>rw [q] at h2; cases h2
 | some z =>
   rw [q] at h2;cases z with
   | «local» => exact .inl rfl
   | cell=>exact .inr (.inl rfl)
   | free=>exact .inr (.inr rfl)
   | _=>cases h2
noncomputable def okGl (sc:Scope) (x:Str):Bool:=(sc.names.lookup x==some .globalImplicit) && !(x==("__debug__" : Str)) && !(x==("__name__" : Str))
theorem okGl.gl (C:Cxt P w K mg base X N sc k df) {x:Str} (h:okGl sc x=true):Gl X x/\(x==("__debug__" : Str))=false/\x ≠ "__name__" := by
 unfold okGl at h;simp only [yE,BR] at h;obtain ⟨⟨h1,h2⟩,h3⟩:=h;refine ⟨?_,h2,by simpa using h3⟩;unfold Gl;show X.env.scope.names.lookup x=_;rw [C.hs]; exact j6 h1
theorem rB (C:Cxt P w K mg base X N sc k df) {x z:Str} (h:okGl sc x=true) (hm:∃ t,mg x=some (.str z t)) (hz:yP z=true:=by decide +kernel) (hl:z.length<=sizeLine:=by decide +kernel):DE X E (.Name x pos) (vC (.str z)):=by
 obtain ⟨t,hm⟩:=hm;obtain ⟨h1,h2,h3⟩:=okGl.gl C h;exact PE.imp (pE (v:=.str z) h1 (by rw [C.hmg]; exact hm) ⟨t,rfl⟩ h2) fun Z H Q hZ3=>by obtain ⟨G,δ,S,a⟩:=hZ3; exact a _ G H (Grow.refl S.sub) ⟨rfl,hz,hl⟩
variable {a b c:Expr} {f g f':Dn->Res xC}
theorem C9 (ha:DE X E a f) (hb:DE X E b g):DE X E (.BinOp a .Add b pos) (b2 f g C5):=Yv pM pQ ha hb
theorem Sy (ha:DE X E a f) (hb:DE X E b g):DE X E (.BinOp a .Sub b pos) (b2 f g Hk):=Yv vB pN ha hb
theorem Bc (ha:DE X E a f) (hb:DE X E b g):DE X E (.BinOp a .Mult b pos) (b2 f g N9):=Yv pJ pO ha hb
theorem Sz (ha:DE X E a f) (hb:DE X E b g):DE X E (.BinOp a .Mod b pos) (b2 f g Qz):=Yv vD pP ha hb
theorem Va (ha:DE X E a f) (hb:DE X E b g):DE X E (.BinOp a .FloorDiv b pos) (b2 f g Lg):=Yv pK kW ha hb
theorem wJ (C:Cxt P w K mg base X N sc k df) (ha:DE X E a f) (hb:DE X E b g):DE X E (.Compare a [.Eq] [b] pos) (b2 f g dEq):=dB (kS C.hu) kX ha hb (Dl _)
theorem d_ne (C:Cxt P w K mg base X N sc k df) (ha:DE X E a f) (hb:DE X E b g):DE X E (.Compare a [.NotEq] [b] pos) (b2 f g dNe):=dB (kR C.hu) kT ha hb (Dl _)
theorem d_lt (C:Cxt P w K mg base X N sc k df) (ha:DE X E a f) (hb:DE X E b g):DE X E (.Compare a [.Lt] [b] pos) (b2 f g (D7 .Lt)):=dB (Dk (.inl rfl) C.hu) Bi ha hb (Dl _)
theorem d_le (C:Cxt P w K mg base X N sc k df) (ha:DE X E a f) (hb:DE X E b g):DE X E (.Compare a [.LtE] [b] pos) (b2 f g (D7 .LtE)):=dB (Dk (.inr rfl) C.hu) Bi ha hb (Dl _)
noncomputable def Da (f g f':Dn->Res xC) (op op':xC->xC->Option xC):Dn->Res xC:=fun δ=>(f δ).bind fun x=>(g δ).bind fun y=>(ofO (op x y)).bind fun z=>match z with
 | .bool true=>(f' δ).bind fun u=>ofO (op' y u)
 | .bool false=>.ok (.bool false)
 | _=>.no
noncomputable def b1 (f:Dn->Res xC) (op:xC->Option xC):Dn->Res xC:=fun δ=>(f δ).bind fun x=>ofO (op x)
noncomputable def Ke:xC->Option xC
 | .int i=>some (.int (-i))
 | _=>none
theorem Ys (ha:DE X E a f):DE X E (.UnaryOp .USub a pos) (b1 f Ke):=by
 refine PE.imp (pe_un tG ha) fun Z H Q hZ3=>?_;obtain ⟨G,δ,S,aft⟩:=hZ3;refine L5 S aft fun d1 v1 G1 H1 g1 r1 S1 a1=>?_;cases d1 with
 | int i=>cases (show _=_ from r1); exact ⟨i,rfl,a1 _ G1 H1 (Grow.refl S1.sub) rfl⟩
 | _=>exact (show False from a1).elim
noncomputable def Vo (f g:Dn->Res xC):Dn->Res xC:=fun δ=>(f δ).bind fun x=>match x with
 | .bool true=>g δ
 | .bool false=>.ok (.bool false)
 | _=>.no
variable {rest:List Expr}
theorem mM {op:BoolOp} (ha:DE X E a f):DE X E (.BoolOp op [a] pos) f:=uT ha
theorem dC (ha:DE X E a f) (hb:DE X E (.BoolOp .And (b::rest) pos) g):DE X E (.BoolOp .And (a::b::rest) pos) (Vo f g):=by
 refine PE.imp (uZ ha hb) fun Z H Q hZ3=>?_;obtain ⟨G,δ,S,aft⟩:=hZ3;refine L5 S aft fun d1 v1 G1 H1 g1 r1 S1 a1=>?_;cases d1 with
 | bool kk =>
   refine ⟨kk,r1,?_⟩;cases kk with
   | true=>rw [if_pos rfl]; exact ⟨G1,δ,S1,a1⟩
   | false=>rw [if_neg (by decide)]; exact a1 _ G1 H1 (Grow.refl S1.sub) rfl
 | _=>exact (show False from a1).elim
def AftT (E:EK) (G H:Hp) (r:Res Bool) (Q:Bool->Hp->Prop):Prop:=match r with
 | .ok d=>∀ G' H',Grow G H G' H'->Q d H'
 | .exc c=>∀ G' H',Grow G H G' H'->E c H'
 | .no=>False
def tT (E:EK) (f:Dn->Res Bool):TT:=fun Z H Q=>∃ G δ,SR G H Z δ/\AftT E G H (f δ) Q
abbrev DT (X:Cx) (E:EK) (e:Expr) (f:Dn->Res Bool):Prop:=PT X e (tT E f)
abbrev DW (X:Cx) (E:EK) (e:Expr) (f:Dn->Res Bool):Prop:=PW X e (tT E f)
theorem AftT.grow {E:EK} {G H G' H':Hp} {r:Res Bool} {Q:Bool->Hp->Prop} (g:Grow G H G' H') (a:AftT E G H r Q):AftT E G' H' r Q:=by
 cases r with
 | ok d=>exact fun G2 H2 g2=>a G2 H2 (g.trans g2)
 | exc c=>exact fun G2 H2 g2=>a G2 H2 (g.trans g2)
 | no=>exact a
theorem PT.imp {X:Cx} {e:Expr} {t t':TT} (h:PT X e t) (i:∀ Z H Q,t' Z H Q->t Z H Q):PT X e t':=fun pins s Z H Q I q=>h pins s Z H Q I (i _ _ _ q)
theorem PW.imp {X:Cx} {e:Expr} {t t':TT} (h:PW X e t) (i:∀ Z H Q,t' Z H Q->t Z H Q):PW X e t':=fun wh pins s Z H Q I q=>h wh pins s Z H Q I (i _ _ _ q)
theorem Q1 {E:EK} {G H:Hp} {Z:St} {δ:Dn} {f:Dn->Res xC} {k:xC->Res Bool} {Q:Bool->Hp->Prop} {R:VK} (S:SR G H Z δ) (a:AftT E G H ((f δ).bind k) Q)
   (h:∀ d v G1 H1,Grow G H G1 H1->Rep G1 d v->SR G1 H1 Z δ->AftT E G1 H1 (k d) Q->R v H1):tD E f Z H R:=by
 refine ⟨G,δ,S,?_⟩;cases e:f δ with
 | ok d =>
   rw [e] at a; exact fun v G' H' g r=>h d v G' H' g r (S.grow g) (AftT.grow g a)
 | exc c=>rw [e] at a; exact a
 | no=>rw [e] at a; exact a
theorem Hs {E:EK} {G H:Hp} {Z:St} {δ:Dn} {f:Dn->Res Bool} {k:Bool->Res Bool} {Q R:Bool->Hp->Prop} (S:SR G H Z δ) (a:AftT E G H ((f δ).bind k) Q)
   (h:∀ d G1 H1,Grow G H G1 H1->SR G1 H1 Z δ->AftT E G1 H1 (k d) Q->R d H1):tT E f Z H R:=by
 refine ⟨G,δ,S,?_⟩;cases e:f δ with
 | ok d =>
   rw [e] at a; exact fun G' H' g=>h d G' H' g (S.grow g) (AftT.grow g a)
 | exc c=>rw [e] at a; exact a
 | no=>rw [e] at a; exact a
theorem bP {E:EK} {G H:Hp} {Z:St} {δ:Dn} {f:Dn->Res Bool} {k:Bool->Res xC} {Q:VK} {R:Bool->Hp->Prop} (S:SR G H Z δ) (a:Aft E G H ((f δ).bind k) Q)
   (h:∀ d G1 H1,Grow G H G1 H1->SR G1 H1 Z δ->Aft E G1 H1 (k d) Q->R d H1):tT E f Z H R:=by
 refine ⟨G,δ,S,?_⟩;cases e:f δ with
 | ok d =>
   rw [e] at a; exact fun G' H' g=>h d G' H' g (S.grow g) (Aft.grow g a)
 | exc c=>rw [e] at a; exact a
 | no=>rw [e] at a; exact a
noncomputable def Jg:xC->Option Bool
 | .none=>some false
 | .bool b=>some b
 | .int i=>some (i != 0)
 | .str x=>some (x.length != 0)
 | .list xs=>some (!xs.isEmpty)
 | .tuple xs=>some (!xs.isEmpty)
 | .dict _=>none
noncomputable def B8 (f:Dn->Res xC):Dn->Res Bool:=fun δ=>(f δ).bind fun d=>ofO (Jg d)
theorem RepL.isEmpty {G:Hp} {ds:List xC} {xs:List V} (r:RepL G ds xs):ds.isEmpty=xs.isEmpty:=by
 have:=r.length;cases ds <;> cases xs <;> simp at this ⊢
theorem Rep.truV {G H:Hp} (hG:Same G H) {d:xC} {v:V} (r:Rep G d v) {kk:Bool} (e:Jg d=some kk):wX K v H kk:=by
 cases d with
 | none=>cases (show _=_ from r); cases e; rfl
 | bool _=>cases (show _=_ from r); cases e; rfl
 | int _=>cases (show _=_ from r); cases e; rfl
 | str x =>
   cases r.1; cases e;refine ⟨r.2.2,?_⟩; show (x.length != 0)=((x.length:Int) != 0);rw [l3]; simp
 | list _=>obtain ⟨a,xs,rfl,h1,l1⟩:=r; cases e; exact .inl ⟨xs,.inl (Rd.mono hG h1),by rw [l1.isEmpty]⟩
 | tuple _=>obtain ⟨a,xs,rfl,h1,l1⟩:=r; cases e; exact .inr (.inl ⟨xs,.inl (.inl (hG _ _ h1)),by rw [l1.isEmpty]⟩)
 | dict _=>cases e
theorem Fv (ha:DE X E a f) (he:∀ whole,isTrue a X.env whole=(do let v <- whole; standAt a.pos; holding [v] (truthy v)):=by intro _; rfl):DT X E a (B8 f):=by
 refine PT.imp (Xl ha he) fun Z H Q hZ3=>?_;obtain ⟨G,δ,S,aft⟩:=hZ3;refine Q1 S aft fun d1 v1 G1 H1 g1 r1 S1 a1=>?_;cases e:Jg d1 with
 | none=>rw [e] at a1; exact a1.elim
 | some kk=>rw [e] at a1; exact ⟨kk,r1.truV S1.sub e,a1 G1 H1 (Grow.refl S1.sub)⟩
theorem Gv {o:m9} {r:R2} {op:xC->xC->Option xC} (hr:OpR X (c9 o) r) (ho:OpD r op) (hbool:∀ x y d,op x y=some d->∃ kk,d=.bool kk) (ha:DE X E a f) (hb:DE X E b g) (hm:behindInMarks o b=false) :
   DT X E (.Compare a [o] [b] pos) (B8 (b2 f g op)):=by
 refine PT.imp (oX hr ha hb hm) fun Z H Q hZ3=>?_;obtain ⟨G,δ,S,aft⟩:=hZ3;have aft':AftT E G H ((f δ).bind fun x=>(g δ).bind fun y=>(ofO (op x y)).bind fun d=>ofO (Jg d)) Q:=by
   unfold B8 b2 at aft; simp only [Res.bind_assoc] at aft; exact aft
 refine Q1 S aft' fun d1 v1 G1 H1 g1 r1 S1 a1=>?_;refine Q1 S1 a1 fun d2 v2 G2 H2 g2 r2 S2 a2=>?_;cases e:op d1 d2 with
 | none=>rw [e] at a2; exact a2.elim
 | some d =>
   rw [e] at a2; obtain ⟨kk,rfl⟩:=hbool _ _ _ e; exact ho G2 H2 v1 v2 d1 d2 _ _ S2.sub (r1.mono g2.g) r2 e fun v G3 H3 g3 r3=>⟨kk,r3,a2 G3 H3 g3⟩
theorem rP (x y d:xC) (e:dEq x y=some d):∃ kk,d=.bool kk:=by unfold dEq at e; split at e <;> cases e; exact ⟨_,rfl⟩
theorem rO (x y d:xC) (e:dNe x y=some d):∃ kk,d=.bool kk:=by unfold dNe at e; split at e <;> cases e; exact ⟨_,rfl⟩
theorem Cy {op:m9} (x y d:xC) (e:D7 op x y=some d):∃ kk,d=.bool kk:=by
 unfold D7 at e; split at e
 . obtain ⟨kk,_,rfl⟩:=yT.mp e; exact ⟨_,rfl⟩
 . cases e
theorem hU {op:m9} (x y d:xC) (e:Bl op x y=some d):∃ kk,d=.bool kk:=by
 unfold Bl at e; split at e
 . cases e; exact ⟨_,rfl⟩
 . cases e
theorem Li (C:Cxt P w K mg base X N sc k df) (ha:DE X E a f) (hb:DE X E b g):DT X E (.Compare a [.Eq] [b] pos) (B8 (b2 f g dEq)):=Gv (kS C.hu) kX rP ha hb (Dl _)
theorem Jh (C:Cxt P w K mg base X N sc k df) (ha:DE X E a f) (hb:DE X E b g):DT X E (.Compare a [.NotEq] [b] pos) (B8 (b2 f g dNe)):=Gv (kR C.hu) kT rO ha hb (Dl _)
theorem Zv (C:Cxt P w K mg base X N sc k df) (ha:DE X E a f) (hb:DE X E b g):DT X E (.Compare a [.Lt] [b] pos) (B8 (b2 f g (D7 .Lt))):=Gv (Dk (.inl rfl) C.hu) Bi Cy ha hb (Dl _)
theorem tL (C:Cxt P w K mg base X N sc k df) (ha:DE X E a f) (hb:DE X E b g):DT X E (.Compare a [.LtE] [b] pos) (B8 (b2 f g (D7 .LtE))):=Gv (Dk (.inr rfl) C.hu) Bi Cy ha hb (Dl _)
theorem tM (C:Cxt P w K mg base X N sc k df) (ha:DE X E a f) (hb:DE X E b g):DT X E (.Compare a [.Gt] [b] pos) (B8 (b2 f g (Bl .Gt))):=Gv (pL (.inl rfl)) kY hU ha hb (Dl _)
theorem t_in (C:Cxt P w K mg base X N sc k df) (ha:DE X E a f) (hb:DE X E b g) (hm:behindInMarks .In b=false:=by with_unfolding_all rfl):DT X E (.Compare a [.In] [b] pos) (B8 (b2 f g (dIn false))):=Gv (vE C.hu) kU (fun _ _ _ e=>Ph e) ha hb hm
theorem nT (C:Cxt P w K mg base X N sc k df) (ha:DE X E a f) (hb:DE X E b g) (hm:behindInMarks .NotIn b=false:=by with_unfolding_all rfl):DT X E (.Compare a [.NotIn] [b] pos) (B8 (b2 f g (dIn true))):=Gv (fP C.hu) kU (fun _ _ _ e=>Ph e) ha hb hm
variable {c1 c2:Dn->Res Bool}
noncomputable def Ez (c:Dn->Res Bool):Dn->Res Bool:=fun δ=>(c δ).bind fun b=>.ok (!b)
noncomputable def O0 (c c':Dn->Res Bool):Dn->Res Bool:=fun δ=>(c δ).bind fun b=>if b=true then c' δ else .ok false
noncomputable def cOr (c c':Dn->Res Bool):Dn->Res Bool:=fun δ=>(c δ).bind fun b=>if b=true then .ok true else c' δ
theorem Vs (ha:DT X E a c1):DT X E (.UnaryOp .Not a pos) (Ez c1):=by
 refine PT.imp (uO ha) fun Z H Q hZ3=>?_;obtain ⟨G,δ,S,aft⟩:=hZ3;exact Hs S aft fun d G1 H1 g1 S1 a1=>a1 G1 H1 (Grow.refl S1.sub)
theorem Ab (ha:DT X E a c1):DW X E (.BoolOp .And [a] pos) c1:=oR ha
theorem iI (ha:DT X E a c1):DW X E (.BoolOp .Or [a] pos) c1:=uM ha
theorem Dx (ha:DT X E a c1) (hb:DW X E (.BoolOp .And (b::rest) pos) c2):DW X E (.BoolOp .And (a::b::rest) pos) (O0 c1 c2):=by
 refine PW.imp (uN ha hb) fun Z H Q hZ3=>?_;obtain ⟨G,δ,S,aft⟩:=hZ3;refine Hs S aft fun d G1 H1 g1 S1 a1=>?_;cases d with
 | true=>rw [if_pos rfl]; exact ⟨G1,δ,S1,a1⟩
 | false=>rw [if_neg (by decide)]; exact a1 G1 H1 (Grow.refl S1.sub)
theorem nP (ha:DT X E a c1) (hb:DW X E (.BoolOp .Or (b::rest) pos) c2):DW X E (.BoolOp .Or (a::b::rest) pos) (cOr c1 c2):=by
 refine PW.imp (pw_or ha hb) fun Z H Q hZ3=>?_;obtain ⟨G,δ,S,aft⟩:=hZ3;refine Hs S aft fun d G1 H1 g1 S1 a1=>?_;cases d with
 | true=>rw [if_pos rfl]; exact a1 G1 H1 (Grow.refl S1.sub)
 | false=>rw [if_neg (by decide)]; exact ⟨G1,δ,S1,a1⟩
theorem w_t (h:DW X E a c1):DT X E a c1:=h.pt
noncomputable def vIf (c:Dn->Res Bool) (f g:Dn->Res xC):Dn->Res xC:=fun δ=>(c δ).bind fun b=>if b=true then f δ else g δ
theorem dA (hc:DT X E c c1) (ha:DE X E a f) (hb:DE X E b g):DE X E (.IfExp c a b pos) (vIf c1 f g):=by
 refine PE.imp (kM hc ha hb) fun Z H Q hZ3=>?_;obtain ⟨G,δ,S,aft⟩:=hZ3;refine bP S aft fun d G1 H1 g1 S1 a1=>?_;cases d with
 | true=>rw [if_pos rfl]; exact ⟨G1,δ,S1,a1⟩
 | false=>rw [if_neg (by decide)]; exact ⟨G1,δ,S1,a1⟩
end
end Sm
end
noncomputable section
namespace Sm
open PySem PySem.Spec PyProof.Rows L2
noncomputable section
variable {w:yR} {K:xI} {X:Cx} {k:Nat} {E:EK} {pos:Pos} {a b c e:Expr} {es:List Expr} {f g:Dn->Res xC} {fs:Dn->Res (List xC)}
def AftL (E:EK) (G H:Hp) (r:Res (List xC)) (Q:List V->Hp->Prop):Prop:=match r with
 | .ok ds=>∀ vs G' H',Grow G H G' H'->RepL G' ds vs->Q vs H'
 | .exc c=>∀ G' H',Grow G H G' H'->E c H'
 | .no=>False
def tA (E:EK) (fs:Dn->Res (List xC)):TA:=fun Z H Q=>∃ G δ,SR G H Z δ/\AftL E G H (fs δ) Q
structure DA (X:Cx) (E:EK) (es:List Expr) (n:Nat) (fs:Dn->Res (List xC)):Prop where
 pa:PA X es (tA E fs)
 len:∀ δ ds,fs δ=.ok ds->ds.length=n
theorem PA.imp {X:Cx} {es:List Expr} {t t':TA} (h:PA X es t) (i:∀ Z H Q,t' Z H Q->t Z H Q):PA X es t':=fun p pins s Z H Q I q=>h p pins s Z H Q I (i _ _ _ q)
theorem AftL.grow {E:EK} {G H G' H':Hp} {r:Res (List xC)} {Q:List V->Hp->Prop} (g:Grow G H G' H') (a:AftL E G H r Q):AftL E G' H' r Q:=by
 cases r with
 | ok d=>exact fun v G2 H2 g2 q=>a v G2 H2 (g.trans g2) q
 | exc c=>exact fun G2 H2 g2=>a G2 H2 (g.trans g2)
 | no=>exact a
theorem Ml {α:Type} {E:EK} {G H:Hp} {Z:St} {δ:Dn} {f:Dn->Res xC} {k:xC->Res α} {R:VK} {W:Hp->Hp->Res α->Prop} (S:SR G H Z δ) (a:W G H ((f δ).bind k)) (hg:∀ {G H G' H':Hp} {r:Res α},Grow G H G' H'->W G H r->W G' H' r)
   (hx:∀ c,W G H (.exc c)->∀ G' H',Grow G H G' H'->E c H') (hn:W G H .no->False)
   (h:∀ d v G1 H1,Grow G H G1 H1->Rep G1 d v->SR G1 H1 Z δ->W G1 H1 (k d)->R v H1):tD E f Z H R:=by
 refine ⟨G,δ,S,?_⟩;cases e:f δ with
 | ok d=>rw [e] at a; exact fun v G' H' g r=>h d v G' H' g r (S.grow g) (hg g a)
 | exc c=>rw [e] at a; exact hx c a
 | no=>rw [e] at a; exact hn a
theorem X2 {α:Type} {E:EK} {G H:Hp} {Z:St} {δ:Dn} {fs:Dn->Res (List xC)} {k:List xC->Res α} {R:List V->Hp->Prop} {W:Hp->Hp->Res α->Prop} (S:SR G H Z δ) (a:W G H ((fs δ).bind k)) (hg:∀ {G H G' H':Hp} {r:Res α},Grow G H G' H'->W G H r->W G' H' r)
   (hx:∀ c,W G H (.exc c)->∀ G' H',Grow G H G' H'->E c H') (hn:W G H .no->False)
   (h:∀ ds vs G1 H1,fs δ=.ok ds->Grow G H G1 H1->RepL G1 ds vs->SR G1 H1 Z δ->W G1 H1 (k ds)->R vs H1):tA E fs Z H R:=by
 refine ⟨G,δ,S,?_⟩;cases e:fs δ with
 | ok d=>rw [e] at a; exact fun v G' H' g r=>h d v G' H' e g r (S.grow g) (hg g a)
 | exc c=>rw [e] at a; exact hx c a
 | no=>rw [e] at a; exact hn a
noncomputable def A6:Dn->Res (List xC):=fun _=>.ok []
noncomputable def A1 (f:Dn->Res xC) (fs:Dn->Res (List xC)):Dn->Res (List xC):=fun δ=>(f δ).bind fun d=>(fs δ).bind fun ds=>.ok (d::ds)
theorem A7:DA X E [] 0 A6:=⟨PA.imp Y3 fun Z H Q hZ3=>by obtain ⟨G,δ,S,a⟩:=hZ3; exact a [] G H (Grow.refl S.sub) rfl,fun δ ds e=>by cases e; rfl⟩
noncomputable def cM:Expr->Bool
 | .Starred .. => false
 | _=>true
theorem eJ {a:Expr} {es:List Expr} {env:Env} (h:cM a=true):xR (a::es) env=(false,eval a env)::xR es env:=by
 cases a <;> first | rfl | cases h
theorem A3 {n:Nat} (ha:DE X E a f) (hr:DA X E es n fs) (hs:cM a=true:=by rfl):DA X E (a::es) (n+1) (A1 f fs):=by
 refine ⟨PA.imp (P6 ha hr.pa (eJ hs)) fun Z H Q ⟨G,δ,S,aft⟩=>?_,fun δ ds e=>?_⟩
 . refine Ml (W:=fun G H r=>AftL E G H r Q) S aft (fun g a=>AftL.grow g a) (fun c a=>a) (fun a=>a) fun d v G1 H1 g1 r1 S1 a1=>?_
   refine X2 (W:=fun G H r=>AftL E G H r Q) S1 a1 (fun g a=>AftL.grow g a) (fun c a=>a) (fun a=>a) fun ds vs G2 H2 e g2 r2 S2 a2=>?_;exact a2 _ G2 H2 (Grow.refl S2.sub) (RepL.cons (r1.mono g2.g) r2)
 . unfold A1 at e
   cases h1:f δ with
   | ok d =>
     rw [h1] at e;cases h2:fs δ with
     | ok ds' =>
       simp only [Res.bind,h2] at e; cases e; rw [xU,hr.len δ ds' h2]
     | exc c=>simp only [Res.bind,h2] at e; cases e
     | no=>simp only [Res.bind,h2] at e; cases e
   | exc c=>rw [h1] at e; cases e
   | no=>rw [h1] at e; cases e
noncomputable def D3 (fs:Dn->Res (List xC)):Dn->Res xC:=fun δ=>(fs δ).bind fun ds=>.ok (.tuple ds)
noncomputable def I0 (fs:Dn->Res (List xC)):Dn->Res xC:=fun δ=>(fs δ).bind fun ds=>.ok (.list ds)
theorem F4 {n x1:Nat} (h:DA X E es n fs) (hn:n<=sizeLine:=by decide):DE X E (.Tuple es x1 pos) (D3 fs):=by
 refine PE.imp (uS h.pa) fun Z H Q hZ3=>?_;obtain ⟨G,δ,S,aft⟩:=hZ3;refine X2 (W:=fun G H r=>Aft E G H r Q) S aft (fun g a=>Aft.grow g a) (fun c a=>a) (fun a=>a) fun ds vs G1 H1 e g1 r1 S1 a1=>?_;refine ⟨by rw [<- r1.length,h.len δ ds e]; exact hn,fun p hp=>?_⟩;exact a1 _ (upd G1 p (.tup vs)) _ (Grow.new S1.sub hp) ⟨p,vs,rfl,C1,r1.mono (Same.upd (S1.sub.free hp))⟩
def nK (E:EK) (G H:Hp) (r:Res (List xC)) (Q:VK):Prop:=match r with
 | .ok ds=>∀ p xs G' H',Grow G H G' H'->H p=none->G' p=none->H' p=some (.lst xs)->RepL G' ds xs->Q (.ref p) H'
 | .exc c=>∀ G' H',Grow G H G' H'->E c H'
 | .no=>False
def tF (E:EK) (f:Dn->Res (List xC)):TE:=fun Z H Q=>∃ G δ,SR G H Z δ/\nK E G H (f δ) Q
abbrev DF (X:Cx) (E:EK) (e:Expr) (f:Dn->Res (List xC)):Prop:=PE X e (tF E f)
theorem Grow.share {G H G' H':Hp} {p:xO} {o:HO} (g:Grow G H G' H') (hp:H p=none) (hg:G' p=none) (hH:H' p=some o):Grow G H (upd G' p o) H' :=
 ⟨g.g.trans (Same.upd hg),g.h,fun b u e=>by
   by_cases hb:b=p
   . subst hb; rw [C1] at e; cases e; exact hH
   . rw [C3 hb] at e; exact g.gh _ _ e,fun b u e=>by
   by_cases hb:b=p
   . subst hb; exact .inr (.inl hp)
   . rw [C3 hb] at e; exact g.fr _ _ e⟩
theorem K6 (h:DF X E e fs):DE X E e (I0 fs):=by
 refine PE.imp h fun Z H Q hY35=>?_;obtain ⟨G,δ,S,aft⟩:=hY35;refine ⟨G,δ,S,?_⟩;unfold I0 at aft;cases e:fs δ with
 | ok ds =>
   rw [e] at aft; exact fun p xs G' H' g hp hg hH r=>aft _ _ H' (g.share hp hg hH) ⟨p,xs,rfl,.inl C1,r.mono (Same.upd hg)⟩
 | exc c=>rw [e] at aft; exact aft
 | no=>rw [e] at aft; exact aft
theorem Q2 {n:Nat} (h:DA X E es n fs) (hn:n<=sizeLine:=by decide):DF X E (.List es pos) fs:=by
 refine PE.imp (kL h.pa) fun Z H Q hY36=>?_;obtain ⟨G,δ,S,aft⟩:=hY36;refine ⟨G,δ,S,?_⟩;cases e:fs δ with
 | ok ds =>
   rw [e] at aft; refine fun vs G1 H1 g1 r1=>⟨by rw [<- r1.length,h.len δ ds e]; exact hn,fun p hp=>?_⟩;exact aft p vs G1 _ (g1.trans (Grow.own g1.gh hp)) (g1.h.free hp) (g1.gh.free hp) C1 r1
 | exc c=>rw [e] at aft; exact aft
 | no=>rw [e] at aft; exact aft
noncomputable def dIx:xC->xC->Option xC
 | .list ds,.int i=>atI ds i
 | .tuple ds,.int i=>atI ds i
 | .str x,.int i=>(atI x.cps.toList i).map fun c=>.str ⟨#[c]⟩
 | _,_=>none
theorem dS {G:Hp} {ds:List xC} {xs:List V} {i:Int} {d:xC} (r:RepL G ds xs) (e:atI ds i=some d):∃ x,atI xs i=some x/\Rep G d x:=by
 unfold atI at e ⊢;rw [<- r.length];cases q:ixN ds.length i with
 | none=>rw [q] at e; cases e
 | some j=>rw [q] at e; exact r.get e
theorem vF:OpD (rIx K) dIx:=by
 intro G H x y a b d Q hG ra rb e q;cases b with
 | int i =>
   cases (show _=_ from rb);cases a with
   | list ds =>
     obtain ⟨p,xs,rfl,h1,l1⟩:=ra; obtain ⟨v,e1,r1⟩:=dS l1 e; exact .inl ⟨p,xs,i,v,rfl,rfl,.inl (Rd.mono hG h1),e1,q _ G H (Grow.refl hG) r1⟩
   | tuple ds =>
     obtain ⟨p,xs,rfl,h1,l1⟩:=ra; obtain ⟨v,e1,r1⟩:=dS l1 e; exact .inr (.inl ⟨p,xs,i,v,rfl,rfl,.inl (.inl (hG _ _ h1)),e1,q _ G H (Grow.refl hG) r1⟩)
   | str z =>
     obtain ⟨e0,o1,l1⟩:=ra; subst e0; obtain ⟨cc,e1,rfl⟩:=yT.mp e; refine .inr (.inr ⟨z,i,cc,rfl,rfl,l1,e1,q _ G H (Grow.refl hG) ⟨rfl,?_,?_⟩⟩)
     . obtain ⟨j,_,h2,_⟩:=Mk e1
       have hm:cc∈z.cps.toList:=j9 h2; unfold yP at *;rw [<- GN,o9] at o1; have:=o1 cc hm;simpa using this
     . show 1<=sizeLine; decide
   | _=>cases e
 | _=>cases a <;> cases e
theorem C7 (ha:DE X E a f) (hb:DE X E b g) (hs:dW b:=by exact fun _ _=>rfl):DE X E (.Subscript a b pos) (b2 f g dIx) :=
 PE.imp (pe_ix vX ha hb hs) fun _ _ _ h=>iV vF h
noncomputable def Hl (xs:List xC) (lo hi:Option Int):List xC:=(xs.drop (HT.sIx xs.length 0 lo)).take (HT.sIx xs.length xs.length hi - HT.sIx xs.length 0 lo)
noncomputable def gW (d:xC) (lo hi:Option Int):Option xC:=match d with
 | .list ds=>some (.list (Hl ds lo hi))
 | .tuple ds=>some (.tuple (Hl ds lo hi))
 | _=>none
theorem dE {G:Hp} {ds:List xC} {xs:List V} (r:RepL G ds xs) (lo hi:Option Int):RepL G (Hl ds lo hi) (gY xs lo hi):=by
 unfold Hl gY;rw [r.length];exact (r.drop _).take _
noncomputable def rSlD:V->Option Int->Option Int->Hp->VK->Prop:=fun x lo hi H Q=>∃ G a d,Same G H/\Rep G a x/\gW a lo hi=some d/\∀ v G' H',Grow G H G' H'->Rep G' d v->Q v H'
theorem Fs {prog:yI} {w:yR} {A:zL} {E:xF->xH->Prop} {s:xH} {t sl:xO} {items:Array xF} {vl vu:xF} {lo hi:Option Int} {Q:xF->xH->Prop} (ht:FP s.heap t items) (hs:s.heap.IsSliceOf sl vl vu .none) (pl:FH vl lo) (pu:FH vu hi)
   (hw:HT.sIx items.size 0 lo=0/\HT.sIx items.size items.size hi=items.size) (h:Q (.ref t) s):wpAny (yC prog w) A (DH (.ref t) (.ref sl)) Q E s:=by
 obtain ⟨os,hos,hcs,hds⟩:=id hs;have hTs:s.TypeIs (.ref sl) "slice" := ⟨os,hos,hcs⟩;unfold DH;try with_reducible refine zK ?_
 first | refine xD (xE ?_) | skip
 refine xD (EG ht.typeIs (by decide) ?_);refine xD (zI (name:=k8 "__getitem__") ht.typeIs k5
   (zD k5 ht.typeIs entry_tuple_getitem ?_ (args_tuple_getitem _ _)))
 show wpAny _ _ (BZ (.ref t)>>=_) _ _ s;refine xD (tupleItemsOf_ ht ?_);refine xD (FE hTs ?_);rw [if_pos (by decide)];refine xD (HT.sliceApplied_gen hs pl pu ?_);show wpAny _ _ (if (((HT.sIx items.size 0 lo:Nat):Int)==0&&(1:Int)==1&&(HT.sIx items.size items.size hi - HT.sIx items.size 0 lo)==items.size)=true then _ else _) _ _ s;rw [if_pos (by rw [hw.1,hw.2]; simp)];unfold Builtin.Tuple.tupleIsExact;refine xD (xD (FE ht.typeIs (xE ?_)));rw [if_pos (by decide)];first
   | exact xD (i7 (xE ⟨_,rfl,xE h⟩))
   | exact xD (i7 (xD (xE (xE ⟨_,rfl,xE h⟩))))
theorem sl_D:SlR X rSlD:=by
 rintro pins s Z H x v vl vu lo hi sl Q I rx hs pl pu ⟨G,a,d,hG,ra,e,q⟩;cases a with
 | list ds =>
   cases e; obtain ⟨p,xs,rfl,h1,l1⟩:=ra; cases rx; obtain ⟨z,its,n,r,e1⟩:=U0 I hG h1; have hlen:=r.length; have hl:s.heap.IsList p its.toArray:=⟨_,e1,rfl,n,rfl⟩; refine ⟨"list",_,HB.lookup,hl.typeIs,?_⟩; refine wpAny_getItem_list_slice hl hs pl pu .none (by simp) ?_ (by rw [xW] <;> lia)
   rw [Gi,<- hlen]; exact Ux (t':=s.toks) I hG ((r.drop (HT.sIx xs.length 0 lo)).take (HT.sIx xs.length xs.length hi - HT.sIx xs.length 0 lo)) (dE l1 lo hi) (yA (Ex xs lo hi) z) q
 | tuple ds =>
   cases e; obtain ⟨p,xs,rfl,h1,l1⟩:=ra; cases rx; obtain ⟨z,its,r,ht⟩:=Jq I hG h1; have hlen:its.toArray.size=xs.length:=by rw [xW]; exact r.length.symm
   refine ⟨"tuple",_,k5.lookup,ht.typeIs,?_⟩;by_cases hw:HT.sIx xs.length 0 lo=0/\HT.sIx xs.length xs.length hi=xs.length
   . refine Fs ht hs pl pu (by rw [hlen]; exact hw) ⟨.ref p,H,I,rfl,q _ G H (Grow.refl hG) ⟨p,xs,rfl,h1,?_⟩⟩
     have:Hl ds lo hi=ds:=by
       unfold Hl; rw [l1.length,hw.1,hw.2,CV,Nat.sub_zero,<- l1.length,List.take_length]
     rw [this]; exact l1
   . refine HT.getItem_tuple_cut ht hs pl pu (by rw [hlen]; exact hw) ?_ (by rw [hlen]; exact z)
     rw [hlen]; exact cZ (t':=s.toks) I hG ((r.drop (HT.sIx xs.length 0 lo)).take (HT.sIx xs.length xs.length hi - HT.sIx xs.length 0 lo)) (dE l1 lo hi) (yA (Ex xs lo hi) z) q
 | _=>cases e
def AftO (E:EK) (G H:Hp) (r:Res (Option Int)) (Q:Option Int->Hp->Prop):Prop:=match r with
 | .ok ds=>∀ G' H',Grow G H G' H'->Q ds H'
 | .exc c=>∀ G' H',Grow G H G' H'->E c H'
 | .no=>False
def tO (E:EK) (f:Dn->Res (Option Int)):TO:=fun Z H Q=>∃ G δ,SR G H Z δ/\AftO E G H (f δ) Q
abbrev DO (X:Cx) (E:EK) (e:Option Expr) (f:Dn->Res (Option Int)):Prop:=PO X e (tO E f)
theorem PO.imp {X:Cx} {e:Option Expr} {t t':TO} (h:PO X e t) (i:∀ Z H Q,t' Z H Q->t Z H Q):PO X e t':=fun pins s Z H Q I q=>h pins s Z H Q I (i _ _ _ q)
noncomputable def Ov:Dn->Res (Option Int):=fun _=>.ok none
noncomputable def Bj (f:Dn->Res xC):Dn->Res (Option Int):=fun δ=>(f δ).bind fun d=>match d with
 | .int i=>.ok (some i)
 | _=>.no
theorem AftO.grow {E:EK} {G H G' H':Hp} {r:Res (Option Int)} {Q:Option Int->Hp->Prop} (g:Grow G H G' H') (a:AftO E G H r Q):AftO E G' H' r Q:=by
 cases r with
 | ok d=>exact fun G2 H2 g2=>a G2 H2 (g.trans g2)
 | exc c=>exact fun G2 H2 g2=>a G2 H2 (g.trans g2)
 | no=>exact a
theorem aM:DO X E none Ov:=PO.imp pA fun Z H Q hZ3=>by obtain ⟨G,δ,S,a⟩:=hZ3; exact a G H (Grow.refl S.sub)
theorem Ou (h:DE X E e f):DO X E (some e) (Bj f):=by
 refine PO.imp (oZ h) fun Z H Q hZ3=>?_;obtain ⟨G,δ,S,aft⟩:=hZ3;refine Ml (W:=fun G H r=>AftO E G H r Q) S aft (fun g a=>AftO.grow g a) (fun c a=>a) (fun a=>a) fun d v G1 H1 g1 r1 S1 a1=>?_;cases d with
 | int i=>exact ⟨i,r1,a1 G1 H1 (Grow.refl S1.sub)⟩
 | _=>exact (show False from a1).elim
theorem Je {α:Type} {E:EK} {G H:Hp} {Z:St} {δ:Dn} {fs:Dn->Res (Option Int)} {k:Option Int->Res α} {R:Option Int->Hp->Prop} {W:Hp->Hp->Res α->Prop} (S:SR G H Z δ) (a:W G H ((fs δ).bind k)) (hg:∀ {G H G' H':Hp} {r:Res α},Grow G H G' H'->W G H r->W G' H' r)
   (hx:∀ c,W G H (.exc c)->∀ G' H',Grow G H G' H'->E c H') (hn:W G H .no->False)
   (h:∀ ds G1 H1,Grow G H G1 H1->SR G1 H1 Z δ->W G1 H1 (k ds)->R ds H1):tO E fs Z H R:=by
 refine ⟨G,δ,S,?_⟩;cases e:fs δ with
 | ok d=>rw [e] at a; exact fun G' H' g=>h d G' H' g (S.grow g) (hg g a)
 | exc c=>rw [e] at a; exact hx c a
 | no=>rw [e] at a; exact hn a
noncomputable def vSl (f:Dn->Res xC) (lo hi:Dn->Res (Option Int)):Dn->Res xC:=fun δ=>(f δ).bind fun x=>(lo δ).bind fun l=>(hi δ).bind fun u=>ofO (gW x l u)
variable {lo hi:Option Expr} {fl fh:Dn->Res (Option Int)} {p2:Pos}
theorem Uz (he:DE X E e f) (hl:DO X E lo fl) (hu:DO X E hi fh):DE X E (.Subscript e (.Slice lo hi none p2) pos) (vSl f fl fh):=by
 refine PE.imp (Xo sl_D he hl hu) fun Z H Q hZ3=>?_;obtain ⟨G,δ,S,aft⟩:=hZ3;refine L5 S aft fun d v G1 H1 g1 r1 S1 a1=>?_;refine Je (W:=fun G H r=>Aft E G H r Q) S1 a1 (fun g a=>Aft.grow g a) (fun c a=>a) (fun a=>a) fun l G2 H2 g2 S2 a2=>?_;refine Je (W:=fun G H r=>Aft E G H r Q) S2 a2 (fun g a=>Aft.grow g a) (fun c a=>a) (fun a=>a) fun u G3 H3 g3 S3 a3=>?_;cases e:gW d l u with
 | none=>rw [e] at a3; exact a3.elim
 | some z=>rw [e] at a3; exact ⟨G3,d,z,S3.sub,r1.mono (g2.g.trans g3.g),e,a3⟩
end
end Sm
end
noncomputable section
namespace Sm
open PySem PySem.Spec PyProof.Rows L2
noncomputable section
variable {P:yI} {w:yR} {K:xI} {mg:Str->Option xF} {base:zJ} {X:Cx} {N:List Str} {sc:Scope} {k:Nat} {df:Bool} {E:EK} {pos p:Pos} {a b c e:Expr} {es:List Expr} {f g:Dn->Res xC} {fs:Dn->Res (List xC)}
noncomputable def rCD (op:List xC->Option xC):List V->Hp->VK->Prop:=fun vs H Q=>∃ G ds d,Same G H/\RepL G ds vs/\op ds=some d/\∀ v G' H',Grow G H G' H'->Rep G' d v->Q v H'
noncomputable def vFn (fs:Dn->Res (List xC)) (op:List xC->Option xC):Dn->Res xC:=fun δ=>(fs δ).bind fun ds=>ofO (op ds)
theorem sB {op:List xC->Option xC} {Z:St} {H:Hp} {Q:VK} (h:tD E (vFn fs op) Z H Q):tCB (rCD op) (tA E fs) Z H Q:=by
 obtain ⟨G,δ,S,aft⟩:=h;refine X2 (W:=fun G H r=>Aft E G H r Q) S aft (fun g a=>Aft.grow g a) (fun c a=>a) (fun a=>a) fun ds vs G1 H1 e g1 r1 S1 a1=>?_;cases e:op ds with
 | none=>rw [e] at a1; exact a1.elim
 | some d=>rw [e] at a1; exact ⟨G1,ds,d,S1.sub,r1,e,a1⟩
theorem Eu {x:Str} {id:String} {n:Nat} {op:List xC->Option xC} (C:Cxt P w K mg base X N sc k df) (hc:U7 X (.builtin id) (rCD op)) (h:okGl sc x=true) (hm:mg x=none) (hv:BA x=some (.builtin id)) (ha:DA X E (e::es) n fs)
   (he:xR (e::es) X.env=(false,eval e X.env)::xR es X.env:=by rfl) (hpl:(f9 pos (xR es X.env)).any (·.1)=false:=by rfl):DE X E (.Call (.Name x p) (e::es) [] pos) (vFn fs op):=by
 obtain ⟨h1,h2,h3⟩:=okGl.gl C h;exact PE.imp (Os hc h1 (by rw [C.hmg]; exact hm) hv ha.pa h3 h2 he hpl) fun _ _ _ q=>sB q
theorem Yt {x:Str} {T:String} {n:Nat} {op:List xC->Option xC} (C:Cxt P w K mg base X N sc k df) (hc:U7 X (.type T) (rCD op)) (h:okGl sc x=true) (hm:mg x=none) (hv:BA x=some (.type T)) (ha:DA X E (e::es) n fs)
   (he:xR (e::es) X.env=(false,eval e X.env)::xR es X.env:=by rfl) (hpl:(f9 pos (xR es X.env)).any (·.1)=false:=by rfl):DE X E (.Call (.Name x p) (e::es) [] pos) (vFn fs op):=by
 obtain ⟨h1,h2,h3⟩:=okGl.gl C h;exact PE.imp (Se hc h1 (by rw [C.hmg]; exact hm) hv ha.pa h3 h2 he hpl) fun _ _ _ q=>sB q
theorem Lq {G:Hp} {d:xC} {vs:List V} (r:RepL G [d] vs):∃ v,vs=[v]/\Rep G d v:=by
 obtain ⟨x,t,rfl,h,l⟩:=r; cases (show _=_ from l); exact ⟨x,rfl,h⟩
theorem jY {G:Hp} {d d':xC} {vs:List V} (r:RepL G [d,d'] vs):∃ v v',vs=[v,v']/\Rep G d v/\Rep G d' v':=by
 obtain ⟨x,t,rfl,h,l⟩:=r;obtain ⟨y,rfl,h'⟩:=Lq l;exact ⟨x,y,rfl,h,h'⟩
noncomputable def M9:List xC->Option xC
 | [.list ds]=>some (.int ds.length)
 | [.tuple ds]=>some (.int ds.length)
 | [.str x]=>some (.int x.length)
 | _=>none
theorem bH:U7 X (.builtin "len") (rCD M9):=by
 rintro pins s Z H xs us Q I r ⟨G,ds,d,hG,rl,e,q⟩;unfold M9 at e;split at e
 . rename_i ys
   cases e; obtain ⟨v,rfl,a,vs,rfl,h1,l1⟩:=Lq rl; exact Pi pins s Z H _ us Q I r ⟨_,ys.length,rfl,.inl ⟨vs,.inl (Rd.mono hG h1),l1.length⟩,q _ G H (Grow.refl hG) rfl⟩
 . rename_i ys
   cases e; obtain ⟨v,rfl,a,vs,rfl,h1,l1⟩:=Lq rl; exact Pi pins s Z H _ us Q I r ⟨_,ys.length,rfl,.inr ⟨vs,.inl (.inl (hG _ _ h1)),l1.length⟩,q _ G H (Grow.refl hG) rfl⟩
 . rename_i x
   cases e; obtain ⟨v,rfl,r1⟩:=Lq rl;cases r1.1;exact Pi pins s Z H _ us Q I r ⟨_,x.length,rfl,⟨r1.2.2,rfl⟩,q _ G H (Grow.refl hG) rfl⟩
 . cases e
theorem Q6 {n:Nat} (C:Cxt P w K mg base X N sc k df) (h:okGl sc "len" = true) (hm:mg "len" = none) (ha:DA X E (e::es) n fs)
   (he:xR (e::es) X.env=(false,eval e X.env)::xR es X.env:=by rfl) (hpl:(f9 pos (xR es X.env)).any (·.1)=false:=by rfl):DE X E (.Call (.Name "len" p) (e::es) [] pos) (vFn fs M9) :=
 Eu C bH h hm PySem.boot_len ha he hpl
noncomputable def dL:List xC->Option (List Bool)
 | []=>some []
 | .bool b::ds=>(dL ds).map (b::·)
 | _::_=>none
noncomputable def dAll:List xC->Option xC
 | [.list ds]=>(dL ds).map fun bs=>.bool (bs.all id)
 | _=>none
theorem qD {s:xH} {h':zJ} {o:Obj} (hk:∀ b x,b∉[s.heap.objs.size]->(s.heap.push o).get? b=some x->h'.get? b=some x):∀ b x,s.heap.get? b=some x->h'.get? b=some x :=
 fun b x e=>hk b x (fun hm=>by rw [xS.mp hm] at e; exact e9 _ (xZ e)) (xK _ e)
noncomputable def dListF:List xC->Option xC
 | [.list ds]=>some (.list ds)
 | [.tuple ds]=>some (.list ds)
 | _=>none
noncomputable def Gp:List xC->Option xC
 | [.list ds]=>some (.tuple ds)
 | [.tuple ds]=>some (.tuple ds)
 | _=>none
noncomputable def bA:List xC->Option xC
 | [.int i,.int j]=>some (.int (if i < j then j else i))
 | _=>none
noncomputable def Lf:List xC->Option xC
 | [.int i]=>some (.int i)
 | [.bool b]=>some (.int (if b then 1 else 0))
 | _=>none
theorem bB:U7 X (.type "tuple") (rCD Gp):=by
 rintro pins s Z H xs us Q I r ⟨G,ds,d,hG,rl,e,q⟩;unfold Gp at e;split at e
 . rename_i ys
   cases e; obtain ⟨v,rfl,a,vs,rfl,h1,l1⟩:=Lq rl; exact Gq pins s Z H _ us Q I r ⟨a,vs,rfl,.inl ⟨.inl (Rd.mono hG h1),fun l hl=>q _ (upd G l (.tup vs)) _ (Grow.new hG hl) ⟨l,vs,rfl,C1,l1.mono (Same.upd (hG.free hl))⟩⟩⟩
 . rename_i ys
   cases e; obtain ⟨v,rfl,a,vs,rfl,h1,l1⟩:=Lq rl; exact Gq pins s Z H _ us Q I r ⟨a,vs,rfl,.inr ⟨.inl (.inl (hG _ _ h1)),q _ G H (Grow.refl hG) ⟨a,vs,rfl,h1,l1⟩⟩⟩
 . cases e
theorem bF (hc:X.calm=true):U7 X (.builtin "max") (rCD bA):=by
 rintro pins s Z H xs us Q I r ⟨G,ds,d,hG,rl,e,q⟩;unfold bA at e;split at e
 . rename_i i j
   cases e; obtain ⟨v,v',rfl,e1,e2⟩:=jY rl;cases (show _=_ from e1); cases (show _=_ from e2);refine hE hc pins s Z H _ us Q I r ⟨i,j,rfl,?_⟩; have:=q (.int (if i < j then j else i)) G H (Grow.refl hG) rfl;first | exact this | (simpa [max_def] using this) | trace_state
 . cases e
theorem bI:U7 X (.type "int") (rCD Lf):=by
 rintro pins s Z H xs us Q I r ⟨G,ds,d,hG,rl,e,q⟩;unfold Lf at e;split at e
 . rename_i i
   cases e; obtain ⟨v,rfl,e1⟩:=Lq rl;cases (show _=_ from e1);exact Tc pins s Z H _ us Q I r (.inl ⟨i,rfl,q _ G H (Grow.refl hG) rfl⟩)
 . rename_i b
   cases e; obtain ⟨v,rfl,e1⟩:=Lq rl;cases (show _=_ from e1);refine Tc pins s Z H _ us Q I r (.inr ⟨b,rfl,?_⟩); have:=q (.int (if b then 1 else 0)) G H (Grow.refl hG) rfl;cases b <;> exact this
 . cases e
theorem mK {n:Nat} (C:Cxt P w K mg base X N sc k df) (h:okGl sc "tuple" = true) (hm:mg "tuple" = none) (ha:DA X E (e::es) n fs)
   (he:xR (e::es) X.env=(false,eval e X.env)::xR es X.env:=by rfl) (hpl:(f9 pos (xR es X.env)).any (·.1)=false:=by rfl):DE X E (.Call (.Name "tuple" p) (e::es) [] pos) (vFn fs Gp) :=
 Yt C bB h hm (by decide +kernel) ha he hpl
theorem sS {n:Nat} (C:Cxt P w K mg base X N sc k df) (h:okGl sc "max" = true) (hm:mg "max" = none) (ha:DA X E (e::es) n fs)
   (he:xR (e::es) X.env=(false,eval e X.env)::xR es X.env:=by rfl) (hpl:(f9 pos (xR es X.env)).any (·.1)=false:=by rfl):DE X E (.Call (.Name "max" p) (e::es) [] pos) (vFn fs bA) :=
 Eu C (bF C.calm) h hm (by decide +kernel) ha he hpl
theorem mP {n:Nat} (C:Cxt P w K mg base X N sc k df) (h:okGl sc "int" = true) (hm:mg "int" = none) (ha:DA X E (e::es) n fs)
   (he:xR (e::es) X.env=(false,eval e X.env)::xR es X.env:=by rfl) (hpl:(f9 pos (xR es X.env)).any (·.1)=false:=by rfl):DE X E (.Call (.Name "int" p) (e::es) [] pos) (vFn fs Lf) :=
 Yt C bI h hm (by decide +kernel) ha he hpl
noncomputable def Cb:List xC->Option (List Str)
 | []=>some []
 | .str b::ds=>(Cb ds).map (b::·)
 | _::_=>none
noncomputable def Le (x:Str):xC->Option xC
 | .list ds=>(Cb ds).bind fun ys=>if (ys.map (·.length)).sum+ys.length*x.length<=16777216/\yP (k9 x ys)=true/\(k9 x ys).length<=sizeLine then some (.str (k9 x ys)) else none
 | _=>none
theorem Wa {G:Hp}:∀ {ds:List xC} {xs:List V} {us:List xF} {ys:List Str},RepL G ds xs->Vals xs us->Cb ds=some ys->EL us ys
 | [],_,_,_,r,q,e=>by cases (show _=_ from r); cases q; cases e; exact .nil
 | .str b::ds,_,_,_,r,q,e=>by
   obtain ⟨x,t,rfl,h,l⟩:=r;cases h.1;cases q with
   | cons q qs =>
     obtain ⟨tk,rfl⟩:=q; obtain ⟨bs,e1,rfl⟩:=yT.mp e; exact .cons _ _ (Wa l qs e1)
 | .none::_,_,_,_,_,_,e=>by cases e
 | .int _::_,_,_,_,_,_,e=>by cases e
 | .bool _::_,_,_,_,_,_,e=>by cases e
 | .list _::_,_,_,_,_,_,e=>by cases e
 | .tuple _::_,_,_,_,_,_,e=>by cases e
 | .dict _::_,_,_,_,_,_,e=>by cases e
theorem pV:MtR X "str.join" (fun x vs H Q=>∃ G z v d r,Same G H/\x=.str z/\vs=[v]/\Rep G d v/\Le z d=some (.str r)/\Q (.str r) H):=by
 rintro pins s Z H x vs v us Q I rx rv ⟨G,z,y,d,r,hG,e1,e2,rd,e,q⟩;subst e1 e2;obtain ⟨t,rfl⟩:=rx;obtain ⟨u,rfl,ru⟩:=rv.one;cases d with
 | list ds =>
   obtain ⟨ys,e3,e4⟩:=BC.mp e;split at e4
   . rename_i hc
     cases e4; obtain ⟨l,xs,rfl,h1,l1⟩:=rd; cases ru; obtain ⟨zz,its,n,rv2,e5⟩:=U0 I hG h1; refine join_list ⟨_,e5,rfl,n,rfl⟩ (by simpa using Wa l1 rv2 e3) hc.1 fun t' k=>⟨.str _,H,I.tok _,⟨t',?_⟩,q⟩;rw [j6 (join_plain_closes z ys)]
   . cases e4
 | _=>cases e
noncomputable def Ko (x:Str) (f:Dn->Res xC):Dn->Res xC:=fun δ=>(f δ).bind fun d=>ofO (Le x d)
theorem gU {z:Str} {d d':xC} (e:Le z d=some d'):∃ r,d'=.str r/\yP r=true/\r.length<=sizeLine:=by
 cases d with
 | list ds =>
   obtain ⟨ys,e3,e4⟩:=BC.mp e;split at e4
   . rename_i hc; cases e4; exact ⟨_,rfl,hc.2.1,hc.2.2⟩
   . cases e4
 | _=>cases e
theorem aZ {z:Str} {j:Nat} {p1 apos cpos:Pos} (ha:DE X E a f) (hbase:p6 (.Constant (.str z) j p1) "join" X.env (eval (.Constant (.str z) j p1) X.env)=eval (.Constant (.str z) j p1) X.env:=by rfl)
   (hfew:((f9 cpos (xR [a] X.env)).all (fun x => !x.1)&&(EY cpos (BW [] X.env)).all (fun x=>x.1.isSome)
     && decide ([a].length+([]:List AQ).length+(if ([]:List AQ).isEmpty then 0 else 1) < 30))=true:=by rfl)
   (hline:(apos.endLine==cpos.line)=true:=by rfl) (hs:xR [a] X.env=(false,eval a X.env)::xR [] X.env:=by rfl) (hplain:(f9 cpos (xR [] X.env)).any (·.1)=false:=by rfl) :
   DE X E (.Call (.Attribute (.Constant (.str z) j p1) "join" apos) [a] [] cpos) (Ko z f):=by
 refine PE.imp (Xp HZ PySem.F.slot_str_join PySem.F.type_str_join pV kI (P6 ha Y3 hs) hbase hfew hline hs hplain) fun Z H Q hY54=>?_;obtain ⟨G,δ,S,aft⟩:=hY54;refine ⟨rfl,?_⟩;refine L5 S aft fun d v G1 H1 g1 r1 S1 a1=>?_;cases e:Le z d with
 | none=>rw [e] at a1; exact a1.elim
 | some d' =>
   obtain ⟨r,rfl,o1,o2⟩:=gU e; rw [e] at a1; exact ⟨G1,z,v,d,r,S1.sub,rfl,rfl,r1,e,a1 _ G1 H1 (Grow.refl S1.sub) ⟨rfl,o1,o2⟩⟩
def spD (n:Nat) (m:List xC->Res xC):Sp:=fun vs H Q _=>∃ G ds d,Same G H/\RepL G ds vs/\ds.length=n/\m ds=.ok d/\∀ v G' H',Grow G H G' H'->Rep G' d v->Q v H'
structure Fn (P:yI) (w:yR) (K:xI) (mg:Str->Option xF) (base:zJ) (x:Str) (k n:Nat) (m:List xC->Res xC):Prop where
 ex:∃ f fd ps,ps.length=n/\FnOk P w K mg base CX0 k f fd ps (spD n m)/\mg x=some (.ref f)/\i3 K (.ref f)=true/\Binds K fd ps []
def E0k:EK:=fun _ _=>False
noncomputable def B5 (fs:Dn->Res (List xC)) (m:List xC->Res xC):Dn->Res xC:=fun δ=>(fs δ).bind m
theorem B9 {x:Str} {j n:Nat} {m:List xC->Res xC} (C:Cxt P w K mg base X N sc k df) (F:Fn P w K mg base x j n m) (hj:j<=k) (h:okGl sc x=true) (ha:DA X E0k (e::es) n fs)
   (he:xR (e::es) X.env=(false,eval e X.env)::xR es X.env:=by rfl) (hpl:(f9 pos (xR es X.env)).any (·.1)=false:=by rfl):DE X E0k (.Call (.Name x p) (e::es) [] pos) (B5 fs m):=by
 obtain ⟨f,fd,ps,hps,F,hm,hk,hb⟩:=F.ex;obtain ⟨h1,h2,h3⟩:=okGl.gl C h;have F':FnOk X.prog X.w X.K X.mg X.base CX0 j f fd ps (spD n m):=by rw [C.hP,C.hw,C.hK,C.hmg,C.hb]; exact F
 refine PE.imp (Mh F' (C.room.mono hj) h1 (by rw [C.hmg]; exact hm) (by rw [C.hK]; exact hk) (by rw [C.hK]; exact hb) .nil (cI (X:=X)) ha.pa h2 he hpl) fun Z H Q hY55=>?_;obtain ⟨G,δ,S,aft⟩:=hY55;refine X2 (W:=fun G H r=>Aft E0k G H r Q) S aft (fun g a=>Aft.grow g a) (fun c a=>a) (fun a=>a) fun ds vs G1 H1 e g1 r1 S1 a1=>?_;rw [zN];cases q:m ds with
 | ok d=>rw [q] at a1; exact ⟨G1,ds,d,S1.sub,r1,ha.len δ ds e,q,a1⟩
 | exc c=>rw [q] at a1; exact (a1 G1 H1 (Grow.refl S1.sub)).elim
 | no=>rw [q] at a1; exact a1.elim
end
end Sm
end
noncomputable section
namespace Sm
open PySem PySem.Spec PyProof.Rows L2
def Its (z:Str):It:=⟨fun i _=>i < z.cps.size,fun i H x H'=>H'=H/\∃ c,z.cps[i]? = some c/\x=.str ⟨#[c]⟩,fun i _=>z.cps.size<=i⟩
theorem Zt {P:yI} {w:yR} {K:xI} {tg:Expr} (it:xO) (z:Str) (t:Tok):Turn P w K tg (Its z) [it] it (fun i h=>h.IsStrIter it "str_ascii_iterator" z t i) where
 mem:=by simp
 obj:=fun i h st b hb=>by
   have e:b=it:=by simpa using hb
   subst e; obtain ⟨o,e,c,d⟩:=st; exact ⟨o,e,fun v z=>by rw [d] at z; cases z⟩
 keep:=fun i h h' st k=>by
   obtain ⟨o,e,c,d⟩:=st; exact ⟨o,k it (by simp) o e,c,d⟩
 item:=by
   intro X hP hw hK hc i pins s Z H E I hf st hg; subst hP hw hK; obtain ⟨f0,f1,f2,f3,f4,f5⟩:=hf it (by simp);have hi:i < z.cps.size:=hg; refine wpAny_pyNext_ascii_item st (c:=z.cps[i]) (by simp [hi]) fun h' st' sb=>?_;have I1:Inv X pins Z H { s with heap:=h',toks:=s.toks+1 }:=I.turned (fun b o hb e=>(sb.2 b hb).trans e) f0 f1 f3 f4 f5;obtain ⟨o,e,c,d⟩:=id st'; exact ⟨_,rfl,Ss (s:={ s with heap:=h',toks:=s.toks+1 }) e c d (by decide) ⟨.str ⟨#[z.cps[i]]⟩,H,I1,⟨_,rfl⟩,⟨rfl,_,by simp [hi],rfl⟩,st',fun b hb=>(hf b hb).1⟩⟩
 done:=by
   intro X hP hw hK hc i pins s Z H E I hf st hg; subst hP hw hK; obtain ⟨f0,f1,f2,f3,f4,f5⟩:=hf it (by simp);have hi:z.cps.size<=i:=hg; exact wpAny_pyNext_ascii_end (I.ok.hd hc) st (by simpa using hi) fun h' eb=>⟨rfl,I.turned (t':=s.toks) (fun b o hb e=>eb b o hb e) f0 f1 f3 f4 f5⟩
 self:=fun _ _ _ _ _ st h=>wpAny_pyIter_striter_ascii st h
theorem eC {P:yI} {w:yR} {K:xI} {tg:Expr} (it:xO) (z:Str) (t:Tok):Turn P w K tg (Its z) [it] it (fun i h=>h.IsStrIter it "str_iterator" z t i) where
 mem:=by simp
 obj:=fun i h st b hb=>by
   have e:b=it:=by simpa using hb
   subst e; obtain ⟨o,e,c,d⟩:=st; exact ⟨o,e,fun v z=>by rw [d] at z; cases z⟩
 keep:=fun i h h' st k=>by
   obtain ⟨o,e,c,d⟩:=st; exact ⟨o,k it (by simp) o e,c,d⟩
 item:=by
   intro X hP hw hK hc i pins s Z H E I hf st hg; subst hP hw hK; obtain ⟨f0,f1,f2,f3,f4,f5⟩:=hf it (by simp);have hi:i < z.cps.size:=hg; refine wpAny_pyNext_wide_item st (c:=z.cps[i]) (by simp [hi]) fun h' st' sb=>?_;have I1:Inv X pins Z H { s with heap:=h',toks:=s.toks+1 }:=I.turned (fun b o hb e=>(sb.2 b hb).trans e) f0 f1 f3 f4 f5;obtain ⟨o,e,c,d⟩:=id st'; exact ⟨_,rfl,Ss (s:={ s with heap:=h',toks:=s.toks+1 }) e c d (by decide) ⟨.str ⟨#[z.cps[i]]⟩,H,I1,⟨_,rfl⟩,⟨rfl,_,by simp [hi],rfl⟩,st',fun b hb=>(hf b hb).1⟩⟩
 done:=by
   intro X hP hw hK hc i pins s Z H E I hf st hg; subst hP hw hK; obtain ⟨f0,f1,f2,f3,f4,f5⟩:=hf it (by simp);have hi:z.cps.size<=i:=hg; exact wpAny_pyNext_wide_end (I.ok.hd hc) st (by simpa using hi) fun h' eb=>⟨rfl,I.turned (t':=s.toks) (fun b o hb e=>eb b o hb e) f0 f1 f3 f4 f5⟩
 self:=fun _ _ _ _ _ st h=>wpAny_pyIter_striter_wide st h
def Ite (K:xI) (a:xO):It :=
 ⟨fun i H=>∃ xs x,SqL K H a xs/\xs[i]? = some x,fun i H x H'=>∃ p y,H p=none/\x=.ref p/\H'=upd H p (.tup [.int i,y])/\∀ xs,SqL K H a xs->xs[i]? = some y,fun i H=>∃ xs,SqL K H a xs/\xs.length<=i⟩
theorem eE {P:yI} {w:yR} {K:xI} {elts:List Expr} {x1:Nat} {tp:Pos} (a e it:xO) (hne:e≠it):Turn P w K (.Tuple elts x1 tp) (Ite K a) [e,it] e (fun i h=>(∃ old,IsEnum h e it (i:Int) old)/\h.IsListIter it a i) where
 mem:=by simp
 obj:=fun i h st b hb=>by
   obtain ⟨⟨old,h1⟩,o,h2,c,d⟩:=st; rcases xG.mp hb with rfl | hb
   . exact ⟨_,h1,fun v z=>by cases z⟩
   . have e':b=it:=by simpa using hb
     subst e'; exact ⟨o,h2,fun v z=>by rw [d] at z; cases z⟩
 keep:=fun i h h' st k=>by
   obtain ⟨⟨old,h1⟩,o,h2,c,d⟩:=st; exact ⟨⟨old,k e (by simp) _ h1⟩,o,k it (by simp) o h2,c,d⟩
 item:=by
   intro X hP hw hK hc i pins s Z H E I hf st hg; subst hP hw hK; obtain ⟨⟨old,he⟩,st⟩:=st; obtain ⟨xs,x,hq,hx⟩:=hg; obtain ⟨its,rv,p,hz⟩:=I.list hq; obtain ⟨u,hu,ru⟩:=rv.get hx; obtain ⟨f0,f1,f2,f3,f4,f5⟩:=hf e (by simp);obtain ⟨g0,g1,g2,g3,g4,g5⟩:=hf it (by simp);refine wpAny_pyNext_enum_item he st p.isList (x:=u) (by simpa using hu) hne fun h' he' st' ht' hsz kp=>?_;refine ⟨_,rfl,wpAny_letOwnedTupleGo_enum he' fun h2 he2 sb=>?_⟩;have hfr:H s.heap.objs.size=none:=I.fresh; have elt:e < s.heap.objs.size:=xZ he; have ilt:it < s.heap.objs.size:=by obtain ⟨o,h,_⟩:=st; exact xZ h
   have kp2:∀ b o,b≠e->b≠it->s.heap.get? b=some o->h2.get? b=some o:=fun b o h1 h3 q=>(sb.2 b h1).trans (kp b o h1 h3 q);have I1:Inv X pins Z H { s with heap:=h2,toks:=s.toks+1 }:=by
     refine I.step (g':=s.gens) (d':=s.drawn) (ch:=[e,it]) (fun b hb=>?_) (fun b o _ _ hcb q _=>kp2 b o (fun z=>hcb (by simp [z])) (fun z=>hcb (by simp [z])) q) (fun b o _ _ hcb q _=>⟨o.slots,kp2 b o (fun z=>hcb (by simp [z])) (fun z=>hcb (by simp [z])) q⟩) (fun _ _ _ _ n=>n)
       (fun b o hcb q=>⟨o,kp2 b o (fun z=>hcb (by simp [z])) (fun z=>hcb (by simp [z])) q⟩) (fun _ _ q=>q) (fun _ _ _ q=>q) (fun b ps q=>⟨#[],by rw [q]; simp⟩) (fun m hm=>?_) (fun b u' q=>?_) I.bare
     . rcases xG.mp hb with rfl | hb
       . exact ⟨f3,f1,f4,f5⟩
       . have e':b=it:=by simpa using hb
         subst e'; exact ⟨g3,g1,g4,g5⟩
     . obtain ⟨o,es,ep,ho,r⟩:=hm
       exact ⟨o,es,ep,kp2 _ o (Ne.symm f1) (Ne.symm g1) ho,r⟩
     . refine (I.hok b u' q).stay (fun c v hcc q'=>kp2 c v ?_ ?_ q') (fun _ q'=>q') fun _ _ q'=>q'
       . rintro rfl
         rcases hcc with z | z
         . subst z; rw [f0] at q; cases q
         . rw [f0] at z; cases z
       . rintro rfl
         rcases hcc with z | z
         . subst z; rw [g0] at q; cases q
         . rw [g0] at z; cases z
   have htt:h2.get? s.heap.objs.size=some { cls:=.type "tuple",data:=.seq #[.int i s.toks,u] }:=(sb.2 _ (y3 elt)).trans ht'; have Hold:∀ b o,H b=some o->b≠s.heap.objs.size:=fun b o q z=>by subst z; rw [hfr] at q; cases q
   have I2:Inv X pins Z (upd H s.heap.objs.size (.tup [.int i,x])) { s with heap:=h2,toks:=s.toks+1 }:=by
     have nb:∀ b o,b≠s.heap.objs.size->s.heap.get? b=some o->True:=fun _ _ _ _=>trivial;have base':Un X.fs X.ex X.H₀ (upd H s.heap.objs.size (.tup [.int i,x])) X.s₀.heap h2:=by
       have B:=I1.base; have ne0:∀ b o,X.s₀.heap.get? b=some o->b≠s.heap.objs.size:=fun b o q=>yU (yS (xZ q) I.sz);exact ⟨B.keep,B.slot,fun b o q n hx=>by rw [C3 (ne0 b o q)]; exact B.free b o q n hx,B.there,
         fun b ys q=>by rw [C3 (Hold b _ (B.tups b ys q))]; exact B.tups b ys q,fun b o' u' q=>by rw [C3 (Hold b _ (B.frzs b o' u' q))]; exact B.frzs b o' u' q,
         fun b ps q=>by obtain ⟨m,q'⟩:=B.tbls b ps q; exact ⟨m,by rw [C3 (Hold b _ q')]; exact q'⟩⟩
     have hok':HOk X.prog X.w (upd H s.heap.objs.size (.tup [.int i,x])) h2:=fun b o q=>by
       by_cases hb:b=s.heap.objs.size
       . subst hb
         rw [C1] at q; cases q; refine ⟨by show 2<=sizeLine; decide,[.int i s.toks,u],.cons ⟨_,rfl⟩ (.cons ru .nil),⟨_,htt,rfl,0,rfl⟩⟩
       . rw [C3 hb] at q
         exact (I1.hok b o q).stay (fun _ _ _ q'=>q') (fun c q'=>by rw [C3 (Hold c _ q')]; exact q') fun c ys q'=>by rw [C3 (Hold c _ q')]; exact q'
     refine ⟨I1.ok,I1.os,I1.bare,base',I1.loc,I1.cell,?_,fun y c q=>?_,fun p hp=>?_,hok',I1.len⟩
     . rw [C3 (yU I.lt)]; exact I1.free
     . obtain ⟨v,oc,hoc,_⟩:=I.cell y c q
       rw [C3 (yU (xZ hoc))]; exact I1.freeC y c q
     . obtain ⟨q1,q2,q3,q4,q5⟩:=I1.pin p hp
       refine ⟨q1,?_,q3,q4,q5⟩; rw [C3 (yU (xZ (I.pin p hp).1))]; exact q2
   refine ⟨.ref s.heap.objs.size,_,I2,rfl,⟨_,x,hfr,rfl,rfl,fun ys hy=>by rw [I.list_inj hy hq]; exact hx⟩,⟨⟨_,by push_cast; exact he2⟩,?_⟩,fun b hb=>?_⟩
   . obtain ⟨o,q,c,d⟩:=st'
     exact ⟨o,(sb.2 it (Ne.symm hne)).trans q,c,d⟩
   . rcases xG.mp hb with rfl | hb
     . rw [C3 (yU elt)]; exact f0
     . have e':b=it:=by simpa using hb
       subst e'; rw [C3 (yU ilt)]; exact g0
 done:=by
   intro X hP hw hK hc i pins s Z H E I hf st hg; subst hP hw hK; obtain ⟨⟨old,he⟩,st⟩:=st; obtain ⟨xs,hq,hx⟩:=hg; obtain ⟨its,rv,p,hz⟩:=I.list hq; obtain ⟨g0,g1,g2,g3,g4,g5⟩:=hf it (by simp);have hl:=rv.length; exact wpAny_pyNext_enum_end (I.ok.hd hc) he st p.isList (by simp; lia) fun h' eb=>⟨rfl,I.turned (t':=s.toks) (fun b o hb e=>eb b o hb e) g0 g1 g3 g4 g5⟩
 self:=fun _ _ _ _ _ st h=>by
   obtain ⟨⟨old,he⟩,_⟩:=st; exact wpAny_pyIter_enum he h
end Sm
end
noncomputable section
namespace Sm
open PySem PySem.Spec PyProof.Rows L2
structure Walk (J:It) (G:Hp) (ds:List xC):Prop where
 go:∀ (i:Nat) (H:Hp),i < ds.length->Same G H->J.go i H
 yld:∀ (i:Nat) (d:xC) (G2 H:Hp) (x:V) (H':Hp),ds[i]? = some d->Same G G2->Same G2 H->J.yld i H x H'->∃ G3,Grow G2 H G3 H'/\Rep G3 d x
 stop:∀ (i:Nat) (H:Hp),ds.length<=i->Same G H->J.stop i H
def AftI (E:EK) (G H:Hp) (r:Res (List xC)) (R:It->Hp->Prop):Prop:=match r with
 | .ok ds=>∀ J G' H',Grow G H G' H'->Walk J G' ds->R J H'
 | .exc c=>∀ G' H',Grow G H G' H'->E c H'
 | .no=>False
def tI (E:EK) (f:Dn->Res (List xC)):TI:=fun Z H R=>∃ G δ,SR G H Z δ/\AftI E G H (f δ) R
abbrev DI (X:Cx) (E:EK) (tg e:Expr) (f:Dn->Res (List xC)):Prop:=PI X tg e (tI E f)
theorem AftI.grow {E:EK} {G H G' H':Hp} {r:Res (List xC)} {Q:It->Hp->Prop} (g:Grow G H G' H') (a:AftI E G H r Q):AftI E G' H' r Q:=by
 cases r with
 | ok d=>exact fun v G2 H2 g2 q=>a v G2 H2 (g.trans g2) q
 | exc c=>exact fun G2 H2 g2=>a G2 H2 (g.trans g2)
 | no=>exact a
theorem PI.imp {X:Cx} {tg e:Expr} {t t':TI} (h:PI X tg e t) (i:∀ Z H Q,t' Z H Q->t Z H Q):PI X tg e t':=fun pins s Z H Q I q=>h pins s Z H Q I (i _ _ _ q)
noncomputable def Tr (x:Str):List xC:=x.cps.toList.map fun c=>.str ⟨#[c]⟩
noncomputable def D5:xC->Res (List xC)
 | .list ds=>.ok ds
 | .tuple ds=>.ok ds
 | .str x=>.ok (Tr x)
 | _=>.no
theorem dZ {K:xI} {G:Hp} {a:xO} {xs:List V} {ds:List xC} (h:Rd G a (.lst xs)) (l:RepL G ds xs):Walk (Itl K a) G ds where
 go:=fun i H hi hG=>by
   have hi':i < xs.length:=by rw [<- l.length]; exact hi
   exact ⟨xs,xs[i],.inl (Rd.mono hG h),by simp [hi']⟩
 yld:=fun i d G2 H x H' e h1 h2 hy=>by
   obtain ⟨rfl,hy⟩:=hy; obtain ⟨y,e1,r⟩:=l.get e; have:=hy xs (.inl (Rd.mono (h1.trans h2) h)); rw [e1] at this; cases this; exact ⟨G2,Grow.refl h2,r.mono h1⟩
 stop:=fun i H hi hG=>⟨xs,.inl (Rd.mono hG h),by rw [<- l.length]; exact hi⟩
theorem iG {K:xI} {G:Hp} {a:xO} {xs:List V} {ds:List xC} (h:G a=some (.tup xs)) (l:RepL G ds xs):Walk (Itt K a) G ds where
 go:=fun i H hi hG=>by
   have hi':i < xs.length:=by rw [<- l.length]; exact hi
   exact ⟨xs,xs[i],.inl (.inl (hG _ _ h)),by simp [hi']⟩
 yld:=fun i d G2 H x H' e h1 h2 hy=>by
   obtain ⟨rfl,hy⟩:=hy; obtain ⟨y,e1,r⟩:=l.get e; have:=hy xs (.inl (.inl (h2 _ _ (h1 _ _ h)))); rw [e1] at this; cases this; exact ⟨G2,Grow.refl h2,r.mono h1⟩
 stop:=fun i H hi hG=>⟨xs,.inl (.inl (hG _ _ h)),by rw [<- l.length]; exact hi⟩
theorem Vn {G:Hp} {z:Str} (ho:yP z=true):Walk (Its z) G (Tr z) where
 go:=fun i H hi hG=>by
   show i < z.cps.size;simpa [Tr] using hi
 yld:=fun i d G2 H x H' e h1 h2 hy=>by
   obtain ⟨rfl,c,hc,rfl⟩:=hy; have e':(z.cps.toList.map fun c=>zM ⟨#[c]⟩)[i]? = some d:=e;rw [yQ,z0,hc] at e';cases e'; refine ⟨G2,Grow.refl h2,rfl,?_,by show 1<=sizeLine; decide⟩;unfold yP at ho ⊢;rw [<- GN,o9] at ho; have:=ho c (by rw [<- z0] at hc; exact j9 hc);simpa using this
 stop:=fun i H hi hG=>by
   show z.cps.size<=i;simpa [Tr] using hi
theorem Zp {G:Hp} (lo:Int) (n:Nat):Walk (Itr lo n) G ((c8 n).map fun (i:Nat)=>xV (lo+i)) where
 go:=fun i H hi hG=>by
   show i < n;simpa using hi
 yld:=fun i d G2 H x H' e h1 h2 hy=>by
   obtain ⟨rfl,rfl⟩:=hy; rw [yQ] at e;by_cases hi:i < n
   . rw [List.getElem?_range hi] at e; cases e; exact ⟨G2,Grow.refl h2,rfl⟩
   . rw [l7 (by simpa using hi)] at e; cases e
 stop:=fun i H hi hG=>by
   show n<=i;simpa using hi
noncomputable def Go (ds:List xC):List xC:=ds.mapIdx fun i d=>.tuple [.int i,d]
theorem eA {K:xI} {G:Hp} {a:xO} {xs:List V} {ds:List xC} (h:Rd G a (.lst xs)) (l:RepL G ds xs):Walk (Ite K a) G (Go ds) where
 go:=fun i H hi hG=>by
   have hi':i < xs.length:=by rw [<- l.length]; simpa [Go] using hi
   exact ⟨xs,xs[i],.inl (Rd.mono hG h),by simp [hi']⟩
 yld:=fun i d G2 H x H' e h1 h2 hy=>by
   obtain ⟨p,y,hp,rfl,rfl,hy⟩:=hy; unfold Go at e; rw [JS] at e; obtain ⟨d0,e0,rfl⟩:=yT.mp e; obtain ⟨y',e1,r⟩:=l.get e0; have:=hy xs (.inl (Rd.mono (h1.trans h2) h)); rw [e1] at this; cases this; refine ⟨upd G2 p (.tup [.int i,y]),Grow.new h2 hp,p,_,rfl,C1,RepL.cons rfl (RepL.cons (r.mono (h1.trans (Same.upd (h2.free hp)))) rfl)⟩
 stop:=fun i H hi hG=>⟨xs,.inl (Rd.mono hG h),by rw [<- l.length]; simpa [Go] using hi⟩
noncomputable section
variable {P:yI} {w:yR} {K:xI} {mg:Str->Option xF} {base:zJ} {X:Cx} {N:List Str} {sc:Scope} {k:Nat} {df:Bool} {E:EK} {pos p:Pos} {tg a b c e:Expr} {f g:Dn->Res xC} {fs src:Dn->Res (List xC)}
theorem J3 (ha:DE X E a f):DI X E tg a (fun δ=>(f δ).bind D5):=by
 rintro pins s Z H R I ⟨G,δ,S,aft⟩;have h:=Ml (R:=fun v H1=>∃ G1 d,Same G1 H1/\Rep G1 d v/\AftI E G1 H1 (D5 d) R) (W:=fun G H r=>AftI E G H r R) S aft (fun g a=>AftI.grow g a) (fun c a=>a) (fun a=>a) fun d v G1 H1 g1 r1 S1 a1=>⟨G1,d,S1.sub,r1,a1⟩;refine thn (ha pins s Z H _ I h) fun v s1 hZ2=>?_;obtain ⟨x,H1,I1,rx,G1,d,hG,rd,a1⟩:=hZ2;cases d with
 | list ds =>
   obtain ⟨p,xs,rfl,h1,l1⟩:=rd; cases rx; obtain ⟨zz,its,n,rv,e1⟩:=U0 I1 hG h1; refine HA ⟨_,e1,rfl,n,rfl⟩ ?_; refine ⟨s1.heap.objs.size,[s1.heap.objs.size],_,_,H1,rfl,I1.kept (t':=s1.toks) fun b o e=>xK _ e,eD p _,⟨_,xT _ rfl,rfl,rfl⟩,fun b hb=>?_,a1 _ G1 H1 (Grow.refl hG) (dZ h1 l1)⟩;have e:b=s1.heap.objs.size:=by simpa using hb
   subst e; exact I1.fpOk (xN _) I1.fresh
 | tuple ds =>
   obtain ⟨p,xs,rfl,h1,l1⟩:=rd; cases rx; obtain ⟨zz,its,rv,pt⟩:=Jq I1 hG h1; refine wpAny_pyIter_tuple (show s1.heap.IsTuple p its.toArray from pt) ?_;refine ⟨s1.heap.objs.size,[s1.heap.objs.size],_,_,H1,rfl,I1.kept (t':=s1.toks) fun b o e=>xK _ e,Zr p _,⟨_,xT _ rfl,rfl,rfl⟩,fun b hb=>?_,a1 _ G1 H1 (Grow.refl hG) (iG h1 l1)⟩;have e:b=s1.heap.objs.size:=by simpa using hb
   subst e; exact I1.fpOk (xN _) I1.fresh
 | str z =>
   obtain ⟨e0,o1,l1⟩:=rd; subst e0; obtain ⟨t,rfl⟩:=rx;cases ha:z.cps.all (· < 128)
   . refine wpAny_pyIter_wide ha ?_
     refine ⟨s1.heap.objs.size,[s1.heap.objs.size],_,_,H1,rfl,I1.kept (t':=s1.toks) fun b o e=>xK _ e,eC _ z t,⟨_,xT _ rfl,rfl,rfl⟩,fun b hb=>?_,a1 _ G1 H1 (Grow.refl hG) (Vn o1)⟩;have e:b=s1.heap.objs.size:=by simpa using hb
     subst e; exact I1.fpOk (xN _) I1.fresh
   . refine wpAny_pyIter_ascii ha ?_
     refine ⟨s1.heap.objs.size,[s1.heap.objs.size],_,_,H1,rfl,I1.kept (t':=s1.toks) fun b o e=>xK _ e,Zt _ z t,⟨_,xT _ rfl,rfl,rfl⟩,fun b hb=>?_,a1 _ G1 H1 (Grow.refl hG) (Vn o1)⟩;have e:b=s1.heap.objs.size:=by simpa using hb
     subst e; exact I1.fpOk (xN _) I1.fresh
 | _=>exact (show False from a1).elim
noncomputable def W6 (lo hi:Int):List xC:=(c8 (hi - lo).toNat).map fun (i:Nat)=>xV (lo+i)
noncomputable def Iv:List xC->Res (List xC)
 | [.int j]=>if -(2 ^ 62)<=j/\j < 2 ^ 62 then .ok (W6 0 j) else .no
 | _=>.no
theorem Ep {n:Nat} (C:Cxt P w K mg base X N sc k df) (h:okGl sc "range" = true) (hm:mg "range" = none) (ha:DA X E [a] n fs) (hs:xR [a] X.env=[(false,eval a X.env)]:=by rfl) :
   DI X E tg (.Call (.Name "range" p) [a] [] pos) (fun δ=>(fs δ).bind Iv):=by
 refine PI.imp (fM (okGl.gl C h).1 (by rw [C.hmg]; exact hm) ha.pa hs) fun Z H Q hY56=>?_;obtain ⟨G,δ,S,aft⟩:=hY56;refine X2 (W:=fun G H r=>AftI E G H r Q) S aft (fun g a=>AftI.grow g a) (fun c a=>a) (fun a=>a) fun ds vs G1 H1 e g1 r1 S1 a1=>?_;unfold Iv at a1;split at a1
 . rename_i j
   split at a1
   . rename_i hc
     obtain ⟨v,rfl,e1⟩:=Lq r1;cases (show _=_ from e1);refine ⟨j,rfl,hc.1,hc.2,a1 _ G1 H1 (Grow.refl S1.sub) ?_⟩; have:=Zp (G:=G1) 0 j.toNat; unfold W6; rw [Int.sub_zero]; exact this
   . exact a1.elim
 . exact a1.elim
noncomputable def Pd:List xC->Res (List xC)
 | [.list ds]=>.ok (Go ds)
 | _=>.no
theorem vZ {n x1:Nat} {elts:List Expr} {tp:Pos} (C:Cxt P w K mg base X N sc k df) (h:okGl sc "enumerate" = true) (hm:mg "enumerate" = none) (ha:DA X E [a] n fs) (he:xR [a] X.env=(false,eval a X.env)::xR [] X.env:=by rfl) (hpl:(f9 pos (xR [] X.env)).any (·.1)=false:=by rfl) :
   DI X E (.Tuple elts x1 tp) (.Call (.Name "enumerate" p) [a] [] pos) (fun δ=>(fs δ).bind Pd):=by
 rintro pins s Z H R I ⟨G,δ,S,aft⟩;obtain ⟨h1,h2,h3⟩:=okGl.gl C h;have hh:=X2 (R:=fun vs H1=>∃ G1 ds,Same G1 H1/\RepL G1 ds vs/\AftI E G1 H1 (Pd ds) R) (W:=fun G H r=>AftI E G H r R) S aft (fun g a=>AftI.grow g a) (fun c a=>a) (fun a=>a) fun ds vs G1 H1 e g1 r1 S1 a1=>⟨G1,ds,S1.sub,r1,a1⟩;refine BT (Ow I h1 (by rw [C.hmg]; exact hm) boot_enumerate ?_ h3 h2);refine x3 (thn (ha.pa pos pins s Z H _ I hh) fun us s1 hY58=>?_) he hpl;obtain ⟨vs,H1,I1,rv,G1,ds,hG,rl,a1⟩:=hY58;unfold Pd at a1;split at a1
 . rename_i ys
   obtain ⟨v,rfl,l,xs,rfl,q1,l1⟩:=Lq rl; obtain ⟨u,rfl,ru⟩:=Mm rv; cases ru; obtain ⟨zz,its,nn,rw',e1⟩:=U0 I1 hG q1; refine call_enumerate_list ⟨_,e1,rfl,nn,rfl⟩ fun h' he' hit hsz kp=>?_;have I2:Inv X pins Z H1 { s1 with heap:=h' }:=I1.kept (t':=s1.toks) kp; refine wpAny_pyIter_enum he' ?_; refine ⟨s1.heap.objs.size+1,[s1.heap.objs.size+1,s1.heap.objs.size],_,_,H1,rfl,I2,eE l _ _ (y3 (CG _)),⟨⟨_,he'⟩,hit⟩,fun b hb=>?_,a1 _ G1 H1 (Grow.refl hG) (eA q1 l1)⟩;rcases xG.mp hb with rfl | hb
   . exact I1.fpOk (AK _) (I1.hok.fresh (AK _))
   . have e:b=s1.heap.objs.size:=by simpa using hb
     subst e; exact I1.fpOk (xN _) I1.fresh
 . exact a1.elim
noncomputable def F2 (d:xC):Res (List Sl):=.ok [.sh d]
noncomputable def V0:xC->Res (List Sl)
 | .tuple [a,b]=>.ok [.sh a,.sh b]
 | _=>.no
noncomputable def C8 (bnd:xC->Res (List Sl)) (δc:Dn) (tt:Dn->Res Bool) (el:Dn->Res xC):List xC->Res (List xC)
 | []=>.ok []
 | d::ds=>match bnd d with
   | .ok sl=>match tt (sl++δc) with
     | .ok true=>match el (sl++δc) with
       | .ok y=>match C8 bnd δc tt el ds with
         | .ok r=>.ok (y::r)
         | _=>.no
       | _=>.no
     | .ok false=>C8 bnd δc tt el ds
     | _=>.no
   | _=>.no
noncomputable def Cv (δ:Dn) (cap:List Nat):Dn:=cap.map fun j=>δ[j]?.getD .un
noncomputable def E8 (src:Dn->Res (List xC)) (bnd:xC->Res (List Sl)) (cap:List Nat) (tt:Dn->Res Bool) (el:Dn->Res xC):Dn->Res (List xC):=fun δ=>(src δ).bind fun ds=>if ds.length<=sizeLine then C8 bnd (Cv δ cap) tt el ds else .no
def GOk (g:TG) (m:Nat) (bnd:xC->Res (List Sl)):Prop:=∀ (G H:Hp) (d:xC) (x:V) (sl:List Sl) (τ:St) (Q:St->Hp->Prop),Same G H->Rep G d x->bnd d=.ok sl->(∀ vs:List V,vs.length=m->sl.length=m->(∀ (i:Nat) s,sl[i]? = some s->SlOk G H (vs[i]?) s/\∃ d,s=.sh d)->Q (vs.map some++τ) H)->g x (yD m none++τ) H Q
theorem wB:GOk (L3 0) 1 F2:=by
 intro G H d x sl τ Q hG r e h;cases e;exact h [x] rfl rfl fun i s hs=>by
   cases i with
   | zero=>cases hs; exact ⟨⟨x,rfl,r⟩,d,rfl⟩
   | succ i=>simp at hs
theorem gok2:GOk (aU K 2 (Bb (L3 0) (Bb (L3 1) aV))) 2 V0:=by
 intro G H d x sl τ Q hG r e h;cases d with
 | tuple ds =>
   match ds,e with
   | [a,b],e =>
     cases e; obtain ⟨p,xs,rfl,h1,l1⟩:=r; obtain ⟨v,v',rfl,r1,r2⟩:=jY l1; refine ⟨p,_,rfl,.inl (.inl (hG _ _ h1)),rfl,v,[v'],rfl,v',[],rfl,rfl,?_⟩; exact h [v,v'] rfl rfl fun i s hs=>by
       match i with
       | 0=>cases hs; exact ⟨⟨v,rfl,r1⟩,a,rfl⟩
       | 1=>cases hs; exact ⟨⟨v',rfl,r2⟩,b,rfl⟩
       | i+2=>simp at hs
 | _=>cases e
theorem SR.cap {G H:Hp} {Z:St} {δ:Dn} (S:SR G H Z δ) (cap:List Nat) (hnd:cap.Nodup) {vs:List V} {sl:List Sl} (hv:vs.length=sl.length) (h:∀ (i:Nat) s,sl[i]? = some s->SlOk G H (vs[i]?) s/\∃ d,s=.sh d):SR G H (vs.map some++Ee Z cap) (sl++Cv δ cap):=by
 have hlt:∀ i,i < sl.length->(vs.map some++Ee Z cap)[i]? = (vs[i]?).map some:=fun i hi=>by
   rw [zC (by rw [xJ,hv]; exact hi),yQ]
 have hge:∀ i,¬ i < sl.length->(vs.map some++Ee Z cap)[i]? = (cap[i - sl.length]?).map fun j=>Z[j]?.join:=fun i hi=>by
   rw [zF (by rw [xJ,hv]; lia)];unfold Ee; rw [yQ,xJ,hv]
 have hd:∀ i,¬ i < sl.length->(sl++Cv δ cap)[i]? = (cap[i - sl.length]?).map fun j=>δ[j]?.getD .un:=fun i hi=>by
   rw [zF (by lia)]; unfold Cv; rw [yQ]
 refine ⟨S.sub,by simp [hv,Ee,Cv],fun i s e=>?_,fun i j a d d' ei ej hi hj=>?_⟩
 . by_cases hi:i < sl.length
   . rw [zC hi] at e
     rw [hlt i hi]; have:=(h i s e).1;cases q:vs[i]? with
     | none=>rw [q] at this; exact this
     | some v=>rw [q] at this; exact this
   . rw [hd i hi] at e
     rw [hge i hi];cases q:cap[i - sl.length]? with
     | none=>rw [q] at e; cases e
     | some j =>
       rw [q] at e; simp only [CJ,IF] at e; subst e; show SlOk G H (some (Z[j]?.join)).join _;cases q2:δ[j]? with
       | none=>trivial
       | some s=>exact S.sl j s q2
 . have key : ∀ i d, (sl ++ Cv δ cap)[i]? = some (.ow d) -> ¬ i < sl.length /\ ∃ j, cap[i - sl.length]? = some j /\ δ[j]? = some (.ow d) := fun i d e => by
     have hi:¬ i < sl.length:=fun hi=>by
       rw [zC hi] at e; obtain ⟨_,d',z⟩:=h i _ e; cases z
     refine ⟨hi,?_⟩; rw [hd i hi] at e;cases q:cap[i - sl.length]? with
     | none=>rw [q] at e; cases e
     | some j =>
       rw [q] at e; simp only [CJ,IF] at e; refine ⟨j,rfl,?_⟩;cases q2:δ[j]? with
       | none=>rw [q2] at e; cases e
       | some s=>rw [q2] at e; cases e; rfl
   obtain ⟨n1,j1,c1,o1⟩:=key i d ei; obtain ⟨n2,j2,c2,o2⟩:=key j d' ej; rw [hge i n1,c1] at hi; rw [hge j n2,c2] at hj; have hi':Z[j1]?.join=some (.ref a):=hi; have hj':Z[j2]?.join=some (.ref a):=hj; have:=S.ap j1 j2 a d d' o1 o2 hi' hj'; subst this; have:=(List.getElem?_inj (yJ.mp c1).1 hnd).mp (c1.trans c2.symm);lia
theorem lN (xs:List Str):xs.map (fun _=>(none:Option V))=yD xs.length none:=by
 induction xs with
 | nil=>rfl
 | cons a t ih=>rw [xL,ih]; rfl
theorem Fb {xs:List Str} {cap:List Nat} {g:TG} {m:Nat} {bnd:xC->Res (List Sl)} {tt:Dn->Res Bool} {el:Dn->Res xC} (hx:xs.length=m) (hnd:cap.Nodup) (hg:GOk g m bnd) {Z:St} {H:Hp} {Q:VK} (h:tF E (E8 src bnd cap tt el) Z H Q) :
   bT (tI E src) (fun Z=>xs.map (fun _=>none)++Ee Z cap) g (tT E0k tt) (tD E0k el) Z H Q:=by
 obtain ⟨G,δ,S,aft⟩:=h;refine ⟨G,δ,S,?_⟩;unfold E8 at aft;cases e:src δ with
 | exc c=>rw [e] at aft; exact aft
 | no=>rw [e] at aft; exact aft
 | ok ds =>
   rw [e] at aft; intro J G1 H1 g1 W D hD; have aft1:nK E G H (if ds.length<=sizeLine then C8 bnd (Cv δ cap) tt el ds else .no) Q:=aft;by_cases hz:ds.length<=sizeLine
   . rw [if_pos hz] at aft1
     have S1:=S.grow g1; have hmap:xs.map (fun _=>(none:Option V))=yD m none:=by rw [<- hx]; exact lN xs
     refine ⟨fun i n H'=>n=ds.length - i/\i<=ds.length/\∃ G' acc yd,Grow G1 H1 G' H'/\G' D=none/\H' D=some (.lst acc)/\RepL G' yd acc/\yd.length<=i /\
       nK E G H (match C8 bnd (Cv δ cap) tt el (ds.drop i) with | .ok r=>.ok (yd++r) | _=>.no) Q,⟨_,rfl,zY _,G1,[],[],Grow.own g1.gh hD,g1.gh.free hD,C1,rfl,xN _,?_⟩,?_⟩
     . rw [CV]
       cases q:C8 bnd (Cv δ cap) tt el ds with
       | ok r=>rw [q] at aft1; exact aft1
       | exc c =>
         exfalso;have:∀ l c,C8 bnd (Cv δ cap) tt el l≠.exc c:=by
           intro l c;induction l with
           | nil=>intro z; cases z
           | cons d l ih =>
             unfold C8; intro z;split at z
             . split at z
               . split at z
                 . split at z <;> cases z
                 . cases z
               . exact ih z
               . cases z
             . cases z
         exact this ds c q
       | no=>rw [q] at aft1; exact aft1
     . rintro i n H' ⟨rfl,hi,G',acc,yd,g2,nD,hDa,ry,hyl,aft2⟩
       by_cases hlt:i < ds.length
       . refine .inr ⟨W.go i H' hlt (g2.g.trans g2.gh), fun H'' => ∃ n', n' < ds.length - i /\ (n' = ds.length - (i + 1) /\ i + 1 <= ds.length /\ ∃ G' acc yd, Grow G1 H1 G' H'' /\ G' D = none /\ H'' D = some (.lst acc) /\ RepL G' yd acc /\ yd.length <= i + 1 /\
           nK E G H (match C8 bnd (Cv δ cap) tt el (ds.drop (i+1)) with | .ok r=>.ok (yd++r) | _=>.no) Q),fun H'' q=>?_,fun x H'' hy=>?_⟩
         . obtain ⟨n',h1,h2⟩:=q
           exact ⟨n',h1,h2⟩
         . have hd:ds[i]? = some ds[i]:=yW hlt
           have hdrop:ds.drop i=ds[i]::ds.drop (i+1):=c7 hlt; obtain ⟨G3,g3,r3⟩:=W.yld i _ G' H' x H'' hd g2.g g2.gh hy; have g13:=g2.trans g3; have nD3:G3 D=none:=by
             cases q:G3 D with
             | none=>rfl
             | some u => rcases g3.fr D u q with z | z | ⟨xs, rfl⟩
                         . rw [nD] at z; cases z
                         . rw [hDa] at z; cases z
                         . have:=g3.gh _ _ q; rw [g3.h _ _ hDa] at this; cases this
           rw [hdrop] at aft2; unfold C8 at aft2; rw [hmap];cases eb:bnd ds[i] with
           | exc c=>rw [eb] at aft2; exact aft2.elim
           | no=>rw [eb] at aft2; exact aft2.elim
           | ok sl =>
             rw [eb] at aft2; refine hg G3 H'' _ x sl _ _ g3.gh r3 eb fun vs hv hs hsl=>⟨⟨by rw [yB,yB,z7,xJ,hv],fun j v z=>?_⟩,?_⟩
             . by_cases hj:j < m
               . rw [zC (by rw [z7]; exact hj),m7] at z
                 split at z <;> cases z
               . rw [zF (by rw [z7]; exact l0.mp hj),z7] at z
                 rw [zF (by rw [xJ,hv]; exact l0.mp hj),xJ,hv];exact z
             . have Sb:SR G3 H'' (vs.map some++Ee Z cap) (sl++Cv δ cap):=(S1.grow g13).cap cap hnd (hv.trans hs.symm) hsl
               refine ⟨G3,_,Sb,?_⟩; simp only at aft2;cases et:tt (sl++Cv δ cap) with
               | exc c=>rw [et] at aft2; exact aft2.elim
               | no=>rw [et] at aft2; exact aft2.elim
               | ok kk =>
                 rw [et] at aft2; intro G4 H4 g4; have nD4:G4 D=none:=by
                   cases q:G4 D with
                   | none=>rfl
                   | some u => rcases g4.fr D u q with z | z | ⟨xs, rfl⟩
                               . rw [nD3] at z; cases z
                               . rw [g3.h _ _ hDa] at z; cases z
                               . have:=g4.gh _ _ q; rw [g4.h _ _ (g3.h _ _ hDa)] at this; cases this
                 have hD4:H4 D=some (.lst acc):=g4.h _ _ (g3.h _ _ hDa);cases kk with
                 | false =>
                   rw [if_neg (by decide)]; exact ⟨_,by lia,rfl,hlt,G4,acc,yd,g13.trans g4,nD4,hD4,ry.mono (g3.g.trans g4.g),by lia,aft2⟩
                 | true =>
                   rw [if_pos rfl]; refine ⟨G4,_,Sb.grow g4,?_⟩; simp only at aft2;cases ee:el (sl++Cv δ cap) with
                   | exc c=>rw [ee] at aft2; exact aft2.elim
                   | no=>rw [ee] at aft2; exact aft2.elim
                   | ok y =>
                     rw [ee] at aft2; intro v G5 H5 g5 r5; have nD5:G5 D=none:=by
                       cases q:G5 D with
                       | none=>rfl
                       | some u => rcases g5.fr D u q with z | z | ⟨xs, rfl⟩
                                   . rw [nD4] at z; cases z
                                   . rw [hD4] at z; cases z
                                   . have:=g5.gh _ _ q; rw [g5.h _ _ hD4] at this; cases this
                     have hD5:H5 D=some (.lst acc):=g5.h _ _ hD4; have hal:acc.length<=i:=by rw [<- ry.length]; exact hyl
                     refine ⟨acc,hD5,by lia,_,by lia,rfl,hlt,G5,acc++[v],yd++[y],?_,nD5,C1,?_,by rw [yB,JK]; lia,?_⟩
                     . have g15:=(g13.trans g4).trans g5
                       refine ⟨g15.g,fun b o q=>?_,fun b o q=>?_,g15.fr⟩
                       . rw [C3 (E3 q hD)]; exact g15.h _ _ q
                       . rw [C3 (E3 q nD5)]; exact g15.gh _ _ q
                     . exact (ry.mono (g3.g.trans (g4.g.trans g5.g))).append (RepL.cons r5 rfl)
                     . simp only at aft2
                       cases er:C8 bnd (Cv δ cap) tt el (ds.drop (i+1)) with
                       | ok r =>
                         rw [er] at aft2; simp only [zU,List.singleton_append]; exact aft2
                       | exc c=>rw [er] at aft2; exact aft2
                       | no=>rw [er] at aft2; exact aft2
       . refine .inl ⟨W.stop i H' (l0.mp hlt) (g2.g.trans g2.gh),?_⟩
         have:ds.drop i=[]:=BP (l0.mp hlt); rw [this] at aft2; unfold C8 at aft2; have aft3:nK E G H (.ok (yd++[])) Q:=aft2; rw [zN] at aft3; exact aft3 D acc G' H' (g1.trans g2) (g1.h.free hD) nD hDa ry
   . rw [if_neg hz] at aft1; exact aft1.elim
end
end Sm
end
noncomputable section
namespace Sm
open PySem PySem.Spec PyProof.Rows L2
noncomputable def Dr (cells:List (Str×xO)):List (Str×EB)->List (Str×xO)->List (Str×xO)
 | [],cs=>cs
 | (n,kd)::r,cs=>if kd==.free then Dr cells r ((n,(cells.lookup n).getD 0)::cs) else Dr cells r cs
theorem Zc {env:Env}:∀ (names:List (Str×EB)) (cs:List (Str×xO)),(∀ y∈names,y.2=.free->∃ c,env.cells.lookup y.1=some c) ->
   (forIn names cs fun (x:Str×EB) (r:List (Str×xO))=>if (x.2==x5)=true then do let c <- cellOf env x.1; pure (p4 ((x.1,c)::r)) else pure (p4 r))=(pure (Dr env.cells names cs):Sem (List (Str×xO)))
 | [],cs,_=>rfl
 | (n,kd)::r,cs,h=>by
   rw [GX]; have ih:=fun cs=>Zc r cs fun y hy=>h y (c6 _ hy);unfold Dr;by_cases hk:(kd==x5)=true
   . obtain ⟨c,hc⟩:=h (n,kd) zV (j6 hk)
     have hc':cellOf env n=pure c:=by unfold cellOf; rw [show env.cells.lookup n=some c from hc]
     simp only [hk,if_true,hc',pure_bind]; rw [show env.cells.lookup n=some c from hc]; exact ih _
   . simp only [hk,if_false,pure_bind]
     exact ih _
theorem Hn {cells:List (Str×xO)}:∀ {names:List (Str×EB)} {cs:List (Str×xO)} {y:Str×xO},y∈Dr cells names cs->y∈cs\/((y.1,x5)∈names/\y.2=(cells.lookup y.1).getD 0)
 | [],cs,y,h=>.inl h
 | (n,kd)::r,cs,y,h=>by
   unfold Dr at h;by_cases hk:(kd==x5)=true
   . rw [if_pos hk] at h
     have hk':=j6 hk; subst hk'; rcases Hn h with z | ⟨z1,z2⟩
     . rcases xG.mp z with rfl | z
       . exact .inr ⟨zV,rfl⟩
       . exact .inl z
     . exact .inr ⟨c6 _ z1,z2⟩
   . rw [if_neg hk] at h
     rcases Hn h with z | ⟨z1,z2⟩
     . exact .inl z
     . exact .inr ⟨c6 _ z1,z2⟩
theorem Ho {cells:List (Str×xO)} {x:Str}:∀ {names:List (Str×EB)} {cs:List (Str×xO)},((x,x5)∈names\/∃ c,(x,c)∈cs)->∃ c,(x,c)∈Dr cells names cs
 | [],cs,h=>by
   rcases h with h | h
   . cases h
   . exact h
 | (n,kd)::r,cs,h=>by
   unfold Dr;by_cases hk:(kd==x5)=true
   . rw [if_pos hk]
     refine Ho ?_; rcases h with h | ⟨c,h⟩
     . rcases xG.mp h with q | q
       . cases q; exact .inr ⟨_,zV⟩
       . exact .inl q
     . exact .inr ⟨c,c6 _ h⟩
   . rw [if_neg hk]
     refine Ho ?_; rcases h with h | ⟨c,h⟩
     . rcases xG.mp h with q | q
       . cases q; exact absurd rfl hk
       . exact .inl q
     . exact .inr ⟨c,h⟩
theorem Ec {α:Type} {x:Str} {c:α} {l:List (Str×α)} (h:l.lookup x=some c):(x,c)∈l:=t9 h
theorem Gm {α:Type} {x:Str}:∀ {l:List (Str×α)} {c:α},(x,c)∈l->∃ c',l.lookup x=some c'
 | [],_,h=>by cases h
 | (n,d)::r,c,h=>by
   rw [List.lookup_cons];cases q:x==n with
   | true=>exact ⟨d,rfl⟩
   | false =>
     rcases xG.mp h with z | z
     . cases z; simp at q
     . exact Gm z
theorem rJ {X:Cx} (ok:X.Ok) {scope:Scope} (hnc:∀ y∈scope.names,y.2≠.cell) (hfree:∀ y∈scope.names,y.2=.free->X.env.scope.names.lookup y.1=some .cell\/X.env.scope.names.lookup y.1=some .free):∃ cl,Clos X scope cl:=by
 have hc:∀ y∈scope.names,y.2=.free->∃ c,X.env.cells.lookup y.1=some c:=fun y hy hf=>ok.has y.1 (hfree y hy hf);refine ⟨Dr X.env.cells scope.names [],⟨?_,fun x c h=>?_,fun x h=>?_⟩⟩
 . have:=Zc (env:=X.env) scope.names [] hc
   unfold closureFor; simp only;rw [this]; rfl
 . rcases Hn (Ec h) with z | ⟨z1,z2⟩
   . cases z
   . obtain ⟨c',e⟩:=hc _ z1 rfl
     have e':X.env.cells.lookup x=some c':=e; have z2':c=(X.env.cells.lookup x).getD 0:=z2; rw [e'] at z2' ⊢;rw [z2']; rfl
 . have hm : (x, x5) ∈ scope.names := by
     have key:∀ kd,(n8 scope X.env).names.lookup x=some kd->(kd=.cell\/kd=.free)->(x,x5)∈scope.names:=fun kd hl hkd=>by
       have hm:=Ec hl; unfold n8 at hm; simp only [yH] at hm; obtain ⟨⟨n,k0⟩,hy,e⟩:=hm; simp only at e;split at e
       . rename_i hc'
         cases e; have:k0=.free:=by
           rw [yE,yE] at hc'; exact j6 hc'.1.1
         subst this; exact hy
       . cases e
         rcases hkd with rfl | rfl
         . exact absurd rfl (hnc _ hy)
         . exact hy
     rcases h with h | h
     . exact key _ h (.inl rfl)
     . exact key _ h (.inr rfl)
   obtain ⟨c,hc'⟩:=Ho (cells:=X.env.cells) (names:=scope.names) (cs:=[]) (x:=x) (.inl hm); exact Gm hc'
noncomputable def okComp (N:List Str) (sc scope:Scope) (xs capN:List Str) (cap:List Nat):Bool :=
 decide (scope.kind=.function)&&scope.names.all (fun y=>decide (y.2≠.cell))&&scope.names.all (fun y=>decide (y.2=.local->scope.names.lookup y.1=some .local)) &&
 scope.names.all (fun y=>decide (y.2=.free->sc.names.lookup y.1=some .cell\/sc.names.lookup y.1=some .free))&&decide (cap.map (fun j=>N[j]?)=capN.map some) &&
 capN.all (fun x=>decide ((Cr scope sc).names.lookup x=some .cell\/(Cr scope sc).names.lookup x=some .free))&&capN.all (fun x=>decide (sc.names.lookup x=some .cell\/sc.names.lookup x=some .free)) &&
 decide ((xs++capN).Nodup)&&xs.all (fun x=>decide ((Cr scope sc).names.lookup x=some .local))&&decide (cap.Nodup)
noncomputable section
variable {P:yI} {w:yR} {K:xI} {mg:Str->Option xF} {base:zJ} {X:Cx} {N:List Str} {sc:Scope} {k:Nat} {df:Bool} {E:EK} {pos px py tp:Pos} {a c elt iter:Expr} {ifs:List Expr} {f g el:Dn->Res xC} {src:Dn->Res (List xC)} {tt:Dn->Res Bool} {scope:Scope} {capN:List Str} {cap:List Nat}
structure CompOk (N:List Str) (sc scope:Scope) (xs capN:List Str) (cap:List Nat):Prop where
 h1:scope.kind=.function
 h2:∀ y∈scope.names,y.2≠.cell
 h3:∀ y∈scope.names,y.2=.local->scope.names.lookup y.1=some .local
 h4:∀ y∈scope.names,y.2=.free->sc.names.lookup y.1=some .cell\/sc.names.lookup y.1=some .free
 h5:cap.map (fun j=>N[j]?)=capN.map some
 h6:∀ x∈capN,(Cr scope sc).names.lookup x=some .cell\/(Cr scope sc).names.lookup x=some .free
 h7:∀ x∈capN,sc.names.lookup x=some .cell\/sc.names.lookup x=some .free
 h8:(xs++capN).Nodup
 h9:∀ x∈xs,(Cr scope sc).names.lookup x=some .local
 h10:cap.Nodup
theorem okComp.ok {xs:List Str} (h:okComp N sc scope xs capN cap=true):CompOk N sc scope xs capN cap:=by
 unfold okComp at h;simp only [yE,o9,decide_eq_true_eq] at h;obtain ⟨⟨⟨⟨⟨⟨⟨⟨⟨h1,h2⟩,h3⟩,h4⟩,h5⟩,h6⟩,h7⟩,h8⟩,h9⟩,h10⟩:=h;exact ⟨h1,h2,h3,h4,h5,h6,h7,h8,h9,h10⟩
theorem V6 {xs:List Str} (C:Cxt P w K mg base X N sc k df) (h:CompOk N sc scope xs capN cap) (ok:X.Ok):CompFacts X scope xs capN cap:=by
 refine ⟨h.h1,h.h2,h.h3,rJ ok h.h2 fun y hy hf=>?_,by rw [C.hN]; exact h.h5,fun x hx=>?_,fun x hx=>?_⟩
 . rw [C.hs]; exact h.h4 y hy hf
 . rw [cB C.hs]; exact h.h6 x hx
 . rw [C.hs]; exact h.h7 x hx
abbrev DTs (X:Cx) (E:EK) (ifs:List Expr) (f:Dn->Res Bool):Prop:=PTs X ifs (tT E f)
noncomputable def K7:Dn->Res Bool:=fun _=>.ok true
theorem V1:DTs X E [] K7:=fun pins s Z H Q I hZ6=>by obtain ⟨G,δ,S,a⟩:=hZ6; exact oW pins s Z H Q I (a G H (Grow.refl S.sub))
theorem Bt (h:DT X E c tt):DTs X E [c] tt:=oV h
theorem S9 {x:Str} (C:Cxt P w K mg base X N sc k df) (cap:List Nat) (capN:List Str) (ho:okComp N sc scope [x] capN cap=true) (hi:DI X E (.Name x px) iter src)
   (ht:∀ X',Cxt P w K mg base X' ([x]++capN) (Cr scope sc) k false->DTs X' E0k ifs tt) (he:∀ X',Cxt P w K mg base X' ([x]++capN) (Cr scope sc) k false->DE X' E0k elt el)
   (hs:∀ x,zP iter X.env x=pure x:=by intro _; rfl):DF X E (.ListComp elt [⟨.Name x px,iter,ifs,0⟩] scope pos) (E8 src F2 cap tt el):=by
 have o:=okComp.ok ho;refine PE.imp (cH (g:=L3 0) C.calm (V6 C o) hi (fun X' B=>?_) (fun X' B=>ht X' (C.blk B)) (fun X' B=>he X' (C.blk B)) hs) fun Z H Q h=>Fb (m:=1) rfl o.h10 wB h;have C':=C.blk B;have hl:X'.env.scope.names.lookup x=some .local:=by rw [C'.hs]; exact o.h9 x (by simp)
 exact O4 (by rw [C'.hN]; exact o.h8) (by rw [C'.hN]; rfl) (.inl hl) (.inr hl)
theorem Jc {x y:Str} {x1:Nat} (C:Cxt P w K mg base X N sc k df) (cap:List Nat) (capN:List Str) (ho:okComp N sc scope [x,y] capN cap=true) (hi:DI X E (.Tuple [.Name x px,.Name y py] x1 tp) iter src)
   (ht:∀ X',Cxt P w K mg base X' ([x,y]++capN) (Cr scope sc) k false->DTs X' E0k ifs tt) (he:∀ X',Cxt P w K mg base X' ([x,y]++capN) (Cr scope sc) k false->DE X' E0k elt el)
   (hs:∀ x,zP iter X.env x=pure x:=by intro _; rfl):DF X E (.ListComp elt [⟨.Tuple [.Name x px,.Name y py] x1 tp,iter,ifs,0⟩] scope pos) (E8 src V0 cap tt el):=by
 have o:=okComp.ok ho;refine PE.imp (cH (g:=aU K 2 (Bb (L3 0) (Bb (L3 1) aV))) C.calm (V6 C o) hi (fun X' B=>?_) (fun X' B=>ht X' (C.blk B)) (fun X' B=>he X' (C.blk B)) hs) fun Z H Q h=>Fb (m:=2) rfl o.h10 gok2 h;have C':=C.blk B;have hl:X'.env.scope.names.lookup x=some .local:=by rw [C'.hs]; exact o.h9 x (by simp)
 have hl2:X'.env.scope.names.lookup y=some .local:=by rw [C'.hs]; exact o.h9 y (by simp)
 have nd:X'.N.Nodup:=by rw [C'.hN]; exact o.h8
 have p1:PG X' (.Name x px) (L3 0):=O4 nd (by rw [C'.hN]; rfl) (.inl hl) (.inr hl);have p2:PG X' (.Name y py) (L3 1):=O4 nd (by rw [C'.hN]; rfl) (.inl hl2) (.inr hl2);have:=Ug (n:=2) (k:=x1) (pos:=tp) C'.calm (U1 p1 (U1 p2 Mg));rw [C'.hK] at this;exact this
end
end Sm
end
noncomputable section
namespace Sm
open PySem PySem.Spec PyProof.Rows L2
inductive Out where
 | nx (δ:Dn)
 | rt (d:xC)
 | bk (δ:Dn)
 | ct (δ:Dn)
 | exc (c:Str)
 | no
structure SSt (G0 H0 G H:Hp) (Z:St) (δ:Dn):Prop where
 gr:Grow G0 H0 G H
 sr:SR G H Z δ
 fr:∀ (i:Nat) (d:xC) (a:xO),δ[i]? = some (.ow d)->Z[i]?.join=some (.ref a)->H0 a=none
theorem SSt.grow {G0 H0 G H G' H':Hp} {Z:St} {δ:Dn} (S:SSt G0 H0 G H Z δ) (g:Grow G H G' H'):SSt G0 H0 G' H' Z δ:=⟨S.gr.trans g,S.sr.grow g,S.fr⟩
def Kn (E:EK) (G0 H0:Hp) (o:Out) (D:Ends):Prop:=match o with
 | .nx δ=>∀ Z G H,SSt G0 H0 G H Z δ->D.nx Z H
 | .rt d=>∀ v G H,Grow G0 H0 G H->Rep G d v->D.rt v H
 | .bk δ=>∀ Z G H,SSt G0 H0 G H Z δ->D.bk Z H
 | .ct δ=>∀ Z G H,SSt G0 H0 G H Z δ->D.ct Z H
 | .exc c=>∀ G H,Grow G0 H0 G H->E c H
 | .no=>False
def tS (E:EK) (G0 H0:Hp) (g:Dn->Out):TS:=fun D Z H=>∃ G δ,SSt G0 H0 G H Z δ/\Kn E G0 H0 (g δ) D
def DS (X:Cx) (E:EK) (st:w8) (g:Dn->Out):Prop:=∀ G0 H0,PS X st (tS E G0 H0 g)
def DSs (X:Cx) (E:EK) (st:List w8) (g:Dn->Out):Prop:=∀ G0 H0,PSs X st (tS E G0 H0 g)
theorem PS.imp {X:Cx} {st:w8} {t t':TS} (h:PS X st t) (i:∀ D Z H,t' D Z H->t D Z H):PS X st t':=fun pins s Z H D I q=>h pins s Z H D I (i _ _ _ q)
theorem PSs.imp {X:Cx} {st:List w8} {t t':TS} (h:PSs X st t) (i:∀ D Z H,t' D Z H->t D Z H):PSs X st t':=fun pins s Z H D I q=>h pins s Z H D I (i _ _ _ q)
noncomputable def M5 {α:Type} (r:Res α) (k:α->Out):Out:=match r with
 | .ok a=>k a
 | .exc c=>.exc c
 | .no=>.no
theorem Ht {E:EK} {G0 H0 G H:Hp} {Z:St} {δ:Dn} {f:Dn->Res xC} {k:xC->Out} {D:Ends} {R:VK} (S:SSt G0 H0 G H Z δ) (a:Kn E G0 H0 (M5 (f δ) k) D)
   (h:∀ d v G1 H1,Grow G H G1 H1->Rep G1 d v->SSt G0 H0 G1 H1 Z δ->Kn E G0 H0 (k d) D->R v H1):tD E f Z H R:=by
 refine ⟨G,δ,S.sr,?_⟩;cases e:f δ with
 | ok d=>rw [e] at a; exact fun v G' H' g r=>h d v G' H' g r (S.grow g) a
 | exc c=>rw [e] at a; exact fun G' H' g=>a G' H' (S.gr.trans g)
 | no=>rw [e] at a; exact a
theorem bQ {E:EK} {G0 H0 G H:Hp} {Z:St} {δ:Dn} {f:Dn->Res (List xC)} {k:List xC->Out} {D:Ends} {R:VK} (S:SSt G0 H0 G H Z δ) (a:Kn E G0 H0 (M5 (f δ) k) D)
   (h:∀ ds p xs G1 H1,Grow G H G1 H1->H p=none->G1 p=none->H1 p=some (.lst xs)->RepL G1 ds xs->SSt G0 H0 G1 H1 Z δ->Kn E G0 H0 (k ds) D->R (.ref p) H1):tF E f Z H R:=by
 refine ⟨G,δ,S.sr,?_⟩;cases e:f δ with
 | ok d=>rw [e] at a; exact fun p xs G' H' g q1 q2 q3 q4=>h d p xs G' H' g q1 q2 q3 q4 (S.grow g) a
 | exc c=>rw [e] at a; exact fun G' H' g=>a G' H' (S.gr.trans g)
 | no=>rw [e] at a; exact a
theorem nG {E:EK} {G0 H0 G H:Hp} {Z:St} {δ:Dn} {f:Dn->Res Bool} {k:Bool->Out} {D:Ends} {R:Bool->Hp->Prop} (S:SSt G0 H0 G H Z δ) (a:Kn E G0 H0 (M5 (f δ) k) D)
   (h:∀ d G1 H1,Grow G H G1 H1->SSt G0 H0 G1 H1 Z δ->Kn E G0 H0 (k d) D->R d H1):tT E f Z H R:=by
 refine ⟨G,δ,S.sr,?_⟩;cases e:f δ with
 | ok d=>rw [e] at a; exact fun G' H' g=>h d G' H' g (S.grow g) a
 | exc c=>rw [e] at a; exact fun G' H' g=>a G' H' (S.gr.trans g)
 | no=>rw [e] at a; exact a
theorem nH {E:EK} {G0 H0 G H:Hp} {Z:St} {δ:Dn} {f:Dn->Res (List xC)} {k:List xC->Out} {D:Ends} {R:It->Hp->Prop} (S:SSt G0 H0 G H Z δ) (a:Kn E G0 H0 (M5 (f δ) k) D)
   (h:∀ ds J G1 H1,Grow G H G1 H1->Walk J G1 ds->SSt G0 H0 G1 H1 Z δ->Kn E G0 H0 (k ds) D->R J H1):tI E f Z H R:=by
 refine ⟨G,δ,S.sr,?_⟩;cases e:f δ with
 | ok d=>rw [e] at a; exact fun J G' H' g q=>h d J G' H' g q (S.grow g) a
 | exc c=>rw [e] at a; exact fun G' H' g=>a G' H' (S.gr.trans g)
 | no=>rw [e] at a; exact a
theorem D8 {α:Type} {l:List α} {i j:Nat} {v:α}:(l.set i v)[j]? = if i=j/\i < l.length then some v else l[j]? := by
 rw [List.getElem?_set];by_cases h:i=j
 . subst h
   by_cases hl:i < l.length
   . simp [hl]
   . simp [hl,l7 (l0.mp hl)]
 . simp [h]
theorem SSt.set_sh {G0 H0 G H:Hp} {Z:St} {δ:Dn} (S:SSt G0 H0 G H Z δ) {i:Nat} {v:V} {d:xC} (r:Rep G d v):SSt G0 H0 G H (Z.set i (some v)) (δ.set i (.sh d)):=by
 have hl:=S.sr.len;have key:∀ (j:Nat) (d':xC),(δ.set i (.sh d))[j]? = some (.ow d')->(Z.set i (some v))[j]? = Z[j]? /\ δ[j]? = some (.ow d'):=fun j d' e=>by
   rw [D8] at e;split at e
   . cases e
   . rename_i hn
     refine ⟨?_,e⟩; rw [D8,if_neg (by rw [hl]; exact hn)]
 refine ⟨S.gr,⟨S.sr.sub,by simp [hl],fun j s e=>?_,fun j1 j2 a d1 d2 e1 e2 h1 h2=>?_⟩,fun j d' a e h=>?_⟩
 . rw [D8] at e ⊢
   rw [hl];split at e
   . rename_i hc; cases e; rw [if_pos hc]; exact ⟨v,rfl,r⟩
   . rename_i hc; rw [if_neg hc]; exact S.sr.sl j s e
 . obtain ⟨k1,o1⟩:=key j1 d1 e1
   obtain ⟨k2,o2⟩:=key j2 d2 e2; rw [k1] at h1; rw [k2] at h2; exact S.sr.ap j1 j2 a d1 d2 o1 o2 h1 h2
 . obtain ⟨k1,o1⟩:=key j d' e
   rw [k1] at h; exact S.fr j d' a o1 h
theorem SSt.set_ow {G0 H0 G H:Hp} {Z:St} {δ:Dn} (S:SSt G0 H0 G H Z δ) {i:Nat} {p:xO} {d:xC} (h0:H0 p=none) (hg:G p=none) (ho:OwnOk G H p d) (hf:∀ (j:Nat) d',δ[j]? = some (.ow d')->Z[j]?.join≠some (.ref p)):SSt G0 H0 G H (Z.set i (some (.ref p))) (δ.set i (.ow d)):=by
 have hl:=S.sr.len;have key:∀ (j:Nat) (d':xC),(δ.set i (.ow d))[j]? = some (.ow d')->(i=j/\i < δ.length/\d'=d/\(Z.set i (some (.ref p)))[j]? = some (some (.ref p)))\/((Z.set i (some (.ref p)))[j]? = Z[j]? /\ δ[j]? = some (.ow d')):=fun j d' e=>by
   rw [D8] at e;split at e
   . rename_i hc; cases e; exact .inl ⟨hc.1,hc.2,rfl,by rw [D8,if_pos (by rw [hl]; exact hc)]⟩
   . rename_i hn
     refine .inr ⟨?_,e⟩; rw [D8,if_neg (by rw [hl]; exact hn)]
 refine ⟨S.gr,⟨S.sr.sub,by simp [hl],fun j s e=>?_,fun j1 j2 a d1 d2 e1 e2 h1 h2=>?_⟩,fun j d' a e h=>?_⟩
 . rw [D8] at e ⊢
   rw [hl];split at e
   . rename_i hc; cases e; rw [if_pos hc]; exact ⟨p,rfl,hg,ho⟩
   . rename_i hc; rw [if_neg hc]; exact S.sr.sl j s e
 . rcases key j1 d1 e1 with ⟨a1,b1,_,c1⟩ | ⟨k1,o1⟩
   . rcases key j2 d2 e2 with ⟨a2,b2,_,c2⟩ | ⟨k2,o2⟩
     . exact a1.symm.trans a2
     . rw [c1] at h1; cases h1
       rw [k2] at h2; exact absurd h2 (hf j2 d2 o2)
   . rcases key j2 d2 e2 with ⟨a2,b2,_,c2⟩ | ⟨k2,o2⟩
     . rw [c2] at h2; cases h2
       rw [k1] at h1; exact absurd h1 (hf j1 d1 o1)
     . rw [k1] at h1; rw [k2] at h2
       exact S.sr.ap j1 j2 a d1 d2 o1 o2 h1 h2
 . rcases key j d' e with ⟨a1,b1,_,c1⟩ | ⟨k1,o1⟩
   . rw [c1] at h; cases h; exact h0
   . rw [k1] at h; exact S.fr j d' a o1 h
theorem SSt.write {G0 H0 G H:Hp} {Z:St} {δ:Dn} (S:SSt G0 H0 G H Z δ) {i:Nat} {p:xO} {d d':xC} {o:HO} (hi:δ[i]? = some (.ow d)) (hp:Z[i]?.join=some (.ref p)) (hg:G p=none) (ho:OwnOk G (upd H p o) p d'):SSt G0 H0 G (upd H p o) Z (δ.set i (.ow d')):=by
 have h0:=S.fr i d p hi hp;have hil:i < δ.length:=(yJ.mp hi).1;have hsub:Same G (upd H p o):=fun b u e=>by rw [C3 (E3 e hg)]; exact S.sr.sub _ _ e
 have key:∀ (j:Nat) (e:xC),(δ.set i (.ow d'))[j]? = some (.ow e)->∃ e',δ[j]? = some (.ow e'):=fun j e h=>by
   rw [D8] at h;split at h
   . rename_i hc; rw [<- hc.1]; exact ⟨d,hi⟩
   . exact ⟨e,h⟩
 refine ⟨⟨S.gr.g,fun b u e=>by rw [C3 (E3 e h0)]; exact S.gr.h _ _ e,hsub,S.gr.fr⟩,⟨hsub,by simp [S.sr.len],fun j s e=>?_,fun j1 j2 a d1 d2 e1 e2 h1 h2=>?_⟩,fun j e a h1 h2=>?_⟩
 . rw [D8] at e
   split at e
   . rename_i hc; cases e; rw [<- hc.1]; exact ⟨p,hp,hg,ho⟩
   . rename_i hc
     have hs:=S.sr.sl j s e;cases s with
     | un=>trivial
     | sh d=>exact hs
     | fd _=>exact hs
     | ow d2 =>
       obtain ⟨a,e1,n1,ok⟩:=hs; refine ⟨a,e1,n1,?_⟩; have hne:a≠p:=by
         rintro rfl;exact hc ⟨S.sr.ap i j a d d2 hi e hp e1,hil⟩
       cases d2 with
       | list ds=>obtain ⟨xs,q,r⟩:=ok; exact ⟨xs,by rw [C3 hne]; exact q,r⟩
       | dict kvs=>obtain ⟨xs,q,r⟩:=ok; exact ⟨xs,by rw [C3 hne]; exact q,r⟩
       | tuple xs=>exact OwnK.keep (Same.refl _) (fun o q=>by rw [C3 hne]; exact q) ok
       | _=>exact (show False from ok).elim
 . obtain ⟨e1',o1⟩:=key j1 d1 e1
   obtain ⟨e2',o2⟩:=key j2 d2 e2; exact S.sr.ap j1 j2 a _ _ o1 o2 h1 h2
 . obtain ⟨e',o1⟩:=key j e h1
   exact S.fr j e' a o1 h2
noncomputable def fz (i:Nat) (δ:Dn):Dn:=match δ[i]? with
 | some (.ow (.list ds))=>δ.set i (.sh (.list ds))
 | _=>δ
theorem SSt.fz {G0 H0 G H:Hp} {Z:St} {δ:Dn} (S:SSt G0 H0 G H Z δ) (i:Nat):∃ G',SSt G0 H0 G' H Z (fz i δ):=by
 unfold Sm.fz;split
 . rename_i ds hi
   obtain ⟨p,hp,hg,xs,hx,r⟩:=S.sr.sl i _ hi; have h0:=S.fr i _ p hi hp; have g:Grow G0 H0 (upd G p (.lst xs)) H:=S.gr.share h0 hg hx; have hv:Z[i]? = some (some (.ref p)):=by
     cases q:Z[i]? with
     | none=>rw [q] at hp; cases hp
     | some z=>rw [q] at hp; cases z with
       | none=>cases hp
       | some z=>cases hp; rfl
   have key:∀ (j:Nat) (d':xC),(δ.set i (.sh (.list ds)))[j]? = some (.ow d')->δ[j]? = some (.ow d')/\j≠i:=fun j d' e=>by
     rw [D8] at e;split at e
     . cases e
     . rename_i hn
       refine ⟨e,fun z=>?_⟩;subst z; exact hn ⟨rfl,(yJ.mp hi).1⟩
   refine ⟨_,g,⟨g.gh,by simp [S.sr.len],fun j s e=>?_,fun j1 j2 a d1 d2 e1 e2 h1 h2=>S.sr.ap j1 j2 a d1 d2 (key j1 d1 e1).1 (key j2 d2 e2).1 h1 h2⟩,fun j d' a e h=>S.fr j d' a (key j d' e).1 h⟩;have sm:Same G (upd G p (.lst xs)):=Same.upd hg;by_cases hj:i=j/\i < δ.length
   . rw [D8,if_pos hj] at e
     cases e; rw [<- hj.1,hv]; exact ⟨_,rfl,p,xs,rfl,.inl C1,r.mono sm⟩
   . have e2:=e
     rw [D8,if_neg hj] at e2; have hs:=S.sr.sl j s e2;cases s with
     | un=>trivial
     | sh d=>obtain ⟨v,e1,r1⟩:=hs; exact ⟨v,e1,r1.mono sm⟩
     | fd _=>exact FdOk.mono sm hs
     | ow d2 =>
       obtain ⟨a,e1,n1,ok⟩:=hs; have hne:a≠p:=by
         rintro rfl;exact (key j d2 e).2 (S.sr.ap j i a d2 _ e2 hi e1 hp)
       refine ⟨a,e1,by rw [C3 hne]; exact n1,?_⟩;cases d2 with
       | list ds=>obtain ⟨xs,q,r⟩:=ok; exact ⟨xs,q,r.mono sm⟩
       | dict kvs=>obtain ⟨xs,q,k,r⟩:=ok; exact ⟨xs,q,k,r.mono sm⟩
       | tuple xs=>exact OwnK.keep sm (fun o q=>q) ok
       | _=>exact (show False from ok).elim
 . exact ⟨G,S⟩
noncomputable section
variable {P:yI} {w:yR} {K:xI} {mg:Str->Option xF} {base:zJ} {X:Cx} {N:List Str} {sc:Scope} {k:Nat} {df:Bool} {E:EK} {pos p px py:Pos} {a b c e elt iter:Expr} {ifs:List Expr} {f g el:Dn->Res xC} {fs src:Dn->Res (List xC)} {tt:Dn->Res Bool} {scope:Scope} {capN:List Str} {cap:List Nat} {st:w8} {sts sts':List w8} {g1 g2:Dn->Out}
noncomputable def E6:Dn->Out:=fun δ=>.nx δ
noncomputable def B6 (g1 g2:Dn->Out):Dn->Out:=fun δ=>match g1 δ with
 | .nx δ'=>g2 δ'
 | o=>o
theorem G9:DSs X E [] E6:=fun G0 H0=>PSs.imp cE fun D Z H hZ3=>by obtain ⟨G,δ,S,a⟩:=hZ3; exact a Z G H S
theorem A9 (h1:DS X E st g1) (h2:DSs X E sts g2):DSs X E (st::sts) (B6 g1 g2):=fun G0 H0=>by
 refine PSs.imp (Xn (h1 G0 H0) (h2 G0 H0)) fun D Z H hY59=>?_;obtain ⟨G,δ,S,a⟩:=hY59;refine ⟨G,δ,S,?_⟩;unfold B6 at a;cases e:g1 δ with
 | nx δ'=>rw [e] at a; exact fun Z' G' H' S'=>⟨G',δ',S',a⟩
 | rt d=>rw [e] at a; exact a
 | bk d=>rw [e] at a; exact a
 | ct d=>rw [e] at a; exact a
 | exc d=>rw [e] at a; exact a
 | no=>rw [e] at a; exact a
theorem B7 (h1:DS X E st g1):DSs X E [st] g1:=fun G0 H0=>Mf (h1 G0 H0)
noncomputable def sFz (i:Nat) (g:Dn->Out):Dn->Out:=fun δ=>g (fz i δ)
theorem aH (i:Nat) (h:DS X E st g1):DS X E st (sFz i g1):=fun G0 H0=>PS.imp (h G0 H0) fun D Z H hZ3=>by
 obtain ⟨G,δ,S,a⟩:=hZ3;obtain ⟨G',S'⟩:=S.fz i;exact ⟨G',_,S',a⟩
noncomputable def F8 (f:Dn->Res xC):Dn->Out:=fun δ=>M5 (f δ) .rt
theorem E5 (h:DE X E e f):DS X E (.Return (some e) pos) (F8 f):=fun G0 H0=>PS.imp (kF h) fun D Z H ⟨G,δ,S,a⟩ =>
 Ht S a fun d v G1 H1 g1 r1 S1 a1=>a1 v G1 H1 S1.gr r1
noncomputable def sIf (c:Dn->Res Bool) (g1 g2:Dn->Out):Dn->Out:=fun δ=>M5 (c δ) fun b=>if b=true then g1 δ else g2 δ
theorem W3 (hc:DT X E c tt) (h1:DSs X E sts g1) (h2:DSs X E sts' g2):DS X E (.If c sts sts' pos) (sIf tt g1 g2):=fun G0 H0=>PS.imp (sH hc (h1 G0 H0) (h2 G0 H0)) fun D Z H ⟨G,δ,S,a⟩ =>
 nG S a fun d G1 H1 g1 S1 a1=>by
   cases d with
   | true=>rw [if_pos rfl]; exact ⟨G1,δ,S1,a1⟩
   | false=>rw [if_neg (by decide)]; exact ⟨G1,δ,S1,a1⟩
noncomputable def okSet (N:List Str) (sc:Scope) (df:Bool) (i:Nat) (x:Str):Bool:=decide (N.Nodup)&&decide (N[i]? = some x)&&(decide (sc.names.lookup x=some .local)||(decide (sc.names.lookup x=some .cell)&&df))
theorem okSet.ok (C:Cxt P w K mg base X N sc k df) {i:Nat} {x:Str} (h:okSet N sc df i x=true):X.N.Nodup/\X.N[i]? = some x/\Loc X.env.scope x/\(X.fn x=true\/X.env.scope.names.lookup x=some .local):=by
 unfold okSet at h;simp only [yE,GY,decide_eq_true_eq] at h;obtain ⟨⟨h1,h2⟩,h3⟩:=h;rw [C.hN];refine ⟨h1,h2,?_⟩;unfold L2.Loc;rw [C.hs];rcases h3 with h3 | ⟨h3,h4⟩
 . exact ⟨.inl h3,.inr h3⟩
 . exact ⟨.inr h3,.inl (C.fn h4 x)⟩
noncomputable def D2 (i:Nat) (f:Dn->Res xC):Dn->Out:=fun δ=>M5 (f δ) fun d=>.nx (δ.set i (.sh d))
theorem D6 {x:Str} (C:Cxt P w K mg base X N sc k df) (i:Nat) (ho:okSet N sc df i x=true) (h:DE X E e f) (hs:p7 e (some (.Name x p)) pos.line X.env=pure false:=by rfl):DS X E (.Assign [.Name x p] e pos) (D2 i f):=fun G0 H0=>by
 obtain ⟨h1,h2,h3,h4⟩:=okSet.ok C ho;exact PS.imp (Op h1 h2 h3 h hs h4) fun D Z H hZ3=>by obtain ⟨G,δ,S,a⟩:=hZ3; exact Ht S a fun d v G1 H1 g1 r1 S1 a1=>a1 _ G1 H1 (S1.set_sh r1)
theorem Hi {G0 H0 G H:Hp} {Z:St} {δ:Dn} (S:SSt G0 H0 G H Z δ) {p:xO} (hp:H p=none) (j:Nat) (d':xC) (e:δ[j]? = some (.ow d')):Z[j]?.join≠some (.ref p):=fun z=>by
 obtain ⟨a,e1,_,ok⟩:=S.sr.sl j _ e;rw [e1] at z; cases z;obtain ⟨o,q⟩:=ok.some;rw [hp] at q; cases q
noncomputable def Iq (i:Nat) (f:Dn->Res (List xC)):Dn->Out:=fun δ=>M5 (f δ) fun ds=>.nx (δ.set i (.ow (.list ds)))
theorem cK {G0 H0:Hp} {D:Ends} {Z:St} {H:Hp} {i:Nat} (h:tS E G0 H0 (Iq i fs) D Z H):tF E fs Z H fun v H1=>D.nx (Z.set i (some v)) H1:=by
 obtain ⟨G,δ,S,a⟩:=h;refine bQ S a fun ds p xs G1 H1 g1 q1 q2 q3 q4 S1 a1=>?_;exact a1 _ G1 H1 (S1.set_ow (S.gr.h.free q1) q2 ⟨xs,q3,q4⟩ (Hi S q1))
theorem Og {x:Str} (C:Cxt P w K mg base X N sc k df) (i:Nat) (ho:okSet N sc df i x=true) (h:DF X E e fs) (hs:p7 e (some (.Name x p)) pos.line X.env=pure false:=by rfl):DS X E (.Assign [.Name x p] e pos) (Iq i fs):=fun G0 H0=>by
 obtain ⟨h1,h2,h3,h4⟩:=okSet.ok C ho;exact PS.imp (Op h1 h2 h3 h hs h4) fun D Z H q=>cK q
noncomputable def Cj (sc scope:Scope) (x:Str) (l1 l2:Nat):Bool:=decide (sc.kind=.function)&&decide (sc.names.lookup x=some .local)&&decide (l1=l2) && !(scope.names.any fun (n,kd)=>n==x&&(kd==.local||kd==.cell))
theorem Fj {x:Str} {elt:Expr} {gens:List Comprehension} {ln:Nat} (C:Cxt P w K mg base X N sc k df) (h:Cj sc scope x p.line pos.line=true):p7 (.ListComp elt gens scope pos) (some (.Name x p)) ln X.env=pure true:=by
 unfold Cj at h;simp only [yE,decide_eq_true_eq] at h;obtain ⟨⟨⟨h1,h2⟩,h3⟩,h4⟩:=h;unfold p7;show pure (X.env.blockKind==.function&&X.env.kindOf x==some .local&&p.line==pos.line && !(scope.names.any fun (n,kd)=>n==x&&(kd==.local||kd==.cell)))=_;have e1:X.env.blockKind=.function:=by unfold Env.blockKind; rw [C.hs,h1]; rfl
 have e2:X.env.kindOf x=some .local:=by show X.env.scope.names.lookup x=_; rw [C.hs]; exact h2
 rw [e1,e2,h3,h4];simp
noncomputable section
variable {x y:Str} {i:Nat} {py spos:Pos}
theorem aF (C:Cxt P w K mg base X N sc k df) (i:Nat) (hset:okSet N sc df i y=true) (hsw:Cj sc scope y py.line pos.line=true) (cap:List Nat) (capN:List Str) (ho:okComp N sc scope [x] capN cap=true) (hi:DI X E (.Name x px) iter src)
   (ht:∀ X',Cxt P w K mg base X' ([x]++capN) (Cr scope sc) k false->DTs X' E0k ifs tt) (he:∀ X',Cxt P w K mg base X' ([x]++capN) (Cr scope sc) k false->DE X' E0k elt el)
   (hs:∀ x,zP iter X.env x=pure x:=by intro _; rfl):DS X E (.Assign [.Name y py] (.ListComp elt [⟨.Name x px,iter,ifs,0⟩] scope pos) spos) (Iq i (E8 src F2 cap tt el)):=fun G0 H0=>by
 obtain ⟨h1,h2,h3,h4⟩:=okSet.ok C hset;have o:=okComp.ok ho;have hl:X.env.scope.names.lookup y=some .local:=by
   rw [C.hs]; unfold Cj at hsw; simp only [yE,decide_eq_true_eq] at hsw; exact hsw.1.1.2
 refine PS.imp (Dh (g:=L3 0) C.calm (V6 C o) hi (fun X' B=>?_) (fun X' B=>ht X' (C.blk B)) (fun X' B=>he X' (C.blk B)) h1 h2 hl (Fj C hsw) hs) fun D Z H h=>Fb (m:=1) rfl o.h10 wB (cK h);have C':=C.blk B;have hl:X'.env.scope.names.lookup x=some .local:=by rw [C'.hs]; exact o.h9 x (by simp)
 exact O4 (by rw [C'.hN]; exact o.h8) (by rw [C'.hN]; rfl) (.inl hl) (.inr hl)
noncomputable def Gx (i:Nat) (f:Dn->Res (List xC)):Dn->Out:=fun δ=>M5 (f δ) fun ds=>.nx (δ.set i (.sh (.list ds)))
theorem Uk {G0 H0:Hp} {D:Ends} {Z:St} {H:Hp} {i:Nat} (h:tS E G0 H0 (Gx i fs) D Z H):tF E fs Z H fun v H1=>D.nx (Z.set i (some v)) H1:=by
 obtain ⟨G,δ,S,a⟩:=h;refine bQ S a fun ds p xs G1 H1 g1 q1 q2 q3 q4 S1 a1=>?_;exact a1 _ _ H1 ((S.grow (g1.share q1 q2 q3)).set_sh ⟨p,xs,rfl,.inl C1,q4.mono (Same.upd q2)⟩)
end
end
end Sm
end
noncomputable section
namespace Sm
open PySem PySem.Spec PyProof.Rows L2
noncomputable section
variable {P:yI} {w:yR} {K:xI} {mg:Str->Option xF} {base:zJ} {X:Cx} {N:List Str} {sc:Scope} {k:Nat} {df:Bool} {E:EK} {pos p px py tp spos:Pos} {tg a b c e elt iter:Expr} {ifs:List Expr} {es:List Expr} {f g el:Dn->Res xC} {src:Dn->Res (List xC)} {tt:Dn->Res Bool} {scope:Scope} {capN:List Str} {cap:List Nat} {st:w8} {sts:List w8} {g1:Dn->Out} {x y:Str} {i:Nat}
theorem Oi (C:Cxt P w K mg base X N sc k df) (i:Nat) (hset:okSet N sc df i y=true) (hsw:Cj sc scope y py.line pos.line=true) (cap:List Nat) (capN:List Str) (ho:okComp N sc scope [x] capN cap=true) (hi:DI X E (.Name x px) iter src)
   (ht:∀ X',Cxt P w K mg base X' ([x]++capN) (Cr scope sc) k false->DTs X' E0k ifs tt) (he:∀ X',Cxt P w K mg base X' ([x]++capN) (Cr scope sc) k false->DE X' E0k elt el)
   (hs:∀ x,zP iter X.env x=pure x:=by intro _; rfl):DS X E (.Assign [.Name y py] (.ListComp elt [⟨.Name x px,iter,ifs,0⟩] scope pos) spos) (Gx i (E8 src F2 cap tt el)):=fun G0 H0=>by
 obtain ⟨h1,h2,h3,h4⟩:=okSet.ok C hset;have o:=okComp.ok ho;have hl:X.env.scope.names.lookup y=some .local:=by
   rw [C.hs]; unfold Cj at hsw; simp only [yE,decide_eq_true_eq] at hsw; exact hsw.1.1.2
 refine PS.imp (Dh (g:=L3 0) C.calm (V6 C o) hi (fun X' B=>?_) (fun X' B=>ht X' (C.blk B)) (fun X' B=>he X' (C.blk B)) h1 h2 hl (Fj C hsw) hs) fun D Z H h=>Fb (m:=1) rfl o.h10 wB (Uk h);have C':=C.blk B;have hl:X'.env.scope.names.lookup x=some .local:=by rw [C'.hs]; exact o.h9 x (by simp)
 exact O4 (by rw [C'.hN]; exact o.h8) (by rw [C'.hN]; rfl) (.inl hl) (.inr hl)
theorem aG {x1:Nat} {x2:Str} (C:Cxt P w K mg base X N sc k df) (i:Nat) (hset:okSet N sc df i y=true) (hsw:Cj sc scope y py.line pos.line=true) (cap:List Nat) (capN:List Str) (ho:okComp N sc scope [x,x2] capN cap=true) (hi:DI X E (.Tuple [.Name x px,.Name x2 p] x1 tp) iter src)
   (ht:∀ X',Cxt P w K mg base X' ([x,x2]++capN) (Cr scope sc) k false->DTs X' E0k ifs tt) (he:∀ X',Cxt P w K mg base X' ([x,x2]++capN) (Cr scope sc) k false->DE X' E0k elt el)
   (hs:∀ x,zP iter X.env x=pure x:=by intro _; rfl):DS X E (.Assign [.Name y py] (.ListComp elt [⟨.Tuple [.Name x px,.Name x2 p] x1 tp,iter,ifs,0⟩] scope pos) spos) (Gx i (E8 src V0 cap tt el)):=fun G0 H0=>by
 obtain ⟨h1,h2,h3,h4⟩:=okSet.ok C hset;have o:=okComp.ok ho;have hl:X.env.scope.names.lookup y=some .local:=by
   rw [C.hs]; unfold Cj at hsw; simp only [yE,decide_eq_true_eq] at hsw; exact hsw.1.1.2
 refine PS.imp (Dh (g:=aU K 2 (Bb (L3 0) (Bb (L3 1) aV))) C.calm (V6 C o) hi (fun X' B=>?_) (fun X' B=>ht X' (C.blk B)) (fun X' B=>he X' (C.blk B)) h1 h2 hl (Fj C hsw) hs) fun D Z H h=>Fb (m:=2) rfl o.h10 gok2 (Uk h);have C':=C.blk B;have hl:X'.env.scope.names.lookup x=some .local:=by rw [C'.hs]; exact o.h9 x (by simp)
 have hl2:X'.env.scope.names.lookup x2=some .local:=by rw [C'.hs]; exact o.h9 x2 (by simp)
 have nd:X'.N.Nodup:=by rw [C'.hN]; exact o.h8
 have p1:PG X' (.Name x px) (L3 0):=O4 nd (by rw [C'.hN]; rfl) (.inl hl) (.inr hl);have p2:PG X' (.Name x2 p) (L3 1):=O4 nd (by rw [C'.hN]; rfl) (.inl hl2) (.inr hl2);have:=Ug (n:=2) (k:=x1) (pos:=tp) C'.calm (U1 p1 (U1 p2 Mg));rw [C'.hK] at this;exact this
noncomputable def sSet2 (i j:Nat) (f:Dn->Res xC):Dn->Out:=fun δ=>M5 (f δ) fun d=>match d with
 | .tuple [a,b]=>.nx ((δ.set i (.sh a)).set j (.sh b))
 | _=>.no
noncomputable def Ci (i:Nat) (f:Dn->Res xC):Dn->Out:=fun δ=>match δ[i]? with
 | some (.ow (.list ds))=>M5 (f δ) fun d=>if ds.length < sizeLine then .nx (δ.set i (.ow (.list (ds++[d])))) else .no
 | _=>.no
theorem Oj {cpos apos:Pos} (C:Cxt P w K mg base X N sc k df) (i:Nat) (h:okVar N sc i x=true) (ha:DE X E a f)
   (hbase:p6 (.Name x p) "append" X.env (eval (.Name x p) X.env)=eval (.Name x p) X.env:=by rfl)
   (hfew:((f9 cpos (xR [a] X.env)).all (fun x => !x.1)&&(EY cpos (BW [] X.env)).all (fun x=>x.1.isSome)
     && decide ([a].length+([]:List AQ).length+(if ([]:List AQ).isEmpty then 0 else 1) < 30))=true:=by rfl)
   (hline:(apos.endLine==cpos.line)=true:=by rfl) (hs:xR [a] X.env=(false,eval a X.env)::xR [] X.env:=by rfl) (hplain:(f9 cpos (xR [] X.env)).any (·.1)=false:=by rfl)
   (hsw:p7 (.Call (.Attribute (.Name x p) "append" apos) [a] [] cpos) none pos.line X.env=pure false:=by rfl) :
   DS X E (.Expr (.Call (.Attribute (.Name x p) "append" apos) [a] [] cpos) pos) (Ci i f):=fun G0 H0=>by
 have hv:PE X (.Name x p) (nU i):=by
   unfold okVar at h; simp only [yE,BR] at h; obtain ⟨⟨⟨h1,h2⟩,h3⟩,h4⟩:=h; refine aJ (by rw [C.hN]; exact j6 h1) ?_ h3 h4;rw [C.hs]; unfold Vis;cases q:sc.names.lookup x with
   | none=>rw [q] at h2; cases h2
   | some z =>
     rw [q] at h2;cases z with
     | «local» => exact .inl rfl
     | cell=>exact .inr (.inl rfl)
     | free=>exact .inr (.inr rfl)
     | _=>cases h2
 refine PS.imp (Uf (Xp AW HJ HI Jv hv (P6 ha Y3 hs) hbase hfew hline hs hplain) hsw) fun D Z H hZ3=>?_;obtain ⟨G,δ,S,aft⟩:=hZ3;unfold Ci at aft;split at aft
 . rename_i ds hi
   obtain ⟨q,hq,hg,xs,hx,rl⟩:=S.sr.sl i _ hi; have hσ:Z[i]? = some (some (.ref q)):=by
     cases z:Z[i]? with
     | none=>rw [z] at hq; cases hq
     | some z'=>rw [z] at hq; cases z' with
       | none=>cases hq
       | some z''=>cases hq; rfl
   refine ⟨.ref q,hσ,.inl ⟨rfl,xs,.inl (.inl hx)⟩,?_⟩; refine Ht S aft fun d v G1 H1 g1 r1 S1 a1=>?_;split at a1
   . rename_i hz
     have hx1:H1 q=some (.lst xs):=g1.h _ _ hx; obtain ⟨q',hq',hg',_⟩:=S1.sr.sl i _ hi; rw [hq] at hq'; cases hq'; refine ⟨q,xs,v,rfl,rfl,hx1,by rw [<- rl.length]; exact hz,?_⟩;exact a1 Z G1 _ (S1.write hi hq hg' ⟨xs++[v],C1,(rl.mono g1.g).append (RepL.cons r1 rfl)⟩)
   . exact a1.elim
 . exact aft.elim
noncomputable def E2 (st:xC->Dn->Option Dn) (body:Dn->Out):List xC->Dn->Out
 | [],δ=>.nx δ
 | d::ds,δ=>match st d δ with
   | some δ1=>match body δ1 with
     | .nx δ'=>E2 st body ds δ'
     | .ct δ'=>E2 st body ds δ'
     | .bk δ'=>.nx δ'
     | o=>o
   | none=>.no
noncomputable def M8 (src:Dn->Res (List xC)) (st:xC->Dn->Option Dn) (body:Dn->Out):Dn->Out:=fun δ=>M5 (src δ) fun ds=>E2 st body ds δ
noncomputable def st1 (i:Nat):xC->Dn->Option Dn:=fun d δ=>some (δ.set i (.sh d))
noncomputable def st2 (i j:Nat):xC->Dn->Option Dn:=fun d δ=>match d with
 | .tuple [a,b]=>some ((δ.set i (.sh a)).set j (.sh b))
 | _=>none
def wY (K:xI) (g:TG) (st:xC->Dn->Option Dn):Prop:=∀ (G0 H0 G H:Hp) (Z:St) (δ δ1:Dn) (d:xC) (x:V) (Q:St->Hp->Prop),SSt G0 H0 G H Z δ->Rep G d x->st d δ=some δ1->(∀ Z',SSt G0 H0 G H Z' δ1->Q Z' H)->g x Z H Q
theorem tg1 (i:Nat):wY K (L3 i) (st1 i):=fun G0 H0 G H Z δ δ1 d x Q S r e h=>by cases e; exact h _ (S.set_sh r)
theorem tg2 (i j:Nat):wY K (aU K 2 (Bb (L3 i) (Bb (L3 j) aV))) (st2 i j):=fun G0 H0 G H Z δ δ1 d x Q S r e h=>by
 cases d with
 | tuple ds =>
   match ds,e with
   | [a,b],e =>
     cases e; obtain ⟨p,xs,rfl,e1,l1⟩:=r; obtain ⟨v,v',rfl,r1,r2⟩:=jY l1; exact ⟨p,_,rfl,.inl (.inl (S.sr.sub _ _ e1)),rfl,v,[v'],rfl,v',[],rfl,rfl,h _ ((S.set_sh r1).set_sh r2)⟩
 | _=>cases e
theorem SSt.rebase {G0 H0 G1 H1 G H:Hp} {Z:St} {δ:Dn} (g:Grow G0 H0 G1 H1) (S:SSt G0 H0 G H Z δ) (h:Same G1 G):SSt G1 H0 G H Z δ :=
 ⟨⟨h,S.gr.h,S.gr.gh,fun b o e=>(S.gr.fr b o e).imp (fun z=>g.g _ _ z) id⟩,S.sr,S.fr⟩
theorem Grow.unbase {G0 H0 G1 H1 G H:Hp} (g:Grow G0 H0 G1 H1) (h:Grow G1 H0 G H):Grow G0 H0 G H :=
 ⟨g.g.trans h.g,h.h,h.gh,fun b o e=>(h.fr b o e).elim (fun z=>g.fr b o z) .inr⟩
theorem SSt.unbase {G0 H0 G1 H1 G H:Hp} {Z:St} {δ:Dn} (g:Grow G0 H0 G1 H1) (S:SSt G1 H0 G H Z δ):SSt G0 H0 G H Z δ:=⟨g.unbase S.gr,S.sr,S.fr⟩
theorem jT {gt:TG} {st:xC->Dn->Option Dn} (C:Cxt P w K mg base X N sc k df) (hi:DI X E tg iter src) (hg:PG X tg gt) (ht:wY K gt st) (hb:DSs X E sts g1) (hs:∀ x,zP iter X.env x=pure x):DS X E (.For tg iter sts [] pos) (M8 src st g1):=fun G0 H0=>by
 have hb':PSs X sts (fun D Z H=>∃ Gb,tS E Gb H0 g1 D Z H):=fun pins s Z H D I hZ6=>by obtain ⟨Gb,q⟩:=hZ6; exact hb Gb H0 pins s Z H D I q
 refine PS.imp (kG C.own C.calm hi hg hb' hs) fun D Z H hZ3=>?_;obtain ⟨G,δ,S,aft⟩:=hZ3;refine nH S aft fun ds J G1 H1 gr W S1 a1=>?_;have g01:=S1.gr;refine ⟨fun i n Z' H'=>n=ds.length - i/\i<=ds.length/\∃ G' δ',SSt G1 H0 G' H' Z' δ'/\Kn E G0 H0 (E2 st g1 (ds.drop i) δ') D,⟨_,rfl,zY _,G1,δ,S1.rebase g01 (Same.refl _),by rw [CV]; exact a1⟩,?_⟩;rintro i n Z' H' ⟨rfl,hi,G',δ',S',a'⟩;by_cases hlt:i < ds.length
 . have hd:ds[i]? = some ds[i]:=yW hlt
   have hdrop:ds.drop i=ds[i]::ds.drop (i+1):=c7 hlt; rw [hdrop] at a'; unfold E2 at a'; refine .inr ⟨W.go i H' hlt (S'.gr.g.trans S'.sr.sub),fun Z2 H2=>∃ G' δ',SSt G1 H0 G' H2 Z2 δ'/\Kn E G0 H0 (E2 st g1 (ds.drop (i+1)) δ') D,fun Z2 H2 q=>⟨_,by omega,rfl,hlt,q⟩,fun x H'' hy=>?_⟩;obtain ⟨G3,g3,r3⟩:=W.yld i _ G' H' x H'' hd S'.gr.g S'.sr.sub hy; have S3:=S'.grow g3;cases es:st ds[i] δ' with
   | none=>rw [es] at a'; exact a'.elim
   | some δ1 =>
     rw [es] at a'; refine ht G1 H0 G3 H'' Z' δ' δ1 _ x _ S3 r3 es fun Z2 S4=>⟨G1,G3,δ1,S4,?_⟩;simp only at a';cases eo:g1 δ1 with
     | nx δ2=>rw [eo] at a'; exact fun Z3 G4 H4 S5=>⟨G4,δ2,S5,a'⟩
     | ct δ2=>rw [eo] at a'; exact fun Z3 G4 H4 S5=>⟨G4,δ2,S5,a'⟩
     | bk δ2=>rw [eo] at a'; exact fun Z3 G4 H4 S5=>a' Z3 G4 H4 (S5.unbase g01)
     | rt d=>rw [eo] at a'; exact fun v G4 H4 g r=>a' v G4 H4 (g01.unbase g) r
     | exc c=>rw [eo] at a'; exact fun G4 H4 g=>a' G4 H4 (g01.unbase g)
     | no=>rw [eo] at a'; exact a'
 . refine .inl ⟨W.stop i H' (l0.mp hlt) (S'.gr.g.trans S'.sr.sub),?_⟩
   have:ds.drop i=[]:=BP (l0.mp hlt); rw [this] at a'; exact a' Z' G' H' (S'.unbase g01)
theorem T8 (C:Cxt P w K mg base X N sc k df) (i:Nat) (ho:okSet N sc df i x=true) (hi:DI X E (.Name x p) iter src) (hb:DSs X E sts g1) (hs:∀ x,zP iter X.env x=pure x:=by intro _; rfl):DS X E (.For (.Name x p) iter sts [] pos) (M8 src (st1 i) g1):=by
 obtain ⟨h1,h2,h3,h4⟩:=okSet.ok C ho;exact jT C hi (O4 h1 h2 h3 h4) (tg1 i) hb hs
theorem uC {x1:Nat} (C:Cxt P w K mg base X N sc k df) (i j:Nat) (hi':okSet N sc df i x=true) (hj:okSet N sc df j y=true) (hi:DI X E (.Tuple [.Name x px,.Name y py] x1 tp) iter src) (hb:DSs X E sts g1) (hs:∀ x,zP iter X.env x=pure x:=by intro _; rfl) :
   DS X E (.For (.Tuple [.Name x px,.Name y py] x1 tp) iter sts [] pos) (M8 src (st2 i j) g1):=by
 obtain ⟨h1',h2,h3,h4⟩:=okSet.ok C hi';obtain ⟨_,q2,q3,q4⟩:=okSet.ok C hj;have pg:=Ug (n:=2) (k:=x1) (pos:=tp) C.calm (U1 (O4 (pos:=px) h1' h2 h3 h4) (U1 (O4 (pos:=py) h1' q2 q3 q4) Mg));rw [C.hK] at pg;exact jT C hi pg (tg2 i j) hb hs
end
end Sm
end
noncomputable section
namespace Sm
open PySem PySem.Spec PyProof.Rows L2
noncomputable section
variable {P:yI} {w:yR} {K:xI} {mg:Str->Option xF} {base:zJ} {X:Cx} {N:List Str} {sc:Scope} {k:Nat} {df:Bool} {E:EK} {p:Pos} {a c e:Expr} {f g:Dn->Res xC} {x:Str} {i:Nat}
theorem okVar.pe (C:Cxt P w K mg base X N sc k df) (h:okVar N sc i x=true):PE X (.Name x p) (nU i):=by
 unfold okVar at h;simp only [yE,BR] at h;obtain ⟨⟨⟨h1,h2⟩,h3⟩,h4⟩:=h;refine aJ (by rw [C.hN]; exact j6 h1) ?_ h3 h4;rw [C.hs];unfold Vis;cases q:sc.names.lookup x with
 | none=>rw [q] at h2; cases h2
 | some z =>
   rw [q] at h2;cases z with
   | «local» => exact .inl rfl
   | cell=>exact .inr (.inl rfl)
   | free=>exact .inr (.inr rfl)
   | _=>cases h2
theorem SR.own {G H:Hp} {Z:St} {δ:Dn} (S:SR G H Z δ) {d:xC} (hi:δ[i]? = some (.ow d)):∃ q,Z[i]? = some (some (.ref q))/\G q=none/\OwnOk G H q d:=by
 obtain ⟨q,hq,hg,ok⟩:=S.sl i _ hi;refine ⟨q,?_,hg,ok⟩;cases z:Z[i]? with
 | none=>rw [z] at hq; cases hq
 | some z'=>rw [z] at hq; cases z' with
   | none=>cases hq
   | some z''=>cases hq; rfl
noncomputable def M6 (N:List Str) (ds:List xC):Dn:=ds.map .sh++yD (N.length - ds.length) .un
noncomputable def fnD (N:List Str) (g:Dn->Out):List xC->Res xC:=fun ds=>match g (M6 N ds) with
 | .rt d=>.ok d
 | .nx _=>.ok .none
 | .exc c=>.exc c
 | _=>.no
theorem We {G H:Hp} (hG:Same G H) {ds:List xC} {vs:List V} (r:RepL G ds vs) (N:List Str):SSt G H G H (Bf N vs) (M6 N ds):=by
 have hl:=r.length;have noow:∀ (i:Nat) (d:xC),(M6 N ds)[i]? ≠ some (.ow d):=fun i d e=>by
   unfold M6 at e;by_cases hi:i < ds.length
   . rw [zC (by simpa using hi),yQ] at e
     cases q:ds[i]? with
     | none=>rw [q] at e; cases e
     | some z=>rw [q] at e; cases e
   . rw [zF (by simpa using l0.mp hi),m7] at e
     split at e <;> cases e
 refine ⟨Grow.refl hG,⟨hG,by unfold L2.Bf M6; simp [hl],fun i s e=>?_,fun i j a d d' e _ _ _=>absurd e (noow i d)⟩,fun i d a e _=>absurd e (noow i d)⟩;unfold M6 at e;by_cases hi:i < ds.length
 . rw [zC (by simpa using hi),yQ] at e
   cases q:ds[i]? with
   | none=>rw [q] at e; cases e
   | some z =>
     rw [q] at e; cases e;obtain ⟨v,e1,rv⟩:=r.get q; unfold L2.Bf; rw [zC (by rw [xJ,<- hl]; exact hi),yQ,e1];exact ⟨v,rfl,rv⟩
 . rw [zF (by simpa using l0.mp hi),m7] at e
   split at e <;> cases e
   trivial
structure Def (K:xI) (mg:Str->Option xF) (x:Str) (st:w8) (ps:List Str):Prop where
 ex:∃ f fd,L2.Fun K x x st f fd/\mg x=some (.ref f)/\Binds K fd ps []
theorem mF {x:Str} {st:w8} {ps:List Str} {n:Nat} {go:Dn->Out} {m:List xC->Res xC} {f:xO} {fd:CH} (F:L2.Fun K x x st f fd) (S:FnScope N ps (A4 st)) (hn:ps.length=n)
   (body:∀ X,Cxt P w K mg base X N (A4 st) k true->DSs X E0k (B3 st) go) (hm:m=fnD N go):FnOk P w K mg base CX0 (k+1) f fd ps (spD n m):=by
 subst hm;refine F.ok S (fun vs H Q E h=>?_) (fun cdv A outer s H vs Q E hr h=>?_)
 . obtain ⟨G,ds,d,_,r,hl,_⟩:=h
   rw [<- r.length,hl,hn]
 . obtain ⟨G,ds,d,hG,r,hl,em,q⟩:=h
   refine ⟨_,body _ ⟨rfl,rfl,rfl,rfl,rfl,rfl,rfl,rfl,hr,fun _ _=>rfl,BX⟩ G H,G,_,We hG r N,?_⟩;unfold fnD at em;cases eg:go (M6 N ds) with
   | rt d'=>rw [eg] at em; cases em; exact fun v G' H' g r'=>q v G' H' g r'
   | nx δ=>rw [eg] at em; cases em; exact fun Z G' H' S'=>q _ G' H' S'.gr rfl
   | bk _=>rw [eg] at em; cases em
   | ct _=>rw [eg] at em; cases em
   | exc _=>rw [eg] at em; cases em
   | no=>rw [eg] at em; cases em
theorem X1 {x:Str} {st:w8} {ps:List Str} {n:Nat} {go:Dn->Out} {m:List xC->Res xC} (F:Def K mg x st ps) (S:FnScope N ps (A4 st)) (hn:ps.length=n)
   (body:∀ X,Cxt P w K mg base X N (A4 st) k true->DSs X E0k (B3 st) go) (hm:m=fnD N go):Fn P w K mg base x (k+1) n m:=by
 obtain ⟨f,fd,F,hmg,hb⟩:=F.ex;exact ⟨f,fd,ps,hn,mF F S hn body hm,hmg,F.kp,hb⟩
end
end Sm
end
noncomputable section
namespace Sm
open PySem PySem.Spec PyProof.Rows L2
def Made (h:zJ) (H:Hp) (h0:zJ) (a:xO) (c:xF):Prop :=
 ∃ oe vs a0,h.get? a=some oe/\oe.cls=c/\oe.data=.fields vs/\vs[0]? = some a0/\h0.get? a=none/\H a=none/\vs[1]? = some .none
end Sm
end
noncomputable section
namespace Sm
open PySem PySem.Spec PyProof.Rows L2
end Sm
end
noncomputable section
namespace Sm
open PySem PySem.Spec PyProof.Rows L2
noncomputable section
variable {X:Cx} {k:Nat} {E:EK} {p:Pos} {a b c e:Expr} {g:Dn->Res xC} {i:Nat} {tt:Dn->Res Bool}
noncomputable def cFz (i:Nat) (c:Dn->Res Bool):Dn->Res Bool:=fun δ=>c (fz i δ)
theorem SR.fz {G H:Hp} {Z:St} {δ:Dn} (S:SR G H Z δ) (i:Nat):∃ G',SR G' H Z (fz i δ):=by
 unfold Sm.fz;split
 . rename_i ds hi
   obtain ⟨p,hp,hg,xs,hx,r⟩:=S.sl i _ hi; have hv:Z[i]? = some (some (.ref p)):=by
     cases q:Z[i]? with
     | none=>rw [q] at hp; cases hp
     | some z=>rw [q] at hp; cases z with
       | none=>cases hp
       | some z=>cases hp; rfl
   have key:∀ (j:Nat) (d':xC),(δ.set i (.sh (.list ds)))[j]? = some (.ow d')->δ[j]? = some (.ow d')/\j≠i:=fun j d' e=>by
     rw [D8] at e;split at e
     . cases e
     . rename_i hn
       refine ⟨e,fun z=>?_⟩;subst z; exact hn ⟨rfl,(yJ.mp hi).1⟩
   have sm:Same G (upd G p (.lst xs)):=Same.upd hg; have sub:Same (upd G p (.lst xs)) H:=fun b u e=>by
     by_cases hb:b=p
     . subst hb; rw [C1] at e; rw [hx]; exact e
     . rw [C3 hb] at e; exact S.sub _ _ e
   refine ⟨_,sub,by simp [S.len],fun j s e=>?_,fun j1 j2 a d1 d2 e1 e2 h1 h2=>S.ap j1 j2 a d1 d2 (key j1 d1 e1).1 (key j2 d2 e2).1 h1 h2⟩;by_cases hj:i=j/\i < δ.length
   . rw [D8,if_pos hj] at e
     cases e; rw [<- hj.1,hv]; exact ⟨_,rfl,p,xs,rfl,.inl C1,r.mono sm⟩
   . have e2:=e
     rw [D8,if_neg hj] at e2; have hs:=S.sl j s e2;cases s with
     | un=>trivial
     | sh d=>obtain ⟨v,e1,r1⟩:=hs; exact ⟨v,e1,r1.mono sm⟩
     | fd _=>exact FdOk.mono sm hs
     | ow d2 =>
       obtain ⟨a,e1,n1,ok⟩:=hs; have hne:a≠p:=by
         rintro rfl;exact (key j d2 e).2 (S.ap j i a d2 _ e2 hi e1 hp)
       refine ⟨a,e1,by rw [C3 hne]; exact n1,?_⟩;cases d2 with
       | list ds=>obtain ⟨xs,q,r⟩:=ok; exact ⟨xs,q,r.mono sm⟩
       | dict kvs=>obtain ⟨xs,q,k,r⟩:=ok; exact ⟨xs,q,k,r.mono sm⟩
       | tuple xs=>exact OwnK.keep sm (fun o q=>q) ok
       | _=>exact (show False from ok).elim
 . exact ⟨G,S⟩
theorem tK (i:Nat) (h:DT X E c tt):DT X E c (cFz i tt):=PT.imp h fun Z H Q hZ3=>by
 obtain ⟨G,δ,S,a⟩:=hZ3;obtain ⟨G',S'⟩:=S.fz i;refine ⟨G',_,S',?_⟩;unfold cFz at a;cases e:tt (fz i δ) with
 | ok d=>rw [e] at a; exact fun G2 H2 g=>a G H2 ⟨Same.refl _,g.h,S.sub.trans g.h,fun _ _ z=>.inl z⟩
 | exc c=>rw [e] at a; exact fun G2 H2 g=>a G H2 ⟨Same.refl _,g.h,S.sub.trans g.h,fun _ _ z=>.inl z⟩
 | no=>rw [e] at a; exact a
end
end Sm
end
noncomputable section
namespace Sm
open PySem PySem.Spec PyProof.Rows L2
noncomputable section
variable {P:yI} {w:yR} {K:xI} {mg:Str->Option xF} {base:zJ} {X:Cx} {N:List Str} {sc:Scope} {k:Nat} {df:Bool} {E:EK} {pos p p2:Pos} {a b:Expr} {f g:Dn->Res xC} {x:Str} {i:Nat}
noncomputable def Oy:xC->Bool
 | .none=>true
 | .bool _=>true
 | .int _=>true
 | .str _=>true
 | _=>false
theorem Rep.atom {G G':Hp} {d:xC} {v:V} (r:Rep G d v) (h:Oy d=true):Rep G' d v:=by
 cases d with
 | none=>exact r
 | bool _=>exact r
 | int _=>exact r
 | str _=>exact r
 | _=>cases h
noncomputable def Rw (i:Nat) (fk fv:Dn->Res xC):Dn->Out:=fun δ=>match δ[i]? with
 | some (.ow (.list ds))=>M5 (fv δ) fun v=>M5 (fk δ) fun kd=>match kd with
   | .int k=>(match ixN ds.length k with
     | some j=>.nx (δ.set i (.ow (.list (ds.set j v))))
     | none=>.no)
   | _=>.no
 | _=>.no
theorem RepL.set {G:Hp} {d:xC} {v:V} (r:Rep G d v):∀ {ds:List xC} {vs:List V} (j:Nat),RepL G ds vs->RepL G (ds.set j d) (vs.set j v)
 | [],_,_,h=>by cases (show _=_ from h); rfl
 | _::_,_,0,h=>by
   obtain ⟨v0,r0,rfl,h1,h2⟩:=h; exact ⟨v,r0,rfl,r,h2⟩
 | _::_,_,j+1,h=>by
   obtain ⟨v0,r0,rfl,h1,h2⟩:=h; exact ⟨v0,_,rfl,h1,RepL.set r j h2⟩
theorem uB (C:Cxt P w K mg base X N sc k df) (i:Nat) (h:okVar N sc i x=true) (hk:DE X E a f) (hv:DE X E b g)
   (hs:swapsWithSole [.Subscript (.Name x p) a p2] b pos.line X.env=pure false:=by rfl) (hw:swappedStores [.Subscript (.Name x p) a p2] b X.env=pure none:=by rfl)
   (h1:(DZ [.Subscript (.Name x p) a p2] X.env).map (·.2)=[GE (.Subscript (.Name x p) a p2) X.env]:=by rfl)
   (ha:∀ v,GE (.Subscript (.Name x p) a p2) X.env v=(do
     let ov <- holding [v] (eval (.Name x p) X.env)
     let iv <- holding [v,ov] (eval a X.env)
     standAt p2
     holding [v,ov,iv] (setItem ov iv v)
     release [v,ov,iv] []):=by intro _; rfl):DS X E (.Assign [.Subscript (.Name x p) a p2] b pos) (Rw i f g):=fun G0 H0=>by
 refine PS.imp (uQ hv (uR (okVar.pe C h) hk jN ha) hs hw h1) fun D Z H hZ3=>?_;obtain ⟨G,δ,S,aft⟩:=hZ3;unfold Rw at aft;split at aft
 . rename_i ds hi
   refine Ht S aft fun v x1 G1 H1 g1 r1 S1 a1=>?_;obtain ⟨q,hσ,hg,xs,hx,hvals⟩:=S1.sr.own hi; refine ⟨.ref q,hσ,?_⟩; refine Ht S1 a1 fun kd x2 G2 H2 g2 r2 S2 a2=>?_;obtain ⟨q',hσ',hg',xs',hx',hvals'⟩:=S2.sr.own hi; rw [hσ] at hσ'; cases hσ';cases kd with
   | int kk =>
     cases (show _=_ from r2);simp only at a2;cases ej:ixN ds.length kk with
     | none=>rw [ej] at a2; exact (show False from a2).elim
     | some j =>
       rw [ej] at a2; refine ⟨q,xs',kk,j,rfl,rfl,hx',by rw [<- hvals'.length]; exact ej,?_⟩;exact a2 Z G2 _ (S2.write hi (by rw [hσ]; rfl) hg' ⟨_,C1,RepL.set (r1.mono g2.g) j hvals'⟩)
   | _=>exact (show False from a2).elim
 . exact aft.elim
end
end Sm
end
noncomputable section
namespace Sm
open PySem PySem.Spec PyProof.Rows L2 PySem.Builtin.Str
noncomputable section
variable {P:yI} {w:yR} {K:xI} {mg:Str->Option xF} {base:zJ} {X:Cx} {N:List Str} {sc:Scope} {k:Nat} {df:Bool} {E:EK} {pos p:Pos} {a b e:Expr} {fs:Dn->Res (List xC)} {x:Str} {i:Nat}
noncomputable def Cm:List xC->Option (List Int)
 | []=>some []
 | .int i::ds=>(Cm ds).map (i::·)
 | _::_=>none
noncomputable def qB:List Int->Option Int
 | []=>none
 | i::r=>some (r.foldl max i)
noncomputable def Pg:List xC->Option xC
 | [.list ds]=>((Cm ds).bind qB).map .int
 | _=>none
theorem Ye {G:Hp}:∀ {ds:List xC} {xs:List V} {us:List xF} {is:List Int},RepL G ds xs->Vals xs us->Cm ds=some is->us.length=is.length/\∀ (j:Nat) (v:xF),us[j]? = some v->∃ t,v=GI ((is[j]?).getD 0) t
 | [],_,_,_,r,q,e=>by cases (show _=_ from r); cases q; cases e; exact ⟨rfl,fun j v h=>by simp at h⟩
 | .int b::ds,_,_,_,r,q,e=>by
   obtain ⟨x,t,rfl,h,l⟩:=r;cases (show _=_ from h);cases q with
   | cons q qs =>
     obtain ⟨tk,rfl⟩:=q; obtain ⟨is,e1,rfl⟩:=yT.mp e; obtain ⟨h1,h2⟩:=Ye l qs e1; refine ⟨by simp [h1],fun j v h=>?_⟩;cases j with
     | zero=>cases h; exact ⟨tk,rfl⟩
     | succ j=>exact h2 j v h
 | .none::_,_,_,_,_,_,e=>by cases e
 | .bool _::_,_,_,_,_,_,e=>by cases e
 | .str _::_,_,_,_,_,_,e=>by cases e
 | .list _::_,_,_,_,_,_,e=>by cases e
 | .tuple _::_,_,_,_,_,_,e=>by cases e
 | .dict _::_,_,_,_,_,_,e=>by cases e
theorem Uv:∀ (r:List Int) (i M:Int),i<=M->(∀ a∈r,a<=M)->r.foldl max i<=M:=by
 intro iN; induction iN with
 | nil=>intro _ _ h _; exact h
 | cons a r ih=>intro i M h q; exact ih _ M (by have:=q a (.head _); lia) fun b hb=>q b (.tail _ hb)
theorem Us:∀ (r:List Int) (i:Int),i<=r.foldl max i/\∀ a∈r,a<=r.foldl max i:=by
 intro iN; induction iN with
 | nil=>intro i; exact ⟨Int.le_refl _,fun _ h=>nomatch h⟩
 | cons a r ih =>
   intro i; obtain ⟨h1,h2⟩:=ih (max i a); refine ⟨by simp only [s0]; lia,fun b hb=>?_⟩;cases hb with
   | head=>simp only [s0]; lia
   | tail _ hb=>exact h2 b hb
theorem gA {is:List Int} {M:Int} (e:qB is=some M):((is[argBest (fun i j=>decide ((is[i]?).getD 0>(is[j]?).getD 0)) (is.length - 1)]?).getD 0)=M/\0 < is.length:=by
 cases is with
 | nil=>cases e
 | cons i r =>
   have e':r.foldl max i=M:=by cases e; rfl
   obtain ⟨h1,h2⟩:=argBest_gt (fun j=>((i::r)[j]?).getD 0) ((i::r).length - 1);refine ⟨?_,by simp⟩;generalize hB:argBest (fun a b=>decide (((i::r)[a]?).getD 0>((i::r)[b]?).getD 0)) ((i::r).length - 1)=B at *;have hlt:B < (i::r).length:=by simp only [xU] at h1 ⊢; lia
   obtain ⟨l1,l2⟩:=Us r i; rw [e'] at l1 l2; apply Int.le_antisymm
   . rw [yW hlt]
     simp only [Option.getD_some]; have hm:=AN hlt;cases xG.mp hm with
     | inl z=>lia
     | inr z=>exact l2 _ z
   . rw [<- e']
     refine Uv r i _ ?_ fun a ha=>?_
     . have:=h2 0 (zY _)
       simpa using this
     . obtain ⟨j,hj,rfl⟩:=FN ha
       have:=h2 (j+1) (by simp only [xU]; lia);rw [BJ,yW hj] at this; exact this
theorem bG (hc:X.calm=true):U7 X (.builtin "max") (rCD Pg):=by
 rintro pins s Z H xs us Q I r ⟨G,ds,d,hG,rl,e,q⟩;unfold Pg at e;split at e
 . rename_i ys
   obtain ⟨M,e1,rfl⟩:=yT.mp e; obtain ⟨is,e0,e1⟩:=BC.mp e1; obtain ⟨v,rfl,a,vs,rfl,h1,l1⟩:=Lq rl; obtain ⟨u,rfl,ru⟩:=Mm r; cases ru; obtain ⟨z,its,n,rv,e2⟩:=U0 I hG h1; obtain ⟨hb1,hb2⟩:=Ye l1 rv e0; obtain ⟨m1,m2⟩:=gA e1; have hl:s.heap.IsList a its.toArray:=⟨_,e2,rfl,n,rfl⟩; have hlt:a < s.heap.objs.size:=xZ e2; refine call_max_walk (HA hl ?_); refine ⟨s.heap.objs.size,[s.heap.objs.size,a],[s.heap.objs.size],its.toArray.size,_,_,fun i j=>decide ((is[i]?).getD 0>(is[j]?).getD 0),rfl,Walks.list (A:=X.A.in1) (I.ok.hd hc) _ a (yU hlt) its.toArray,
     ⟨⟨_,xT _ rfl,rfl,rfl⟩,hl.push _⟩,?_,?_,CmpOf.ints_gt (fun j=>(is[j]?).getD 0) (fun j v hP=>hb2 j v (by simpa using hP)),fun v h' tk hP hk=>?_⟩
   . intro b hb
     simp only [xG,CB,or_false] at hb; rcases hb with rfl | rfl
     . exact xZ (xT _ rfl)
     . exact xZ (xK _ e2)
   . rw [xW,hb1]; exact m2
   . have hP':its[argBest (fun i j=>decide ((is[i]?).getD 0>(is[j]?).getD 0)) (its.toArray.size - 1)]? = some v:=by simpa using hP
     rw [xW,hb1] at hP'; obtain ⟨t,rfl⟩:=hb2 _ _ hP'; rw [m1]; exact ⟨.int M,H,I.kept (qD hk),⟨t,rfl⟩,q _ G H (Grow.refl hG) rfl⟩
 . cases e
theorem mN (C:Cxt P w K mg base X N sc k df) (h:okGl sc "max" = true) (hm:mg "max" = none) (ha:DA X E [e] 1 fs)
   (he:xR [e] X.env=(false,eval e X.env)::xR [] X.env:=by rfl) (hpl:(f9 pos (xR [] X.env)).any (·.1)=false:=by rfl):DE X E (.Call (.Name "max" p) [e] [] pos) (vFn fs Pg) :=
 Eu C (bG C.calm) h hm (by decide +kernel) ha he hpl
noncomputable def Ew (z:Str):xC->Option xC
 | .str y=>match occurrences z y 0 z.length 1 with
   | i::_=>some (.int i)
   | []=>none
 | _=>none
theorem lJ:MtR X "str.index" (fun x vs H Q=>∃ z y i rest,x=.str z/\vs=[.str y]/\occurrences z y 0 z.length 1=i::rest/\Q (.int (i:Nat)) H):=by
 rintro pins s Z H x vs v us Q I rx rv ⟨z,y,i,rest,e1,e2,e,q⟩;subst e1 e2;obtain ⟨t,rfl⟩:=rx;obtain ⟨u,rfl,ru⟩:=rv.one;obtain ⟨t2,rfl⟩:=ru;exact PySem.SC.index e ⟨.int i,H,I.tok _,⟨_,rfl⟩,q⟩
end
end Sm
end
noncomputable section
namespace Sm
open PySem PySem.Spec PyProof.Rows L2
noncomputable section
variable {X:Cx} {E:EK} {a b:Expr} {f g:Dn->Res xC} {x:Str} {i:Nat}
noncomputable def Mc (g f:Dn->Res xC):Dn->Res xC:=fun δ=>(g δ).bind fun z=>match z with
 | .str z=>(f δ).bind fun d=>ofO (Ew z d)
 | _=>.no
theorem mQ {apos cpos:Pos} (hb:DE X E b g) (ha:DE X E a f) (hbase:p6 b "index" X.env (eval b X.env)=eval b X.env:=by rfl)
   (hfew:((f9 cpos (xR [a] X.env)).all (fun x => !x.1)&&(EY cpos (BW [] X.env)).all (fun x=>x.1.isSome)
     && decide ([a].length+([]:List AQ).length+(if ([]:List AQ).isEmpty then 0 else 1) < 30))=true:=by rfl)
   (hline:(apos.endLine==cpos.line)=true:=by rfl) (hs:xR [a] X.env=(false,eval a X.env)::xR [] X.env:=by rfl) (hplain:(f9 cpos (xR [] X.env)).any (·.1)=false:=by rfl) :
   DE X E (.Call (.Attribute b "index" apos) [a] [] cpos) (Mc g f):=by
 refine PE.imp (Xp HZ PySem.F.slot_str_index PySem.F.type_str_index lJ hb (P6 ha Y3 hs) hbase hfew hline hs hplain) fun Z H Q hZ3=>?_;obtain ⟨G,δ,S,aft⟩:=hZ3;refine L5 S aft fun d0 v0 G0 H0 g0 r0 S0 a0=>?_;cases d0 with
 | str z =>
   cases r0.1;refine ⟨rfl,?_⟩; refine L5 S0 a0 fun d v G1 H1 g1 r1 S1 a1=>?_;cases d with
   | str y =>
     cases r1.1;cases eo:AV z y 0 z.length 1 with
     | nil=>simp only [Ew,eo] at a1; exact (show False from a1).elim
     | cons i rest =>
       simp only [Ew,eo] at a1; exact ⟨z,y,i,rest,rfl,rfl,eo,a1 _ G1 H1 (Grow.refl S1.sub) rfl⟩
   | _=>exact (show False from a1).elim
 | _=>exact (show False from a0).elim
end
end Sm
end
noncomputable section
namespace Sm
open PySem PySem.Spec PyProof.Rows L2
end Sm
end
noncomputable section
namespace Sm
open PySem PySem.Spec PyProof.Rows L2
end Sm
end
noncomputable section
namespace Sm
open PySem PySem.Spec PyProof.Rows L2
open AutoSeq1 (wpAny_loadPart')
end Sm
end
noncomputable section
namespace Sm
open PySem PySem.Spec PyProof.Rows L2
end Sm
end
noncomputable section
namespace Sm
open PySem PySem.W PyProof.Rows
noncomputable section
variable {prog:yI} {w:yR} {A:zL} {E:xF->xH->Prop} {s:xH}
theorem Ve {T:String} {r d:xO} {n:Nat} {P:Nat->xF->Prop} {OK:zJ->Prop} {Q:List xF->xH->Prop} (K:KdlSrc prog w T r d n P OK) (hh:A.handled=none) (hok:OK s.heap) (hn:n<=sizeLine)
   (hQ:∀ (h':zJ) tk acc,(∀ b o,s.heap.get? b=some o->h'.get? b=some o)->ItemsOf P acc n->Q acc.toList { s with heap:=h',toks:=tk }):wpAny (yC prog w) A (collect (.ref r)) Q E s:=by
 have hlt:=K.there _ hok;have hS:(s.heap.push { cls:=.type "list",data:=.seq ([]:List xF).toArray }).get? s.heap.objs.size=some { cls:=.type "list",data:=.seq #[] 0 }:=xT _ rfl;unfold collect;refine xD (IV (o5 F.entry_proto_collect ?_));rw [j7 F.plain_proto_collect _];refine xD (yZ (xE ⟨BK F.plain_list_iadd _,o5 F.entry_list_iadd ?_⟩));rw [j7 F.plain_list_iadd _];refine e8 (kdl_extend (A:=A) (s:={ s with heap:=s.heap.push { cls:=.type "list",data:=.seq ([]:List xF).toArray } })
   (R:=fun res s'=>∃ h' tk acc c,res=.ok (.ret (.ref s.heap.objs.size))/\s'={ s with heap:=h',toks:=tk }/\(∀ b o,s.heap.get? b=some o->h'.get? b=some o) /\
     h'.get? s.heap.objs.size=some { cls:=.type "list",dict:=none,data:=.seq acc c,slots := #[] }/\ItemsOf P acc n)
   K hh (K.keep _ _ hok fun b _ o e=>xK _ e) s.heap.objs.size (y3 hlt.1) (y3 hlt.2) (.ref s.heap.objs.size) 0 hS
   (fun h' tk acc c hk hS' hacc=>⟨h',tk,acc,c,rfl,rfl,fun b o e=>hk b o (yU (xZ e)) (xK _ e),hS',hacc⟩) hn) (fun fin s' h=>?_) (fun e s' h=>?_)
 . cases fin with
   | done f =>
     obtain ⟨h',tk,acc,c,e,rfl,hk,hS',hacc⟩:=h; cases e; exact xD (IW hS' (xE (hQ h' tk acc hk hacc)))
   | again c' =>
     refine ⟨h.1,AZ h.2 fun r s'' hr=>?_⟩;obtain ⟨h',tk,acc,c,rfl,rfl,hk,hS',hacc⟩:=hr; exact xD (IW hS' (xE (hQ h' tk acc hk hacc)))
 . obtain ⟨_,_,_,_,e,_⟩:=h
   cases e
end
end Sm
end
noncomputable section
namespace Sm
open PySem PySem.Spec PyProof.Rows L2
end Sm
end
noncomputable section
namespace Sm
open PySem PySem.Spec PyProof.Rows L2
end Sm
end
noncomputable section
namespace Sm
open PySem PySem.Spec
end Sm
end
noncomputable section
namespace Sm
open PySem PySem.Spec PyProof.Rows L2
end Sm
end
noncomputable section
namespace Sm
open PySem PySem.Spec PyProof.Rows L2
abbrev Kvs:=List (xC×xC)
noncomputable def Ed (g1:Dn->Out) (g2:Dn->Res Kvs):Dn->Res Kvs:=fun δ=>match g1 δ with
 | .nx δ'=>g2 δ'
 | .exc c=>.exc c
 | _=>.no
noncomputable def fnW (N:List Str) (g:Dn->Res Kvs):List xC->Res Kvs:=fun ds=>g (M6 N ds)
noncomputable def Hw (fs:Dn->Res (List xC)) (m:List xC->Res Kvs):Dn->Res Kvs:=fun δ=>(fs δ).bind m
noncomputable section
variable {X:Cx} {E:EK} {a:Expr} {st:w8}
noncomputable def sNo:Dn->Out:=fun _=>.no
theorem s_no:DS X E st sNo:=fun G0 H0 pins s Z H D I hZ8=>by obtain ⟨G,δ,S,a⟩:=hZ8; exact a.elim
end
end Sm
end
noncomputable section
namespace Sm
open PySem PySem.Spec PyProof.Rows L2
theorem Ua:Slot "reversed" "__init__" "object.__init__" :=
 .of (owner := "object") (n := "__init__") (by rw [BN,t8]; kernel_rfl) (by decide +kernel) (by decide +kernel) (by decide +kernel) (by first | exact .inl (by decide +kernel) | exact .inr (by decide +kernel)) (by rw [AU]; kernel_rfl)
theorem Jp:TypeCalled "reversed" "reversed.__new__" "object.__init__" :=
 ⟨by decide +kernel,by decide +kernel,⟨_,_,F.mro_reversed⟩,F.made_reversed,by decide +kernel,F.sub_reversed_self,Ua⟩
theorem T9:Slot "reversed" "__next__" "reversed.__next__" :=
 .of (owner := "reversed") (n := "__next__") (by rw [BN,t8]; kernel_rfl) (by decide +kernel) (by decide +kernel) (by decide +kernel) (by first | exact .inl (by decide +kernel) | exact .inr (by decide +kernel)) (by rw [AU]; kernel_rfl)
theorem Ir:Slot "reversed" "__iter__" "reversed.__iter__" :=
 .of (owner := "reversed") (n := "__iter__") (by rw [BN,t8]; kernel_rfl) (by decide +kernel) (by decide +kernel) (by decide +kernel) (by first | exact .inl (by decide +kernel) | exact .inr (by decide +kernel)) (by rw [AU]; kernel_rfl)
theorem Gk:JE table "reversed.__next__" = some k7.«reversed.__next__» := entryFor_of_tree ⋯
theorem Qu:JE table "reversed.__iter__" = some k7.«dict_keyiterator.__iter__» := by
 exact JD (id' := "dict_keyiterator.__iter__") ⋯ (by decide +kernel) (by decide +kernel) ⋯
theorem Iu (a:xF):HX "reversed.__next__" ⟨[a],[]⟩:=by unfold HX; kernel_rfl
theorem Ub (a:xF):HX "reversed.__iter__" ⟨[a],[]⟩:=by unfold HX; kernel_rfl
theorem oG:typeLookup (.type "tuple") "__reversed__" = pure none:=by rw [BN,t8]; kernel_rfl
theorem oI:isSubtype (.type "tuple") (.type "dict")=pure false:=by rw [AU]; kernel_rfl
def IsRvT (h:zJ) (a l:xO) (i:Int):Prop:=∃ o,h.get? a=some o/\o.cls=.type "reversed" /\ o.data=.fields #[.ref l,AJ i]
noncomputable section
variable {prog:yI} {w:yR} {A:zL} {E:xF->xH->Prop} {s:xH}
theorem IsRvT.typeIs {a l:xO} {i:Int} (x:IsRvT s.heap a l i):s.TypeIs (.ref a) "reversed" := let ⟨o,ho,hc,_⟩:=x; ⟨o,ho,hc⟩
theorem oJ {l:xO} {items:Array xF} {Q₁:xF->xH->Prop} (hl:FP s.heap l items) (hz:items.size<=sizeLine)
   (h:∀ tk,Q₁ (.ref s.heap.objs.size) { s with heap:=s.heap.push { cls:=.type "reversed",data:=.fields #[.ref l,AJ ((items.size:Int) - 1)] },toks:=tk }) :
   DJ (yC prog w) A (.call (.builtin "reversed.__new__") ⟨[.type "reversed",.ref l],[]⟩) (wants Q₁ E) s:=by
 refine II (xD (p5 (F.newCall_reversed_1 _) (xE ⟨BK F.plain_reversed_new _,o5 F.entry_reversed_new ?_⟩)));rw [j7 F.plain_reversed_new _];unfold k7.«reversed.__new__»;refine xD (p5 (newClass_reversed _) (xD (p5 (a:=()) (by first | rfl | kernel_rfl) (xD (p5 (a:=()) (by first | rfl | kernel_rfl) ?_)))));refine xD (o4 hl.typeIs oG ?_);try dsimp only
 refine xD (xD (AX hl.typeIs oI ?_));simp only [yY,if_false];refine xD (o4 hl.typeIs GP.lookup ?_);dsimp only;rw [if_pos (by decide +kernel)];refine xE ?_;simp only [FZ,yY,if_false];have hn:=Dq;refine xD (len_tuple hl (by lia) (xD (p5 (a:=some (items.size:Int)) rfl ?_)));refine xD ?_;show wpAny _ _ (newObj (x4 "reversed") (.fields #[.ref l,AJ ((items.size:Int) - 1)])) _ _ _;exact yZ (xE (h _))
theorem oK {l:xO} {items:Array xF} {Q:xF->xH->Prop} (hl:FP s.heap l items) (hz:items.size<=sizeLine)
   (h:∀ tk,Q (.ref s.heap.objs.size) { s with heap:=s.heap.push { cls:=.type "reversed",data:=.fields #[.ref l,AJ ((items.size:Int) - 1)] },toks:=tk }):wpAny (yC prog w) A (call (.type "reversed") [.ref l]) Q E s:=by
 refine callType_codes (Q₁:=fun obj t=>t.TypeIs obj "reversed" /\ Q obj t) Jp (F.typeCall_reversed_1 _) F.entry_object_init (oJ hl hz fun tk=>⟨⟨_,xT _ rfl,rfl⟩,h tk⟩) fun obj t ht=>?_;exact ⟨ht.1,F.args_object_init_2 obj _,object_init_meets Jp.init.lookup Jp.made (by decide) prog w A.in1 _ t ⟨ht.1,rfl,ht.2⟩⟩
theorem oH {it l:xO} {i:Nat} {items:Array xF} {x:xF} {Q:Option xF->xH->Prop} (hit:IsRvT s.heap it l (i:Int)) (hl:FP s.heap l items) (hz:items.size<=sizeLine) (hx:items[i]? = some x)
   (hQ:∀ h' tk,IsRvT h' it l ((i:Int) - 1)->o3 it s.heap h'->Q (some x) { s with heap:=h',toks:=tk }):wpAny (yC prog w) A (pyNext (.ref it)) Q E s:=by
 obtain ⟨o,ho,hc,hd⟩:=id hit;have hi:i < items.size:=by
   rcases ER i items.size with h | h
   . exact h
   . simp [h] at hx
 have hn:=Dq;unfold pyNext;refine xD (w6 ?_);refine zI (name:=k8 "__next__") hit.typeIs T9 ?_;refine zD T9 hit.typeIs Gk ?_ (Iu _);unfold k7.«reversed.__next__»;refine xD (p5 (a:=(k6 it,[])) rfl ?_);try dsimp only
 refine xD (BV ho hd (x:=.ref l) rfl (xD (BV ho hd (x:=AJ (i:Int)) rfl ?_)));show wpAny _ _ (if (i:Int) < 0 then _ else _) _ _ s;rw [if_neg (by lia)];refine xD (o4 hl.typeIs GP.lookup ?_);rw [if_neg (by simp)];refine xD (wpAny_mkInt (xD (w6 ?_)));refine getItem_tuple (s:={ s with toks:=s.toks+1 }) (j:=i) hl (by lia) (by lia) ?_ hx ?_
 . unfold seqIndex?
   first | (simp; lia) | (rw [if_neg (by lia),if_pos (by lia)]; simp) | (split <;> simp_all <;> lia)
 . try dsimp only
   refine xD (BV (s:={ s with toks:=s.toks+1 }) ho hd (x:=AJ (i:Int)) rfl ?_); show wpAny _ _ (HC (.ref it) 1 (AJ ((i:Int) - 1))>>=_) _ _ _;refine xD (DX (s:={ s with toks:=s.toks+1 }) ho hd (by simp) ?_);refine xE ⟨x,rfl,xE (hQ _ _ ?_ (j8 ..))⟩; exact ⟨_,zX _ ho (FA (x8 hd _)),(Obj.cls_mapFields ..).trans hc,by rw [x8 hd]; simp⟩
theorem uG {it l:xO} {j:Int} {Q:Option xF->xH->Prop} (hj:j < 0) (hh:A.handled=none) (hit:IsRvT s.heap it l j)
   (hQ:∀ h',DM it s.heap h'->Q none { s with heap:=h' }):wpAny (yC prog w) A (pyNext (.ref it)) Q E s:=by
 obtain ⟨o,ho,hc,hd⟩:=id hit;unfold pyNext;refine xD (w6 ?_);refine zI (name:=k8 "__next__") hit.typeIs T9 ?_;refine zD T9 hit.typeIs Gk ?_ (Iu _);unfold k7.«reversed.__next__»;refine xD (p5 (a:=(k6 it,[])) rfl ?_);try dsimp only
 refine xD (BV ho hd (x:=.ref l) rfl (xD (BV ho hd (x:=AJ j) rfl ?_)));show wpAny _ _ (if j < 0 then _ else _) _ _ s;rw [if_pos hj];refine xD (i7 ?_);have ho1:=zX (IJ (·.setIfInBounds 1 (AJ (-1)))) ho (FA (x8 hd _));have hd1:=x8 hd (fun a=>a.setIfInBounds 1 (AJ (-1)));refine xD ?_;show wpAny _ _ (HC (.ref it) 1 (AJ (-1))>>=fun _=>HC (.ref it) 0 .none) _ _ _;refine xD (DX ho hd (by simp) (DX ho1 hd1 (by simp) (xD ?_)))
 show wpAny _ _ (newExc (.type "StopIteration") []>>=_) _ _ _;refine xD ?_;simp only [newExc,newTuple];refine xD (yZ ?_ (by size_fits));refine xD (m:=CF _ _) (p5 (a:=j5) (by first | rfl | (simp only [CF]; rfl)) (yZ ?_ (by size_fits)));simp only [raiseNew];refine xD (wpAny_handled ?_);rw [show A.in1.handled=none from hh];refine xD (xE (wpAny_throw (xD ?_)));refine AX (T := "StopIteration") (b:=true) ⟨_,xT _ rfl,rfl⟩ JB ?_;refine xE (hQ _ (IL (IL ?_ _) _))
 intro b ob hb eb;exact ((j8 ..).extBut b ob hb ((j8 ..).extBut b ob hb eb))
theorem bY {it l:xO} {i:Int} {Q:xF->xH->Prop} (hit:IsRvT s.heap it l i) (h:Q (.ref it) s):wpAny (yC prog w) A (HU (.ref it)) Q E s:=by
 refine EH hit.typeIs Ir (zD Ir hit.typeIs Qu ?_ (Ub _));show wpAny _ _ (ret (.ref it)) _ _ s;exact xE ⟨_,rfl, "reversed",_,hit.typeIs,T9.lookup,h⟩
end
def ItV (K:xI) (a:xO) (n:Nat):It :=
 ⟨fun i H=>i < n/\∃ xs x,SqT K H a xs/\xs.length=n/\xs[n - 1 - i]? = some x,fun i H x H'=>H'=H/\∀ xs,SqT K H a xs->xs[n - 1 - i]? = some x,fun i H=>n<=i⟩
theorem iP {P:yI} {w:yR} {K:xI} {tg:Expr} (a it:xO) (n:Nat):Turn P w K tg (ItV K a n) [it] it (fun i h=>IsRvT h it a ((n:Int) - 1 - i)) where
 mem:=by simp
 obj:=fun i h st b hb=>by
   have e:b=it:=by simpa using hb
   subst e; obtain ⟨o,e,c,d⟩:=st; exact ⟨o,e,fun v z=>by rw [d] at z; cases z⟩
 keep:=fun i h h' st k=>by
   obtain ⟨o,e,r⟩:=st; exact ⟨o,k it (by simp) o e,r⟩
 item:=by
   intro X hP hw hK hc i pins s Z H E I hf st hg; subst hP hw hK; obtain ⟨hi,xs,x,hq,hn,hx⟩:=hg; obtain ⟨its,rv,p,hz⟩:=I.tuple hq; obtain ⟨u,hu,ru⟩:=rv.get hx; have hl:=rv.length; obtain ⟨f0,f1,f2,f3,f4,f5⟩:=hf it (by simp);have e1:(n:Int) - 1 - (i:Int)=((n - 1 - i:Nat):Int):=by lia
   rw [e1] at st; refine oH st (show FP s.heap a its.toArray from p) (by simp only [xW]; lia) (x:=u) (by simpa using hu) fun h' tk st' sb=>?_;have I1:Inv X pins Z H { s with heap:=h',toks:=tk }:=I.turned (t':=tk) (fun b o hb e=>(sb.2 b hb).trans e) f0 f1 f3 f4 f5;obtain ⟨o,e,c,d⟩:=id st'; refine ⟨u,rfl,Ss (s:={ s with heap:=h',toks:=tk }) e c d (by decide) ⟨x,H,I1,ru,⟨rfl,fun ys hy=>by rw [I.tuple_inj hy hq]; exact hx⟩,?_,fun b hb=>(hf b hb).1⟩⟩;have e2:((n - 1 - i:Nat):Int) - 1=(n:Int) - 1 - ((i+1:Nat):Int):=by lia
   rw [e2] at st'; exact st'
 done:=by
   intro X hP hw hK hc i pins s Z H E I hf st hg; subst hP hw hK; have hi:n<=i:=hg; obtain ⟨f0,f1,f2,f3,f4,f5⟩:=hf it (by simp);exact uG (by lia) (I.ok.hd hc) st fun h' eb=>⟨rfl,I.turned (t':=s.toks) (fun b o hb e=>eb b o hb e) f0 f1 f3 f4 f5⟩
 self:=fun _ _ _ _ _ st h=>bY st h
theorem iH {K:xI} {G:Hp} {a:xO} {xs:List V} {ds:List xC} (h:G a=some (.tup xs)) (l:RepL G ds xs):Walk (ItV K a xs.length) G ds.reverse where
 go:=fun i H hi hG=>by
   have hi':i < xs.length:=by rw [<- l.length]; simpa using hi
   exact ⟨hi',xs,xs[xs.length - 1 - i],.inl (.inl (hG _ _ h)),rfl,by simp⟩
 yld:=fun i d G2 H x H' e h1 h2 hy=>by
   obtain ⟨rfl,hy⟩:=hy; have hlen:=l.length; have hi:i < ds.length:=by
     rcases ER i ds.length with z | z
     . exact z
     . rw [l7 (by simpa using z)] at e; cases e
   rw [List.getElem?_reverse hi] at e; obtain ⟨y,e1,r⟩:=l.get e; have:=hy xs (.inl (.inl (h2 _ _ (h1 _ _ h)))); rw [hlen] at e1; rw [e1] at this; cases this; exact ⟨G2,Grow.refl h2,r.mono h1⟩
 stop:=fun i H hi hG=>by
   show xs.length<=i;rw [<- l.length]; simpa using hi
noncomputable def Xe:xC->Res (List xC)
 | .tuple ds=>.ok ds.reverse
 | _=>.no
noncomputable section
variable {P:yI} {w:yR} {K:xI} {mg:Str->Option xF} {base:zJ} {X:Cx} {N:List Str} {sc:Scope} {k:Nat} {df:Bool} {E:EK} {pos p:Pos} {tg a:Expr} {f:Dn->Res xC}
theorem i_rev (C:Cxt P w K mg base X N sc k df) (h:okGl sc "reversed" = true) (hm:mg "reversed" = none) (ha:DE X E a f) (he:xR [a] X.env=(false,eval a X.env)::xR [] X.env:=by rfl) (hpl:(f9 pos (xR [] X.env)).any (·.1)=false:=by rfl) :
   DI X E tg (.Call (.Name "reversed" p) [a] [] pos) (fun δ=>(f δ).bind Xe):=by
 rintro pins s Z H R I ⟨G,δ,S,aft⟩;obtain ⟨h1,h2,h3⟩:=okGl.gl C h;have hh:=Ml (R:=fun v H1=>∃ v0 G1 d,[v]=[v0]/\Same G1 H1/\Rep G1 d v0/\AftI E G1 H1 (Xe d) R) (W:=fun G H r=>AftI E G H r R) S aft (fun g a=>AftI.grow g a) (fun c a=>a) (fun a=>a) fun d v G1 H1 g1 r1 S1 a1=>⟨v,G1,d,rfl,S1.sub,r1,a1⟩;refine BT (Ow I h1 (by rw [C.hmg]; exact hm) (show BA "reversed" = some (.type "reversed") by decide +kernel) ?_ h3 h2);refine x3 (thn ((P6 ha Y3 he) pos pins s Z H (fun vs H1=>∃ v G1 d,vs=[v]/\Same G1 H1/\Rep G1 d v/\AftI E G1 H1 (Xe d) R) I ?_) fun us s1 ⟨vs,H1,I1,rx,v,G1,d,ev,hG,rd,a1⟩=>?_) he hpl
 . exact hh
 . subst ev
   obtain ⟨u,rfl,ru⟩:=Vals.one rx;cases d with
   | tuple ds =>
     obtain ⟨q,xs,rfl,hq,l1⟩:=rd; cases ru; obtain ⟨zz,its,rv,e1⟩:=Jq I1 hG hq; have hl:=rv.length; refine oK (show FP s1.heap q its.toArray from e1) (by simp only [xW]; lia) fun tk=>?_;have I2:Inv X pins Z H1 { s1 with heap:=s1.heap.push { cls:=.type "reversed",data:=.fields #[.ref q,AJ ((its.toArray.size:Int) - 1)] },toks:=tk }:=I1.kept (t':=tk) fun b o e=>xK _ e;have st:IsRvT (s1.heap.push { cls:=.type "reversed",data:=.fields #[.ref q,AJ ((its.toArray.size:Int) - 1)] }) s1.heap.objs.size q ((xs.length:Int) - 1 - ((0:Nat):Int)):=⟨_,xT _ rfl,rfl,by simp [hl]⟩
     refine bY (s:={ s1 with heap:=s1.heap.push { cls:=.type "reversed",data:=.fields #[.ref q,AJ ((its.toArray.size:Int) - 1)] },toks:=tk }) st ?_; refine ⟨s1.heap.objs.size,[s1.heap.objs.size],_,_,H1,rfl,I2,iP q _ xs.length,st,fun b hb=>?_,a1 _ G1 H1 (Grow.refl hG) (iH hq l1)⟩;have e:b=s1.heap.objs.size:=by simpa using hb
     subst e; exact I1.fpOk (xN _) (I1.hok.fresh (xN _))
   | _=>exact (show False from a1).elim
end
end Sm
end
noncomputable section
namespace Sm
open PySem PySem.Spec PyProof.Rows L2
end Sm
end
noncomputable section
namespace Sm
open PySem PySem.Spec PySem.W PyProof.Rows
end Sm
end
noncomputable section
namespace Sm
open PySem PySem.Spec PySem.W PyProof.Rows L2
end Sm
end
noncomputable section
namespace Sm
open PySem PySem.Spec PyProof.Rows L2
noncomputable section
variable {prog:yI} {w:yR} {A:zL} {E:xF->xH->Prop} {s:xH}
theorem lV {d:xO} {od:Obj} {es:Array zO} {ep:Nat} {Q:xF->xH->Prop} (hd:(d==p9)=false) (hT:s.TypeIs (.ref d) "dict") (ho:s.heap.get? d=some od) (hdat:od.data=.dict es ep)
   (hQ:Q (.ref s.heap.objs.size) { s with heap:=s.heap.push { cls:=.type "dict_keyiterator",data:=.fields #[.ref d,.int 0 0,.int es.size 0,.int ep 0] } }) :
   wpAny (yC prog w) A (HU (.ref d)) Q E s:=by
 refine EH hT F.slot_dict_iter (zD F.slot_dict_iter hT F.entry_dict_iter ?_ (F.args_dict_iter_1 _));unfold k7.«dict.__iter__» Builtin.Dict.dictSlotNone;refine xD (xD (FR hT (xE ?_)));have hz:∀ (R:xF->xH->Prop),wpAny (yC prog w) A.in1 (GU d) (fun _ t=>t=s) R s:=fun R=>by
   unfold GU; rw [hd]; exact xE rfl
 refine xD (p5 (a:=d) rfl (xD (e8 (hz E) (fun _ t e=>?_) fun _ _ e=>e)));subst e;refine xD (AL ho hdat (xD (f8 ho hdat ?_)));refine xD (yZ (xE ⟨_,rfl, "dict_keyiterator",_,⟨_,xT _ rfl,rfl⟩,F.slot_dict_keyiterator_next.lookup,?_⟩));simpa [AJ] using hQ
theorem lC {it d:xO} {i ep:Nat} {od:Obj} {es:Array zO} {Q:Option xF->xH->Prop} (hit:s.heap.IsKeyIter it d i es.size ep) (hod:s.heap.get? d=some od) (hdd:od.data=.dict es ep) (hlt:i < es.size)
   (hQ:∀ h',h'.IsKeyIter it d (i+1) es.size ep->o3 it s.heap h'->Q (some es[i].key) { s with heap:=h' }):wpAny (yC prog w) A (pyNext (.ref it)) Q E s:=by
 obtain ⟨o,ho,hc,hd⟩:=id hit;have hnew:(s.heap.update it (IJ (·.setIfInBounds 1 (AJ ((i:Int)+1))))).IsKeyIter it d (i+1) es.size ep:=by
   refine ⟨_,zX _ ho (FA (x8 hd _)),(Obj.cls_mapFields ..).trans hc,?_⟩; rw [x8 hd]; simp [AJ]
 have hty:HL { s with heap:=s.heap.update it (IJ (·.setIfInBounds 1 (AJ ((i:Int)+1)))) } (.ref it) "dict_keyiterator" := hnew.typeIs;unfold pyNext;refine xD (w6 ?_);refine zI (name:=k8 "__next__") hit.typeIs F.slot_dict_keyiterator_next ?_;refine zD F.slot_dict_keyiterator_next hit.typeIs F.entry_dict_keyiterator_next ?_ (F.args_dict_keyiterator_next_1 _);refine xD (xE (xD (xD ?_)));refine xD (z5 hit.typeIs (xE ?_));refine xD (CD ho hd ?_)
 simp only [show EO "dict_keyiterator" = false by decide,yY,if_false];show wpAny _ _ (if (k6 d==j5)=true then _ else _) _ _ s;rw [if_neg (by exact l8)];refine xD (xE (xD (AL hod hdd ?_)));rw [if_neg (by simp)];refine xD (xE (xD (f8 hod hdd ?_)));rw [if_neg (by simp)];refine xE ?_;simp only [show ¬ ((i:Int) < 0) from by lia,if_false,DU,zB hlt];refine xD (xD (z5 hit.typeIs (xE ?_)))
 refine xD (FS hit.typeIs ?_);show wpAny _ _ (HC (.ref it) 1 (AJ ((i:Int)+1))>>=_) _ _ s;refine xD (DX ho hd (by simp) (xD (zK ?_)));refine xD (FS hty ?_);first
   | exact xE (xE ⟨_,rfl,xE (hQ _ hnew (j8 ..))⟩)
   | (refine xD (FS hty ?_); exact xE (xE ⟨_,rfl,xE (hQ _ hnew (j8 ..))⟩))
theorem qQ {it d:xO} {i ep:Nat} {od:Obj} {es:Array zO} {Q:Option xF->xH->Prop} (hh:A.handled=none) (hi:es.size<=i) (hit:s.heap.IsKeyIter it d i es.size ep) (hod:s.heap.get? d=some od) (hdd:od.data=.dict es ep)
   (hQ:∀ h',DM it s.heap h'->Q none { s with heap:=h' }):wpAny (yC prog w) A (pyNext (.ref it)) Q E s:=by
 obtain ⟨o,ho,hc,hd⟩:=id hit;unfold pyNext;refine xD (w6 ?_);refine zI (name:=k8 "__next__") hit.typeIs F.slot_dict_keyiterator_next ?_;refine zD F.slot_dict_keyiterator_next hit.typeIs F.entry_dict_keyiterator_next ?_ (F.args_dict_keyiterator_next_1 _);refine xD (xE (xD (xD ?_)));refine xD (z5 hit.typeIs (xE ?_));refine xD (CD ho hd ?_);simp only [show EO "dict_keyiterator" = false by decide,yY,if_false]
 show wpAny _ _ (if (k6 d==j5)=true then _ else _) _ _ s;rw [if_neg (by exact l8)];refine xD (xE (xD (AL hod hdd ?_)));rw [if_neg (by simp)];refine xD (xE (xD (f8 hod hdd ?_)));rw [if_neg (by simp)];refine xE ?_;simp only [show ¬ ((i:Int) < 0) from by lia,if_false,DU,BM hi];refine xD (xD (z5 hit.typeIs (xE ?_)));show wpAny _ _ (HC (.ref it) 0 .none>>=_) _ _ s;refine xD (DX ho hd (by simp) ?_)
 show wpAny _ _ (newExc (.type "StopIteration") []>>=_) _ _ _;refine xD ?_;simp only [newExc,newTuple];refine xD (yZ ?_ (by size_fits));refine xD (m:=CF _ _) (p5 (a:=j5) (by first | rfl | (simp only [CF]; rfl)) (yZ ?_ (by size_fits)));simp only [raiseNew];refine xD (wpAny_handled ?_);rw [show A.in1.handled=none from hh];refine xD (xE (wpAny_throw (xD ?_)));refine AX (T := "StopIteration") (b:=true) ⟨_,xT _ rfl,rfl⟩ JB ?_;exact xE (hQ _ (((j8 ..).extBut.push _).push _))
end
end Sm
end
noncomputable section
namespace Sm
open PySem PySem.Spec PyProof.Rows L2
end Sm
end
noncomputable section
namespace Sm
open PySem PySem.Spec PyProof.Rows L2
noncomputable section
variable {P:yI} {w:yR} {K:xI} {mg:Str->Option xF} {base:zJ} {X:Cx} {N:List Str} {sc:Scope} {k:Nat} {df:Bool} {E:EK} {pos:Pos} {a b c e:Expr} {f g f':Dn->Res xC} {x:Str}
theorem eH (C:Cxt P w K mg base X N sc k df) (ha:DE X E a f) (hb:DE X E b g) (hc:DE X E c f') (hm:lastMarks [.LtE,.LtE] [b,c]=false:=by with_unfolding_all rfl) :
   DT X E (.Compare a [.LtE,.LtE] [b,c] pos) (B8 (Da f g f' (D7 .LtE) (D7 .LtE))):=by
 have hr:OpR X (c9 .LtE) (Xi .LtE):=Dk (.inr rfl) C.hu;refine PT.imp (Xm hr hr ha hb hc hm) fun Z H Q hZ3=>?_;obtain ⟨G,δ,S,aft⟩:=hZ3;have aft':AftT E G H ((f δ).bind fun x=>(g δ).bind fun y=>(ofO (D7 .LtE x y)).bind fun z=>(match z with
   | .bool true=>(f' δ).bind fun u=>ofO (D7 .LtE y u)
   | .bool false=>.ok (.bool false)
   | _=>.no).bind fun d=>ofO (Jg d)) Q:=by
   unfold B8 Da at aft; simp only [Res.bind_assoc] at aft; exact aft
 refine Q1 S aft' fun d1 v1 G1 H1 g1 r1 S1 a1=>?_;refine Q1 S1 a1 fun d2 v2 G2 H2 g2 r2 S2 a2=>?_;cases e:D7 .LtE d1 d2 with
 | none=>rw [e] at a2; exact a2.elim
 | some d =>
   rw [e] at a2; obtain ⟨kk,rfl⟩:=Cy _ _ _ e; refine Bi G2 H2 v1 v2 d1 d2 _ _ S2.sub (r1.mono g2.g) r2 e fun v G3 H3 g3 r3=>⟨kk,r3,?_⟩;have S3:=S2.grow g3;cases kk with
   | false=>rw [if_neg (by decide)]; exact ⟨false,rfl,a2 G3 H3 g3⟩
   | true =>
     rw [if_pos rfl]; have a3:AftT E G3 H3 ((f' δ).bind fun u=>(ofO (D7 .LtE d2 u)).bind fun d=>ofO (Jg d)) Q:=by
       have h0:AftT E G3 H3 (((f' δ).bind fun u=>ofO (D7 .LtE d2 u)).bind fun d=>ofO (Jg d)) Q:=AftT.grow g3 a2;rw [Res.bind_assoc] at h0; exact h0
     refine Q1 S3 a3 fun d4 v4 G4 H4 g4 r4 S4 a4=>?_;cases e':D7 .LtE d2 d4 with
     | none=>rw [e'] at a4; exact a4.elim
     | some d =>
       rw [e'] at a4; obtain ⟨k2,rfl⟩:=Cy _ _ _ e'; exact Bi G4 H4 v2 v4 d2 d4 _ _ S4.sub (r2.mono (g3.g.trans g4.g)) r4 e' fun v G5 H5 g5 r5=>⟨k2,r5,a4 G5 H5 g5⟩
end
end Sm
end
noncomputable section
namespace Sm
open PySem PySem.Spec PyProof.Rows PySem.W L2
structure NAt (h:zJ) (v:xF) (d:xC):Prop where
 rd:∃ as,Reads h v d as
 nk:d=.none\/(isK d=true/\((∃ xs,d=.tuple xs)\/∃ z,d=.str z))
 lay:d.canLay0=true
 dp:d.depth<=8
theorem Ka {a b:xC} (ha:a=.none\/(isK a=true/\((∃ xs,a=.tuple xs)\/∃ z,a=.str z))) (hb:b=.none\/(isK b=true/\((∃ xs,b=.tuple xs)\/∃ z,b=.str z))):xX a b=true↔a=b:=by
 rcases ha with rfl | ⟨ha,ha'⟩
 . rcases hb with rfl | ⟨_,⟨ys,rfl⟩ | ⟨z,rfl⟩⟩
   . exact ⟨fun _=>rfl,fun _=>rfl⟩
   . exact ⟨fun h=>(by simp [xX] at h),fun h=>nomatch h⟩
   . exact ⟨fun h=>(by simp [xX] at h),fun h=>nomatch h⟩
 . rcases hb with rfl | ⟨hb,_⟩
   . rcases ha' with ⟨xs,rfl⟩ | ⟨z,rfl⟩
     . exact ⟨fun h=>(by simp [xX] at h),fun h=>nomatch h⟩
     . exact ⟨fun h=>(by simp [xX] at h),fun h=>nomatch h⟩
   . exact eqvK _ _ ha hb
noncomputable section
variable {prog:yI} {w:yR} {A:zL} {E:xF->xH->Prop} {s:xH}
theorem NAt.val {h:zJ} {v:xF} {d:xC} (x:NAt h v d):(d=.none/\v=.none)\/(∃ z t,d=.str z/\v=.str z t)\/∃ b,v=.ref b:=by
 obtain ⟨as,r⟩:=x.rd;rcases x.nk with rfl | ⟨_,⟨xs,rfl⟩ | ⟨z,rfl⟩⟩
 . cases r; exact .inl ⟨rfl,rfl⟩
 . cases r; exact .inr (.inr ⟨_,rfl⟩)
 . cases r; exact .inr (.inl ⟨_,_,rfl,rfl⟩)
theorem NAt.hash {v:xF} {d:xC} {Q:Int->xH->Prop} (x:NAt s.heap v d) (hu:A.units+8 < m8) (q:∀ tk,Q (T7 w d) { s with toks:=tk }):wpAny (yC prog w) A (pyHash v) Q E s:=by
 obtain ⟨as,r⟩:=x.rd;rcases x.nk with rfl | ⟨hk,hk'⟩
 . cases r
   unfold pyHash; have hv:[j5].any Value.onHeap=false:=rfl; have hT:s.TypeIs j5 "NoneType" := rfl; refine xD ?_; rw [cRoomFor,if_neg (by rw [hv]; decide)];refine xE (xD (o4 hT F.slot_NoneType_hash.lookup ?_)); show wpAny _ _ (if (some (Value.builtin "NoneType.__hash__")==some j5)=true then _ else _) Q E s;rw [if_neg (by rw [HW]; decide)];refine xD (o4 hT F.slot_NoneType_hash.lookup ?_); show wpAny _ _ (callSpecialIfBoundUnlessNone? j5 "__hash__" _>>=_) Q E s;refine xD (wpAny_callSpecialIfBoundUnlessNone?_slot hT F.slot_NoneType_hash (zD F.slot_NoneType_hash hT F.entry_NoneType_hash (show wpAny _ _ (do ret (<- mkInt 0xFCA86420)) _ _ s from wpAny_ret_mkInt ?_) (F.args_NoneType_hash_1 _)))
   show wpAny _ _ (if (decide (-(2:Int) ^ 63<=0xFCA86420)&&decide ((0xFCA86420:Int) < 2 ^ 63))=true then _ else _) Q E _;rw [if_pos (by decide)]; exact xE (q _)
 . have e:T7 w d=Yj w d:=by rcases hk' with ⟨_,rfl⟩ | ⟨_,rfl⟩ <;> rfl
   rw [e] at q; exact Pb _ _ as A s Q hk r (by have:=x.dp; lia) fun tk _=>q tk
theorem NAt.quiet {v:xF} {d:xC} {Q:Bool->xH->Prop} (x:NAt s.heap v d) (q:Q true s):wpAny (yC prog w) A (eqIsQuiet 8 v) Q E s:=by
 obtain ⟨as,r⟩:=x.rd;rcases x.nk with rfl | ⟨hk,hk'⟩
 . cases r; exact xE q
 . exact Ld 8 _ _ as s Q hk x.dp r q
theorem NAt.eq {v u:xF} {a b:xC} {Q:Bool->xH->Prop} (x:NAt s.heap v a) (y:NAt s.heap u b) (hu:A.units+8 < m8) (q:Q (xX a b) s):wpAny (yC prog w) A (eqBool v u) Q E s:=by
 obtain ⟨as,r⟩:=x.rd;obtain ⟨bs,r'⟩:=y.rd;exact SeqAt.eqBoolOverData prog w A E s v u a b as bs Q r r' x.lay y.lay (by have:=x.dp; lia) q
structure EsN (w:yR) (h:zJ) (es:Array zO) (ks:List xC):Prop where
 len:es.size=ks.length
 ent:∀ (i:Nat) e,es[i]? = some e->∃ k,ks[i]? = some k/\NAt h e.key k/\e.hash=T7 w k
 nd:ks.Nodup
theorem aW {d:xO} {o:Obj} {es:Array zO} {ep:Nat} {ks:List xC} {key:xF} {k:xC} {Q:Option Nat->xH->Prop} (hu:A.units+8 < m8) (ho:s.heap.get? d=some o) (hd:o.data=.dict es ep) (N:EsN w s.heap es ks) (x:NAt s.heap key k)
   (q1:∀ i,ks[i]? = some k->Q (some i) s) (q0:k∉ks->Q none s):wpAny (yC prog w) A (dictFind d key (T7 w k)) Q E s:=by
 have same:∀ i j a,ks[i]? = some a->ks[j]? = some a->i=j:=fun i j a h1 h2=>by
   have hi:=(yJ.mp h1).1; have hj:=(yJ.mp h2).1; have e1:=(yJ.mp h1).2; have e2:=(yJ.mp h2).2; exact (List.getElem_inj (h₀:=hi) (h₁:=hj) N.nd).mp (e1.trans e2.symm)
 unfold dictFind;try with_reducible refine zK ?_
 refine xD (AL ho hd ?_);dsimp only;have hin:∀ i∈placesWithHash es.size (fun i=>es[i]?.map (·.hash)) (T7 w k),∃ e,es[i]? = some e/\(e.hash==T7 w k)=true:=fun i hi=>by
   unfold placesWithHash at hi; have:=(j4.mp hi).2; simp only at this;cases he:es[i]? with
   | none=>rw [he] at this; cases this
   | some e=>rw [he] at this; exact ⟨e,rfl,by simpa using this⟩
 have hat:∀ i,ks[i]? = some k->i∈placesWithHash es.size (fun i=>es[i]?.map (·.hash)) (T7 w k):=fun i hi=>by
   have hlt:i < es.size:=by rw [N.len]; exact (yJ.mp hi).1
   have he:es[i]? = some es[i]:=zB hlt; obtain ⟨k',e1,_,e3⟩:=N.ent i _ he; rw [hi] at e1; cases e1; unfold placesWithHash; refine j4.mpr ⟨u8.mpr hlt,?_⟩; show (es[i]?.map (·.hash)==some (T7 w k))=true;rw [he]; simp [e3]
 have hnd:(placesWithHash es.size (fun i=>es[i]?.map (·.hash)) (T7 w k)).Nodup:=List.Pairwise.filter _ List.nodup_range;generalize placesWithHash es.size (fun i=>es[i]?.map (·.hash)) (T7 w k)=places at *;have lst:∀ i,(ks[i]? = some k->i∈([]:List Nat))->ks[i]? ≠ some k:=fun i h z=>nomatch h z;have no:(∀ i,ks[i]? = some k->i∈([]:List Nat))->k∉ks:=fun h z=>by
   obtain ⟨i,hi⟩:=ET.mp z; exact nomatch h i hi
 have plain:wpAny (yC prog w) A (dictWalkPlain d key (T7 w k) es places) Q E s:=by
   unfold dictWalkPlain; refine xD ?_; refine CM _ (fun rest r s'=>s'=s/\r=(none,())/\(∀ i∈rest,i∈places)/\∀ i,ks[i]? = some k->i∈rest) _ ?_ ?_ _ _ ⟨rfl,rfl,fun _ h=>h,hat⟩
   . rintro i U8 r s' ⟨rfl,rfl,hsub,hall⟩
     obtain ⟨e,he,hh⟩:=hin i (hsub i (.head _)); obtain ⟨k',e1,y,_⟩:=N.ent i e he; rw [he]; dsimp only; rw [if_pos hh]; refine xD (f8 ho hd ?_); refine xD (y.eq x hu ?_); refine xD (f8 ho hd ?_); rw [if_neg (by simp)];by_cases c:k'=k
     . subst c
       rw [if_pos ((Ka y.nk x.nk).mpr rfl)]; refine xD (i7 (xE ?_)); exact xE (q1 i e1)
     . rw [if_neg (fun z=>c ((Ka y.nk x.nk).mp z))]
       refine xD (i7 (xE ?_)); refine ⟨rfl,rfl,fun j hj=>hsub j (.tail _ hj),fun j hj=>?_⟩;rcases xG.mp (hall j hj) with rfl | z
       . rw [e1] at hj; cases hj; exact absurd rfl c
       . exact z
   . rintro r s' ⟨rfl,rfl,_,hall⟩
     exact xE (q0 (no hall))
 have hwalk : ∀ (f : Nat -> Option (Option Nat) × Option Nat -> Sem (ForInStep (Option (Option Nat) × Option Nat))), (∀ i e k' r2 (Q' : ForInStep (Option (Option Nat) × Option Nat) -> xH -> Prop), es[i]? = some e -> (e.hash == T7 w k) = true -> NAt s.heap e.key k' ->
     (k'=k->r2=none/\Q' (.done (some (some i),none)) s/\Q' (.yield (none,some i)) s)->(k'≠k->Q' (.yield (none,r2)) s)->wpAny (yC prog w) A (f i (none,r2)) Q' E s) ->
     wpAny (yC prog w) A (forIn places (none,none) f) (fun r s'=>s'=s/\((r.1=none/\((r.2=none/\k∉ks)\/∃ i,r.2=some i/\ks[i]? = some k))\/∃ i,r.1=some (some i)/\ks[i]? = some k)) E s:=fun f hf=>by
   refine CM _ (fun rest r s'=>s'=s/\r.1=none/\(∀ i∈rest,i∈places)/\rest.Nodup/\((r.2=none/\∀ i,ks[i]? = some k->i∈rest)\/∃ i,r.2=some i/\ks[i]? = some k/\i∉rest)) _ ?_ ?_ _ _ ⟨rfl,rfl,fun _ h=>h,hnd,.inl ⟨rfl,hat⟩⟩
   . rintro i U8 ⟨r1,r2⟩ s' ⟨rfl,rfl,hsub,hn,hr⟩
     obtain ⟨e,he,hh⟩:=hin i (hsub i (.head _)); obtain ⟨k',e1,y,_⟩:=N.ent i e he; rw [zS] at hn; refine hf i e k' r2 _ he hh y (fun c=>?_) fun c=>?_
     . subst c
       have h2:r2=none:=by
         rcases hr with ⟨z,_⟩ | ⟨j,_,z2,z3⟩
         . exact z
         . exact absurd (same i j _ e1 z2▸zV) z3
       exact ⟨h2,⟨rfl,.inr ⟨i,rfl,e1⟩⟩,rfl,rfl,fun j hj=>hsub j (.tail _ hj),hn.2,.inr ⟨i,rfl,e1,hn.1⟩⟩
     . refine ⟨rfl,rfl,fun j hj=>hsub j (.tail _ hj),hn.2,?_⟩
       rcases hr with ⟨z,hall⟩ | ⟨j,z1,z2,z3⟩
       . refine .inl ⟨z,fun j hj=>?_⟩
         rcases xG.mp (hall j hj) with rfl | z'
         . rw [e1] at hj; cases hj; exact absurd rfl c
         . exact z'
       . exact .inr ⟨j,z1,z2,fun z=>z3 (.tail _ z)⟩
   . rintro ⟨r1,r2⟩ s' ⟨rfl,rfl,_,_,hr⟩
     rcases hr with ⟨rfl,hall⟩ | ⟨j,rfl,z2,_⟩
     . exact ⟨rfl,.inl ⟨rfl,.inl ⟨rfl,no hall⟩⟩⟩
     . exact ⟨rfl,.inl ⟨rfl,.inr ⟨j,rfl,z2⟩⟩⟩
 have tell:∀ (Q':Bool->xH->Prop),Q' false s->wpAny (yC prog w) A (tableMayTell key (places.filterMap fun i=>es[i]?.map (·.key))) Q' E s:=fun Q' q'=>by
   unfold tableMayTell;split
   . exact xE q'
   . refine xD (x.quiet ?_)
     rw [if_neg (by decide)]; refine xD ?_; refine CM _ (fun rest r s'=>s'=s/\r=(none,())/\∀ v∈rest,∃ k',NAt s.heap v k') _ ?_ ?_ _ _ ⟨rfl,rfl,fun v hv=>?_⟩
     . rintro v U8 r s' ⟨rfl,rfl,hr⟩
       obtain ⟨k',y⟩:=hr v (.head _); refine xD (y.quiet ?_); rw [if_neg (by decide)]; exact xE ⟨rfl,rfl,fun v hv=>hr v (.tail _ hv)⟩
     . rintro r s' ⟨rfl,rfl,_⟩
       exact xE q'
     . obtain ⟨i,_,hi⟩:=GB.mp hv
       cases he:es[i]? with
       | none=>rw [he] at hi; cases hi
       | some e =>
         rw [he] at hi; have hk:e.key=v:=by simpa using hi
         obtain ⟨k',_,y,_⟩:=N.ent i e he; exact ⟨k',hk▸y⟩
 have fork:∀ (m:Bool->Sem (Option Nat)),wpAny (yC prog w) A (m false) Q E s->wpAny (yC prog w) A (if ((places.filterMap fun i=>es[i]?.map (·.key))==[key])=true then (pure false>>=m) else (tableMayTell key (places.filterMap fun i=>es[i]?.map (·.key))>>=m)) Q E s:=fun m h=>by
   split
   . exact xD (xE h)
   . exact xD (tell _ h)
 rcases x.val with ⟨_,rfl⟩ | ⟨z,t,rfl,rfl⟩ | ⟨b,rfl⟩
 . dsimp only
   by_cases hc:(j5::places.filterMap fun i=>es[i]?.map (·.key)).all JF=true
   . rw [if_pos hc]; exact plain
   . rw [if_neg hc]
     refine fork _ ?_; rw [if_neg (by simp)]; refine xD (e8 (hwalk _ fun i e k' r2 Q' he hh y c1 c0=>?_) (fun r s' z=>?_) fun _ _ z=>z)
     . dsimp only
       rw [he]; dsimp only; rw [if_pos hh]; refine xD (f8 ho hd (xD (y.eq x hu (xD (f8 ho hd ?_))))); rw [if_neg (by simp)];by_cases c:k'=k
       . obtain ⟨rfl,d1,d2⟩:=c1 c
         rw [if_pos ((Ka y.nk x.nk).mpr c),if_neg (by simp)]; refine xD (i7 ?_);split
         . exact xE d1
         . exact xE d2
       . rw [if_neg (fun z=>c ((Ka y.nk x.nk).mp z))]
         refine xD (i7 ?_); rw [if_neg (by simp)]; exact xE (c0 c)
     . obtain ⟨r1,r2⟩:=r
       obtain ⟨rfl,z⟩:=z; rcases z with ⟨rfl,z⟩ | ⟨i,rfl,z⟩
       . rcases z with ⟨rfl,z⟩ | ⟨i,rfl,z⟩
         . exact xE (q0 z)
         . exact xE (q1 i z)
       . exact xE (q1 i z)
 . by_cases hall:(es.all fun e=>isExactStrKey e.key)=true
   . dsimp only
     rw [if_pos hall]; have isk:∀ (i:Nat) e,es[i]? = some e->(e.key.isStr z=true↔ks[i]? = some (.str z)):=fun i e he=>by
       obtain ⟨k',e1,y,_⟩:=N.ent i e he; rw [e1]; rcases y.val with ⟨rfl,hv⟩ | ⟨z',t',rfl,hv⟩ | ⟨b,hv⟩
       . rw [hv]; exact ⟨fun h=>(by cases h),fun h=>absurd h (by simp)⟩
       . rw [hv]
         show (z'==z)=true↔_;rw [beq_iff_eq]; exact ⟨fun h=>(by rw [h]),fun h=>(by cases h; rfl)⟩
       . rw [hv]
         have:=GA.mp hall e (Array.mem_of_getElem? he); rw [hv] at this; cases this
     unfold foundByValue;cases hf:es.findIdx? (·.key.isStr z) with
     | none =>
       refine xE (q0 fun hm=>?_);obtain ⟨i,hi⟩:=ET.mp hm; have hlt:i < es.size:=by rw [N.len]; exact (yJ.mp hi).1
       have:=Array.findIdx?_eq_none_iff.mp hf es[i] (Array.getElem_mem hlt); rw [(isk i _ (zB hlt)).mpr hi] at this; cases this
     | some i =>
       obtain ⟨hlt,hp,_⟩:=Array.findIdx?_eq_some_iff_getElem.mp hf; have he:es[i]? = some es[i]:=zB hlt; have hi:=(isk i _ he).mp hp; obtain ⟨k',e1,y,_⟩:=N.ent i _ he; rw [hi] at e1; cases e1; dsimp only; rw [he]; dsimp only; refine xD (f8 ho hd (xD (y.eq x hu (xD (f8 ho hd ?_))))); rw [if_neg (by simp),if_pos ((Ka y.nk x.nk).mpr rfl)]; exact xD (i7 (xE (q1 i hi)))
   . dsimp only
     rw [if_neg hall];by_cases hc:(Value.str z t::places.filterMap fun i=>es[i]?.map (·.key)).all JF=true
     . rw [if_pos hc]; exact plain
     . rw [if_neg hc]
       refine fork _ ?_; rw [if_neg (by simp)]; refine xD (e8 (hwalk _ fun i e k' r2 Q' he hh y c1 c0=>?_) (fun r s' z=>?_) fun _ _ z=>z)
       . dsimp only
         rw [he]; dsimp only; rw [if_pos hh]; refine xD (f8 ho hd (xD (y.eq x hu (xD (f8 ho hd ?_))))); rw [if_neg (by simp)];by_cases c:k'=.str z
         . obtain ⟨rfl,d1,d2⟩:=c1 c
           rw [if_pos ((Ka y.nk x.nk).mpr c),if_neg (by simp)]; refine xD (i7 ?_);split
           . exact xE d1
           . exact xE d2
         . rw [if_neg (fun z=>c ((Ka y.nk x.nk).mp z))]
           refine xD (i7 ?_); rw [if_neg (by simp)]; exact xE (c0 c)
       . obtain ⟨r1,r2⟩:=r
         obtain ⟨rfl,z⟩:=z; rcases z with ⟨rfl,z⟩ | ⟨i,rfl,z⟩
         . rcases z with ⟨rfl,z⟩ | ⟨i,rfl,z⟩
           . exact xE (q0 z)
           . exact xE (q1 i z)
         . exact xE (q1 i z)
 . dsimp only
   by_cases hc:(k6 b::places.filterMap fun i=>es[i]?.map (·.key)).all JF=true
   . rw [if_pos hc]; exact plain
   . have hno : (es.any fun e => e.key == .ref b && e.hash != T7 w k) = false := by
       rw [Array.any_eq_false]; intro i hi; obtain ⟨k',e1,y,e3⟩:=N.ent i es[i] (zB hi);by_cases c:es[i].key=.ref b
       . have : k' = k := by
           rw [c] at y; obtain ⟨as,r1⟩:=x.rd; obtain ⟨bs,r2⟩:=y.rd; exact SeqAt.Reads.unique k' k _ _ _ y.lay r2 r1
         rw [e3,this]; simp
       . intro z
         rw [yE] at z; exact c (j6 z.1)
     rw [if_neg hc,if_neg (by rw [hno]; decide)];refine fork _ ?_; rw [if_neg (by simp)]; refine xD (e8 (hwalk _ fun i e k' r2 Q' he hh y c1 c0=>?_) (fun r s' z=>?_) fun _ _ z=>z)
     . dsimp only
       rw [he]; dsimp only; rw [if_pos hh]; refine xD (f8 ho hd (xD (y.eq x hu (xD (f8 ho hd ?_))))); rw [if_neg (by simp)];by_cases c:k'=k
       . obtain ⟨rfl,d1,d2⟩:=c1 c
         rw [if_pos ((Ka y.nk x.nk).mpr c),if_neg (by simp)]; refine xD (i7 ?_);split
         . exact xE d1
         . exact xE d2
       . rw [if_neg (fun z=>c ((Ka y.nk x.nk).mp z))]
         refine xD (i7 ?_); rw [if_neg (by simp)]; exact xE (c0 c)
     . obtain ⟨r1,r2⟩:=r
       obtain ⟨rfl,z⟩:=z; rcases z with ⟨rfl,z⟩ | ⟨i,rfl,z⟩
       . rcases z with ⟨rfl,z⟩ | ⟨i,rfl,z⟩
         . exact xE (q0 z)
         . exact xE (q1 i z)
       . exact xE (q1 i z)
end
end Sm
end
noncomputable section
namespace Sm
open PySem PySem.Spec PyProof.Rows PySem.W L2
noncomputable section
variable {prog:yI} {w:yR} {A:zL} {E:xF->xH->Prop} {s:xH}
theorem hu8 {A:zL} (h:A.units+16 < m8):A.in1.units+8 < m8:=by simp only [Around.in1_units]; lia
theorem EsN.get {h:zJ} {es:Array zO} {ks:List xC} (N:EsN w h es ks) {i:Nat} {k:xC} (hi:ks[i]? = some k):∃ e,es[i]? = some e:=by
 have hlt:i < es.size:=by rw [N.len]; exact (yJ.mp hi).1
 exact ⟨_,zB hlt⟩
theorem Kb {d:xO} {o:Obj} {es:Array zO} {ep:Nat} {ks:List xC} {key:xF} {k:xC} {Q:Option xF->xH->Prop} (hu:A.units+8 < m8) (ho:s.heap.get? d=some o) (hd:o.data=.dict es ep) (N:EsN w s.heap es ks) (x:NAt s.heap key k)
   (q1:∀ (i:Nat) (e:zO) tk,ks[i]? = some k->es[i]? = some e->Q (some e.val) { s with toks:=tk }) (q0:∀ tk,k∉ks->Q none { s with toks:=tk }):wpAny (yC prog w) A (dictGet d key) Q E s:=by
 unfold dictGet;try with_reducible refine zK ?_
 refine xD (x.hash hu fun tk=>?_);refine xD (aW (s:={ s with toks:=tk }) hu ho hd N x (fun i hi=>?_) fun hn=>xE (q0 tk hn));obtain ⟨e,he⟩:=N.get hi;refine xD (AL (s:={ s with toks:=tk }) ho hd (xE ?_));rw [he];exact q1 i e tk hi he
theorem aO (d:xO) (key dflt:xF) (hd:(d==p9)=false):MeetsIn prog w (k7.«dict.get» ⟨[.ref d,key,dflt],[]⟩) (fun A R s=>∃ (o:Obj) (es:Array zO) (ep:Nat) (ks:List xC) (k:xC),A.units+16 < m8/\s.heap.get? d=some o/\o.data=.dict es ep/\EsN w s.heap es ks/\NAt s.heap key k /\
   (∀ (i:Nat) (e:zO) tk,ks[i]? = some k->es[i]? = some e->R (.ok (.ret e.val)) { s with toks:=tk })/\∀ tk,k∉ks->R (.ok (.ret dflt)) { s with toks:=tk }) :=
 .of_wp fun A R s hZ3=>by
   obtain ⟨o,es,ep,ks,k,hu,ho,hD,N,x,h1,h0⟩:=hZ3; show wpAny _ _ (dictGet d key>>=_) _ _ s;refine xD (Kb (hu8 hu) ho hD N x (fun i e tk hi he=>xE ⟨_,rfl,h1 i e tk hi he⟩) fun tk hn=>?_);show wpAny _ _ (Builtin.Dict.missed d key>>=_) _ _ _;exact xD (wpAny_missed_other hd (xE ⟨dflt,rfl,h0 tk hn⟩))
theorem fZ (d:xO) (key:xF) (hd:(d==p9)=false):MeetsIn prog w (k7.«dict.__contains__» ⟨[.ref d,key],[]⟩) (fun A R s=>∃ (o:Obj) (es:Array zO) (ep:Nat) (ks:List xC) (k:xC),A.units+16 < m8/\s.heap.get? d=some o/\o.data=.dict es ep/\EsN w s.heap es ks/\NAt s.heap key k /\
   (∀ tk,k∈ks->R (.ok (.ret (.bool true))) { s with toks:=tk })/\∀ tk,k∉ks->R (.ok (.ret (.bool false))) { s with toks:=tk }) :=
 .of_wp fun A R s hZ3=>by
   obtain ⟨o,es,ep,ks,k,hu,ho,hD,N,x,h1,h0⟩:=hZ3; show wpAny _ _ (dictGet d key>>=_) _ _ s;refine xD (Kb (hu8 hu) ho hD N x (fun i e tk hi he=>xE ⟨_,rfl,h1 tk (j9 hi)⟩) fun tk hn=>?_);show wpAny _ _ (Builtin.Dict.pendingKey? d key>>=_) _ _ _;exact xD (wpAny_pendingKey_other hd (xE ⟨_,rfl,h0 tk hn⟩))
theorem Xy (d:xO) (key:xF):MeetsIn prog w (k7.«dict.__getitem__» ⟨[.ref d,key],[]⟩) (fun A R s=>∃ (o:Obj) (es:Array zO) (ep:Nat) (ks:List xC) (k:xC),A.units+16 < m8/\s.heap.get? d=some o/\o.data=.dict es ep/\EsN w s.heap es ks/\NAt s.heap key k/\k∈ks /\
   (∀ (i:Nat) (e:zO) tk,ks[i]? = some k->es[i]? = some e->R (.ok (.ret e.val)) { s with toks:=tk })) :=
 .of_wp fun A R s hZ3=>by
   obtain ⟨o,es,ep,ks,k,hu,ho,hD,N,x,hm,h1⟩:=hZ3; show wpAny _ _ (dictGet d key>>=_) _ _ s;exact xD (Kb (hu8 hu) ho hD N x (fun i e tk hi he=>xE ⟨_,rfl,h1 i e tk hi he⟩) fun tk hn=>absurd hm hn)
theorem Qw (d:xO) (key dflt:xF) (hd:(d==p9)=false):MeetsIn prog w (k7.«dict.setdefault» ⟨[.ref d,key,dflt],[]⟩) (fun A R s=>∃ (L:List zO) (ep:Nat) (ks:List xC) (k:xC),A.units+16 < m8/\s.heap.get? d=some { cls:=.type "dict",data:=.dict (IQ L) ep }/\L.length<=sizeLine/\EsN w s.heap L.toArray ks/\NAt s.heap key k /\
   (∀ (i:Nat) (e:zO) tk,ks[i]? = some k->L[i]? = some e->R (.ok (.ret e.val)) { s with toks:=tk }) /\
   ∀ (h':zJ) (tk:Nat),k∉ks->(∀ b o,b≠d->s.heap.get? b=some o->h'.get? b=some o)->h'.get? d=some { cls:=.type "dict",data:=.dict (L++[DictEntry.mk (T7 w k) key dflt]).toArray (ep+1) }->R (.ok (.ret dflt)) { s with heap:=h',toks:=tk }) :=
 .of_wp fun A R s hZ3=>by
   obtain ⟨L,ep,ks,k,hu,ho,hz,N,x,h1,h0⟩:=hZ3; unfold k7.«dict.setdefault»;refine xD ?_; unfold Builtin.Dict.keyAndDefault; refine xD (FR ⟨_,ho,rfl⟩ ?_); show wpAny _ _ (pure (d,key,some dflt)) _ _ s;refine xE ?_; show wpAny _ _ (if (d==p9)=true then _ else (dictSetDefault d key dflt>>=_)) _ _ s;rw [if_neg (by rw [hd]; exact l8)];refine xD ?_; unfold dictSetDefault;try with_reducible refine zK ?_
   refine xD (x.hash (hu8 hu) fun tk=>?_);refine xD (aW (s:={ s with toks:=tk }) (hu8 hu) ho rfl N x (fun i hi=>?_) fun hn=>?_)
   . obtain ⟨e,he⟩:=N.get hi
     refine xD (AL (s:={ s with toks:=tk }) ho rfl ?_); rw [he]; exact xD (i7 (xE (xE ⟨_,rfl,h1 i e tk hi (by simpa using he)⟩)))
   . refine xD (i7 (xD (wpAny_updateDictKeys (hz:=by simpa using hz) (s:={ s with toks:=tk }) ho rfl (xE (xE ⟨dflt,rfl,h0 _ tk hn (fun b o hb e=>?_) ?_⟩)))))
     . exact (FQ _ _ _ _ hb).trans e
     . have:=zX (ES fun x=>x.push ⟨T7 w k,key,dflt⟩) ho (FV (Obj.data_mapDictKeys rfl _))
       rw [this]; simp [ES]
end
end Sm
end
noncomputable section
namespace Sm
open PySem PySem.Spec PyProof.Rows PySem.W L2
mutual
theorem Yc {H:Hp}:∀ {d:xC} {v:V},KRep H d v->Rep H d v
 | .none,_,r=>r
 | .int _,_,r=>r
 | .str _,_,r=>r
 | .tuple _,_,r=>by obtain ⟨b,xs,e,q,l⟩:=r; exact ⟨b,xs,e,q,Sh l⟩
 | .bool _,_,r=>(show False from r).elim
 | .list _,_,r=>(show False from r).elim
 | .dict _,_,r=>(show False from r).elim
theorem Sh {H:Hp}:∀ {ds:List xC} {xs:List V},KRepL H ds xs->RepL H ds xs
 | [],_,r=>r
 | _::_,_,r=>by obtain ⟨x,t,e,q,l⟩:=r; exact ⟨x,t,e,Yc q,Sh l⟩
end
mutual
theorem Xf {G H:Hp} (hG:Same G H):∀ {d:xC} {v:V},isK d=true->Rep G d v->KRep H d v
 | .int _,_,_,r=>r
 | .str _,_,_,r=>r
 | .tuple _,_,k,r=>by obtain ⟨b,xs,e,q,l⟩:=r; exact ⟨b,xs,e,hG _ _ q,Ry hG (by simpa [isK] using k) l⟩
 | .none,_,k,_=>by simp [isK] at k
 | .bool _,_,k,_=>by simp [isK] at k
 | .list _,_,k,_=>by simp [isK] at k
 | .dict _,_,k,_=>by simp [isK] at k
theorem Ry {G H:Hp} (hG:Same G H):∀ {ds:List xC} {xs:List V},Hf ds=true->RepL G ds xs->KRepL H ds xs
 | [],_,_,r=>r
 | _::_,_,k,r=>by
   simp only [Hf,yE] at k; obtain ⟨x,t,e,q,l⟩:=r; exact ⟨x,t,e,Xf hG k.1 q,Ry hG k.2 l⟩
end
theorem O7 {d:xC} (hn:nkD d=true):(d=.none\/(isK d=true/\((∃ xs,d=.tuple xs)\/∃ z,d=.str z)))/\d.depth<=8:=by
 unfold nkD at hn;split at hn
 . exact ⟨.inl rfl,by simp [zR]⟩
 . exact ⟨.inr ⟨by simp [isK],.inr ⟨_,rfl⟩⟩,by simp [zR]⟩
 . rw [yE] at hn
   exact ⟨.inr ⟨by simpa [isK] using hn.1,.inl ⟨_,rfl⟩⟩,of_decide_eq_true hn.2⟩
 . cases hn
theorem Om {G H:Hp} (hG:Same G H) {d:xC} {v:V} (hn:nkD d=true) (r:Rep G d v):KRep H d v:=by
 rcases (O7 hn).1 with rfl | ⟨k,_⟩
 . exact r
 . exact Xf hG k r
noncomputable def N8 (kvs:List (xC×V)) (k:xC):Option V:=(kvs.find? fun p=>xX p.1 k).map (·.2)
noncomputable def F1 (kvs:List (xC×xC)) (k:xC):Option xC:=(kvs.find? fun p=>xX p.1 k).map (·.2)
theorem Ja {G:Hp} {k:xC}:∀ {kvs:List (xC×xC)} {kk:List (xC×V)},kvs.map (·.1)=kk.map (·.1)->RepL G (kvs.map (·.2)) (kk.map (·.2)) ->
   (F1 kvs k=none/\N8 kk k=none)\/∃ d v,F1 kvs k=some d/\N8 kk k=some v/\Rep G d v
 | [],[],_,_=>.inl ⟨rfl,rfl⟩
 | [],_::_,e,_=>by cases e
 | _::_,[],e,_=>by cases e
 | p::kvs,q::kk,e,r=>by
   simp only [xL,AO] at e; obtain ⟨x,t,ex,rx,l⟩:=r; simp only [xL,AO] at ex; unfold F1 N8; rw [yN,yN,e.1];cases hq:xX q.1 k with
   | true=>exact .inr ⟨p.2,q.2,rfl,rfl,by rw [ex.1]; exact rx⟩
   | false=>exact Ja (k:=k) e.2 (by rw [ex.2]; exact l)
theorem Es {k:xC} (hk:nkD k=true):∀ {kk:List (xC×V)} {i:Nat} {v:V},(∀ p∈kk,nkD p.1=true)->(kk.map (·.1)).Nodup->kk[i]? = some (k,v)->N8 kk k=some v
 | [],_,_,_,_,h=>by simp at h
 | p::kk,i,v,hn,nd,h=>by
   unfold N8; rw [yN]; have hp:=Ka (O7 (hn p (.head _))).1 (O7 hk).1;cases i with
   | zero =>
     simp at h;subst h; rw [hp.mpr rfl]; rfl
   | succ i =>
     rw [xL,zS] at nd; have hm:(k,v)∈kk:=j9 (by simpa using h);cases hq:xX p.1 k with
     | true=>exact absurd (by rw [hp.mp hq]; exact zA hm) nd.1
     | false=>exact Es hk (fun q hq=>hn q (.tail _ hq)) nd.2 (by simpa using h)
theorem Jb {k:xC} (hk:nkD k=true) {kk:List (xC×V)} (hn:∀ p∈kk,nkD p.1=true) (h:k∉kk.map (·.1)):N8 kk k=none:=by
 unfold N8;rw [List.find?_eq_none.mpr]; · rfl
 intro p hp z;exact h (by rw [<- (Ka (O7 (hn p hp)).1 (O7 hk).1).mp z]; exact zA hp)
theorem Paired.at' {α β:Type} {F:α->β->Prop}:∀ {l₁:List α} {l₂:List β} {i:Nat} {a:α},j3 F l₁ l₂->l₁[i]? = some a->∃ b,l₂[i]? = some b/\F a b
 | _,_,i,_,.nil,h=>by simp at h
 | _,_,0,_,.cons r _,h=>by simp at h; subst h; exact ⟨_,rfl,r⟩
 | _,_,i+1,_,.cons _ t,h=>Paired.at' (i:=i) t (by simpa using h)
noncomputable section
variable {X:Cx} {pins:List (xO×Obj)} {Z:St} {H:Hp} {s:xH} {a:xO} {A:zL} {E:xF->xH->Prop}
theorem Jt (I:Inv X pins Z H s) {d:xC} {v:V} {u:xF} (r:KRep H d v) (hv:RelV v u) (hn:nkD d=true):NAt s.heap u d:=by
 have rr:=Yc r;exact ⟨rr.reads I (Same.refl _) hv,(O7 hn).1,rr.lay,(O7 hn).2⟩
abbrev PrN (H:Hp):xC×V->xF×xF->Prop:=fun p q=>(∃ v,KRep H p.1 v/\RelV v q.1)/\RelV p.2 q.2
theorem Mi {w:yR} {kvs:List (xC×V)} {xs:List (xF×xF)} (r:j3 (PrN H) kvs xs) {i:Nat} {e:zO} (he:(O9 w kvs xs)[i]? = some e) :
   ∃ p q,kvs[i]? = some p/\xs[i]? = some q/\PrN H p q/\e=⟨T7 w p.1,q.1,q.2⟩:=by
 unfold O9 at he;rw [List.getElem?_zipWith] at he;cases hp:kvs[i]? with
 | none=>rw [hp] at he; simp at he
 | some p =>
   obtain ⟨q,hq,hF⟩:=Paired.at' r hp; rw [hp,hq] at he; simp at he;exact ⟨p,q,rfl,hq,hF,he.symm⟩
theorem Paired.len' {α β:Type} {F:α->β->Prop}:∀ {l₁:List α} {l₂:List β},j3 F l₁ l₂->l₁.length=l₂.length
 | _,_,.nil=>rfl
 | _,_,.cons _ t=>by simp [Paired.len' t]
theorem Pc (I:Inv X pins Z H s) {kvs:List (xC×V)} {xs:List (xF×xF)} (r:j3 (PrN H) kvs xs) (nk:∀ p∈kvs,nkD p.1=true) (nd:(kvs.map (·.1)).Nodup):EsN X.w s.heap (O9 X.w kvs xs).toArray (kvs.map (·.1)) where
 len:=by
   have:=Paired.len' r; simp [O9,this]
 ent:=fun i e he=>by
   obtain ⟨p,q,h1,h2,⟨⟨v,h3,h4⟩,h5⟩,rfl⟩:=Mi r (by simpa using he);exact ⟨p.1,by rw [yQ,h1]; rfl,Jt I h3 h4 (nk p (j9 h1)),rfl⟩
 nd:=nd
theorem vK {kvs:List (xC×V)} {kd:xC} {y d:V} {u r:xF} {Q:xF->xH->Prop} (hu:A.units+16 < m8) (I:Inv X pins Z H s) (e:Rd H a (.dN kvs)) (rk:KRep H kd y) (hk:nkD kd=true) (ry:RelV y u) (rd:RelV d r)
   (h:∀ w' s',Inv X pins Z H s'->RelV ((N8 kvs kd).getD d) w'->Q w' s'):wpAny (yC X.prog X.w) A (call (.builtin "dict.get") [.ref a,u,r]) Q E s:=by
 obtain ⟨z,hd,nd,nk,xs,rel,ep,e1⟩:=e.ok I.hok;refine HG F.slot_dict_get ⟨_,e1,rfl⟩ F.entry_dict_get (F.args_dict_get_3 _ _ _) (aO a u r hd) ⟨_,_,ep,kvs.map (·.1),kd,hu,e1,rfl,Pc I rel nk nd,Jt I rk ry hk,fun i e tk hi he=>h _ _ (I.tok _) ?_,fun tk hn=>h _ _ (I.tok _) ?_⟩
 . obtain ⟨p,q,h1,h2,⟨_,h5⟩,rfl⟩:=Mi rel (by simpa using he)
   rw [yQ,h1] at hi; have hp:p=(kd,p.2):=by
     have:p.1=kd:=by simpa using hi
     rw [<- this]
   rw [hp] at h1; rw [Es hk nk nd h1]; exact h5
 . rw [Jb hk nk hn]
   exact rd
end
def tR (td ty tx:TE):TE:=fun Z H Q=>td Z H fun x H1=>∃ a kvs,x=.ref a/\Rd H1 a (.dN kvs)/\ty Z H1 fun y H2=>tx Z H2 fun z H3=>∃ kvs kd,Rd H3 a (.dN kvs)/\KRep H3 kd y/\nkD kd=true/\Q ((N8 kvs kd).getD z) H3
noncomputable section
variable {X:Cx} {o e f:Expr} {apos cpos:Pos} {td ty tx:TE}
theorem kK (hu:X.A.units+16 < m8) (ho:PE X o td) (he:PE X e ty) (hf:PE X f tx) (m:M2 X o "get" apos e f cpos):PE X (.Call (.Attribute o "get" apos) [e,f] [] cpos) (tR td ty tx):=by
 intro pins s Z H Q I h;refine wpAny_Call_method m.base m.few m.line HM PySem.F.slot_dict_get PySem.F.type_dict_get (thn (ho pins s Z H _ I h) fun u s1 hZ2=>?_);obtain ⟨x,H1,I1,rx,a,kvs,ex,d,q1⟩:=hZ2;subst ex;obtain rfl:u=k6 a:=rx;obtain ⟨_,_,_,_,_,_,ep,e1⟩:=d.ok I1.hok;refine ⟨⟨_,e1,rfl⟩,fun b q=>by cases q; exact ⟨_,e1,rfl⟩,?_⟩;rw [m.trees];refine BL rfl (FB (BD (thn (he pins s1 Z H1 _ I1 q1) fun iv s2 hY79=>?_)));obtain ⟨y,H2,I2,ry,q2⟩:=hY79;refine BD (thn (hf pins s2 Z H2 _ I2 q2) fun fv s3 hY80=>?_)
 obtain ⟨z,H3,I3,rz,kvs,kd,g,rk,hk,q3⟩:=hY80;refine GF ?_;exact vK hu I3 g rk hk ry rz fun w' s4 I4 rw'=>⟨_,H3,I4,rw',q3⟩
end
noncomputable def kvN (δ:Dn) (i:Nat):Option Kvs:=match δ[i]? with
 | some (.ow (.tuple [.dict kvs,.none]))=>some kvs
 | some (.fd ((.dict [],.none)::kvs))=>some kvs
 | _=>none
theorem SR.kvN {G H:Hp} {Z:St} {δ:Dn} {i:Nat} {kvs:Kvs} (S:SR G H Z δ) (h:kvN δ i=some kvs):∃ q,∃ kk:List (xC×V),Z[i]? = some (some (.ref q))/\Rd H q (.dN kk)/\kvs.map (·.1)=kk.map (·.1)/\RepL G (kvs.map (·.2)) (kk.map (·.2)):=by
 unfold Sm.kvN at h;split at h
 . rename_i kvs' hi
   cases h; obtain ⟨q,hσ,hq,ho⟩:=S.own hi; obtain ⟨kk,hx,hk,hv⟩:=(show OwnK G H q [.dict kvs,.none] from ho);exact ⟨q,kk,hσ,.inl hx,hk,hv⟩
 . rename_i kvs' hi
   cases h; obtain ⟨q,kk,hp,hx,hk,hv⟩:=(show FdOk G (Z[i]?.join) ((.dict [],.none)::kvs) from S.sl i _ hi);refine ⟨q,kk,?_,Rd.mono S.sub hx,hk,hv⟩;cases e:Z[i]? with
   | none=>rw [e] at hp; cases hp
   | some z =>
     rw [e] at hp;cases z with
     | none=>cases hp
     | some z=>cases hp; rfl
 . cases h
noncomputable def Mp (i:Nat) (f g:Dn->Res xC):Dn->Res xC:=fun δ=>match kvN δ i with
 | some kvs=>(f δ).bind fun kd=>(g δ).bind fun dd=>if nkD kd=true then .ok ((F1 kvs kd).getD dd) else .no
 | none=>.no
noncomputable section
variable {P:yI} {w:yR} {K:xI} {mg:Str->Option xF} {base:zJ} {X:Cx} {N:List Str} {sc:Scope} {k:Nat} {df:Bool} {E:EK} {p apos cpos:Pos} {a b:Expr} {f g:Dn->Res xC} {x:Str}
theorem mR (C:Cxt P w K mg base X N sc k df) (i:Nat) (h:okVar N sc i x=true) (hk:DE X E a f) (hg:DE X E b g) (m:M2 X (.Name x p) "get" apos a b cpos:=by exact ⟨rfl,rfl,rfl,rfl⟩):DE X E (.Call (.Attribute (.Name x p) "get" apos) [a,b] [] cpos) (Mp i f g):=by
 refine PE.imp (kK (by have:=C.hu; lia) (okVar.pe C h) hk hg m) fun Z H Q hY81=>?_;obtain ⟨G,δ,S,aft⟩:=hY81;unfold Mp at aft;split at aft
 . rename_i kvs hi
   obtain ⟨q,kk,hσ,hx,hkeys,hvals⟩:=S.kvN hi; refine ⟨.ref q,hσ,q,kk,rfl,hx,?_⟩; refine L5 S aft fun kd v G1 H1 g1 r1 S1 a1=>?_;refine L5 S1 a1 fun dd v2 G2 H2 g2 r2 S2 a2=>?_;split at a2
   . rename_i hn
     refine ⟨kk,kd,Rd.mono g2.h (Rd.mono g1.h hx),Om S2.sub hn (r1.mono g2.g),hn,?_⟩; rcases Ja (k:=kd) hkeys hvals with ⟨n1,n2⟩ | ⟨d0,v0,n1,n2,rd⟩
     . rw [n1] at a2; rw [n2]
       exact a2 _ G2 H2 (Grow.refl S2.sub) r2
     . rw [n1] at a2; rw [n2]
       exact a2 _ G2 H2 (Grow.refl S2.sub) (rd.mono (g1.g.trans g2.g))
   . exact a2.elim
 . exact aft.elim
end
end Sm
end
noncomputable section
namespace Sm
open PySem PySem.Spec PyProof.Rows PySem.W L2
theorem Yn {w:yR} {kvs:List (xC×V)} {xs:List (xF×xF)} {p:xC×V} {q:xF×xF} (h:kvs.length=xs.length):O9 w (kvs++[p]) (xs++[q])=O9 w kvs xs++[⟨T7 w p.1,q.1,q.2⟩]:=by
 unfold O9;rw [List.zipWith_append h]; rfl
theorem Paired.app' {α β:Type} {F:α->β->Prop} {a:α} {b:β} (h:F a b):∀ {l₁:List α} {l₂:List β},j3 F l₁ l₂->j3 F (l₁++[a]) (l₂++[b])
 | _,_,.nil=>.cons h .nil
 | _,_,.cons r t=>.cons r (Paired.app' h t)
noncomputable section
variable {X:Cx} {pins:List (xO×Obj)} {Z:St} {H:Hp} {s:xH} {a:xO} {A:zL} {E:xF->xH->Prop}
theorem vI {kvs:List (xC×V)} {kd:xC} {y d:V} {u r:xF} {Q:xF->xH->Prop} (hu:A.units+16 < m8) (I:Inv X pins Z H s) (e:H a=some (.dN kvs)) (rk:KRep H kd y) (hk:nkD kd=true) (hz:kvs.length < sizeLine) (ry:RelV y u) (rd:RelV d r)
   (h1:∀ v w' s',N8 kvs kd=some v->Inv X pins Z H s'->RelV v w'->Q w' s') (h0:∀ s',N8 kvs kd=none->Inv X pins Z (upd H a (.dN (kvs++[(kd,d)]))) s'->Q r s'):wpAny (yC X.prog X.w) A (call (.builtin "dict.setdefault") [.ref a,u,r]) Q E s:=by
 obtain ⟨z,hd,nd,nk,xs,rel,ep,e1⟩:=I.hok a _ e;have hl:=Paired.len' rel;have hlen:(O9 X.w kvs xs).length<=sizeLine:=by
   unfold O9; rw [List.length_zipWith]; lia
 refine HG F.slot_dict_setdefault ⟨_,e1,rfl⟩ F.entry_dict_setdefault (F.args_dict_setdefault_3 _ _ _) (Qw a u r hd) ⟨_,ep,kvs.map (·.1),kd,hu,e1,hlen,Pc I rel nk nd,Jt I rk ry hk,fun i e tk hi he=>?_,fun h' tk hn hkeep hnew=>?_⟩
 . obtain ⟨p,q,g1,g2,⟨_,g5⟩,rfl⟩:=Mi rel he
   rw [yQ,g1] at hi; have hp:p=(kd,p.2):=by
     have:p.1=kd:=by simpa using hi
     rw [<- this]
   rw [hp] at g1; exact h1 p.2 _ _ (Es hk nk nd g1) (I.tok _) g5
 . refine h0 _ (Jb hk nk hn) ?_
   have ht:∀ b ys,H b=some (.tup ys)->(upd H a (.dN (kvs++[(kd,d)]))) b=some (.tup ys):=fun b ys z=>by
     rw [C3 (cO z e (fun z=>by cases z))]; exact z
   refine I.write (x:=a) (e:=a) (t':=tk) (by rw [e]; exact trivial) (.inl rfl) (fun b o hb q=>hkeep b o hb q) ⟨_,hnew⟩ ⟨by rw [yB]; show _+1<=_; lia,hd,?_,?_,xs++[(u,r)],?_,ep+1,?_⟩
   . rw [yV,z9]
     refine ⟨nd,by simp,fun x hx y hy=>?_⟩;have:y=kd:=by simpa using hy
     subst this; exact fun z=>hn (z▸hx)
   . intro p hp
     rcases xY.mp hp with hp | hp
     . exact nk p hp
     . rw [xS.mp hp]; exact hk
   . exact Paired.app' ⟨⟨y,rk.mono ht,ry⟩,rd⟩ (Paired.mapP rel fun p q hZ2=>by obtain ⟨⟨v,z1,z2⟩,z3⟩:=hZ2; exact ⟨⟨v,z1.mono ht,z2⟩,z3⟩)
   . rw [Yn hl]; exact hnew
end
def tQ (td ty tx:TE):TE:=fun Z H Q=>td Z H fun x H1=>∃ a kvs,x=.ref a/\H1 a=some (.dN kvs)/\ty Z H1 fun y H2=>tx Z H2 fun z H3=>∃ kvs kd,H3 a=some (.dN kvs)/\KRep H3 kd y/\nkD kd=true/\kvs.length < sizeLine /\
 (∀ v,N8 kvs kd=some v->Q v H3)/\(N8 kvs kd=none->Q z (upd H3 a (.dN (kvs++[(kd,z)]))))
noncomputable section
variable {X:Cx} {o e f:Expr} {apos cpos:Pos} {td ty tx:TE}
theorem kJ (hu:X.A.units+16 < m8) (ho:PE X o td) (he:PE X e ty) (hf:PE X f tx) (m:M2 X o "setdefault" apos e f cpos):PE X (.Call (.Attribute o "setdefault" apos) [e,f] [] cpos) (tQ td ty tx):=by
 intro pins s Z H Q I h;refine wpAny_Call_method m.base m.few m.line HM PySem.F.slot_dict_setdefault PySem.F.type_dict_setdefault (thn (ho pins s Z H _ I h) fun u s1 hZ2=>?_);obtain ⟨x,H1,I1,rx,a,kvs,ex,d,q1⟩:=hZ2;subst ex;obtain rfl:u=k6 a:=rx;obtain ⟨_,_,_,_,_,_,ep,e1⟩:=I1.hok a _ d;refine ⟨⟨_,e1,rfl⟩,fun b q=>by cases q; exact ⟨_,e1,rfl⟩,?_⟩;rw [m.trees];refine BL rfl (FB (BD (thn (he pins s1 Z H1 _ I1 q1) fun iv s2 hY82=>?_)));obtain ⟨y,H2,I2,ry,q2⟩:=hY82;refine BD (thn (hf pins s2 Z H2 _ I2 q2) fun fv s3 hY83=>?_)
 obtain ⟨z,H3,I3,rz,kvs,kd,g,rk,hk,hz,q3,q4⟩:=hY83;refine GF ?_;exact vI hu I3 g rk hk hz ry rz (fun v w' s4 hv I4 rw'=>⟨v,H3,I4,rw',q3 v hv⟩) fun s4 hv I4=>⟨z,_,I4,rz,q4 hv⟩
end
noncomputable def Ma:List (xC×xC)->xC->xC->List (xC×xC)
 | [],k,v=>[(k,.list [v])]
 | p::r,k,v=>if xX p.1 k=true then (match p.2 with | .list ds=>(p.1,.list (ds++[v])) | d=>(p.1,d))::r else p::Ma r k v
end Sm
end
noncomputable section
namespace Sm
open PySem PySem.Spec PyProof.Rows PySem.W L2
noncomputable def NL (G H H1:Hp):List (xC×xC)->List (xC×xO×List V)->Prop
 | [],[]=>True
 | p::kvs,r::kk=>p.1=r.1/\(∃ ds,p.2=.list ds/\RepL G ds r.2.2)/\(H r.2.1=some (.lst r.2.2)/\G r.2.1=none/\H1 r.2.1=none)/\NL G H H1 kvs kk
 | _,_=>False
abbrev prs (kk:List (xC×xO×List V)):List (xC×V):=kk.map fun r=>(r.1,.ref r.2.1)
noncomputable section
variable {G G' H H' H1:Hp}
theorem NL.keep (g:Same G G'):∀ {kvs:List (xC×xC)} {kk:List (xC×xO×List V)},(∀ r∈kk,H r.2.1=some (.lst r.2.2)->G r.2.1=none->H1 r.2.1=none->H' r.2.1=some (.lst r.2.2)/\G' r.2.1=none)->NL G H H1 kvs kk->NL G' H' H1 kvs kk
 | [],[],_,h=>h
 | [],_::_,_,h=>h
 | _::_,[],_,h=>h
 | _::_,r::_,k,⟨h1,⟨ds,h2,h3⟩,⟨h4,h5,h6⟩,h7⟩=>⟨h1,⟨ds,h2,h3.mono g⟩,⟨(k r (.head _) h4 h5 h6).1,(k r (.head _) h4 h5 h6).2,h6⟩,NL.keep g (fun r hr=>k r (.tail _ hr)) h7⟩
theorem NL.grow (g:Grow G H G' H') {kvs:List (xC×xC)} {kk:List (xC×xO×List V)} (h:NL G H H1 kvs kk):NL G' H' H1 kvs kk:=by
 refine h.keep g.g fun r _ e n _=>⟨g.h _ _ e,?_⟩;cases q:G' r.2.1 with
 | none=>rfl
 | some u =>
   rcases g.fr _ u q with y | y | ⟨ys,rfl⟩
   . rw [n] at y; cases y
   . rw [e] at y; cases y
   . have:=g.gh _ _ q; rw [g.h _ _ e] at this; cases this
theorem NL.mem:∀ {kvs:List (xC×xC)} {kk:List (xC×xO×List V)},NL G H H1 kvs kk->∀ r∈kk,H r.2.1=some (.lst r.2.2)/\G r.2.1=none/\H1 r.2.1=none
 | [],[],_,_,m=>nomatch m
 | [],_::_,h,_,_=>h.elim
 | _::_,[],h,_,_=>h.elim
 | _::_,r::_,⟨_,_,h4,h7⟩,x,m=>by
   rcases xG.mp m with rfl | m
   . exact h4
   . exact NL.mem h7 x m
theorem NL.keys:∀ {kvs:List (xC×xC)} {kk:List (xC×xO×List V)},NL G H H1 kvs kk->kvs.map (·.1)=(prs kk).map (·.1)
 | [],[],_=>rfl
 | [],_::_,h=>h.elim
 | _::_,[],h=>h.elim
 | _::_,_::_,⟨h1,_,_,h7⟩=>by
   simp only [xL,h1]; rw [NL.keys h7]
theorem NL.new {p:xO} {y:V} {kd vd:xC} (rv:Rep G vd y) (hp:H p=some (.lst [y])/\G p=none/\H1 p=none):∀ {kvs:List (xC×xC)} {kk:List (xC×xO×List V)},NL G H H1 kvs kk->N8 (prs kk) kd=none->NL G H H1 (Ma kvs kd vd) (kk++[(kd,p,[y])])
 | [],[],_,_=>⟨rfl,⟨[vd],rfl,RepL.cons rv rfl⟩,hp,trivial⟩
 | [],_::_,h,_=>h.elim
 | _::_,[],h,_=>h.elim
 | q::kvs,r::kk,⟨h1,h2,h4,h7⟩,e=>by
   unfold N8 at e; rw [show prs (r::kk)=(r.1,.ref r.2.1)::prs kk from rfl,yN] at e;cases z:xX r.1 kd with
   | true=>rw [z] at e; cases e
   | false =>
     rw [z] at e; unfold Ma; rw [h1,z,if_neg (by decide)]; exact ⟨h1,h2,h4,NL.new rv hp h7 e⟩
theorem NL.put {kd:xC} {v:V}:∀ {kvs:List (xC×xC)} {kk:List (xC×xO×List V)},NL G H H1 kvs kk->(kk.map (·.2.1)).Nodup->N8 (prs kk) kd=some v ->
   ∃ l xs,v=.ref l/\(∃ r∈kk,r.2=(l,xs))/\∀ (y:V) (vd:xC),Rep G vd y->∃ kk',prs kk'=prs kk/\kk'.map (·.2.1)=kk.map (·.2.1)/\(∀ r∈kk',r.2.2.length<=xs.length+1\/r∈kk)/\NL G (upd H l (.lst (xs++[y]))) H1 (Ma kvs kd vd) kk'
 | [],[],_,_,e=>by cases e
 | [],_::_,h,_,_=>h.elim
 | _::_,[],h,_,_=>h.elim
 | q::kvs,r::kk,⟨h1,⟨ds,h2,h3⟩,⟨h4,h5,h6⟩,h7⟩,nd,e=>by
   rw [xL,zS] at nd; unfold N8 at e; rw [show prs (r::kk)=(r.1,.ref r.2.1)::prs kk from rfl,yN] at e;cases z:xX r.1 kd with
   | true =>
     rw [z] at e; cases e; refine ⟨r.2.1,r.2.2,rfl,⟨r,.head _,rfl⟩,fun y vd rv=>⟨(r.1,r.2.1,r.2.2++[y])::kk,rfl,rfl,fun x hx=>?_,?_⟩⟩
     . rcases xG.mp hx with rfl | hx
       . left; simp
       . exact .inr (.tail _ hx)
     . unfold Ma
       rw [h1,z,if_pos rfl,h2]; refine ⟨rfl,⟨ds++[vd],rfl,h3.append (RepL.cons rv rfl)⟩,⟨C1,h5,h6⟩,h7.keep (Same.refl _) fun x hx e n _=>⟨?_,n⟩⟩;rw [C3 (fun w=>nd.1 (by rw [<- w]; exact zA hx))]; exact e
   | false =>
     rw [z] at e; obtain ⟨l,xs,e1,⟨r0,m0,e0⟩,k⟩:=NL.put h7 nd.2 e; have hl:l∈kk.map (·.2.1):=yH.mpr ⟨r0,m0,by rw [e0]⟩;refine ⟨l,xs,e1,⟨r0,.tail _ m0,e0⟩,fun y vd rv=>?_⟩;obtain ⟨kk',k1,k2,k3,k4⟩:=k y vd rv; refine ⟨r::kk',congrArg (List.cons (r.1,V.ref r.2.1)) k1,congrArg (List.cons r.2.1) k2,fun x hx=>?_,?_⟩
     . rcases xG.mp hx with rfl | hx
       . exact .inr (.head _)
       . rcases k3 x hx with w | w
         . exact .inl w
         . exact .inr (.tail _ w)
     . unfold Ma
       rw [h1,z,if_neg (by decide)]; exact ⟨h1,⟨ds,h2,h3⟩,⟨by rw [C3 (fun w=>nd.1 (by rw [w]; exact hl))]; exact h4,h5,h6⟩,k4⟩
noncomputable def shG (as:List xO) (G H:Hp):Hp:=fun b=>open Classical in if b∈as then H b else G b
theorem jM {as:List xO} {b:xO} (h:b∈as):shG as G H b=H b:=by unfold shG; rw [if_pos h]
theorem Ij {as:List xO} {b:xO} (h:b∉as):shG as G H b=G b:=by unfold shG; rw [if_neg h]
theorem NL.same {kvs:List (xC×xC)} {kk:List (xC×xO×List V)} (h:NL G H H1 kvs kk):Same G (shG (kk.map (·.2.1)) G H):=fun b u e=>by
 by_cases m:b∈kk.map (·.2.1)
 . obtain ⟨r,hr,rfl⟩:=yH.mp m
   rw [(h.mem r hr).2.1] at e; cases e
 . rw [Ij m]; exact e
theorem NL.vals {as:List xO} (s:Same G (shG as G H)):∀ {kvs:List (xC×xC)} {kk:List (xC×xO×List V)},NL G H H1 kvs kk->(∀ r∈kk,r.2.1∈as)->RepL (shG as G H) (kvs.map (·.2)) ((prs kk).map (·.2))
 | [],[],_,_=>rfl
 | [],_::_,h,_=>h.elim
 | _::_,[],h,_=>h.elim
 | q::kvs,r::kk,⟨_,⟨ds,h2,h3⟩,⟨h4,_,_⟩,h7⟩,m=>by
   rw [xL,h2]; exact RepL.cons ⟨r.2.1,r.2.2,rfl,.inl (by rw [jM (m r (.head _))]; exact h4),h3.mono s⟩ (NL.vals s h7 fun x hx=>m x (.tail _ hx))
end
theorem SR.forget {G H:Hp} {Z:St} {δ:Dn} (S:SR G H Z δ) (i:Nat):SR G H Z (δ.set i .un):=by
 have key:∀ (j:Nat) (s:Sl),(δ.set i .un)[j]? = some s->s=.un\/δ[j]? = some s:=fun j s e=>by
   rw [D8] at e;split at e
   . cases e; exact .inl rfl
   . exact .inr e
 refine ⟨S.sub,by simp [S.len],fun j s e=>?_,fun j1 j2 a d1 d2 e1 e2 h1 h2=>?_⟩
 . rcases key j s e with rfl | e
   . trivial
   . exact S.sl j s e
 . rcases key j1 _ e1 with z | e1
   . cases z
   . rcases key j2 _ e2 with z | e2
     . cases z
     . exact S.ap j1 j2 a d1 d2 e1 e2 h1 h2
theorem SSt.forget {G0 H0 G H:Hp} {Z:St} {δ:Dn} (S:SSt G0 H0 G H Z δ) (i:Nat):SSt G0 H0 G H Z (δ.set i .un) :=
 ⟨S.gr,S.sr.forget i,fun j d a e h=>by
   rw [D8] at e;split at e
   . cases e
   . exact S.fr j d a e h⟩
theorem OwnOk.off {G H H':Hp} {a:xO} {d:xC} (e:H' a=H a) (h:OwnOk G H a d):OwnOk G H' a d:=by
 cases d with
 | list ds=>obtain ⟨xs,q,r⟩:=h; exact ⟨xs,e.trans q,r⟩
 | dict kvs=>obtain ⟨xs,q,r⟩:=h; exact ⟨xs,e.trans q,r⟩
 | tuple xs=>exact OwnK.keep (Same.refl _) (fun o q=>e.trans q) h
 | _=>exact (show False from h).elim
theorem SSt.off {G0 H0 G H H':Hp} {Z:St} {δ:Dn} (S:SSt G0 H0 G H Z δ) (h0:Same H0 H') (hg:Same G H') (k:∀ (j:Nat) (d:xC) (a:xO),δ[j]? = some (.ow d)->Z[j]?.join=some (.ref a)->H' a=H a):SSt G0 H0 G H' Z δ:=by
 refine ⟨⟨S.gr.g,h0,hg,S.gr.fr⟩,⟨hg,S.sr.len,fun j s e=>?_,S.sr.ap⟩,S.fr⟩;have hs:=S.sr.sl j s e;cases s with
 | un=>trivial
 | sh d=>exact hs
 | fd _=>exact hs
 | ow d =>
   obtain ⟨a,e1,n1,ok⟩:=hs; exact ⟨a,e1,n1,ok.off (k j d a e e1)⟩
end Sm
end
noncomputable section
namespace Sm
open PySem PySem.Spec PyProof.Rows PySem.W L2
noncomputable def Qy (δ:Dn) (t:Nat) (c:Dn->Res Bool) (fk fv:Dn->Res xC):List xC->List (xC×xC)->Res Kvs
 | [],kvs=>.ok kvs
 | d::ds,kvs=>match c (δ.set t (.sh d)) with
   | .ok true=>match fk (δ.set t (.sh d)) with
     | .ok kd=>match fv (δ.set t (.sh d)) with
       | .ok vd=>if nkD kd=true then Qy δ t c fk fv ds (Ma kvs kd vd) else .no
       | _=>.no
     | _=>.no
   | .ok false=>Qy δ t c fk fv ds kvs
   | _=>.no
noncomputable def oF (i t:Nat) (src:Dn->Res (List xC)) (c:Dn->Res Bool) (fk fv:Dn->Res xC):Dn->Out:=fun δ=>match δ[i]? with
 | some (.ow (.tuple [.dict [],.none]))=>M5 (src (δ.set i .un)) fun ds=>if ds.length < 1000/\i≠t then (match Qy ((δ.set i .un).set t .un) t c fk fv ds [] with
   | .ok kvs=>.nx ((δ.set i (.ow (.tuple [.dict kvs,.none]))).set t .un)
   | _=>.no) else .no
 | _=>.no
structure GrpAt (G1 H0 H1:Hp) (i:Nat) (q:xO) (δv:Dn) (n:Nat) (τ:St) (Hc:Hp) (kvs:List (xC×xC)):Prop where
 ex:∃ Gc kk,SSt G1 H0 Gc Hc τ δv/\Gc q=none/\Hc q=some (.dN (prs kk))/\NL Gc Hc H1 kvs kk/\(kk.map (·.2.1)).Nodup/\kk.length<=n/\∀ r∈kk,r.2.2.length<=n
 hi:τ[i]? = some (some (.ref q))
 ap:∀ (j:Nat) (d:xC) (a:xO),δv[j]? = some (.ow d)->τ[j]?.join=some (.ref a)->a≠q/\∃ o,H1 a=some o
 kp:∀ b o,H1 b=some o->∃ o',Hc b=some o'
theorem Nr {H1 H:Hp} {p:xO} {o:HO} (h:∀ b o,H1 b=some o->∃ o',H b=some o'):∀ b u,H1 b=some u->∃ o',(upd H p o) b=some o':=fun b u e=>by
 by_cases z:b=p
 . subst z; exact ⟨_,C1⟩
 . rw [C3 z]; exact h b u e
theorem P4 {H1 H H':Hp} (s:Same H H') (h:∀ b o,H1 b=some o->∃ o',H b=some o'):∀ b u,H1 b=some u->∃ o',H' b=some o':=fun b u e=>by
 obtain ⟨o',z⟩:=h b u e;exact ⟨o',s _ _ z⟩
theorem Grow.stay {G H G' H':Hp} (g:Grow G H G' H') {q:xO} {o:HO} (n:G q=none) (e:H q=some o) (h:∀ ys,o≠.tup ys):G' q=none:=by
 cases z:G' q with
 | none=>rfl
 | some u =>
   rcases g.fr q u z with y | y | ⟨ys,rfl⟩
   . rw [n] at y; cases y
   . rw [e] at y; cases y
   . have:=g.gh _ _ z; rw [g.h _ _ e] at this; cases this; exact absurd rfl (h ys)
theorem Cq {H0 H:Hp} {p:xO} {o:HO} (s:Same H0 H) (h:H0 p=none):Same H0 (upd H p o):=fun b u e=>by
 rw [C3 (E3 e h)]; exact s _ _ e
theorem OwnOk.monoG {G G' H:Hp} {a:xO} {d:xC} (g:Same G G') (h:OwnOk G H a d):OwnOk G' H a d:=by
 cases d with
 | list ds=>obtain ⟨xs,q,r⟩:=h; exact ⟨xs,q,r.mono g⟩
 | dict kvs=>obtain ⟨xs,q,k,r⟩:=h; exact ⟨xs,q,k,r.mono g⟩
 | tuple xs=>exact OwnK.keep g (fun o q=>q) h
 | _=>exact (show False from h).elim
noncomputable section
variable {P:yI} {w:yR} {K:xI} {mg:Str->Option xF} {base:zJ} {X:Cx} {N:List Str} {sc:Scope} {k:Nat} {df:Bool} {E:EK} {p px pl ap1 cp1 ap2 cp2 ep ip pos:Pos} {ke ve ce iter:Expr} {fk fv:Dn->Res xC} {c:Dn->Res Bool} {src:Dn->Res (List xC)} {x y:Str}
theorem s_grp (C:Cxt P w K mg base X N sc k df) (i t:Nat) (ht:okSet N sc df t y=true) (h:okVar N sc i x=true) (hi:DI X E (.Name y px) iter src) (hc:DT X E ce c) (hk:DE X E ke fk) (hv:DE X E ve fv)
   (m2:M2 X (.Name x p) "setdefault" ap1 ke (.List [] pl) cp1) (hs:∀ x,zP iter X.env x=pure x)
   (hbase:p6 (.Call (.Attribute (.Name x p) "setdefault" ap1) [ke,.List [] pl] [] cp1) "append" X.env (eval (.Call (.Attribute (.Name x p) "setdefault" ap1) [ke,.List [] pl] [] cp1) X.env)=eval (.Call (.Attribute (.Name x p) "setdefault" ap1) [ke,.List [] pl] [] cp1) X.env)
   (hfew:((f9 cp2 (xR [ve] X.env)).all (fun x => !x.1)&&(EY cp2 (BW [] X.env)).all (fun x=>x.1.isSome)&&decide ([ve].length+([]:List AQ).length+(if ([]:List AQ).isEmpty then 0 else 1) < 30))=true)
   (hline:(ap2.endLine==cp2.line)=true) (hst:xR [ve] X.env=(false,eval ve X.env)::xR [] X.env) (hplain:(f9 cp2 (xR [] X.env)).any (·.1)=false)
   (hsw:p7 (.Call (.Attribute (.Call (.Attribute (.Name x p) "setdefault" ap1) [ke,.List [] pl] [] cp1) "append" ap2) [ve] [] cp2) none ep.line X.env=pure false) :
   DS X E (.For (.Name y px) iter [.If ce [.Expr (.Call (.Attribute (.Call (.Attribute (.Name x p) "setdefault" ap1) [ke,.List [] pl] [] cp1) "append" ap2) [ve] [] cp2) ep] [] ip] [] pos) (oF i t src c fk fv):=fun G0 H0=>by
 obtain ⟨d1,d2,d3,d4⟩:=okSet.ok C ht;have app:=Uf (pos:=ep) (Xp AW HJ HI Jv (kJ (by have:=C.hu; lia) (okVar.pe C h (p:=p)) hk (kL (pos:=pl) Y3) m2) (P6 hv Y3 hst) hbase hfew hline hst hplain) hsw;refine PS.imp (kG (pos:=pos) C.own C.calm hi (O4 d1 d2 d3 d4) (Mf (sH (pos:=ip) hc (Mf app) cE)) hs) fun D Z H hh=>?_;obtain ⟨G,δ,S,aft⟩:=hh;unfold oF at aft;split at aft
 . rename_i hsl
   obtain ⟨q,hσ,hgq,ho⟩:=S.sr.own hsl; obtain ⟨kk0,hx,hkeys,_⟩:=(show OwnK G H q [.dict [],.none] from ho);have hk0:kk0=[]:=by
     cases kk0 with
     | nil=>rfl
     | cons _ _=>cases hkeys
   subst hk0; have hil:i < δ.length:=(yJ.mp hsl).1; have hq0:H0 q=none:=S.fr i _ q hsl (by rw [hσ]; rfl);refine nH (S.forget i) aft fun ds J G1 H1 gr W S1 a1=>?_;split at a1
   . rename_i hcond
     obtain ⟨hlen,hit⟩:=hcond; have g01:=S1.gr;cases eout:Qy ((δ.set i .un).set t .un) t c fk fv ds [] with
     | ok out =>
       rw [eout] at a1; have S2:=(S1.forget t).rebase g01 (Same.refl _);generalize hδv:(δ.set i .un).set t .un=δv at *;have apv:∀ (j:Nat) (d:xC) (a:xO),δv[j]? = some (.ow d)->δ[j]? = some (.ow d)/\j≠i:=fun j d a e=>by
         rw [<- hδv,D8] at e;split at e
         . cases e
         . rw [D8] at e
           split at e
           . cases e
           . rename_i hn
             exact ⟨e,fun z=>by subst z; exact hn ⟨rfl,hil⟩⟩
       have hG1q:G1 q=none:=by
         cases z:G1 q with
         | none=>rfl
         | some u =>
           rcases gr.fr q u z with y | y | ⟨ys,rfl⟩
           . rw [hgq] at y; cases y
           . rw [hx] at y; cases y
           . have:=gr.gh _ _ z; rw [gr.h _ _ hx] at this; cases this
       refine ⟨fun n m τ Hc=>m=ds.length - n/\n<=ds.length/\∃ kvs,GrpAt G1 H0 H1 i q δv n τ Hc kvs/\Qy δv t c fk fv (ds.drop n) kvs=.ok out,⟨_,rfl,zY _,[],⟨⟨G1,[],S2,hG1q,gr.h _ _ hx,trivial,.nil,xN _,fun _ h=>nomatch h⟩,hσ,fun j d a e1 e2=>?_,fun b o e=>⟨o,e⟩⟩,by rw [CV]; exact eout⟩,?_⟩
       . obtain ⟨e3,hne⟩:=apv j d a e1
         refine ⟨fun z=>hne (S.sr.ap j i q d _ e3 hsl (z▸e2) (by rw [hσ]; rfl)),?_⟩;obtain ⟨a',h1,_,h3⟩:=S.sr.sl j _ e3; rw [e2] at h1; cases h1; obtain ⟨o,z⟩:=h3.some; exact ⟨o,gr.h _ _ z⟩
       rintro n m τ Hc ⟨rfl,hn,kvs,⟨⟨Gc,kk,Sc,gq,dq,nl,nd,kl,rl⟩,hτ,ap,kp⟩,eg⟩;by_cases hlt:n < ds.length
       . have hd:ds[n]? = some ds[n]:=yW hlt
         rw [c7 hlt] at eg; unfold Qy at eg; refine .inr ⟨W.go n Hc hlt (Sc.gr.g.trans Sc.sr.sub),fun τ2 H2=>∃ kvs,GrpAt G1 H0 H1 i q δv (n+1) τ2 H2 kvs/\Qy δv t c fk fv (ds.drop (n+1)) kvs=.ok out,fun τ2 H2 z=>⟨_,by lia,rfl,hlt,z⟩,fun v H'' hy=>?_⟩;obtain ⟨G3,g3,r3⟩:=W.yld n _ Gc Hc v H'' hd Sc.gr.g Sc.sr.sub hy; have S3:=(Sc.grow g3).set_sh (i:=t) r3; have nl3:=nl.grow g3; have dq3:=g3.h _ _ dq; have gq3:G3 q=none:=g3.stay gq dq fun ys z=>by cases z
         have h01:Same H0 H1:=S1.gr.h; have hback:((δv.set t (.sh ds[n])).set t .un)=δv:=by rw [<- hδv]; simp
         have hτ':(τ.set t (some v))[i]? = some (some (.ref q)):=by rw [CK (Ne.symm hit)]; exact hτ
         have htv:∀ (j:Nat) (d:xC),δv[j]? = some (.ow d)->j≠t:=fun j d e z=>by
           subst z; rw [<- hδv,D8] at e;split at e
           . cases e
           . rename_i hn
             have:=(yJ.mp e).1; rw [GW] at this; exact hn ⟨rfl,by rw [GW]; exact this⟩
         have ap':∀ (j:Nat) (d:xC) (a:xO),δv[j]? = some (.ow d)->(τ.set t (some v))[j]?.join=some (.ref a)->a≠q/\∃ o,H1 a=some o:=fun j d a e1 e2=>by
           rw [CK (Ne.symm (htv j d e1))] at e2; exact ap j d a e1 e2
         have apb:∀ (j:Nat) (d:xC) (a:xO),(δv.set t (.sh ds[n]))[j]? = some (.ow d)->(τ.set t (some v))[j]?.join=some (.ref a)->a≠q/\∃ o,H1 a=some o:=fun j d a e1 e2=>by
           rw [D8] at e1;split at e1
           . cases e1
           . exact ap' j d a e1 e2
         show tIfS _ _ _ _ (τ.set t (some v)) H'';generalize hδb:δv.set t (.sh ds[n])=δb at *;generalize τ.set t (some v)=τ' at *;have fin:∀ (Gz Hz:Hp) (kz:List (xC×xC)) (kkz:List (xC×xO×List V)),SSt G1 H0 Gz Hz τ' δb->Gz q=none->Hz q=some (.dN (prs kkz))->NL Gz Hz H1 kz kkz->(kkz.map (·.2.1)).Nodup->kkz.length<=n+1->(∀ r∈kkz,r.2.2.length<=n+1)->(∀ b o,H1 b=some o->∃ o',Hz b=some o')->GrpAt G1 H0 H1 i q δv (n+1) τ' Hz kz:=fun Gz Hz kz kkz s1 s2 s3 s4 s5 s6 s7 s8=>by
           have:=s1.forget t; rw [hback] at this; exact ⟨⟨Gz,kkz,this,s2,s3,s4,s5,s6,s7⟩,hτ',ap',s8⟩
         refine ⟨G3,δb,S3.sr,?_⟩;cases ec:c δb with
         | exc _=>rw [ec] at eg; cases eg
         | no=>rw [ec] at eg; cases eg
         | ok bb =>
           rw [ec] at eg; intro G4 H4 g4; have S4:=S3.grow g4; have nl4:=nl3.grow g4; have dq4:=g4.h _ _ dq3; have kp4:=P4 g4.h (P4 g3.h kp); have gq4:G4 q=none:=g4.stay gq3 dq3 fun ys z=>by cases z
           cases bb with
           | false =>
             rw [if_neg (by decide)]; exact ⟨kvs,fin G4 H4 kvs kk S4 gq4 dq4 nl4 nd (by lia) (fun r hr=>AB (rl r hr)) kp4,eg⟩
           | true =>
             rw [if_pos rfl]; dsimp only at eg;cases efk:fk δb with
             | exc _=>rw [efk] at eg; cases eg
             | no=>rw [efk] at eg; cases eg
             | ok kd =>
               rw [efk] at eg; dsimp only at eg;cases efv:fv δb with
               | exc _=>rw [efv] at eg; cases eg
               | no=>rw [efv] at eg; cases eg
               | ok vd =>
                 rw [efv] at eg; dsimp only at eg;split at eg
                 . rename_i hnk
                   refine ⟨.ref q,hτ',q,prs kk,rfl,dq4,G4,δb,S4.sr,?_⟩; rw [efk]; intro y5 G5 H5 g5 r5; have S5:=S4.grow g5; refine ⟨zY _,fun p hp=>?_⟩;have g6:Grow G5 H5 G5 (upd H5 p (.lst [])):=Grow.own S5.sr.sub hp; have S6:=S5.grow g6; have nl6:=(nl4.grow g5).grow g6; have dq5:=g5.h _ _ dq4; have hpq:q≠p:=E3 dq5 hp; have dq6:(upd H5 p (.lst [])) q=some (.dN (prs kk)):=g6.h _ _ dq5; have gq5:G5 q=none:=g5.stay gq4 dq4 fun ys z=>by cases z
                   have hz:(prs kk).length < sizeLine:=by
                     have:(1000:Nat)<=sizeLine:=by decide
                     rw [xJ]; lia
                   refine ⟨prs kk,kd,dq6,Om S6.sr.sub hnk r5,hnk,hz,fun v0 hv0=>?_,fun hn0=>?_⟩
                   . obtain ⟨l,xs,e1,⟨r0,m0,e0⟩,_⟩:=NL.put nl6 nd hv0
                     subst e1; have hm6:=nl6.mem r0 m0; rw [e0] at hm6; refine ⟨.inl ⟨rfl,xs,.inl (.inl hm6.1)⟩,G5,δb,S6.sr,?_⟩; rw [efv]; intro y7 G7 H7 g7 r7; have S7:=S6.grow g7; have nl7:=nl6.grow g7; have dq7:=g7.h _ _ dq6; have gq7:G7 q=none:=g7.stay gq5 dq6 fun ys z=>by cases z
                     have hm7:=nl7.mem r0 m0; rw [e0] at hm7; have hxs:xs.length<=n:=by have:=rl r0 m0; rw [e0] at this; exact this
                     have hql:q≠l:=cO dq7 hm7.1 fun z=>by cases z
                     obtain ⟨l',xs',e1',⟨r1,m1,e1r⟩,kp⟩:=NL.put nl7 nd hv0;cases e1'; have hm1:=nl7.mem r1 m1; rw [e1r] at hm1; have exs:xs'=xs:=by have:=hm1.1.symm.trans hm7.1; cases this; rfl
                     subst exs; obtain ⟨kk',k1,k2,k3,k4⟩:=kp y7 vd r7; refine ⟨l,xs',y7,rfl,rfl,hm7.1,DB hxs (yS (show n < 1000 by lia) (by decide)),Ma kvs kd vd,fin G7 _ _ kk' (S7.off (Cq S7.gr.h (h01.free hm7.2.2)) (Cq S7.sr.sub hm7.2.1) fun j d a z1 z2=>?_) gq7 (by rw [C3 hql,k1]; exact dq7) k4 (by rw [k2]; exact nd) ?_ (fun r hr=>?_) (Nr (P4 g7.h (P4 g6.h (P4 g5.h kp4)))),eg⟩
                     . obtain ⟨_,o,ho⟩:=apb j d a z1 z2
                       rw [C3 (E3 ho hm7.2.2)]
                     . have:=congrArg BI k2
                       rw [xJ,xJ] at this;lia
                     . rcases k3 r hr with z | z
                       . lia
                       . exact AB (rl r z)
                   . have hH1p : H1 p = none := by
                       cases z:H1 p with
                       | none=>rfl
                       | some u =>
                         obtain ⟨o',w⟩:=P4 g5.h kp4 p u z; rw [hp] at w; cases w
                     have hG5p:G5 p=none:=S5.sr.sub.free hp; have hp6:(upd H5 p (.lst [])) p=some (.lst []):=C1; have S7:SSt G1 H0 G5 (upd (upd H5 p (.lst [])) q (.dN (prs kk++[(kd,.ref p)]))) τ' δb:=S6.off (Cq S6.gr.h hq0) (Cq S6.sr.sub gq5) fun j d a z1 z2=>by rw [C3 (apb j d a z1 z2).1]
                     have hp7:(upd (upd H5 p (.lst [])) q (.dN (prs kk++[(kd,.ref p)]))) p=some (.lst []):=by rw [C3 (Ne.symm hpq)]; exact hp6
                     refine ⟨.inl ⟨rfl,[],.inl (.inl hp7)⟩,G5,δb,S7.sr,?_⟩; rw [efv]; intro y8 G8 H8 g8 r8; have S8:=S7.grow g8; have hp8:=g8.h _ _ hp7; have gp8:G8 p=none:=g8.stay hG5p hp7 fun ys z=>by cases z
                     have dq7:(upd (upd H5 p (.lst [])) q (.dN (prs kk++[(kd,.ref p)]))) q=some (.dN (prs kk++[(kd,.ref p)])):=C1; have dq8:=g8.h _ _ dq7; have gq8:G8 q=none:=g8.stay gq5 dq7 fun ys z=>by cases z
                     have nl7:NL G5 (upd (upd H5 p (.lst [])) q (.dN (prs kk++[(kd,.ref p)]))) H1 kvs kk:=nl6.keep (Same.refl _) fun r _ e n _=>⟨by rw [C3 (cO e dq6 fun z=>by cases z)]; exact e,n⟩;have hne:∀ r∈kk,r.2.1≠p:=fun r hr=>E3 ((nl4.grow g5).mem r hr).1 hp;have nl9:NL G8 (upd H8 p (.lst [y8])) H1 kvs kk:=(nl7.grow g8).keep (Same.refl _) fun r hr e n _=>⟨by rw [C3 (hne r hr)]; exact e,n⟩;refine ⟨p,[],y8,rfl,rfl,hp8,by show 0 < sizeLine; decide,Ma kvs kd vd,fin G8 _ _ (kk++[(kd,p,[y8])]) (S8.off (Cq S8.gr.h (h01.free hH1p)) (Cq S8.sr.sub gp8) fun j d a z1 z2=>?_) gq8 ?_ (NL.new r8 ⟨C1,gp8,hH1p⟩ nl9 hn0) ?_ (by rw [yB]; show _+1<=_; lia) (fun r hr=>?_) (Nr (P4 g8.h (Nr (P4 g6.h (P4 g5.h kp4))))),eg⟩
                     . obtain ⟨_,o,ho⟩:=apb j d a z1 z2
                       show (upd H8 p (.lst ([]++[y8]))) a=H8 a;rw [C3 (E3 ho hH1p)]
                     . show (upd H8 p (.lst ([]++[y8]))) q=_
                       rw [C3 hpq,dq8]; unfold prs; rw [yV]; rfl
                     . rw [yV,z9]
                       refine ⟨nd,by simp,fun a ha b hb=>?_⟩;obtain ⟨r,hr,rfl⟩:=yH.mp ha; have:b=p:=by simpa using hb
                       subst this; exact hne r hr
                     . rcases xY.mp hr with hr | hr
                       . exact AB (rl r hr)
                       . rw [xS.mp hr]; show 1<=n+1; lia
                 . cases eg
       . refine .inl ⟨W.stop n Hc (l0.mp hlt) (Sc.gr.g.trans Sc.sr.sub),?_⟩
         rw [BP (l0.mp hlt)] at eg; cases eg; have hq':q∉kk.map (·.2.1):=fun z=>by
           obtain ⟨r,hr,e⟩:=yH.mp z; have:=(nl.mem r hr).1; rw [e,dq] at this; cases this
         have Su:=Sc.unbase g01; have sm:=nl.same; have gh:Same (shG (kk.map (·.2.1)) Gc Hc) Hc:=fun b u e=>by
           by_cases m:b∈kk.map (·.2.1)
           . rw [jM m] at e; exact e
           . rw [Ij m] at e; exact Sc.sr.sub _ _ e
         refine a1 τ (shG (kk.map (·.2.1)) Gc Hc) Hc ⟨⟨Su.gr.g.trans sm,Su.gr.h,gh,fun b o e=>?_⟩,⟨gh,?_,fun j s e=>?_,fun j1 j2 a e1' e2' z1 z2 h1 h2=>?_⟩,fun j d a e h=>?_⟩
         . by_cases m:b∈kk.map (·.2.1)
           . obtain ⟨r,hr,rfl⟩:=yH.mp m
             exact .inr (.inl (S1.gr.h.free (nl.mem r hr).2.2))
           . rw [Ij m] at e; exact Su.gr.fr b o e
         . have:=Sc.sr.len
           rw [<- hδv] at this;simpa using this
         . rw [D8] at e
           split at e
           . cases e; trivial
           . rename_i hjt
             rw [D8] at e;split at e
             . rename_i hji
               cases e; rw [<- hji.1,hτ]; exact ⟨q,rfl,by rw [Ij hq']; exact gq,prs kk,dq,nl.keys,nl.vals sm fun r hr=>zA hr⟩
             . rename_i hji
               have ev:δv[j]? = some s:=by
                 rw [<- hδv,D8,if_neg (by simpa using hjt),D8,if_neg hji]; exact e
               have hs:=Sc.sr.sl j s ev;cases s with
               | un=>trivial
               | sh d=>obtain ⟨v,e1,r1⟩:=hs; exact ⟨v,e1,r1.mono sm⟩
               | fd _=>exact FdOk.mono sm hs
               | ow d =>
                 obtain ⟨a,e1,n1,ok⟩:=hs; have hna:a∉kk.map (·.2.1):=fun z=>by
                   obtain ⟨r,hr,er⟩:=yH.mp z; obtain ⟨_,o,ho⟩:=ap j d a ev e1; have:=(nl.mem r hr).2.2; rw [er,ho] at this; cases this
                 exact ⟨a,e1,by rw [Ij hna]; exact n1,ok.monoG sm⟩
         . have key : ∀ (j : Nat) (d : xC), ((δ.set i (.ow (.tuple [.dict out, .none]))).set t .un)[j]? = some (.ow d) -> j = i \/ δv[j]? = some (.ow d) := fun j d e => by
             rw [D8] at e;split at e
             . cases e
             . rename_i hjt
               rw [D8] at e;split at e
               . rename_i hji; exact .inl hji.1.symm
               . rename_i hji
                 exact .inr (by rw [<- hδv,D8,if_neg (by simpa using hjt),D8,if_neg hji]; exact e)
           rcases key j1 _ z1 with rfl | y1
           . rcases key j2 _ z2 with rfl | y2
             . rfl
             . rw [hτ] at h1; cases h1
               exact absurd rfl (ap j2 _ _ y2 h2).1
           . rcases key j2 _ z2 with rfl | y2
             . rw [hτ] at h2; cases h2
               exact absurd rfl (ap j1 _ _ y1 h1).1
             . exact Sc.sr.ap j1 j2 a _ _ y1 y2 h1 h2
         . rw [D8] at e
           split at e
           . cases e
           . rename_i hjt
             rw [D8] at e;split at e
             . rename_i hji
               rw [<- hji.1,hτ] at h; cases h;exact hq0
             . rename_i hji
               exact Sc.fr j d a (by rw [<- hδv,D8,if_neg (by simpa using hjt),D8,if_neg hji]; exact e) h
     | exc _=>rw [eout] at a1; exact (show False from a1).elim
     | no=>rw [eout] at a1; exact (show False from a1).elim
   . exact (show False from a1).elim
 . exact (show False from aft).elim
end
end Sm
end
noncomputable section
namespace Sm
open PySem PySem.Spec PyProof.Rows PySem.W L2
theorem kO {X:Cx} {pos:Pos}:PE X (.Dict [] [] pos) (fun Z H Q=>∀ q,H q=none->Q (.ref q) (upd H q (.dN []))):=by
 intro pins s Z H Q I h;refine e8 (kN (X:=X) (pos:=pos) pins s Z H (fun v H1=>∃ q,v=.ref q/\H q=none/\H1=upd H q (.dT [])) I fun q hq=>⟨q,rfl,hq,rfl⟩) (fun v s1 hh=>?_) fun _ _ e=>e;obtain ⟨x,H1,I1,rx,q,rfl,hq,rfl⟩:=hh;have hx:(upd H q (.dT [])) q=some (.dT []):=C1;obtain ⟨z,hs,xs,rel,o,es,ep,e1,hex,hdat,hes,hnd⟩:=I1.hok q _ hx;have hxs:xs=[]:=by
   cases rel; rfl
 subst hxs;have hes':es = #[]:=by
   have:es.toList=[]:=hes; exact Array.toList_eq_nil_iff.mp this
 subst hes';obtain ⟨oc,od,odt,osl⟩:=o;obtain ⟨c1,c2,c3⟩:=hex;simp only at c1 c2 c3 hdat;subst c1 c2 c3 hdat;refine ⟨.ref q,upd H q (.dN []),?_,rx,h q hq⟩;have:=I1.write (x:=q) (e:=q) (o:=.dN []) (t':=s1.toks) (h':=s1.heap) (by rw [hx]; exact trivial) (.inl rfl) (fun b u _ w=>w) ⟨_,e1⟩ ⟨zY _,hs,.nil,(fun _ h=>nomatch h),[],.nil,ep,e1⟩;rw [nQ] at this;exact this
noncomputable def Ch (i:Nat):Dn->Out:=fun δ=>.nx (δ.set i (.ow (.tuple [.dict [],.none])))
noncomputable section
variable {P:yI} {w:yR} {K:xI} {mg:Str->Option xF} {base:zJ} {X:Cx} {N:List Str} {sc:Scope} {k:Nat} {df:Bool} {E:EK} {pos p p2:Pos} {a:Expr} {x:Str}
theorem Io (C:Cxt P w K mg base X N sc k df) (i:Nat) (ho:okSet N sc df i x=true) (hs:p7 (.Dict [] [] p2) (some (.Name x p)) pos.line X.env=pure false:=by rfl):DS X E (.Assign [.Name x p] (.Dict [] [] p2) pos) (Ch i):=fun G0 H0=>by
 obtain ⟨h1,h2,h3,h4⟩:=okSet.ok C ho;refine PS.imp (Op h1 h2 h3 kO hs h4) fun D Z H hh q hq=>?_;obtain ⟨G,δ,S,a⟩:=hh;have S1:=S.grow (Grow.own (o:=.dN []) S.sr.sub hq);exact a _ G _ (S1.set_ow (S.gr.h.free hq) (S.sr.sub.free hq) (show OwnK G _ q [.dict [],.none] from ⟨[],C1,rfl,rfl⟩) (Hi S hq))
end
def AftN (E:EK) (G H:Hp) (r:Res Kvs) (Q:VK):Prop:=match r with
 | .ok kvs=>∀ p G' H',Grow G H G' H'->H p=none->G' p=none->OwnOk G' H' p (.tuple [.dict kvs,.none])->Q (.ref p) H'
 | .exc c=>∀ G' H',Grow G H G' H'->E c H'
 | .no=>False
def tN (E:EK) (f:Dn->Res Kvs):TE:=fun Z H Q=>∃ G δ,SR G H Z δ/\AftN E G H (f δ) Q
abbrev DN (X:Cx) (E:EK) (e:Expr) (f:Dn->Res Kvs):Prop:=PE X e (tN E f)
def DSN (X:Cx) (E:EK) (sts:List w8) (g:Dn->Res Kvs):Prop:=∀ G0 H0,PSs X sts (fun D Z H=>∃ G δ,SSt G0 H0 G H Z δ/\AftN E G0 H0 (g δ) D.rt)
noncomputable def Um (i:Nat):Dn->Res Kvs:=fun δ=>match δ[i]? with
 | some (.ow (.tuple [.dict kvs,.none]))=>.ok kvs
 | _=>.no
def spN (n:Nat) (m:List xC->Res Kvs):Sp:=fun vs H Q _=>∃ G ds kvs,Same G H/\RepL G ds vs/\ds.length=n/\m ds=.ok kvs/\∀ p G' H',Grow G H G' H'->H p=none->G' p=none->OwnOk G' H' p (.tuple [.dict kvs,.none])->Q (.ref p) H'
structure FnN (P:yI) (w:yR) (K:xI) (mg:Str->Option xF) (base:zJ) (x:Str) (k n:Nat) (m:List xC->Res Kvs):Prop where
 ex:∃ f fd ps,ps.length=n/\FnOk P w K mg base CX0 k f fd ps (spN n m)/\mg x=some (.ref f)/\i3 K (.ref f)=true/\Binds K fd ps []
noncomputable def Eb (i:Nat) (f:Dn->Res Kvs):Dn->Out:=fun δ=>M5 (f δ) fun kvs=>.nx (δ.set i (.ow (.tuple [.dict kvs,.none])))
noncomputable section
variable {P:yI} {w:yR} {K:xI} {mg:Str->Option xF} {base:zJ} {X:Cx} {N:List Str} {sc:Scope} {k:Nat} {df:Bool} {E:EK} {pos p:Pos} {e:Expr} {es:List Expr} {fs:Dn->Res (List xC)} {fx:Dn->Res Kvs} {x:Str} {st:w8} {sts:List w8} {g1:Dn->Out} {g2:Dn->Res Kvs}
theorem cP (C:Cxt P w K mg base X N sc k df) (i:Nat) (h:okVar N sc i x=true):DSN X E [.Return (some (.Name x p)) pos] (Um i):=fun G0 H0=>by
 refine PSs.imp (Mf (kF (okVar.pe C h))) fun D Z H hh=>?_;obtain ⟨G,δ,S,a⟩:=hh;unfold Um at a;split at a
 . rename_i kvs hi
   obtain ⟨q,hσ,hg,ho⟩:=S.sr.own hi; exact ⟨.ref q,hσ,a q G H S.gr (S.fr i _ q hi (by rw [hσ]; rfl)) hg ho⟩
 . exact (show False from a).elim
theorem Ck (h1:DS X E st g1) (h2:DSN X E sts g2):DSN X E (st::sts) (Ed g1 g2):=fun G0 H0=>by
 refine PSs.imp (Xn (h1 G0 H0) (h2 G0 H0)) fun D Z H hh=>?_;obtain ⟨G,δ,S,a⟩:=hh;refine ⟨G,δ,S,?_⟩;unfold Ed at a;cases e:g1 δ with
 | nx δ'=>rw [e] at a; exact fun Z' G' H' S'=>⟨G',δ',S',a⟩
 | exc d=>rw [e] at a; exact a
 | rt d=>rw [e] at a; exact (show False from a).elim
 | bk d=>rw [e] at a; exact (show False from a).elim
 | ct d=>rw [e] at a; exact (show False from a).elim
 | no=>rw [e] at a; exact (show False from a).elim
theorem wC {x:Str} {st:w8} {ps:List Str} {n:Nat} {go:Dn->Res Kvs} {m:List xC->Res Kvs} (F:Def K mg x st ps) (S:FnScope N ps (A4 st)) (hn:ps.length=n)
   (body:∀ X,Cxt P w K mg base X N (A4 st) k true->DSN X E0k (B3 st) go) (hm:m=fnW N go):FnN P w K mg base x (k+1) n m:=by
 obtain ⟨f,fd,F,hmg,hb⟩:=F.ex;refine ⟨f,fd,ps,hn,?_,hmg,F.kp,hb⟩;subst hm;refine F.ok S (fun vs H Q E h=>?_) (fun cdv A outer s H vs Q E hr h=>?_)
 . obtain ⟨G,ds,d,_,r,hl,_⟩:=h
   rw [<- r.length,hl,hn]
 . obtain ⟨G,ds,kvs,hG,r,hl,em,q⟩:=h
   refine ⟨_,body _ ⟨rfl,rfl,rfl,rfl,rfl,rfl,rfl,rfl,hr,fun _ _=>rfl,BX⟩ G H,G,_,We hG r N,?_⟩;unfold fnW at em; rw [em]; exact q
theorem Ul {x:Str} {j n:Nat} {m:List xC->Res Kvs} (C:Cxt P w K mg base X N sc k df) (F:FnN P w K mg base x j n m) (hj:j<=k) (h:okGl sc x=true) (ha:DA X E0k (e::es) n fs)
   (he:xR (e::es) X.env=(false,eval e X.env)::xR es X.env:=by rfl) (hpl:(f9 pos (xR es X.env)).any (·.1)=false:=by rfl):DN X E0k (.Call (.Name x p) (e::es) [] pos) (Hw fs m):=by
 obtain ⟨f,fd,ps,hps,F,hm,hk,hb⟩:=F.ex;obtain ⟨h1,h2,h3⟩:=okGl.gl C h;have F':FnOk X.prog X.w X.K X.mg X.base CX0 j f fd ps (spN n m):=by rw [C.hP,C.hw,C.hK,C.hmg,C.hb]; exact F
 refine PE.imp (Mh F' (C.room.mono hj) h1 (by rw [C.hmg]; exact hm) (by rw [C.hK]; exact hk) (by rw [C.hK]; exact hb) .nil (cI (X:=X)) ha.pa h2 he hpl) fun Z H Q hh=>?_;obtain ⟨G,δ,S,aft⟩:=hh;have gw:∀ {G H G' H':Hp} {r:Res Kvs},Grow G H G' H'->AftN E0k G H r Q->AftN E0k G' H' r Q:=fun {G H G' H' r} g a=>by
   cases r with
   | ok kvs=>exact fun p G2 H2 g2 hp hp' ho=>a p G2 H2 (g.trans g2) (g.h.free hp) hp' ho
   | exc c=>exact fun G2 H2 g2=>a G2 H2 (g.trans g2)
   | no=>exact a
 refine X2 (W:=fun G H r=>AftN E0k G H r Q) S aft (fun g a=>gw g a) (fun c a=>a) (fun a=>a) fun ds vs G1 H1 e g1 r1 S1 a1=>?_;rw [zN];cases q:m ds with
 | ok d=>rw [q] at a1; exact ⟨G1,ds,d,S1.sub,r1,ha.len δ ds e,q,a1⟩
 | exc c=>rw [q] at a1; exact (a1 G1 H1 (Grow.refl S1.sub)).elim
 | no=>rw [q] at a1; exact a1.elim
theorem Oe (C:Cxt P w K mg base X N sc k df) (i:Nat) (ho:okSet N sc df i x=true) (h:DN X E e fx) (hs:p7 e (some (.Name x p)) pos.line X.env=pure false:=by rfl):DS X E (.Assign [.Name x p] e pos) (Eb i fx):=fun G0 H0=>by
 obtain ⟨h1,h2,h3,h4⟩:=okSet.ok C ho;refine PS.imp (Op h1 h2 h3 h hs h4) fun D Z H hh=>?_;obtain ⟨G,δ,S,a⟩:=hh;refine ⟨G,δ,S.sr,?_⟩;unfold Eb at a;cases q:fx δ with
 | ok kvs =>
   rw [q] at a; intro p G' H' g hp hp' ho; have S1:=S.grow g; exact a _ G' H' (S1.set_ow (S.gr.h.free hp) hp' ho (Hi S hp))
 | exc c=>rw [q] at a; exact fun G' H' g=>a G' H' (S.gr.trans g)
 | no=>rw [q] at a; exact a
end
end Sm
end
noncomputable section
namespace Sm
open PySem PySem.Spec PyProof.Rows PySem.W L2
noncomputable def En (c:Dn->Res Bool) (body:Dn->Out):Nat->Dn->Out
 | 0,_=>.no
 | n+1,δ=>M5 (c δ) fun b=>if b=true then (match body δ with
   | .nx δ'=>En c body n δ'
   | .ct δ'=>En c body n δ'
   | .bk δ'=>.nx δ'
   | o=>o) else .nx δ
noncomputable def jU (c:Dn->Res Bool) (body:Dn->Out):Dn->Out:=En c body 4096
noncomputable def Ze (i:Nat):Dn->Res Bool:=fun δ=>match δ[i]? with
 | some (.ow (.list ds))=>.ok (!ds.isEmpty)
 | _=>.no
noncomputable def fF (i j:Nat):Dn->Out:=fun δ=>match δ[i]? with
 | some (.ow (.list ds))=>match ds[ds.length - 1]? with
   | some d=>if i≠j then .nx ((δ.set i (.ow (.list ds.dropLast))).set j (.sh d)) else .no
   | none=>.no
 | _=>.no
noncomputable def Xc (i:Nat) (f:Dn->Res (List xC)):Dn->Out:=fun δ=>match δ[i]? with
 | some (.ow (.list xs))=>M5 (f δ) fun ds=>if xs.length+ds.length<=100000 then .nx (δ.set i (.ow (.list (xs++ds)))) else .no
 | _=>.no
noncomputable section
variable {P:yI} {w:yR} {K:xI} {mg:Str->Option xF} {base:zJ} {X:Cx} {N:List Str} {sc:Scope} {k:Nat} {df:Bool} {E:EK} {pos p py apos cpos:Pos} {ce a:Expr} {sts:List w8} {c:Dn->Res Bool} {g1:Dn->Out} {fs:Dn->Res (List xC)} {x y:Str}
theorem oD (C:Cxt P w K mg base X N sc k df) (hc:DT X E ce c) (hb:DSs X E sts g1):DS X E (.While ce sts [] pos) (jU c g1):=fun G0 H0=>by
 refine PS.imp (kE (pos:=pos) C.own hc (hb G0 H0)) fun D Z H hh=>?_;obtain ⟨G,δ,S,a⟩:=hh;refine ⟨fun m Z' H'=>∃ G' δ',SSt G0 H0 G' H' Z' δ'/\Kn E G0 H0 (En c g1 m δ') D,⟨4096,G,δ,S,a⟩,fun m Z' H' hw=>?_⟩;obtain ⟨G',δ',S',a'⟩:=hw;cases m with
 | zero=>exact (show False from a').elim
 | succ m =>
   unfold En at a'; refine nG S' a' fun b G1 H1 gr S1 a1=>?_;cases b with
   | false =>
     rw [if_neg (by decide)] at a1 ⊢;exact a1 Z' G1 H1 S1
   | true =>
     rw [if_pos rfl] at a1 ⊢;refine ⟨fun Z2 H2=>∃ G' δ',SSt G0 H0 G' H2 Z2 δ'/\Kn E G0 H0 (En c g1 m δ') D,fun Z2 H2 z=>⟨m,CG m,z⟩,G1,δ',S1,?_⟩;cases eo:g1 δ' with
     | nx δ2=>rw [eo] at a1; exact fun Z3 G4 H4 S5=>⟨G4,δ2,S5,a1⟩
     | ct δ2=>rw [eo] at a1; exact fun Z3 G4 H4 S5=>⟨G4,δ2,S5,a1⟩
     | bk δ2=>rw [eo] at a1; exact fun Z3 G4 H4 S5=>a1 Z3 G4 H4 S5
     | rt d=>rw [eo] at a1; exact a1
     | exc d=>rw [eo] at a1; exact a1
     | no=>rw [eo] at a1; exact a1
theorem t_own (C:Cxt P w K mg base X N sc k df) (i:Nat) (h:okVar N sc i x=true) (he:∀ whole,isTrue (.Name x p) X.env whole=(do let v <- whole; standAt (Expr.Name x p).pos; holding [v] (truthy v)):=by intro _; rfl):DT X E (.Name x p) (Ze i):=by
 refine PT.imp (Xl (okVar.pe C h) he) fun Z H Q hh=>?_;obtain ⟨G,δ,S,a⟩:=hh;unfold Ze at a;split at a
 . rename_i ds hi
   obtain ⟨q,hσ,hg,xs,hx,rl⟩:=S.own hi; have he:ds.isEmpty=xs.isEmpty:=by
     have:=rl.length;cases ds <;> cases xs <;> simp at this ⊢
   refine ⟨.ref q,hσ,!xs.isEmpty,.inl ⟨xs,.inl (.inl hx),rfl⟩,?_⟩; rw [<- he]; exact a G H (Grow.refl S.sub)
 . exact (show False from a).elim
theorem s_pop (C:Cxt P w K mg base X N sc k df) (i j:Nat) (h:okVar N sc i x=true) (ho:okSet N sc df j y=true)
   (hbase:p6 (.Name x p) "pop" X.env (eval (.Name x p) X.env)=eval (.Name x p) X.env:=by rfl) (hline:(apos.endLine==cpos.line)=true:=by rfl)
   (hs:p7 (.Call (.Attribute (.Name x p) "pop" apos) [] [] cpos) (some (.Name y py)) pos.line X.env=pure false:=by rfl) :
   DS X E (.Assign [.Name y py] (.Call (.Attribute (.Name x p) "pop" apos) [] [] cpos) pos) (fF i j):=fun G0 H0=>by
 obtain ⟨h1,h2,h3,h4⟩:=okSet.ok C ho;refine PS.imp (Op h1 h2 h3 (uY AW PySem.F.slot_list_pop PySem.F.type_list_pop vL (okVar.pe C h) hbase hline) hs h4) fun D Z H hh=>?_;obtain ⟨G,δ,S,a⟩:=hh;unfold fF at a;split at a
 . rename_i ds hi
   split at a
   . rename_i d hd
     split at a
     . rename_i hij
       obtain ⟨q,hσ,hg,xs,hx,rl⟩:=S.sr.own hi; obtain ⟨v,hv,rv⟩:=rl.get hd; rw [rl.length] at hv; refine ⟨.ref q,hσ,.inl ⟨rfl,xs,.inl (.inl hx)⟩,q,xs,v,rfl,rfl,hx,hv,?_⟩; have S1:=S.write (o:=.lst xs.dropLast) (d':=.list ds.dropLast) hi (by rw [hσ]; rfl) hg ⟨_,C1,rl.dropLast⟩;exact a _ G _ (S1.set_sh rv)
     . exact (show False from a).elim
   . exact (show False from a).elim
 . exact (show False from a).elim
theorem sE (C:Cxt P w K mg base X N sc k df) (i:Nat) (h:okVar N sc i x=true) (ha:DF X E a fs)
   (hbase:p6 (.Name x p) "extend" X.env (eval (.Name x p) X.env)=eval (.Name x p) X.env:=by rfl)
   (hfew:((f9 cpos (xR [a] X.env)).all (fun x => !x.1)&&(EY cpos (BW [] X.env)).all (fun x=>x.1.isSome)
     && decide ([a].length+([]:List AQ).length+(if ([]:List AQ).isEmpty then 0 else 1) < 30))=true:=by rfl)
   (hline:(apos.endLine==cpos.line)=true:=by rfl) (hs:xR [a] X.env=(false,eval a X.env)::xR [] X.env:=by rfl) (hplain:(f9 cpos (xR [] X.env)).any (·.1)=false:=by rfl)
   (hsw:p7 (.Call (.Attribute (.Name x p) "extend" apos) [a] [] cpos) none pos.line X.env=pure false:=by rfl) :
   DS X E (.Expr (.Call (.Attribute (.Name x p) "extend" apos) [a] [] cpos) pos) (Xc i fs):=fun G0 H0=>by
 refine PS.imp (Uf (Xp AW PySem.F.slot_list_extend PySem.F.type_list_extend fW (okVar.pe C h) (P6 ha Y3 hs) hbase hfew hline hs hplain) hsw) fun D Z H hh=>?_;obtain ⟨G,δ,S,aft⟩:=hh;unfold Xc at aft;split at aft
 . rename_i ds hi
   obtain ⟨q,hσ,hg,xs,hx,rl⟩:=S.sr.own hi; refine ⟨.ref q,hσ,.inl ⟨rfl,xs,.inl (.inl hx)⟩,?_⟩; refine bQ S aft fun es b zs G1 H1 g1 q1 q2 q3 q4 S1 a1=>?_;split at a1
   . rename_i hlen
     have hx1:=g1.h _ _ hx; have hqb:q≠b:=E3 hx q1; have hg1:G1 q=none:=g1.stay hg hx fun ys z=>by cases z
     have l1:=rl.length; have l2:=q4.length; refine ⟨q,b,xs,zs,rfl,rfl,hx1,q3,yA (by lia) (show 100000<=sizeLine by decide),?_⟩;exact a1 Z G1 _ (S1.write (o:=.lst (xs++zs)) (d':=.list (ds++es)) hi (by rw [hσ]; rfl) hg1 ⟨_,C1,(rl.mono g1.g).append q4⟩)
   . exact (show False from a1).elim
 . exact (show False from aft).elim
end
end Sm
end
noncomputable section
namespace Sm
open PySem PySem.Spec PyProof.Rows PySem.W L2
noncomputable section
variable {X:Cx} {pins:List (xO×Obj)} {Z:St} {H:Hp} {s:xH} {a:xO} {A:zL} {E:xF->xH->Prop}
theorem n_at {kvs:List (xC×V)} {xs:List (xF×xF)} {kd:xC} {w:yR} {i:Nat} {e:zO} (rel:j3 (PrN H) kvs xs) (hk:nkD kd=true) (nk:∀ p∈kvs,nkD p.1=true) (nd:(kvs.map (·.1)).Nodup) (hi:(kvs.map (·.1))[i]? = some kd) (he:(O9 w kvs xs)[i]? = some e) :
   ∃ v,kvs[i]? = some (kd,v)/\N8 kvs kd=some v/\RelV v e.val:=by
 obtain ⟨p,q,h1,h2,⟨_,h5⟩,rfl⟩:=Mi rel he;rw [yQ,h1] at hi;have hp:p=(kd,p.2):=by
   have:p.1=kd:=by simpa using hi
   rw [<- this]
 rw [hp] at h1;exact ⟨p.2,h1,Es hk nk nd h1,h5⟩
theorem vJ {kvs:List (xC×V)} {kd:xC} {y v:V} {u:xF} {Q:xF->xH->Prop} (hu:A.units+16 < m8) (I:Inv X pins Z H s) (e:Rd H a (.dN kvs)) (rk:KRep H kd y) (hk:nkD kd=true) (ry:RelV y u) (hv:N8 kvs kd=some v)
   (h:∀ w' s',Inv X pins Z H s'->RelV v w'->Q w' s'):wpAny (yC X.prog X.w) A (DH (.ref a) u) Q E s:=by
 obtain ⟨z,hd,nd,nk,xs,rel,ep,e1⟩:=e.ok I.hok;have hT:s.TypeIs (.ref a) "dict" := ⟨_,e1,rfl⟩;have hm:kd∈kvs.map (·.1):=AC fun z=>by rw [Jb hk nk z] at hv; cases hv
 unfold DH;try with_reducible refine zK ?_
 refine xD (EG hT (by decide) ?_);refine xD (zI (name:=k8 "__getitem__") hT F.slot_dict_getitem ?_);refine HG F.slot_dict_getitem hT F.entry_dict_getitem (F.args_dict_getitem_2 _ _) (Xy a u) ⟨_,_,ep,kvs.map (·.1),kd,hu,e1,rfl,Pc I rel nk nd,Jt I rk ry hk,hm,fun i e tk hi he=>?_⟩;obtain ⟨v',_,h2,h3⟩:=n_at rel hk nk nd hi (by simpa using he);rw [hv] at h2; cases h2;exact xE (h _ _ (I.tok _) h3)
theorem n_has {kvs:List (xC×V)} {kd:xC} (hk:nkD kd=true) (nk:∀ p∈kvs,nkD p.1=true) (nd:(kvs.map (·.1)).Nodup) (hm:kd∈kvs.map (·.1)):(N8 kvs kd).isSome=true:=by
 obtain ⟨⟨k',v⟩,hp,rfl⟩:=yH.mp hm;obtain ⟨i,hi⟩:=ET.mp hp;rw [Es hk nk nd hi]; rfl
theorem aN {kvs:List (xC×V)} {kd:xC} {y:V} {u:xF} {Q:Bool->xH->Prop} (hu:A.units+16 < m8) (I:Inv X pins Z H s) (e:Rd H a (.dN kvs)) (rk:KRep H kd y) (hk:nkD kd=true) (ry:RelV y u)
   (h:∀ s',Inv X pins Z H s'->Q (N8 kvs kd).isSome s'):wpAny (yC X.prog X.w) A (contains (.ref a) u) Q E s:=by
 obtain ⟨z,hd,nd,nk,xs,rel,ep,e1⟩:=e.ok I.hok;have hT:s.TypeIs (.ref a) "dict" := ⟨_,e1,rfl⟩;unfold contains;try with_reducible refine zK ?_
 refine xD (o4 hT F.slot_dict_contains.lookup ?_);show wpAny _ _ (if (some (Value.builtin "dict.__contains__")==some j5)=true then _ else _) _ _ s;rw [if_neg (by rw [HW]; exact l8)];refine xD (wpAny_callSpecialUnlessNone?_slot (name:=k8 "__contains__") hT F.slot_dict_contains ?_);refine HG F.slot_dict_contains hT F.entry_dict_contains (F.args_dict_contains_2 _ _) (fZ a u hd) ⟨_,_,ep,kvs.map (·.1),kd,hu,e1,rfl,Pc I rel nk nd,Jt I rk ry hk,fun tk hm=>?_,fun tk hn=>?_⟩
 . have:=h _ (I.tok tk)
   rw [n_has hk nk nd hm] at this; exact n6 this
 . have:=h _ (I.tok tk)
   rw [Jb hk nk hn] at this; exact n6 this
end
def tNIx (td ty:TE):TE:=fun Z H Q=>td Z H fun x H1=>ty Z H1 fun y H2=>∃ a kvs kd v,x=.ref a/\Rd H2 a (.dN kvs)/\KRep H2 kd y/\nkD kd=true/\N8 kvs kd=some v/\Q v H2
def tNIn (b:Bool) (ty td:TE):TE:=fun Z H Q=>ty Z H fun y H1=>td Z H1 fun x H2=>∃ a kvs kd,x=.ref a/\Rd H2 a (.dN kvs)/\KRep H2 kd y/\nkD kd=true/\Q (.bl ((N8 kvs kd).isSome != b)) H2
noncomputable section
variable {X:Cx} {o i:Expr} {pos:Pos} {td ty:TE}
theorem uV (hu:X.A.units+16 < m8) (ho:PE X o td) (hi:PE X i ty) (hs:xB i):PE X (.Subscript o i pos) (tNIx td ty):=by
 intro pins s Z H Q I h;refine nW PySem.F.slot_dict_getitem.lookup hs (thn (ho pins s Z H _ I h) fun u s1 hY84=>?_);obtain ⟨x,H1,I1,rx,q1⟩:=hY84;refine thn (hi pins s1 Z H1 _ I1 q1) fun iv s2 hZ2=>?_;obtain ⟨y,H2,I2,ry,a,kvs,kd,v,ex,g,rk,hk,hv,q2⟩:=hZ2;subst ex;obtain rfl:u=k6 a:=rx;obtain ⟨_,_,_,_,_,_,ep,e1⟩:=g.ok I2.hok;exact ⟨⟨_,e1,rfl⟩,vJ hu I2 g rk hk ry hv fun w' s3 I3 rw'=>⟨v,H2,I3,rw',q2⟩⟩
theorem Sf (hu:X.A.units+16 < m8) (hi:PE X i ty) (ho:PE X o td):PC X .NotIn i o (tNIn true ty td):=by
 intro pins s Z H Q I h;refine thn (hi pins s Z H _ I h) fun iv s1 hY86=>?_;obtain ⟨y,H1,I1,ry,q1⟩:=hY86;refine thn (ho pins s1 Z H1 _ I1 q1) fun u s2 hZ2=>?_;obtain ⟨x,H2,I2,rx,a,kvs,kd,ex,g,rk,hk,q2⟩:=hZ2;subst ex;obtain rfl:u=k6 a:=rx;show wpAny _ _ (do return FT (!(<- contains (k6 a) iv))) _ _ s2;rw [Bool.bne_true] at q2;exact xD (aN hu I2 g rk hk ry fun s3 I3=>xE ⟨.bl (!(N8 kvs kd).isSome),H2,I3,rfl,q2⟩)
end
noncomputable def Pt (i:Nat) (f:Dn->Res xC):Dn->Res xC:=fun δ=>match kvN δ i with
 | some kvs=>(f δ).bind fun kd=>if nkD kd=true then ofO (F1 kvs kd) else .no
 | none=>.no
noncomputable def Y7 (b:Bool) (i:Nat) (f:Dn->Res xC):Dn->Res xC:=fun δ=>(f δ).bind fun kd=>match kvN δ i with
 | some kvs=>if nkD kd=true then .ok (.bool ((F1 kvs kd).isSome != b)) else .no
 | none=>.no
noncomputable section
variable {P:yI} {w:yR} {K:xI} {mg:Str->Option xF} {base:zJ} {X:Cx} {N:List Str} {sc:Scope} {k:Nat} {df:Bool} {E:EK} {p pos:Pos} {a b:Expr} {f g:Dn->Res xC} {x:Str}
theorem mO (C:Cxt P w K mg base X N sc k df) (i:Nat) (h:okVar N sc i x=true) (hk:DE X E a f) (hs:xB a:=by exact fun _ _=>rfl):DE X E (.Subscript (.Name x p) a pos) (Pt i f):=by
 refine PE.imp (uV (by have:=C.hu; lia) (okVar.pe C h) hk hs) fun Z H Q hY87=>?_;obtain ⟨G,δ,S,aft⟩:=hY87;unfold Pt at aft;split at aft
 . rename_i kvs hi
   obtain ⟨q,kk,hσ,hx,hkeys,hvals⟩:=S.kvN hi; refine ⟨.ref q,hσ,?_⟩; refine L5 S aft fun kd v G1 H1 g1 r1 S1 a1=>?_;split at a1
   . rename_i hn
     rcases Ja (k:=kd) hkeys hvals with ⟨n1,n2⟩ | ⟨d0,v0,n1,n2,rd⟩
     . rw [n1] at a1; exact a1.elim
     . rw [n1] at a1
       exact ⟨q,kk,kd,v0,rfl,Rd.mono g1.h hx,Om S1.sub hn r1,hn,n2,a1 _ G1 H1 (Grow.refl S1.sub) (rd.mono g1.g)⟩
   . exact a1.elim
 . exact aft.elim
theorem cV {t:Bool} {i:Nat} {Z:St} {H:Hp} {Q:VK} (h:tD E (Y7 t i f) Z H Q):tNIn t (tD E f) (nU i) Z H Q:=by
 obtain ⟨G,δ,S,aft⟩:=h;refine L5 S aft fun kd v G1 H1 g1 r1 S1 a1=>?_;split at a1
 . rename_i kvs hi
   split at a1
   . rename_i hn
     obtain ⟨q,kk,hσ,hx,hkeys,hvals⟩:=S1.kvN hi; refine ⟨.ref q,hσ,q,kk,kd,rfl,hx,Om S1.sub hn r1,hn,?_⟩; have:(N8 kk kd).isSome=(F1 kvs kd).isSome:=by
       rcases Ja (k:=kd) hkeys hvals with ⟨n1,n2⟩ | ⟨d0,v0,n1,n2,_⟩ <;> rw [n1,n2] <;> rfl
     rw [this]; exact a1 _ G1 H1 (Grow.refl S1.sub) rfl
   . exact a1.elim
 . exact a1.elim
theorem lZ {t:Bool} {i:Nat} {δ:Dn} {d:xC} (e:Y7 t i f δ=.ok d):∃ b,d=.bool b:=by
 unfold Y7 Res.bind at e;split at e
 . split at e
   . dsimp only at e
     split at e
     . cases e; exact ⟨_,rfl⟩
     . cases e
   . cases e
 . cases e
 . cases e
theorem mY {t:Bool} {i:Nat} {G H:Hp} {δ:Dn} {Q:Bool->Hp->Prop} (aft:AftT E G H (B8 (Y7 t i f) δ) Q):Aft E G H (Y7 t i f δ) (fun v H'=>∃ b,v=.bl b/\Q b H'):=by
 unfold B8 at aft;cases e:Y7 t i f δ with
 | ok d =>
   obtain ⟨b,rfl⟩:=lZ e; rw [e] at aft; intro v G' H' g r; exact ⟨b,r,aft G' H' g⟩
 | exc c=>rw [e] at aft; exact aft
 | no=>rw [e] at aft; exact aft
theorem Yr (C:Cxt P w K mg base X N sc k df) (i:Nat) (h:okVar N sc i x=true) (hk:DE X E a f) (hm:behindInMarks .NotIn (.Name x p)=false:=by with_unfolding_all rfl):DE X E (.Compare a [.NotIn] [.Name x p] pos) (Y7 true i f) :=
 PE.imp (uX (Sf (by have:=C.hu; lia) hk (okVar.pe C h)) hm) fun _ _ _ h=>cV h
theorem Mr (C:Cxt P w K mg base X N sc k df) (i:Nat) (h:okVar N sc i x=true) (hk:DE X E a f) (hm:behindInMarks .NotIn (.Name x p)=false:=by with_unfolding_all rfl):DT X E (.Compare a [.NotIn] [.Name x p] pos) (B8 (Y7 true i f)):=by
 refine PT.imp (uP (Sf (by have:=C.hu; lia) hk (okVar.pe C h)) hm) fun Z H Q hY89=>?_;obtain ⟨G,δ,S,aft⟩:=hY89;refine cV ⟨G,δ,S,?_⟩;exact mY aft
end
end Sm
end
noncomputable section
namespace Sm
open PySem PySem.Spec PyProof.Rows PySem.W L2
noncomputable def N4 {α:Type}:List (xC×α)->xC->α->List (xC×α)
 | [],k,v=>[(k,v)]
 | p::r,k,v=>if xX p.1 k=true then (p.1,v)::r else p::N4 r k v
theorem Eo {α:Type} {k:xC} {v:α}:∀ (l:List (xC×α)),(N4 l k v).length<=l.length+1:=by
 intro iN; induction iN with
 | nil=>skip; exact xN _
 | cons p r ih =>
   skip
   unfold N4;split
   . simp
   . simp only [xU]; exact ED (ih)
theorem oU {k:xC} {v:V} (hk:nkD k=true):∀ {kk:List (xC×V)} {i:Nat} {v0:V},(∀ p∈kk,nkD p.1=true)->(kk.map (·.1)).Nodup->kk[i]? = some (k,v0)->N4 kk k v=kk.modify i fun p=>(p.1,v):=by
 intro iN; induction iN with
 | nil=>intro _ _ _ _ h; simp at h
 | cons p kk ih =>
   intro i v0 hn nd h; unfold N4; have hp:=Ka (O7 (hn p (.head _))).1 (O7 hk).1;cases i with
   | zero =>
     simp at h;subst h; rw [if_pos (hp.mpr rfl)]; rfl
   | succ i =>
     rw [xL,zS] at nd; have hm:(k,v0)∈kk:=j9 (by simpa using h);rw [if_neg (fun z=>nd.1 (by rw [hp.mp z]; exact zA hm)),ih (fun q hq=>hn q (.tail _ hq)) nd.2 (by simpa using h)];rfl
theorem oT {k:xC} {v:V} (hk:nkD k=true):∀ {kk:List (xC×V)},(∀ p∈kk,nkD p.1=true)->k∉kk.map (·.1)->N4 kk k v=kk++[(k,v)]:=by
 intro iN; induction iN with
 | nil=>intro _ _; exact rfl
 | cons p kk ih =>
   intro hn h; unfold N4; rw [xL,xG,not_or] at h; rw [if_neg (fun z=>h.1 ((Ka (O7 (hn p (.head _))).1 (O7 hk).1).mp z).symm),ih (fun q hq=>hn q (.tail _ hq)) h.2];rfl
theorem Xk {G:Hp} {k d:xC} {v:V} (r:Rep G d v):∀ {kvs:Kvs} {kk:List (xC×V)},kvs.map (·.1)=kk.map (·.1)->RepL G (kvs.map (·.2)) (kk.map (·.2))->(N4 kvs k d).map (·.1)=(N4 kk k v).map (·.1)/\RepL G ((N4 kvs k d).map (·.2)) ((N4 kk k v).map (·.2))
 | [],[],_,_=>⟨rfl,RepL.cons r rfl⟩
 | [],_::_,e,_=>by cases e
 | _::_,[],e,_=>by cases e
 | p::kvs,q::kk,e,l=>by
   simp only [xL,AO] at e; obtain ⟨x,t,ex,rx,l⟩:=l; simp only [xL,AO] at ex; unfold N4; rw [e.1];split
   . exact ⟨by simp only [xL]; rw [e.2],RepL.cons r (by rw [ex.2]; exact l)⟩
   . obtain ⟨h1,h2⟩:=Xk (k:=k) r e.2 (by rw [ex.2]; exact l)
     exact ⟨by simp only [xL]; rw [e.1,h1],RepL.cons (show Rep G p.2 q.2 by rw [ex.1]; exact rx) h2⟩
theorem Ym {w:yR} {v:V} {r:xF}:∀ (kk:List (xC×V)) (xs:List (xF×xF)) (i:Nat),(O9 w kk xs).modify i (fun e=>{ e with val:=r })=O9 w (kk.modify i fun p=>(p.1,v)) (xs.modify i fun q=>(q.1,r))
 | [],xs,i=>by cases i <;> simp [O9]
 | _::_,[],i=>by cases i <;> simp [O9]
 | p::kk,q::xs,0=>rfl
 | p::kk,q::xs,i+1=>by
   have:=Ym (w:=w) (v:=v) (r:=r) kk xs i; simp only [O9,List.zipWith_cons_cons,List.modify_succ_cons] at this ⊢;rw [this]
theorem Ot {α β:Type} {F:α->β->Prop} {f:α->α} {g:β->β} (h:∀ a b,F a b->F (f a) (g b)):∀ {l₁:List α} {l₂:List β} (i:Nat),j3 F l₁ l₂->j3 F (l₁.modify i f) (l₂.modify i g)
 | _,_,i,.nil=>by cases i <;> exact .nil
 | _,_,0,.cons r t=>.cons (h _ _ r) t
 | _,_,i+1,.cons r t=>.cons r (Ot h i t)
noncomputable section
variable {prog:yI} {w:yR} {A:zL} {E:xF->xH->Prop} {s:xH}
theorem gS {d:xO} {key v:xF} {L:List zO} {ep:Nat} {ks:List xC} {k:xC} {Q:Unit->xH->Prop} (hu:A.units+8 < m8) (ho:s.heap.get? d=some { cls:=.type "dict",data:=.dict (IQ L) ep }) (hz:L.length<=sizeLine) (N:EsN w s.heap L.toArray ks) (x:NAt s.heap key k)
   (h1:∀ (i:Nat) (h':zJ) (tk:Nat),ks[i]? = some k->(∀ b o,b≠d->s.heap.get? b=some o->h'.get? b=some o)->h'.get? d=some { cls:=.type "dict",data:=.dict (L.modify i fun e=>{ e with val:=v }).toArray ep }->Q () { s with heap:=h',toks:=tk })
   (h0:∀ (h':zJ) (tk:Nat),k∉ks->(∀ b o,b≠d->s.heap.get? b=some o->h'.get? b=some o)->h'.get? d=some { cls:=.type "dict",data:=.dict (L++[DictEntry.mk (T7 w k) key v]).toArray (ep+1) }->Q () { s with heap:=h',toks:=tk }) :
   wpAny (yC prog w) A (dictSet d key v) Q E s:=by
 unfold dictSet;try with_reducible refine zK ?_
 refine xD (x.hash hu fun tk=>?_);unfold dictSetHashed;try with_reducible refine zK ?_
 refine xD (aW (s:={ s with toks:=tk }) hu ho rfl N x (fun i hi=>?_) fun hn=>?_)
 . refine xD (i7 (xD (wpAny_updateDict (s:={ s with toks:=tk }) ho rfl (wpAny_point (h1 i _ tk hi (fun b o hb e=>?_) ?_)))))
   . exact (FQ _ _ _ _ hb).trans e
   . have:=zX (Obj.mapDict fun x=>x.modify i fun e=>{ e with val:=v }) ho (FV (Obj.data_mapDict rfl _))
     rw [this]; simp [Obj.mapDict]
 . refine xD (i7 (wpAny_updateDictKeys (hz:=by simpa using hz) (s:={ s with toks:=tk }) ho rfl (h0 _ tk hn (fun b o hb e=>?_) ?_)))
   . exact (FQ _ _ _ _ hb).trans e
   . have:=zX (ES fun x=>x.push ⟨T7 w k,key,v⟩) ho (FV (Obj.data_mapDictKeys rfl _))
     rw [this]; simp [ES]
end
noncomputable section
variable {X:Cx} {pins:List (xO×Obj)} {Z:St} {H:Hp} {s:xH} {a:xO} {A:zL} {E:xF->xH->Prop}
theorem fU {kvs:List (xC×V)} {kd:xC} {y d:V} {u r:xF} {Q:Unit->xH->Prop} (hu:A.units+8 < m8) (I:Inv X pins Z H s) (e:H a=some (.dN kvs)) (rk:KRep H kd y) (hk:nkD kd=true) (hz:kvs.length < sizeLine) (ry:RelV y u) (rd:RelV d r)
   (h:∀ s',Inv X pins Z (upd H a (.dN (N4 kvs kd d))) s'->(∀ b o,b≠a->s.heap.get? b=some o->s'.heap.get? b=some o)->Q () s'):wpAny (yC X.prog X.w) A (dictSet a u r) Q E s:=by
 obtain ⟨z,hd,nd,nk,xs,rel,ep,e1⟩:=I.hok a _ e;have hl:=Paired.len' rel;have hlen:(O9 X.w kvs xs).length<=sizeLine:=by
   unfold O9; rw [List.length_zipWith]; lia
 have ht:∀ b ys,H b=some (.tup ys)->(upd H a (.dN (N4 kvs kd d))) b=some (.tup ys):=fun b ys z=>by
   rw [C3 (cO z e (fun z=>by cases z))]; exact z
 refine gS (ep:=ep) (ks:=kvs.map (·.1)) (k:=kd) hu e1 hlen (Pc I rel nk nd) (Jt I rk ry hk) (fun i h' tk hi hkeep hnew=>?_) (fun h' tk hn hkeep hnew=>?_)
 . refine h _ ?_ hkeep
   have hlt:i < kvs.length:=by have:=(yJ.mp hi).1; simpa using this
   have hp:kvs[i]? = some (kd,kvs[i].2):=by
     rw [yW hlt]; have h2:=hi; rw [yQ,yW hlt] at h2; have:kvs[i].1=kd:=by simpa using h2
     rw [<- this]
   have ep':=oU (v:=d) hk nk nd hp; refine I.write (x:=a) (e:=a) (t':=tk) (by rw [e]; exact trivial) (.inl rfl) (fun b o hb q=>hkeep b o hb q) ⟨_,hnew⟩ ?_;have hkeys:(N4 kvs kd d).map (·.1)=kvs.map (·.1):=by
     rw [ep']; apply BO;intro j; rw [yQ,yQ,List.getElem?_modify];by_cases c:i=j
     . simp only [c,if_pos]; cases kvs[j]? <;> rfl
     . simp only [c,if_neg,if_false]; cases kvs[j]? <;> rfl
   refine ⟨yA (Eo kvs) hz,hd,by rw [hkeys]; exact nd,fun p hp=>?_,xs.modify i (fun q=>(q.1,r)),?_,ep,?_⟩
   . have:p.1∈kvs.map (·.1):=by rw [<- hkeys]; exact zA hp
     obtain ⟨p',m,em⟩:=yH.mp this; rw [<- em]; exact nk p' m
   . rw [ep']
     exact Paired.mapP (Ot (fun p q hZ2=>by obtain ⟨⟨v,z1,z2⟩,_⟩:=hZ2; exact ⟨⟨v,z1,z2⟩,rd⟩) i rel) fun p q hZ2=>by obtain ⟨⟨v,z1,z2⟩,z3⟩:=hZ2; exact ⟨⟨v,z1.mono (ep'▸ht),z2⟩,z3⟩
   . rw [ep',<- Ym]; exact hnew
 . refine h _ ?_ hkeep
   have ep':=oT (v:=d) hk nk hn; refine I.write (x:=a) (e:=a) (t':=tk) (by rw [e]; exact trivial) (.inl rfl) (fun b o hb q=>hkeep b o hb q) ⟨_,hnew⟩ ⟨yA (Eo kvs) hz,hd,?_,?_,xs++[(u,r)],?_,ep+1,?_⟩
   . rw [ep',yV,z9]
     refine ⟨nd,by simp,fun x hx y hy=>?_⟩;have:y=kd:=by simpa using hy
     subst this; exact fun z=>hn (z▸hx)
   . rw [ep']
     intro p hp; rcases xY.mp hp with hp | hp
     . exact nk p hp
     . rw [xS.mp hp]; exact hk
   . have:=Paired.app' (F:=PrN (upd H a (.dN (N4 kvs kd d)))) (a:=(kd,d)) (b:=(u,r)) ⟨⟨y,rk.mono ht,ry⟩,rd⟩ (Paired.mapP rel fun p q hZ2=>by obtain ⟨⟨v,z1,z2⟩,z3⟩:=hZ2; exact ⟨⟨v,z1.mono ht,z2⟩,z3⟩)
     rw [<- ep'] at this; exact this
   . rw [ep',Yn hl]; exact hnew
theorem n_put {kvs:List (xC×V)} {kd:xC} {y d:V} {u r:xF} {Q:Unit->xH->Prop} (hu:A.units+16 < m8) (I:Inv X pins Z H s) (e:H a=some (.dN kvs)) (rk:KRep H kd y) (hk:nkD kd=true) (hz:kvs.length < sizeLine) (ry:RelV y u) (rd:RelV d r)
   (h:∀ s',Inv X pins Z (upd H a (.dN (N4 kvs kd d))) s'->Q () s'):wpAny (yC X.prog X.w) A (setItem (.ref a) u r) Q E s:=by
 obtain ⟨z,hd,nd,nk,xs,rel,ep,e1⟩:=I.hok a _ e;have hT:s.TypeIs (.ref a) "dict" := ⟨_,e1,rfl⟩;unfold setItem;try with_reducible refine zK ?_
 refine xD (EG hT (by decide) ?_);refine xD (zI (name:=k8 "__setitem__") hT F.slot_dict_setitem ?_);refine zD F.slot_dict_setitem hT F.entry_dict_setitem ?_ (F.args_dict_setitem_3 _ _ _);show wpAny _ _ (Builtin.Dict.notOrdered "__setitem__" ⟨[.ref a,u,r],[]⟩>>=_) _ _ s;refine xD (FR hT ?_);show wpAny _ _ (dictSet a u r>>=_) _ _ s;exact xD (fU (hu8 hu) I e rk hk hz ry rd fun s' I' _=>xE ⟨.none,rfl,xE (h s' I')⟩)
end
def sNPut (td ty tv:TE):TS:=fun D Z H=>tv Z H fun v H1=>td Z H1 fun x H2=>ty Z H2 fun y H3=>∃ a kvs kd,x=.ref a/\H3 a=some (.dN kvs)/\KRep H3 kd y/\nkD kd=true/\kvs.length < sizeLine/\D.nx Z (upd H3 a (.dN (N4 kvs kd v)))
theorem oY {X:Cx} {o i value:Expr} {pos pos':Pos} {td ty tv:TE} (hu:X.A.units+16 < m8) (ho:PE X o td) (hi:PE X i ty) (hv:PE X value tv) (hs:p7 value (some (.Subscript o i pos')) pos.line X.env=pure false) :
   PS X (.Assign [.Subscript o i pos'] value pos) (sNPut td ty tv):=by
 intro pins s Z H D I h;refine wpAny_Assign_Subscript (thn (hv pins s Z H _ I h) fun r s1 hY90=>?_) hs;obtain ⟨v,H1,I1,rv,q1⟩:=hY90;refine thn (ho pins s1 Z H1 _ I1 q1) fun u s2 hY91=>?_;obtain ⟨x,H2,I2,rx,q2⟩:=hY91;refine thn (hi pins s2 Z H2 _ I2 q2) fun iv s3 hY92=>?_;obtain ⟨y,H3,I3,ry,a,kvs,kd,ex,g,rk,hk,hz,q3⟩:=hY92;subst ex;obtain rfl:u=k6 a:=rx;exact n_put hu I3 g rk hk hz ry rv fun s4 I4=>⟨Z,_,I4,q3⟩
noncomputable def W4 (i:Nat) (fk fv:Dn->Res xC):Dn->Out:=fun δ=>match δ[i]? with
 | some (.ow (.tuple [.dict kvs,.none]))=>M5 (fv δ) fun v=>M5 (fk δ) fun kd=>if nkD kd=true/\kvs.length < 100000 then .nx (δ.set i (.ow (.tuple [.dict (N4 kvs kd v),.none]))) else .no
 | _=>.no
noncomputable section
variable {P:yI} {w:yR} {K:xI} {mg:Str->Option xF} {base:zJ} {X:Cx} {N:List Str} {sc:Scope} {k:Nat} {df:Bool} {E:EK} {p p2 pos:Pos} {a b:Expr} {f g:Dn->Res xC} {x:Str}
theorem Od (C:Cxt P w K mg base X N sc k df) (i:Nat) (h:okVar N sc i x=true) (hk:DE X E a f) (hv:DE X E b g) (hs:p7 b (some (.Subscript (.Name x p) a p2)) pos.line X.env=pure false:=by rfl):DS X E (.Assign [.Subscript (.Name x p) a p2] b pos) (W4 i f g):=fun G0 H0=>by
 refine PS.imp (oY (by have:=C.hu; lia) (okVar.pe C h) hk hv hs) fun D Z H hY93=>?_;obtain ⟨G,δ,S,aft⟩:=hY93;unfold W4 at aft;split at aft
 . rename_i kvs hi
   refine Ht S aft fun v x1 G1 H1 g1 r1 S1 a1=>?_;obtain ⟨q,hσ,hg,ho⟩:=S1.sr.own hi; refine ⟨.ref q,hσ,?_⟩; refine Ht S1 a1 fun kd x2 G2 H2 g2 r2 S2 a2=>?_;obtain ⟨q',hσ',hg',ho'⟩:=S2.sr.own hi; rw [hσ] at hσ'; cases hσ'; obtain ⟨kk,hx,hkeys,hvals⟩:=(show OwnK G2 H2 q [.dict kvs,.none] from ho');split at a2
   . rename_i hc
     have hl:kk.length=kvs.length:=by
       have:=congrArg BI hkeys;simpa using this.symm
     have hlen:kk.length < sizeLine:=by
       rw [hl]; exact yS hc.2 (by decide)
     refine ⟨q,kk,kd,rfl,hx,Om S2.sr.sub hc.1 r2,hc.1,hlen,?_⟩; obtain ⟨p1,p2⟩:=Xk (k:=kd) (r1.mono g2.g) hkeys hvals; exact a2 Z G2 _ (S2.write hi (by rw [hσ]; rfl) hg' (show OwnK G2 _ q [.dict _,.none] from ⟨_,C1,p1,p2⟩))
   . exact (show False from a2).elim
 . exact (show False from aft).elim
end
noncomputable def fzN (i:Nat) (δ:Dn):Dn:=match δ[i]? with
 | some (.ow (.tuple [.dict kvs,.none]))=>δ.set i (.fd ((.dict [],.none)::kvs))
 | _=>δ
theorem SSt.fzN {G0 H0 G H:Hp} {Z:St} {δ:Dn} (S:SSt G0 H0 G H Z δ) (i:Nat):∃ G',SSt G0 H0 G' H Z (fzN i δ):=by
 unfold Sm.fzN;split
 . rename_i kvs hi
   obtain ⟨p,hp,hg,ho⟩:=S.sr.sl i _ hi; obtain ⟨kk,hx,hk,r⟩:=(show OwnK G H p [.dict kvs,.none] from ho);have h0:=S.fr i _ p hi hp; have sm:Same G (upd G p (.dN kk)):=Same.upd hg; have gh:Same (upd G p (.dN kk)) H:=fun b u e=>by
     by_cases hb:b=p
     . subst hb; rw [C1] at e; cases e; exact hx
     . rw [C3 hb] at e; exact S.sr.sub _ _ e
   have gr:Grow G0 H0 (upd G p (.dN kk)) H:=⟨S.gr.g.trans sm,S.gr.h,gh,fun b u e=>by
     by_cases hb:b=p
     . subst hb; exact .inr (.inl h0)
     . rw [C3 hb] at e; exact S.gr.fr b u e⟩
   have hil:i < δ.length:=(yJ.mp hi).1; have key:∀ (j:Nat) (d':xC),(δ.set i (.fd ((.dict [],.none)::kvs)))[j]? = some (.ow d')->δ[j]? = some (.ow d')/\j≠i:=fun j d' e=>by
     rw [D8] at e;split at e
     . cases e
     . rename_i hn
       exact ⟨e,fun z=>by subst z; exact hn ⟨rfl,hil⟩⟩
   refine ⟨_,gr,⟨gh,by simp [S.sr.len],fun j s e=>?_,fun j1 j2 a d1 d2 e1 e2 h1 h2=>S.sr.ap j1 j2 a d1 d2 (key j1 d1 e1).1 (key j2 d2 e2).1 h1 h2⟩,fun j d' a e h=>S.fr j d' a (key j d' e).1 h⟩;by_cases hj:i=j/\i < δ.length
   . rw [D8,if_pos hj] at e
     cases e; rw [<- hj.1]; exact ⟨p,kk,hp,.inl C1,hk,r.mono sm⟩
   . have e2:=e
     rw [D8,if_neg hj] at e2; have hs:=S.sr.sl j s e2;cases s with
     | un=>trivial
     | sh d=>obtain ⟨v,e1,r1⟩:=hs; exact ⟨v,e1,r1.mono sm⟩
     | fd _=>exact FdOk.mono sm hs
     | ow d2 =>
       obtain ⟨a,e1,n1,ok⟩:=hs; have hne:a≠p:=by
         rintro rfl;exact (key j d2 e).2 (S.sr.ap j i a d2 _ e2 hi e1 hp)
       exact ⟨a,e1,by rw [C3 hne]; exact n1,ok.monoG sm⟩
 . exact ⟨G,S⟩
noncomputable def jV (i:Nat) (g:Dn->Out):Dn->Out:=fun δ=>g (fzN i δ)
theorem sD {X:Cx} {E:EK} {st:w8} {g1:Dn->Out} (i:Nat) (h:DS X E st g1):DS X E st (jV i g1):=fun G0 H0=>PS.imp (h G0 H0) fun D Z H hZ3=>by
 obtain ⟨G,δ,S,a⟩:=hZ3;obtain ⟨G',S'⟩:=S.fzN i;exact ⟨G',_,S',a⟩
end Sm
end
noncomputable section
namespace Sm
open PySem PySem.Spec PyProof.Rows PySem.W L2
def SlV (G:Hp) (v:V):Sl->Prop
 | .sh d=>Rep G d v
 | .fd kvs=>FdOk G (some v) kvs
 | _=>False
noncomputable def SlL (G:Hp):List Sl->List V->Prop
 | [],vs=>vs=[]
 | s::ss,vs=>∃ v r,vs=v::r/\SlV G v s/\SlL G ss r
theorem SlL.length {G:Hp}:∀ {ss:List Sl} {vs:List V},SlL G ss vs->ss.length=vs.length:=by
 intro iN; induction iN with
 | nil=>intro vs h; rw [show vs=[] from h]; rfl
 | cons _ _ ih=>intro _ h; obtain ⟨v,r,rfl,_,l⟩:=h; simp [ih l]
theorem SlL.get {G:Hp}:∀ {ss:List Sl} {vs:List V} {i:Nat} {s:Sl},SlL G ss vs->ss[i]? = some s->∃ v,vs[i]? = some v/\SlV G v s
 | [],_,i,_,_,e=>by simp at e
 | _::_,_,0,_,h,e=>by obtain ⟨v,r,rfl,q,_⟩:=h; simp at e; subst e; exact ⟨v,rfl,q⟩
 | _::_,_,i+1,_,h,e=>by obtain ⟨v,r,rfl,_,l⟩:=h; exact SlL.get (i:=i) l (by simpa using e)
noncomputable def Dd (N:List Str) (ss:List Sl):Dn:=ss++yD (N.length - ss.length) .un
theorem Wd {G H:Hp} (hG:Same G H) {ss:List Sl} {vs:List V} (r:SlL G ss vs) (N:List Str):SSt G H G H (Bf N vs) (Dd N ss):=by
 have hl:=r.length;have noow:∀ (i:Nat) (d:xC),(Dd N ss)[i]? ≠ some (.ow d):=fun i d e=>by
   unfold Dd at e;by_cases hi:i < ss.length
   . rw [zC hi] at e
     obtain ⟨_,_,z⟩:=r.get e; exact z
   . rw [zF (l0.mp hi),m7] at e
     split at e <;> cases e
 refine ⟨Grow.refl hG,⟨hG,by unfold L2.Bf Dd; simp [hl],fun i s e=>?_,fun i j a d d' e _ _ _=>absurd e (noow i d)⟩,fun i d a e _=>absurd e (noow i d)⟩;unfold Dd at e;by_cases hi:i < ss.length
 . rw [zC hi] at e
   obtain ⟨v,e1,rv⟩:=r.get e; unfold L2.Bf; rw [zC (by rw [xJ,<- hl]; exact hi),yQ,e1];cases s with
   | sh d=>exact ⟨v,rfl,rv⟩
   | fd kvs=>exact rv
   | un=>exact rv.elim
   | ow d=>exact rv.elim
 . rw [zF (l0.mp hi),m7] at e
   split at e <;> cases e
   trivial
def spS (n:Nat) (m:List Sl->Res xC):Sp:=fun vs H Q _=>∃ G ss d,Same G H/\SlL G ss vs/\ss.length=n/\m ss=.ok d/\∀ v G' H',Grow G H G' H'->Rep G' d v->Q v H'
structure FnS (P:yI) (w:yR) (K:xI) (mg:Str->Option xF) (base:zJ) (x:Str) (k n:Nat) (m:List Sl->Res xC):Prop where
 ex:∃ f fd ps,ps.length=n/\FnOk P w K mg base CX0 k f fd ps (spS n m)/\mg x=some (.ref f)/\i3 K (.ref f)=true/\Binds K fd ps []
noncomputable def fnS (N:List Str) (g:Dn->Out):List Sl->Res xC:=fun ss=>match g (Dd N ss) with
 | .rt d=>.ok d
 | .nx _=>.ok .none
 | .exc c=>.exc c
 | _=>.no
def spSN (n:Nat) (m:List Sl->Res Kvs):Sp:=fun vs H Q _=>∃ G ss kvs,Same G H/\SlL G ss vs/\ss.length=n/\m ss=.ok kvs/\∀ p G' H',Grow G H G' H'->H p=none->G' p=none->OwnOk G' H' p (.tuple [.dict kvs,.none])->Q (.ref p) H'
structure FnSN (P:yI) (w:yR) (K:xI) (mg:Str->Option xF) (base:zJ) (x:Str) (k n:Nat) (m:List Sl->Res Kvs):Prop where
 ex:∃ f fd ps,ps.length=n/\FnOk P w K mg base CX0 k f fd ps (spSN n m)/\mg x=some (.ref f)/\i3 K (.ref f)=true/\Binds K fd ps []
noncomputable def qM (N:List Str) (g:Dn->Res Kvs):List Sl->Res Kvs:=fun ss=>g (Dd N ss)
noncomputable def Tn (f:Dn->Res xC) (i:Nat) (m:List Sl->Res Kvs):Dn->Res Kvs:=fun δ=>(f δ).bind fun d=>match δ[i]? with
 | some (.fd kvs)=>m [.sh d,.fd kvs]
 | _=>.no
noncomputable def Be (i:Nat) (f:Dn->Res xC) (m:List Sl->Res xC):Dn->Res xC:=fun δ=>match δ[i]? with
 | some (.fd kvs)=>(f δ).bind fun d=>m [.fd kvs,.sh d]
 | _=>.no
theorem FdOk.is {G:Hp} {o:Option V} {kvs:Kvs} (h:FdOk G o kvs):∃ a,o=some (.ref a):=by
 unfold FdOk at h;split at h
 . obtain ⟨a,kk,h1,_⟩:=h; exact ⟨a,h1⟩
 . obtain ⟨a,ob,kk,h1,_⟩:=h; exact ⟨a,h1⟩
theorem SR.fdV {G H:Hp} {Z:St} {δ:Dn} {i:Nat} {kvs:Kvs} (S:SR G H Z δ) (hi:δ[i]? = some (.fd kvs)):∃ v,Z[i]? = some (some v)/\FdOk G (some v) kvs:=by
 have h:FdOk G (Z[i]?.join) kvs:=S.sl i _ hi;obtain ⟨a,e⟩:=h.is;rw [e] at h;refine ⟨.ref a,?_,h⟩;cases z:Z[i]? with
 | none=>rw [z] at e; cases e
 | some z' =>
   rw [z] at e;cases z' with
   | none=>cases e
   | some z''=>cases e; rfl
noncomputable section
variable {P:yI} {w:yR} {K:xI} {mg:Str->Option xF} {base:zJ} {X:Cx} {N:List Str} {sc:Scope} {k:Nat} {df:Bool} {E:EK} {pos p p1:Pos} {a e:Expr} {f:Dn->Res xC} {x y:Str}
theorem fn_S {x:Str} {st:w8} {ps:List Str} {n:Nat} {go:Dn->Out} {m:List Sl->Res xC} (F:Def K mg x st ps) (S:FnScope N ps (A4 st)) (hn:ps.length=n)
   (body:∀ X,Cxt P w K mg base X N (A4 st) k true->DSs X E0k (B3 st) go) (hm:m=fnS N go):FnS P w K mg base x (k+1) n m:=by
 obtain ⟨f,fd,F,hmg,hb⟩:=F.ex;refine ⟨f,fd,ps,hn,?_,hmg,F.kp,hb⟩;subst hm;refine F.ok S (fun vs H Q E h=>?_) (fun cdv A outer s H vs Q E hr h=>?_)
 . obtain ⟨G,ss,d,_,r,hl,_⟩:=h
   rw [<- r.length,hl,hn]
 . obtain ⟨G,ss,d,hG,r,hl,em,q⟩:=h
   refine ⟨_,body _ ⟨rfl,rfl,rfl,rfl,rfl,rfl,rfl,rfl,hr,fun _ _=>rfl,BX⟩ G H,G,_,Wd hG r N,?_⟩;unfold fnS at em;cases eg:go (Dd N ss) with
   | rt d'=>rw [eg] at em; cases em; exact fun v G' H' g r'=>q v G' H' g r'
   | nx δ=>rw [eg] at em; cases em; exact fun Z G' H' S'=>q _ G' H' S'.gr rfl
   | bk _=>rw [eg] at em; cases em
   | ct _=>rw [eg] at em; cases em
   | exc _=>rw [eg] at em; cases em
   | no=>rw [eg] at em; cases em
theorem fn_SN {x:Str} {st:w8} {ps:List Str} {n:Nat} {go:Dn->Res Kvs} {m:List Sl->Res Kvs} (F:Def K mg x st ps) (S:FnScope N ps (A4 st)) (hn:ps.length=n)
   (body:∀ X,Cxt P w K mg base X N (A4 st) k true->DSN X E0k (B3 st) go) (hm:m=qM N go):FnSN P w K mg base x (k+1) n m:=by
 obtain ⟨f,fd,F,hmg,hb⟩:=F.ex;refine ⟨f,fd,ps,hn,?_,hmg,F.kp,hb⟩;subst hm;refine F.ok S (fun vs H Q E h=>?_) (fun cdv A outer s H vs Q E hr h=>?_)
 . obtain ⟨G,ss,d,_,r,hl,_⟩:=h
   rw [<- r.length,hl,hn]
 . obtain ⟨G,ss,kvs,hG,r,hl,em,q⟩:=h
   refine ⟨_,body _ ⟨rfl,rfl,rfl,rfl,rfl,rfl,rfl,rfl,hr,fun _ _=>rfl,BX⟩ G H,G,_,Wd hG r N,?_⟩;unfold qM at em; rw [em]; exact q
theorem AftN.grow {G H G' H':Hp} {r:Res Kvs} {Q:VK} (g:Grow G H G' H') (a:AftN E G H r Q):AftN E G' H' r Q:=by
 cases r with
 | ok kvs=>exact fun p G2 H2 g2 hp hp' ho=>a p G2 H2 (g.trans g2) (g.h.free hp) hp' ho
 | exc c=>exact fun G2 H2 g2=>a G2 H2 (g.trans g2)
 | no=>exact a
theorem wW {G H:Hp} {Z:St} {δ:Dn} {k:xC->Res Kvs} {Q R:VK} (S:SR G H Z δ) (a:AftN E G H ((f δ).bind k) Q)
   (h:∀ d v G1 H1,Grow G H G1 H1->Rep G1 d v->SR G1 H1 Z δ->AftN E G1 H1 (k d) Q->R v H1):tD E f Z H R:=by
 refine ⟨G,δ,S,?_⟩;cases e:f δ with
 | ok d=>rw [e] at a; exact fun v G' H' g r=>h d v G' H' g r (S.grow g) (a.grow g)
 | exc c=>rw [e] at a; exact a
 | no=>rw [e] at a; exact a
theorem lG {j:Nat} {m:List Sl->Res Kvs} (C:Cxt P w K mg base X N sc k df) (F:FnSN P w K mg base y j 2 m) (hj:j<=k) (h:okGl sc y=true) (ha:DE X E0k e f) (i:Nat) (hv:okVar N sc i x=true)
   (he:xR [e,.Name x p1] X.env=(false,eval e X.env)::xR [.Name x p1] X.env:=by rfl) (he2:xR [.Name x p1] X.env=(false,eval (.Name x p1) X.env)::xR [] X.env:=by rfl) (hpl:(f9 pos (xR [.Name x p1] X.env)).any (·.1)=false:=by rfl) :
   DN X E0k (.Call (.Name y p) [e,.Name x p1] [] pos) (Tn f i m):=by
 obtain ⟨fa,fd,ps,hps,F,hm,hk,hb⟩:=F.ex;obtain ⟨h1,h2,h3⟩:=okGl.gl C h;have F':FnOk X.prog X.w X.K X.mg X.base CX0 j fa fd ps (spSN 2 m):=by rw [C.hP,C.hw,C.hK,C.hmg,C.hb]; exact F
 refine PE.imp (Mh F' (C.room.mono hj) h1 (by rw [C.hmg]; exact hm) (by rw [C.hK]; exact hk) (by rw [C.hK]; exact hb) .nil (cI (X:=X)) (P6 ha (P6 (okVar.pe C hv) Y3 he2) he) h2 he hpl) fun Z H Q hh=>?_;obtain ⟨G,δ,S,aft⟩:=hh;refine wW S aft fun d v G1 H1 g1 r1 S1 a1=>?_;split at a1
 . rename_i kvs hi
   obtain ⟨u,hσ,fo⟩:=S1.fdV hi; refine ⟨u,hσ,?_⟩;cases em:m [.sh d,.fd kvs] with
   | ok r=>rw [em] at a1; exact ⟨G1,[.sh d,.fd kvs],r,S1.sub,⟨v,_,rfl,r1,u,_,rfl,fo,rfl⟩,rfl,em,a1⟩
   | exc c=>rw [em] at a1; exact (a1 G1 H1 (Grow.refl S1.sub)).elim
   | no=>rw [em] at a1; exact a1.elim
 . exact (show False from a1).elim
theorem Yu {j:Nat} {m:List Sl->Res xC} (C:Cxt P w K mg base X N sc k df) (F:FnS P w K mg base y j 2 m) (hj:j<=k) (h:okGl sc y=true) (i:Nat) (hv:okVar N sc i x=true) (ha:DE X E0k e f)
   (he:xR [.Name x p1,e] X.env=(false,eval (.Name x p1) X.env)::xR [e] X.env:=by rfl) (he2:xR [e] X.env=(false,eval e X.env)::xR [] X.env:=by rfl) (hpl:(f9 pos (xR [e] X.env)).any (·.1)=false:=by rfl) :
   DE X E0k (.Call (.Name y p) [.Name x p1,e] [] pos) (Be i f m):=by
 obtain ⟨fa,fd,ps,hps,F,hm,hk,hb⟩:=F.ex;obtain ⟨h1,h2,h3⟩:=okGl.gl C h;have F':FnOk X.prog X.w X.K X.mg X.base CX0 j fa fd ps (spS 2 m):=by rw [C.hP,C.hw,C.hK,C.hmg,C.hb]; exact F
 refine PE.imp (Mh F' (C.room.mono hj) h1 (by rw [C.hmg]; exact hm) (by rw [C.hK]; exact hk) (by rw [C.hK]; exact hb) .nil (cI (X:=X)) (P6 (okVar.pe C hv) (P6 ha Y3 he2) he) h2 he hpl) fun Z H Q hh=>?_;obtain ⟨G,δ,S,aft⟩:=hh;unfold Be at aft;split at aft
 . rename_i kvs hi
   obtain ⟨u,hσ,_⟩:=S.fdV hi; refine ⟨u,hσ,?_⟩; refine L5 S aft fun d v G1 H1 g1 r1 S1 a1=>?_;obtain ⟨u',hσ',fo⟩:=S1.fdV hi; rw [hσ] at hσ'; cases hσ';cases em:m [.fd kvs,.sh d] with
   | ok r=>rw [em] at a1; exact ⟨G1,[.fd kvs,.sh d],r,S1.sub,⟨u,_,rfl,fo,v,_,rfl,r1,rfl⟩,rfl,em,a1⟩
   | exc c=>rw [em] at a1; exact (a1 G1 H1 (Grow.refl S1.sub)).elim
   | no=>rw [em] at a1; exact a1.elim
 . exact (show False from aft).elim
end
end Sm
end
noncomputable section
namespace Sm
open PySem PySem.Spec PyProof.Rows PySem.W L2
end Sm
end
noncomputable section
namespace Sm
open PySem PySem.Spec PyProof.Rows PySem.W L2
end Sm
end
noncomputable section
namespace Sm
open PySem PySem.Spec PySem.W PyProof.Rows L2
end Sm
end
noncomputable section
namespace Sm
open PySem PySem.Spec PySem.W PyProof.Rows L2
end Sm
end
noncomputable section
namespace Sm
open PySem PySem.Spec PyProof.Rows PySem.W L2
noncomputable section
variable {prog:yI} {w:yR} {A:zL} {E:xF->xH->Prop} {s:xH}
theorem Zq (hh:A.handled=none) (I d:xO) (hne:d≠I) (od:Obj) (es:Array zO) (ep:Nat) (hdd:od.data=.dict es ep) :
   Walks prog w A I [I,d] [I] es.size (fun i v=>∃ e,es[i]? = some e/\v=e.key) (fun i h=>h.IsKeyIter I d i es.size ep/\h.get? d=some od) where
 sub:=fun b hb=>by simp at hb; simp [hb]
 frame:=fun _ _ _ st hk=>⟨st.1.at fun o e=>hk I (by simp) o e,hk d (by simp) _ st.2⟩
 item:=fun i s Q E hi st hQ=>by
   refine lC st.1 st.2 hdd hi fun h' n hs=>?_;exact hQ _ h' s.toks ⟨es[i],by simp [hi],rfl⟩ ⟨n,hs.extBut d _ hne st.2⟩ fun b o hb e=>hs.extBut b o (fun z=>hb (by simp [z])) e
 done:=fun s Q E st hQ=>qQ hh (xN _) st.1 st.2 hdd fun h' he=>hQ h' s.toks fun b o hb e=>he b o (fun z=>hb (by simp [z])) e
 self:=fun _ _ _ _ st hQ=>wpAny_pyIter_keyiter st.1 hQ
theorem eY {d:xO} {od:Obj} {es:Array zO} {ep:Nat} (lo:(d==p9)=false) (hcl:od.cls=.type "dict") (hdd:od.data=.dict es ep) :
   KdlSrc prog w "dict" d d es.size (fun i v=>∃ e,es[i]? = some e/\v=e.key) (fun h=>h.get? d=some od) where
 type:=fun _ hm=>⟨od,hm,hcl⟩
 there:=fun _ hm=>⟨xZ hm,xZ hm⟩
 keep:=fun _ _ hm hk=>hk d (.inr rfl) _ hm
 notList:=by decide
 notTuple:=by decide
 hint:=fun _ _ _ _ hm hq=>kdl_hint_dict ⟨od,hm,hcl⟩ hq
 iter:=fun _ _ hh hm=>⟨_,_,(fun _ _ hq=>lV lo ⟨od,hm,hcl⟩ hm hdd hq),Zq hh _ d (yU (xZ hm)) od es ep hdd,⟨⟨_,xT _ rfl,rfl,rfl⟩,xK _ hm⟩⟩
theorem jI {d:xO} {od:Obj} {es:Array zO} {ep:Nat} {ss:List Str} {Q:xF->xH->Prop} (lo:(d==p9)=false) (hcl:od.cls=.type "dict") (hdd:od.data=.dict es ep) (hh:A.handled=none) (hd:s.heap.get? d=some od)
   (hS:EL (es.toList.map (·.key)) ss) (h64:es.size < 64)
   (h:∀ (h1:zJ) tk (out:Array xF) (ss':List Str),(∀ b o,s.heap.get? b=some o->h1.get? b=some o)->EL out.toList ss'->ss'.Perm ss->sortedS ss'=true ->
     Q (.ref h1.objs.size) { s with heap:=IX (h1.push (BU "list" (es.toList.map (·.key)).toArray 0)) h1.objs.size (es.toList.map (·.key)) out,toks:=tk }) :
   wpAny (yC prog w) A (call (.builtin "sorted") [.ref d]) Q E s:=by
 refine DD kind_sorted plain_sorted entry_sorted (args_sorted1 _) (xD (m:=checkCount "sorted" 1 1 _) (xE (xD (Ve (eY lo hcl hdd) hh hd (by rw [u5]; lia) fun h1 tk acc hk hacc=>?_))));have hacc2:acc.toList=es.toList.map (·.key):=by
   apply BO;intro j;by_cases hj:j < es.size
   . have hja:j < acc.size:=by rw [hacc.1]; exact hj
     obtain ⟨e,e1,e2⟩:=hacc.2 j acc[j] (by simp [hja]);rw [yQ,z0,z0,e1,zB hja,e2]; rfl
   . rw [l7 (by simpa [hacc.1] using l0.mp hj),l7 (by simpa using l0.mp hj)]
 rw [hacc2];generalize hvs:es.toList.map (·.key)=vs at *;have hvl:vs.length=es.size:=by rw [<- hvs]; simp
 refine xD (wpAny_newList ?_ (by rw [u5]; lia));have hoL:(h1.push (BU "list" vs.toArray 0)).get? h1.objs.size=some (BU "list" vs.toArray 0):=xT _ rfl;show wpAny _ _ _ _ _ { s with heap:=h1.push (BU "list" vs.toArray 0),toks:=tk };refine xD (zK (zD IY ⟨_,hoL,rfl⟩ IH (list_sort_treeK strKind_oneLt hoL hS.keysOf (fun v₁ v₂ rest e=>keyKind_strs (by rw [<- e]; exact hS)) (by lia) fun st' hp hs=>⟨_,rfl,?_⟩) (JG _)));obtain ⟨ss',k1,k2,k3⟩:=sorted_out_str hS hp hs;exact xE ⟨_,rfl,h h1 tk _ ss' hk k1 k2 k3⟩
end
noncomputable def ltS (a b:Str):Bool:=ltCps a.cps.toList b.cps.toList
noncomputable def gL (p:Str):List Str->List Str
 | []=>[p]
 | q::r=>if ltS q p=true then q::gL p r else p::q::r
noncomputable def Q3:List Str->List Str
 | []=>[]
 | p::r=>gL p (Q3 r)
noncomputable def M4:List xC->Option (List Str)
 | []=>some []
 | .str x::r=>(M4 r).map (x::·)
 | _::_=>none
def leX (a b:Str):Prop:=¬ b.cps.toList < a.cps.toList
theorem sL {a b:Str}:ltS b a=false↔leX a b:=by unfold ltS leX; rw [ltCps_eq]; simp
theorem leX.trans {a b c:Str} (h1:leX a b) (h2:leX b c):leX a c:=List.le_trans (l₁:=a.cps.toList) (l₂:=b.cps.toList) (l₃:=c.cps.toList) h1 h2
theorem leX.anti {a b:Str} (h1:leX a b) (h2:leX b a):a=b:=by
 have:=List.le_antisymm (as:=a.cps.toList) (bs:=b.cps.toList) h1 h2;obtain ⟨⟨x⟩⟩:=a;obtain ⟨⟨y⟩⟩:=b;simp at this;rw [this]
theorem Rx:∀ (p:Str) (l:List Str),risingS p l=true->(p::l).Pairwise leX
 | p,[],_=>u7 _ _
 | p,x::r,h=>by
   have h':(!ltCps x.cps.toList p.cps.toList&&risingS x r)=true:=h; rw [yE] at h'; have ih:=Rx x r h'.2; have hx:leX p x:=sL.mp (by have:=h'.1; unfold ltS; simpa using this);refine yK.mpr ⟨fun y hy=>?_,ih⟩;rcases xG.mp hy with rfl | hy
   . exact hx
   . exact hx.trans ((yK.mp ih).1 y hy)
theorem Np:∀ {l:List Str},sortedS l=true->l.Pairwise leX:=by
 intro iN; induction iN with
 | nil=>intro _; exact .nil
 | cons x r ih=>intro h; exact Rx x r h
theorem Oo:∀ {l m:List Str},l.Perm m->l.Pairwise leX->m.Pairwise leX->l=m
 | [],m,h,_,_=>(JM h)
 | a::l,[],h,_,_=>absurd h.length_eq (by simp)
 | a::l,b::m,h,h1,h2=>by
   rw [yK] at h1 h2; have e:a=b:=by
     rcases xG.mp (h.mem_iff.mp (zV (a:=a) (l:=l))) with e | e
     . exact e
     . rcases xG.mp (h.mem_iff.mpr (zV (a:=b) (l:=m))) with e' | e'
       . exact e'.symm
       . exact (h1.1 b e').anti (h2.1 a e)
   subst e; rw [Oo (IK h) h1.2 h2.2]
theorem Sn (p:Str):∀ l,(gL p l).Perm (p::l):=by
 intro iN; induction iN with
 | nil=>skip; exact g9 _
 | cons q r ih =>
   skip
   unfold gL;split
   . exact ((ih).cons q).trans (EE p q r)
   . exact g9 _
theorem L8:∀ l,(Q3 l).Perm l:=by
 intro iN; induction iN with
 | nil=>skip; exact g9 _
 | cons p r ih=>skip; exact (Sn p (Q3 r)).trans ((ih).cons p)
theorem qI (p:Str):∀ l,l.Pairwise leX->(gL p l).Pairwise leX:=by
 intro iN; induction iN with
 | nil=>intro _; exact u7 _ _
 | cons q r ih =>
   intro h; rw [yK] at h; unfold gL;split
   . rename_i c
     refine yK.mpr ⟨fun x hx=>?_,ih h.2⟩;rcases xG.mp ((Sn p r).mem_iff.mp hx) with rfl | hx
     . unfold ltS at c; rw [ltCps_eq] at c; exact List.lt_asymm (of_decide_eq_true c)
     . exact h.1 x hx
   . rename_i c
     have hq:leX p q:=sL.mp (by simpa using c);refine yK.mpr ⟨fun x hx=>?_,yK.mpr h⟩;rcases xG.mp hx with rfl | hx
     . exact hq
     . exact hq.trans (h.1 x hx)
theorem Nq:∀ l,(Q3 l).Pairwise leX:=by
 intro iN; induction iN with
 | nil=>skip; exact .nil
 | cons p r ih=>skip; exact qI p _ (ih)
theorem Gu:∀ {ds:List xC} {ss:List Str},M4 ds=some ss->ds=ss.map .str:=by
 intro iN; induction iN with
 | nil=>intro ss e; cases e; rfl
 | cons d ds ih =>
   intro ss e;cases d with
   | str x =>
     obtain ⟨r,e1,e2⟩:=yT.mp (show (M4 ds).map (x::·)=some ss from e);rw [<- e2,ih e1]; rfl
   | _=>cases e
noncomputable section
variable {X:Cx}
def uK (xs:List V) (H:Hp) (Q:VK):Prop:=∃ d,∃ kk:List (xC×V),∃ ss:List Str,xs=[.ref d]/\Rd H d (.dN kk)/\kk.map (·.1)=ss.map .str/\ss.length < 64 /\
 ∀ l,H l=none->Q (.ref l) (upd H l (.lst ((Q3 ss).map .str)))
theorem Pe {w:yR} {H:Hp}:∀ {kk:List (xC×V)} {xs:List (xF×xF)} {ss:List Str},j3 (fun (p:xC×V) (q:xF×xF)=>(∃ v,KRep H p.1 v/\RelV v q.1)/\RelV p.2 q.2) kk xs->kk.map (·.1)=ss.map zM->EL ((O9 w kk xs).map (·.key)) ss
 | _,_,[],r,e=>by
   cases r with
   | nil=>exact .nil
   | cons _ _=>cases e
 | _,_,x::ss,r,e=>by
   cases r with
   | nil=>cases e
   | @cons p q kk xs h r =>
     injection e with e1 e2
     obtain ⟨⟨v,h1,h2⟩,_⟩:=h; rw [show p.1=zM x from e1] at h1; obtain ⟨rfl,_⟩:=h1; obtain ⟨t,ht⟩:=h2; show EL (q.1::(O9 w kk xs).map (·.key)) (x::ss);rw [ht]; exact .cons x t (Pe r e2)
theorem Gr:∀ {vs:List xF} {ss:List Str},EL vs ss->Vals (ss.map V.str) vs
 | _,_,.nil=>.nil
 | _,_,.cons x t h=>.cons ⟨t,rfl⟩ (Gr h)
theorem bD (hh:X.A.handled=none):U7 X (.builtin "sorted") uK:=by
 rintro pins s Z H xs us Q I r ⟨d,kk,ss,hx,hd,hkk,h64,q⟩;subst hx;obtain ⟨u,rfl,ru⟩:=Vals.one r;cases (show u=k6 d from ru);obtain ⟨z,lo,nd,nk,ys,rel,ep,ho⟩:=hd.ok I.hok;have hS:=Pe (w:=X.w) rel hkk;have hlen:(O9 X.w kk ys).length=ss.length:=by
   have:=hS.strs; rw [<- this]; simp
 refine jI (ss:=ss) lo rfl rfl hh ho hS (by rw [xW]; exact DB (Nat.le_of_eq hlen) h64) fun h1 tk out ss' hk k1 k2 k3=>?_;have hsrt:ss'=Q3 ss:=Oo (k2.trans (L8 ss).symm) (Np k3) (Nq ss);subst hsrt;have I1:Inv X pins Z H { s with heap:=h1,toks:=tk }:=I.kept (t':=tk) hk;have ho1:(h1.push (BU "list" ((O9 X.w kk ys).toArray.toList.map (·.key)).toArray 0)).get? h1.objs.size=some (BU "list" ((O9 X.w kk ys).toArray.toList.map (·.key)).toArray 0):=xT _ rfl;obtain ⟨ee,hat⟩:=sortedHeap_at (out:=out) ho1;have hfr:H h1.objs.size=none:=I1.hok.fresh (xN _)
 refine ⟨.ref h1.objs.size,_,I1.laid (o:=.lst ((Q3 ss).map .str)) (t':=tk) (fun b o e=>?_) (xN _) ⟨?_,out.toList,ee,Gr k1,hat⟩,rfl,q _ hfr⟩
 . have hlt:b < h1.objs.size:=xZ e
   rw [sortedHeap_old (yU hlt) (by rw [size_push']; exact DQ hlt)];exact xK _ e
 . rw [xJ,(L8 ss).length_eq,u5]; lia
end
noncomputable def Mn (i:Nat):Dn->Res xC:=fun δ=>match kvN δ i with
 | some kvs=>match M4 (kvs.map (·.1)) with
   | some ss=>if ss.length < 64/\(ss.all fun x=>yP x&&decide (x.length<=1000))=true then .ok (.list ((Q3 ss).map .str)) else .no
   | none=>.no
 | none=>.no
noncomputable section
variable {P:yI} {w:yR} {K:xI} {mg:Str->Option xF} {base:zJ} {X:Cx} {N:List Str} {sc:Scope} {k:Nat} {df:Bool} {E:EK} {pos p p1:Pos} {x:Str}
theorem Ol {G:Hp}:∀ (ss:List Str),(∀ x∈ss,yP x=true/\x.length<=sizeLine)->RepL G (ss.map .str) (ss.map .str):=by
 intro iN; induction iN with
 | nil=>intro _; exact rfl
 | cons x ss ih=>intro h; exact RepL.cons ⟨rfl,h x (.head _)⟩ (ih fun y hy=>h y (.tail _ hy))
theorem rA (C:Cxt P w K mg base X N sc k df) (h:okGl sc "sorted" = true) (hm:mg "sorted" = none) (i:Nat) (hv:okVar N sc i x=true)
   (he:xR [.Name x p1] X.env=(false,eval (.Name x p1) X.env)::xR [] X.env:=by rfl) (hpl:(f9 pos (xR [] X.env)).any (·.1)=false:=by rfl) :
   DE X E (.Call (.Name "sorted" p) [.Name x p1] [] pos) (Mn i):=by
 obtain ⟨h1,h2,h3⟩:=okGl.gl C h;intro pins s Z H Q I q;refine (PE.imp (Os (bD (I.ok.hd C.calm)) h1 (by rw [C.hmg]; exact hm) (by decide +kernel) (P6 (okVar.pe C hv (p:=p1)) Y3 he) h3 h2 he hpl) fun Z H Q hY94=>?_) pins s Z H Q I q;obtain ⟨G,δ,S,aft⟩:=hY94;unfold Mn at aft;split at aft
 . rename_i kvs hi
   split at aft
   . rename_i ss eps
     split at aft
     . rename_i hc
       obtain ⟨d,kk,hσ,hx,hkeys,hvals⟩:=S.kvN hi; refine ⟨.ref d,hσ,d,kk,ss,rfl,hx,by rw [<- hkeys]; exact Gu eps,hc.1,fun l hl=>?_⟩;have hG:G l=none:=S.sub.free hl; refine aft _ (upd G l (.lst ((Q3 ss).map .str))) _ (Grow.new S.sub hl) ⟨l,_,rfl,.inl C1,?_⟩; refine Ol _ fun y hy=>?_;have:=o9.mp hc.2 y ((L8 ss).mem_iff.mp hy); rw [yE] at this; exact ⟨this.1,yA (of_decide_eq_true this.2) (by decide)⟩
     . exact aft.elim
   . exact aft.elim
 . exact aft.elim
end
end Sm
end
noncomputable section
namespace Sm
open PySem PySem.Spec PyProof.Rows L2
end Sm
end
noncomputable section
namespace Sm
open PySem PySem.Spec PyProof.Rows L2
noncomputable def okS (x:Str):Bool:=yP x&&decide (x.length<=sizeLine)
noncomputable section
theorem okS.out {x:Str} (h:okS x=true):yP x=true/\x.length<=sizeLine:=by
 unfold okS at h;simp only [yE,decide_eq_true_eq] at h;exact h
end
end Sm
end
noncomputable section
namespace Sm
open PySem PySem.Spec PyProof.Rows L2
end Sm
end
noncomputable section
namespace Sm
open PySem PySem.Spec PyProof.Rows L2
end Sm
end
noncomputable section
namespace Sm
open PySem PySem.Spec PyProof.Rows L2
end Sm
end
noncomputable section
namespace Sm
open PySem PySem.Spec PyProof.Rows L2
end Sm
namespace Sm
open PySem PySem.Spec PyProof.Rows L2
end Sm
end
noncomputable section
namespace Sm
open PySem PySem.Spec PyProof.Rows L2
noncomputable def Vb (x:Str) (lo hi:Option Int):Str:=if (((zZ lo hi 1 x.length).length==x.length)=true) then x else ⟨((zZ lo hi 1 x.length).filterMap (x.cps[·]?)).toArray⟩
noncomputable def sT (d:xC) (lo hi:Option Int):Option xC:=match d with
 | .str x=>if okS (Vb x lo hi)=true then some (.str (Vb x lo hi)) else none
 | _=>none
theorem cJ {v:xF} {o:Option Int} (h:FH v o):∃ l:Option (Int×Tok),v=partValue l/\l.map (·.1)=o:=by
 cases h with
 | none=>exact ⟨none,rfl,rfl⟩
 | int i t=>exact ⟨some (i,t),rfl,rfl⟩
noncomputable section
variable {X:Cx}
noncomputable def rSlS:V->Option Int->Option Int->Hp->VK->Prop:=fun x lo hi H Q=>∃ z,x=.str z/\(Vb z lo hi).length<=sizeLine/\Q (.str (Vb z lo hi)) H
theorem sl_S:SlR X rSlS:=by
 rintro pins s Z H x v vl vu lo hi sl Q I rx hs pl pu ⟨z,e,hl,q⟩;subst e;obtain ⟨t,rfl⟩:=rx;obtain ⟨l,rfl,rfl⟩:=cJ pl;obtain ⟨u,rfl,rfl⟩:=cJ pu;refine ⟨"str",_,F.slot_str_getitem.lookup,typeIs_str _ _ _,?_⟩;refine wpAny_getItem_str_slice (l:=l) (u:=u) (st:=none) hs rfl ?_;unfold sliceMade slicePicked;unfold Vb at q hl;show (if ((1:Int)==1&&(zZ (l.map (·.1)) (u.map (·.1)) 1 z.length).length==z.length)=true then Made.val (.str z t) else .str ⟨((zZ (l.map (·.1)) (u.map (·.1)) 1 z.length).filterMap (z.cps[·]?)).toArray⟩).post _ s;have e1:((1:Int)==1)=true:=rfl
 rw [e1,Bool.true_and];split
 . rename_i h
   rw [if_pos h] at q; exact ⟨.str z,H,I,⟨_,rfl⟩,q⟩
 . rename_i h
   rw [if_neg h] at q hl; exact ⟨hl,.str _,H,I.tok _,⟨_,rfl⟩,q⟩
noncomputable def iJ (f:Dn->Res xC) (fl fh:Dn->Res (Option Int)):Dn->Res xC:=fun δ=>(f δ).bind fun d=>(fl δ).bind fun l=>(fh δ).bind fun u=>ofO (sT d l u)
theorem mL {E:EK} {e:Expr} {lo hi:Option Expr} {f:Dn->Res xC} {fl fh:Dn->Res (Option Int)} {p2 pos:Pos} (he:DE X E e f) (hl:DO X E lo fl) (hu:DO X E hi fh):DE X E (.Subscript e (.Slice lo hi none p2) pos) (iJ f fl fh):=by
 refine PE.imp (Xo sl_S he hl hu) fun Z H Q hZ3=>?_;obtain ⟨G,δ,S,aft⟩:=hZ3;refine L5 S aft fun d v G1 H1 g1 r1 S1 a1=>?_;refine Je (W:=fun G H r=>Aft E G H r Q) S1 a1 (fun g a=>Aft.grow g a) (fun c a=>a) (fun a=>a) fun l G2 H2 g2 S2 a2=>?_;refine Je (W:=fun G H r=>Aft E G H r Q) S2 a2 (fun g a=>Aft.grow g a) (fun c a=>a) (fun a=>a) fun u G3 H3 g3 S3 a3=>?_;cases d with
 | str z =>
   simp only [sT] at a3;split at a3
   . rename_i ok
     exact ⟨z,r1.1,(okS.out ok).2,a3 _ G3 H3 (Grow.refl S3.sub) ⟨rfl,okS.out ok⟩⟩
   . exact (show False from a3).elim
 | _=>exact (show False from a3).elim
end
end Sm
end
noncomputable section
namespace Sm
open PySem PySem.Spec PyProof.Rows L2
noncomputable section
variable {a b c d:Expr}
noncomputable def st3 (i j l:Nat):xC->Dn->Option Dn:=fun d δ=>match d with
 | .tuple [a,b,c]=>some (((δ.set i (.sh a)).set j (.sh b)).set l (.sh c))
 | _=>none
end
end Sm
end
noncomputable section
namespace Sm
open PySem PySem.Spec PyProof.Rows L2
noncomputable def Gn:List xC->Option (List Int)
 | []=>some []
 | .int i::r=>(Gn r).map (i::·)
 | _::_=>none
noncomputable def gK (p:Int):List Int->List Int
 | []=>[p]
 | q::r=>if q < p then q::gK p r else p::q::r
noncomputable def Ei:List Int->List Int
 | []=>[]
 | p::r=>gK p (Ei r)
theorem Sk (p:Int):∀ l,(gK p l).Perm (p::l):=by
 intro iN; induction iN with
 | nil=>skip; exact g9 _
 | cons q r ih =>
   skip
   unfold gK;split
   . exact ((ih).cons q).trans (EE p q r)
   . exact g9 _
theorem V4:∀ l,(Ei l).Perm l:=by
 intro iN; induction iN with
 | nil=>skip; exact g9 _
 | cons p r ih=>skip; exact (Sk p (Ei r)).trans ((ih).cons p)
theorem qH (p:Int):∀ l:List Int,l.Pairwise (· <= ·)->(gK p l).Pairwise (· <= ·):=by
 intro iN; induction iN with
 | nil=>intro _; exact u7 _ _
 | cons q r ih =>
   intro h; rw [yK] at h; unfold gK;split
   . refine yK.mpr ⟨fun x hx=>?_,ih h.2⟩
     rcases xG.mp ((Sk p r).mem_iff.mp hx) with rfl | hx
     . lia
     . exact h.1 x hx
   . refine yK.mpr ⟨fun x hx=>?_,yK.mpr h⟩
     rcases xG.mp hx with rfl | hx
     . lia
     . have:=h.1 x hx; lia
theorem Wr:∀ l,(Ei l).Pairwise (· <= ·):=by
 intro iN; induction iN with
 | nil=>skip; exact .nil
 | cons p r ih=>skip; exact qH p _ (ih)
theorem Vp:∀ {l m:List Int},l.Perm m->l.Pairwise (· <= ·)->m.Pairwise (· <= ·)->l=m
 | [],m,h,_,_=>(JM h)
 | a::l,[],h,_,_=>absurd h.length_eq (by simp)
 | a::l,b::m,h,h1,h2=>by
   rw [yK] at h1 h2; have e:a=b:=by
     rcases xG.mp (h.mem_iff.mp (zV (a:=a) (l:=l))) with e | e
     . exact e
     . rcases xG.mp (h.mem_iff.mpr (zV (a:=b) (l:=m))) with e' | e'
       . exact e'.symm
       . have:=h1.1 b e'; have:=h2.1 a e; lia
   subst e; rw [Vp (IK h) h1.2 h2.2]
theorem repZ {G:Hp}:∀ {ds:List xC} {xs:List V} {us:List xF} {ns:List Int},RepL G ds xs->Vals xs us->Gn ds=some ns->EN us ns:=by
 intro iN; induction iN with
 | nil=>intro _ _ _ r q e; cases (show _=_ from r); cases q; cases e; exact .nil
 | cons d ds ih =>
   intro _ _ ns r q e;cases d with
   | int i =>
     obtain ⟨x,t,rfl,h,l⟩:=r; obtain ⟨m,e1,e2⟩:=yT.mp (show (Gn ds).map (i::·)=some ns from e);cases (show x=.int i from h);cases q with
     | cons hq q =>
       obtain ⟨t,rfl⟩:=hq; rw [<- e2]; exact .cons i t (ih l q e1)
   | _=>cases e
theorem rY:∀ {vs:List xF} {ns:List Int},EN vs ns->Vals (ns.map V.int) vs
 | _,_,.nil=>.nil
 | _,_,.cons x t h=>.cons ⟨t,rfl⟩ (rY h)
noncomputable section
variable {P:yI} {w:yR} {K:xI} {mg:Str->Option xF} {base:zJ} {X:Cx} {N:List Str} {sc:Scope} {k:Nat} {df:Bool} {E:EK} {pos:Pos} {a b c d e:Expr} {f g f':Dn->Res xC}
theorem Vt (C:Cxt P w K mg base X N sc k df) (ha:DE X E a f) (hb:DE X E b g) (hc:DE X E c f') (hm:lastMarks [.LtE,.Lt] [b,c]=false:=by with_unfolding_all rfl) :
   DT X E (.Compare a [.LtE,.Lt] [b,c] pos) (B8 (Da f g f' (D7 .LtE) (D7 .Lt))):=by
 have hr:OpR X (c9 .LtE) (Xi .LtE):=Dk (.inr rfl) C.hu;have hr':OpR X (c9 .Lt) (Xi .Lt):=Dk (.inl rfl) C.hu;refine PT.imp (Xm hr hr' ha hb hc hm) fun Z H Q hZ3=>?_;obtain ⟨G,δ,S,aft⟩:=hZ3;have aft':AftT E G H ((f δ).bind fun x=>(g δ).bind fun y=>(ofO (D7 .LtE x y)).bind fun z=>(match z with
   | .bool true=>(f' δ).bind fun u=>ofO (D7 .Lt y u)
   | .bool false=>.ok (.bool false)
   | _=>.no).bind fun d=>ofO (Jg d)) Q:=by
   unfold B8 Da at aft; simp only [Res.bind_assoc] at aft; exact aft
 refine Q1 S aft' fun d1 v1 G1 H1 g1 r1 S1 a1=>?_;refine Q1 S1 a1 fun d2 v2 G2 H2 g2 r2 S2 a2=>?_;cases e:D7 .LtE d1 d2 with
 | none=>rw [e] at a2; exact a2.elim
 | some d =>
   rw [e] at a2; obtain ⟨kk,rfl⟩:=Cy _ _ _ e; refine Bi G2 H2 v1 v2 d1 d2 _ _ S2.sub (r1.mono g2.g) r2 e fun v G3 H3 g3 r3=>⟨kk,r3,?_⟩;have S3:=S2.grow g3;cases kk with
   | false=>rw [if_neg (by decide)]; exact ⟨false,rfl,a2 G3 H3 g3⟩
   | true =>
     rw [if_pos rfl]; have a3:AftT E G3 H3 ((f' δ).bind fun u=>(ofO (D7 .Lt d2 u)).bind fun d=>ofO (Jg d)) Q:=by
       have h0:AftT E G3 H3 (((f' δ).bind fun u=>ofO (D7 .Lt d2 u)).bind fun d=>ofO (Jg d)) Q:=AftT.grow g3 a2;rw [Res.bind_assoc] at h0; exact h0
     refine Q1 S3 a3 fun d4 v4 G4 H4 g4 r4 S4 a4=>?_;cases e':D7 .Lt d2 d4 with
     | none=>rw [e'] at a4; exact a4.elim
     | some d =>
       rw [e'] at a4; obtain ⟨k2,rfl⟩:=Cy _ _ _ e'; exact Bi G4 H4 v2 v4 d2 d4 _ _ S4.sub (r2.mono (g3.g.trans g4.g)) r4 e' fun v G5 H5 g5 r5=>⟨k2,r5,a4 G5 H5 g5⟩
end
end Sm
end
noncomputable section
namespace Sm
open PySem PySem.Spec PyProof.Rows PySem.W L2
end Sm
end
noncomputable section
namespace Sm
open PySem PySem.Spec PyProof.Rows PySem.W L2
theorem repT {G:Hp}:∀ {ds:List xC} {xs:List V} {us:List xF} {ss:List Str},RepL G ds xs->Vals xs us->M4 ds=some ss->EL us ss/\∀ x∈ss,yP x=true/\x.length<=sizeLine:=by
 intro iN; induction iN with
 | nil=>intro _ _ _ r q e; cases (show _=_ from r); cases q; cases e; exact ⟨.nil,fun _ h=>nomatch h⟩
 | cons d ds ih =>
   intro _ _ ns r q e;cases d with
   | str i =>
     obtain ⟨x,t,rfl,h,l⟩:=r; obtain ⟨m,e1,e2⟩:=yT.mp (show (M4 ds).map (i::·)=some ns from e);obtain ⟨rfl,h2⟩:=h;cases q with
     | cons hq q =>
       obtain ⟨t,rfl⟩:=hq; obtain ⟨k1,k2⟩:=ih l q e1; rw [<- e2]; refine ⟨.cons i t k1,fun y hy=>?_⟩;rcases xG.mp hy with rfl | hy
       . exact h2
       . exact k2 y hy
   | _=>cases e
end Sm
end
noncomputable section
namespace Sm
open PySem PySem.W PyProof.Rows
theorem Q9:Slot "set_iterator" "__next__" "set_iterator.__next__" :=
 .of (owner := "set_iterator") (n := "__next__") (by rw [BN,t8]; kernel_rfl) (by decide +kernel) (by decide +kernel) (by decide +kernel) (by first | exact .inl (by decide +kernel) | exact .inr (by decide +kernel)) (by rw [AU]; kernel_rfl)
theorem bV:Slot "set_iterator" "__iter__" "set_iterator.__iter__" :=
 .of (owner := "set_iterator") (n := "__iter__") (by rw [BN,t8]; kernel_rfl) (by decide +kernel) (by decide +kernel) (by decide +kernel) (by first | exact .inl (by decide +kernel) | exact .inr (by decide +kernel)) (by rw [AU]; kernel_rfl)
theorem Ih:JE table "set_iterator.__next__" = some k7.«set_iterator.__next__» := entryFor_of_tree ⋯
theorem jK:JE table "set_iterator.__iter__" = some k7.«dict_keyiterator.__iter__» := JD (id' := "dict_keyiterator.__iter__") ⋯ rfl (by decide +kernel) ⋯
theorem fA:JE table "set.__iter__" = some k7.«frozenset.__iter__» := JD (id' := "frozenset.__iter__") ⋯ rfl (by decide +kernel) ⋯
theorem Ii (a:xF):HX "set_iterator.__next__" ⟨[a],[]⟩:=by unfold HX; kernel_rfl
theorem jL (a:xF):HX "set_iterator.__iter__" ⟨[a],[]⟩:=by unfold HX; kernel_rfl
end Sm
end
noncomputable section
namespace Sm
open PySem PySem.W PyProof.Rows
abbrev Ea (f:xF) (i:Nat) (a:xO) (n ep:Nat):Obj:={ cls:=.type "set_iterator",data:=.fields #[f,.int i 0,.ref a,.int n 0,.int ep 0] }
theorem Hj {α:Type}:∀ {l:List α} {i:Nat} {x:α},l[i]? = some x->(x::l.eraseIdx i).Perm l
 | [],_,_,h=>by cases h
 | y::l,0,x,h=>by cases h; exact g9 _
 | y::l,i+1,x,h=>(EE y x _).trans ((Hj (l:=l) (i:=i) h).cons y)
theorem pC {α:Type} (nx:Nat->Nat):∀ (n k:Nat) (l:List α) (out:Array α),l.length=n->(pickOrder.go nx n k l out).toList.Perm (out.toList++l):=by
 intro iN; induction iN with
 | zero =>
   intro k l out h;cases GT h;rw [zN]; exact g9 _
 | succ n ih =>
   intro k l out h; unfold pickOrder.go; have hi:nx k % l.length < l.length:=Nat.mod_lt _ (by lia);rw [yW hi]; refine (ih (k+1) _ _ (by rw [HP hi]; lia)).trans ?_;rw [Array.toList_push,zU]; exact List.Perm.append_left _ (Hj (yW hi))
theorem Js {α:Type} (nx:Nat->Nat) (xs:Array α):(pickOrder nx xs).toList.Perm xs.toList:=pC nx xs.size 0 xs.toList #[] (by simp)
noncomputable section
variable {prog:yI} {w:yR} {A:zL} {E:xF->xH->Prop} {s:xH}
theorem dX {src:Source} {n:Nat} {Q:Nat->xH->Prop} (h:n≠0) (hQ:∀ i d,i < n->Q i { s with drawn:=d }):wpAny (yC prog w) A (choose src n) Q E s:=fun Γ p hΓ=>by
 unfold choose;rw [Sem.wp_choose];exact ⟨h,hQ _ _ (Nat.mod_lt _ (Nat.pos_of_ne_zero h))⟩
theorem Hx {α:Type}:∀ (n:Nat) (xs:List α) (s:xH) (Q:List α->xH->Prop),xs.length=n->(∀ ys d,ys.Perm xs->Q ys { s with drawn:=d })->wpAny (yC prog w) A (drawOrder n xs) Q E s
 | 0,xs,s,Q,h,q=>by
   cases GT h;exact xE (q [] s.drawn (g9 _))
 | n+1,[],s,Q,h,q=>by cases h
 | n+1,x::xs,s,Q,h,q=>by
   refine xD (dX (by simp) fun i d hi=>?_);rw [yW hi]; refine xD (Hx n _ _ _ (by rw [HP hi]; lia) fun ys d' hp=>xE (q _ d' ?_));exact (hp.cons _).trans (Hj (yW hi))
theorem Nt {a:xO} {o:Obj} {es:Array (Int×xF)} {ep sl i:Nat} {t:l5} {Q:Option (xF×Nat)->xH->Prop} (hb:w.params.followText "set-order" = true) (ho:s.heap.get? a=some o) (hd:o.data=.set es ep t) (hf:t.fits es.size=true)
   (hQ:Q (((pickOrder (w.params.setOrder a ep) es)[i]?).map fun e=>(e.2,sl)) s):wpAny (yC prog w) A (IN a sl i ep) Q E s:=by
 unfold IN setWalk setsByText;refine xD (l4 ho hd hf ?_);refine xD (xD (AY (xE ?_)));have hb':(yC prog w).w.params.followText "set-order" = true:=hb;simp only [hb',if_true,bne_self_eq_false,yY,if_false];refine xD (xD (l4 ho hd hf ?_));refine xD (xD (AY (xE ?_)));simp only [hb',if_true];exact xD (AY (xE (xE hQ)))
theorem Rt {a:xO} {o:Obj} {es:Array (Int×xF)} {ep sl i:Nat} {t:l5} {Q:Option (xF×Nat)->xH->Prop} (hb:w.params.followText "set-order" = false) (ho:s.heap.get? a=some o) (hd:o.data=.set es ep t) (hf:t.fits es.size=true)
   (hdr:(!t.plain&&decide (es.size>1))=false) (hl:t.led=true)
   (hQ:Q (match es[BE t.place sl]?,t.place[BE t.place sl]? with | some (_,x),some j=>some (x,j+1) | _,_=>none) s):wpAny (yC prog w) A (IN a sl i ep) Q E s:=by
 unfold IN setsByText;refine xD (l4 ho hd hf ?_);refine xD (xD (AY (xE ?_)));have hb':(yC prog w).w.params.followText "set-order" = false:=hb;simp only [hb',yY,if_false];refine AF (fun h=>absurd (show (!t.plain&&decide (es.size>1))=true from h) (by rw [hdr]; decide)) fun _=>xD ?_;show wpAny _ _ (if (!t.led && !es.isEmpty)=true then _ else _) _ _ _;rw [hl];exact xE (xE hQ)
theorem cN {I a:xO} {sl i nx ep:Nat} {o:Obj} {es:Array (Int×xF)} {t:l5} {x:xF} {Q:Option xF->xH->Prop} (hit:s.heap.get? I=some (Ea (.int sl 0) i a es.size ep)) (ho:s.heap.get? a=some o) (hd:o.data=.set es ep t) (hf:t.fits es.size=true)
   (hx:∀ (A:zL) (E:xF->xH->Prop) (Q:Option (xF×Nat)->xH->Prop),Q (some (x,nx)) s->wpAny (yC prog w) A (IN a sl i ep) Q E s)
   (hQ:∀ h',h'.get? I=some (Ea (.int nx 0) (i+1) a es.size ep)->o3 I s.heap h'->Q (some x) { s with heap:=h' }):wpAny (yC prog w) A (pyNext (.ref I)) Q E s:=by
 have hT:s.TypeIs (.ref I) "set_iterator" := ⟨_,hit,rfl⟩;unfold pyNext;refine xD (w6 ?_);refine zI (name:=k8 "__next__") hT Q9 (zD Q9 hT Ih ?_ (Ii _));unfold k7.«set_iterator.__next__» IZ;refine xD (xE ?_);refine xD (CD hit rfl ?_);refine xD (BF ho hd hf ?_);simp only [bne_self_eq_false,yY,if_false];refine xD (hx _ _ _ ?_);refine xD (BS hit (by simp) fun h1 q1 b1=>?_);refine xD (BS (s:={ s with heap:=h1 }) q1 (by simp) fun h2 q2 b2=>?_)
 exact xE ⟨_,rfl,xE (hQ h2 q2 (b1.trans b2))⟩
theorem Xh {A:zL} {I:xO} {Q:Option xF->xH->Prop} (hh:A.handled=none) (k:Nat) (hk:k < 5) (y:xF) {h0:zJ} (hq:DM I h0 s.heap) (hit:∃ vs,s.heap.get? I=some { cls:=.type "set_iterator",data:=.fields vs }/\vs.size=5)
   (hQ:∀ h',DM I h0 h'->Q none { s with heap:=h' }) :
   wpAny (yC prog w) A.in1 (do
       HC (k6 I) k y
       let e <- newExc (x4 "StopIteration") []
       raiseNew e) (fun fin s'=>∃ v,fin=Fin.done (Flow.ret v)/\wpAny (yC prog w) A (pure (some v)) Q E s')
     (fun e s' => wpAny (yC prog w) A (do
         let d <- isInstance e (x4 "StopIteration")
         if d=true then pure none else throw e) Q E s') s:=by
 obtain ⟨vs,hit,hv⟩:=hit;refine xD (BS hit (by lia) fun h1 q1 b1=>?_);refine xD ?_;simp only [newExc,newTuple];refine xD (yZ ?_ (by size_fits));refine xD (m:=CF _ _) (p5 (a:=j5) (by first | rfl | (simp only [CF]; rfl)) (yZ ?_ (by size_fits)));simp only [raiseNew];refine xD (wpAny_handled ?_);rw [show A.in1.handled=none from hh];refine xD (xE (wpAny_throw (xD ?_)));refine AX (T := "StopIteration") (b:=true) ⟨_,xT _ rfl,rfl⟩ JB ?_
 exact xE (hQ _ (((hq.trans b1.extBut).push _).push _))
theorem mH {I a:xO} {sl i ep:Nat} {o:Obj} {es:Array (Int×xF)} {t:l5} {Q:Option xF->xH->Prop} (hh:A.handled=none) (hit:s.heap.get? I=some (Ea (.int sl 0) i a es.size ep)) (ho:s.heap.get? a=some o) (hd:o.data=.set es ep t) (hf:t.fits es.size=true)
   (hx:∀ (A:zL) (E:xF->xH->Prop) (Q:Option (xF×Nat)->xH->Prop),Q none s->wpAny (yC prog w) A (IN a sl i ep) Q E s)
   (hQ:∀ h',DM I s.heap h'->Q none { s with heap:=h' }):wpAny (yC prog w) A (pyNext (.ref I)) Q E s:=by
 have hT:s.TypeIs (.ref I) "set_iterator" := ⟨_,hit,rfl⟩;unfold pyNext;refine xD (w6 ?_);refine zI (name:=k8 "__next__") hT Q9 (zD Q9 hT Ih ?_ (Ii _));unfold k7.«set_iterator.__next__» IZ;refine xD (xE ?_);refine xD (CD hit rfl ?_);refine xD (BF ho hd hf ?_);simp only [bne_self_eq_false,yY,if_false];refine xD (hx _ _ _ ?_);exact Xh hh 2 (by decide) .none (ID I _).extBut ⟨_,hit,rfl⟩ hQ
theorem pT {I a tp:xO} {i ep pl c:Nat} {o:Obj} {es:Array (Int×xF)} {t:l5} {x:xF} {hv:Int} {ps:Array xF} {Q:Option xF->xH->Prop} (hit:s.heap.get? I=some (Ea (.ref tp) i a es.size ep)) (ho:s.heap.get? a=some o) (hd:o.data=.set es ep t) (hf:t.fits es.size=true)
   (htp:s.heap.get? tp=some { cls:=.type "tuple",data:=.seq ps c }) (hp:ps[i]? = some (.int pl 0)) (hx:es[pl]? = some (hv,x))
   (hQ:∀ h',h'.get? I=some (Ea (.ref tp) (i+1) a es.size ep)->o3 I s.heap h'->Q (some x) { s with heap:=h' }):wpAny (yC prog w) A (pyNext (.ref I)) Q E s:=by
 have hT:s.TypeIs (.ref I) "set_iterator" := ⟨_,hit,rfl⟩;unfold pyNext;refine xD (w6 ?_);refine zI (name:=k8 "__next__") hT Q9 (zD Q9 hT Ih ?_ (Ii _));unfold k7.«set_iterator.__next__» IZ;refine xD (xE ?_);refine xD (CD hit rfl ?_);refine xD (BF ho hd hf ?_);simp only [bne_self_eq_false,yY,if_false];refine xD (IU htp rfl ?_);simp only [DU,hp];unfold setNextDrawn;refine xD (xD (l4 ho hd hf ?_))
 simp only [bne_self_eq_false,yY,if_false,hx];refine xE ?_;refine xD (BS hit (by simp) fun h1 q1 b1=>?_);exact xE ⟨_,rfl,xE (hQ h1 q1 b1)⟩
theorem wF {I a tp:xO} {i ep c:Nat} {o:Obj} {es:Array (Int×xF)} {t:l5} {ps:Array xF} {Q:Option xF->xH->Prop} (hh:A.handled=none) (hit:s.heap.get? I=some (Ea (.ref tp) i a es.size ep)) (ho:s.heap.get? a=some o) (hd:o.data=.set es ep t) (hf:t.fits es.size=true)
   (htp:s.heap.get? tp=some { cls:=.type "tuple",data:=.seq ps c }) (hp:ps[i]? = none)
   (hQ:∀ h',DM I s.heap h'->Q none { s with heap:=h' }):wpAny (yC prog w) A (pyNext (.ref I)) Q E s:=by
 have hT:s.TypeIs (.ref I) "set_iterator" := ⟨_,hit,rfl⟩;unfold pyNext;refine xD (w6 ?_);refine zI (name:=k8 "__next__") hT Q9 (zD Q9 hT Ih ?_ (Ii _));unfold k7.«set_iterator.__next__» IZ;refine xD (xE ?_);refine xD (CD hit rfl ?_);refine xD (BF ho hd hf ?_);simp only [bne_self_eq_false,yY,if_false];refine xD (IU htp rfl ?_);simp only [DU,hp];refine xD (BS hit (by simp) fun h1 q1 b1=>?_)
 exact Xh (s:={ s with heap:=h1 }) hh 2 (by decide) .none b1.extBut ⟨_,q1,rfl⟩ hQ
theorem Tt {I a:xO} {f:xF} {i n ep:Nat} {Q:xF->xH->Prop} (hit:s.heap.get? I=some (Ea f i a n ep)) (h:Q (.ref I) s):wpAny (yC prog w) A (HU (.ref I)) Q E s:=by
 have hT:s.TypeIs (.ref I) "set_iterator" := ⟨_,hit,rfl⟩;refine EH hT bV (zD bV hT jK ?_ (jL _));show wpAny _ _ (ret (.ref I)) _ _ s;exact xE ⟨_,rfl, "set_iterator",_,hT,Q9.lookup,h⟩
theorem nN (hh:A.handled=none) (I a tp:xO) (h1:a≠I) (h2:tp≠I) (o:Obj) (es:Array (Int×xF)) (ep c:Nat) (t:l5) (hd:o.data=.set es ep t) (hf:t.fits es.size=true) (pl:List Nat) (hl:pl.length=es.size) (hp:∀ j∈pl,j < es.size) :
   Walks prog w A I [I,a,tp] [I] es.size (fun i v=>(pl.map fun j=>(es[j]?.map (·.2)).getD .none)[i]? = some v) (fun i h=>h.get? I=some (Ea (.ref tp) i a es.size ep)/\h.get? a=some o/\h.get? tp=some { cls:=.type "tuple",data:=.seq ((pl.map fun j:Nat=>GI (j:Int) 0).toArray) c }) where
 sub:=fun b hb=>by simp at hb; simp [hb]
 frame:=fun _ _ _ st hk=>⟨hk I (by simp) _ st.1,hk a (by simp) _ st.2.1,hk tp (by simp) _ st.2.2⟩
 item:=fun i s Q E hi st hQ=>by
   have hi':i < pl.length:=by lia
   have hj:=hp pl[i] (AN hi'); refine pT (pl:=pl[i]) (hv:=es[pl[i]].1) (x:=es[pl[i]].2) st.1 st.2.1 hd hf st.2.2 (by simp [hi']) (by simp [hj]) fun h' q b=>?_;refine hQ _ h' s.toks ?_ ⟨q,b.extBut a _ h1 st.2.1,b.extBut tp _ h2 st.2.2⟩ fun b' o' hb e=>b.extBut b' o' (fun z=>hb (by simp [z])) e;simp [hi',hj]
 done:=fun s Q E st hQ=>wF hh st.1 st.2.1 hd hf st.2.2 (by simp [hl]) fun h' he=>hQ h' s.toks fun b o hb e=>he b o (fun z=>hb (by simp [z])) e
 self:=fun _ _ _ _ st hQ=>Tt st.1 hQ
theorem nL (hh:A.handled=none) (I a:xO) (h1:a≠I) (o:Obj) (es:Array (Int×xF)) (ep:Nat) (t:l5) (hd:o.data=.set es ep t) (hf:t.fits es.size=true) (hb:w.params.followText "set-order" = true) :
   Walks prog w A I [I,a] [I] es.size (fun i v=>((pickOrder (w.params.setOrder a ep) es).toList.map (·.2))[i]? = some v) (fun i h=>h.get? I=some (Ea (.int 0 0) i a es.size ep)/\h.get? a=some o) where
 sub:=fun b hb=>by simp at hb; simp [hb]
 frame:=fun _ _ _ st hk=>⟨hk I (by simp) _ st.1,hk a (by simp) _ st.2⟩
 item:=fun i s Q E hi st hQ=>by
   have hsz:(pickOrder (w.params.setOrder a ep) es).size=es.size:=by rw [<- zG,(Js _ es).length_eq,zG]
   have hi':i < (pickOrder (w.params.setOrder a ep) es).size:=by lia
   refine cN (sl:=0) (nx:=0) (x:=(pickOrder (w.params.setOrder a ep) es)[i].2) st.1 st.2 hd hf (fun A E Q q=>Nt hb st.2 hd hf ?_) fun h' q b=>?_
   . rw [zB hi']; exact q
   refine hQ _ h' s.toks ?_ ⟨q,b.extBut a _ h1 st.2⟩ fun b' o' hb e=>b.extBut b' o' (fun z=>hb (by simp [z])) e;simp [hi']
 done:=fun s Q E st hQ=>by
   have hsz:(pickOrder (w.params.setOrder a ep) es).size=es.size:=by rw [<- zG,(Js _ es).length_eq,zG]
   refine mH (sl:=0) hh st.1 st.2 hd hf (fun A E Q q=>Nt hb st.2 hd hf ?_) fun h' he=>hQ h' s.toks fun b o hb e=>he b o (fun z=>hb (by simp [z])) e;rw [BM (by lia)]; exact q
 self:=fun _ _ _ _ st hQ=>Tt st.1 hQ
def Nv (xs:Array Nat):Nat->Nat
 | 0=>0
 | i+1=>xs.getD i 0+1
theorem Zj {xs:Array Nat} (hr:xs.toList.Pairwise (· < ·)):∀ {i:Nat},i<=xs.size->BE xs (Nv xs i)=i:=fun {i} hi=>by
 obtain ⟨h1,h2,h3⟩:=Hr xs (Nv xs i) hr;have ge:∀ k d,k < xs.size->xs.getD k d=xs.getD k 0:=fun k d hk=>by simp [EF,hk]
 rcases Nat.lt_trichotomy (BE xs (Nv xs i)) i with hl | hl | hl
 . have e:=h3 _ (xN _) (yS hl hi)
   cases i with
   | zero=>lia
   | succ i =>
     rw [ge _ _ (by lia)] at e; rw [show Nv xs (i+1)=xs.getD i 0+1 from rfl] at e hl; rcases ER (BE xs (xs.getD i 0+1)) i with z | z
     . have:=Ct hr (d:=0) z (by lia); lia
     . have z2:BE xs (xs.getD i 0+1)=i:=by lia
       rw [z2] at e; lia
 . exact hl
 . have e:=h2 i hl
   rw [ge _ _ (by lia)] at e;cases i with
   | zero=>exact absurd e (Nat.not_lt_zero _)
   | succ i=>rw [show Nv xs (i+1)=xs.getD i 0+1 from rfl] at e; have:=Ct hr (d:=0) (show i < i+1 by lia) (by lia); lia
theorem nM (hh:A.handled=none) (I a:xO) (h1:a≠I) (o:Obj) (es:Array (Int×xF)) (ep:Nat) (t:l5) (hd:o.data=.set es ep t) (hf:t.fits es.size=true) (hb:w.params.followText "set-order" = false) (hdr:(!t.plain&&decide (es.size>1))=false) (hl:t.led=true) (hr:t.place.toList.Pairwise (· < ·)) :
   Walks prog w A I [I,a] [I] es.size (fun i v=>(es.toList.map (·.2))[i]? = some v) (fun i h=>h.get? I=some (Ea (.int (Nv t.place i) 0) i a es.size ep)/\h.get? a=some o) where
 sub:=fun b hb=>by simp at hb; simp [hb]
 frame:=fun _ _ _ st hk=>⟨hk I (by simp) _ st.1,hk a (by simp) _ st.2⟩
 item:=fun i s Q E hi st hQ=>by
   have hsz:t.place.size=es.size:=by unfold SetTable.fits at hf; simp at hf; exact hf.1
   have hi':i < t.place.size:=by lia
   refine cN (sl:=Nv t.place i) (nx:=Nv t.place (i+1)) (x:=es[i].2) st.1 st.2 hd hf (fun A E Q q=>Rt hb st.2 hd hf hdr hl ?_) fun h' q b=>?_
   . rw [Zj hr (by lia),zB hi,zB hi']
     have:Nv t.place (i+1)=t.place[i]+1:=by unfold Nv; simp [EF,hi']
     rw [this] at q; exact q
   refine hQ _ h' s.toks ?_ ⟨q,b.extBut a _ h1 st.2⟩ fun b' o' hb e=>b.extBut b' o' (fun z=>hb (by simp [z])) e;simp [hi]
 done:=fun s Q E st hQ=>by
   have hsz:t.place.size=es.size:=by unfold SetTable.fits at hf; simp at hf; exact hf.1
   refine mH (sl:=Nv t.place es.size) hh st.1 st.2 hd hf (fun A E Q q=>Rt hb st.2 hd hf hdr hl ?_) fun h' he=>hQ h' s.toks fun b o hb e=>he b o (fun z=>hb (by simp [z])) e;rw [Zj hr (by lia),BM (xN _)]; exact q
 self:=fun _ _ _ _ st hQ=>Tt st.1 hQ
end
end Sm
end
noncomputable section
namespace Sm
open PySem PySem.W PyProof.Rows
def Kl (w:yR) (t:l5):Prop:=t.led = !(w.params.followText "set-order")/\t.dummies = #[]/\t.place.toList.Pairwise (· < ·)
theorem fO {es:Array (Int×xF)} {pl:List Nat} (h:pl.Perm (c8 es.size)):(pl.map fun j=>(es[j]?.map (·.2)).getD .none).Perm (es.toList.map (·.2)):=by
 refine (h.map _).trans ?_;have:(c8 es.size).map (fun j=>(es[j]?.map (·.2)).getD .none)=es.toList.map (·.2):=by
   apply List.ext_getElem
   . simp
   . intro i h1 h2
     simp at h1;simp [h1]
 rw [this]
noncomputable section
variable {prog:yI} {w:yR} {A:zL} {E:xF->xH->Prop} {s:xH}
theorem lU {a:xO} {o:Obj} {es:Array (Int×xF)} {ep:Nat} {t:l5} {Q:xF->xH->Prop} (ho:s.heap.get? a=some o) (hex:o.ExactSet) (hd:o.data=.set es ep t) (hf:t.fits es.size=true) (ht:Kl w t) (hz:es.size<=4096) (hh:A.handled=none)
   (hQ:∀ (h1:zJ) (d1:Drawn) (I:xO) (fp:List xO) (ord:List xF) (St:Nat->zJ->Prop),(∀ b o,s.heap.get? b=some o->h1.get? b=some o)->s.heap.get? I=none->(∀ b∈fp,b=a\/s.heap.get? b=none)->ord.Perm (es.toList.map (·.2)) ->
     Walks prog w A I fp [I] es.size (fun i v=>ord[i]? = some v) St->St 0 h1->Q (.ref I) { s with heap:=h1,drawn:=d1 }):wpAny (yC prog w) A (HU (.ref a)) Q E s:=by
 have hT:s.TypeIs (.ref a) "set" := ⟨o,ho,hex.1⟩;have hlt:a < s.heap.objs.size:=xZ ho;refine EH hT F.slot_set_iter (zD F.slot_set_iter hT fA ?_ (F.args_set_iter_1 _));unfold k7.«frozenset.__iter__» Builtin.Frozenset.slot0 IZ Builtin.Frozenset.sizeOf setDrawn setsByText setEpoch;refine xD (xD (xE (xE ?_)));refine xD (xD (BF ho hd hf (xE ?_)));refine xD (xD (l4 ho hd hf ?_));refine xD (xD (AY (xE (xE ?_))))
 show wpAny _ _ (if (!(w.params.followText "set-order")&&(!t.plain&&decide (es.size>1)))=true then _ else _) _ _ _;cases hb:w.params.followText "set-order" with
 | true =>
   refine AF (fun h=>by cases h) fun _=>xD (xE ?_);refine xD (xD (l4 ho hd hf (xE ?_))); refine xD (yZ (xE ⟨_,rfl, "set_iterator",_,⟨_,xT _ rfl,rfl⟩,Q9.lookup,?_⟩)); exact hQ (s.heap.push (Ea (.int 0 0) 0 a es.size ep)) s.drawn s.heap.objs.size _ _ _ (fun b o e=>xK _ e) (i5 (xN _)) (fun b hb=>by
     rcases xG.mp hb with rfl | hb
     . exact .inr (i5 (xN _))
     . exact .inl (xS.mp hb)) ((Js _ es).map _) (nL hh _ a (yU hlt) o es ep t hd hf hb) ⟨xT _ rfl,xK _ ho⟩
 | false =>
   have hl:t.led=true:=by rw [ht.1,hb]; rfl
   cases hp:(!t.plain&&decide (es.size>1)) with
   | false =>
     refine AF (fun h=>by cases h) fun _=>xD (xE ?_);refine xD (xD (l4 ho hd hf (xE ?_))); refine xD (yZ (xE ⟨_,rfl, "set_iterator",_,⟨_,xT _ rfl,rfl⟩,Q9.lookup,?_⟩)); exact hQ (s.heap.push (Ea (.int 0 0) 0 a es.size ep)) s.drawn s.heap.objs.size _ _ _ (fun b o e=>xK _ e) (i5 (xN _)) (fun b hb=>by
       rcases xG.mp hb with rfl | hb
       . exact .inr (i5 (xN _))
       . exact .inl (xS.mp hb)) (g9 _) (nM hh _ a (yU hlt) o es ep t hd hf hb hp hl ht.2.2) ⟨xT _ rfl,xK _ ho⟩
   | true =>
     refine AF (fun _=>?_) fun h=>absurd rfl h;refine xD (Hx _ _ _ _ (by simp) fun pl d hpl=>?_);unfold newTuple; have hplen:pl.length=es.size:=by rw [hpl.length_eq]; simp
     refine xD (yZ ?_ (by show (IQ _).size<=_; rw [u5]; simp; lia));refine xD (xD (l4 (s:={ s with heap:=s.heap.push _,drawn:=d }) (xK _ ho) hd hf (xE ?_))); refine xD (yZ (xE ⟨_,rfl, "set_iterator",_,⟨_,xT _ rfl,rfl⟩,Q9.lookup,?_⟩)); have hsz:∀ o:Obj,(s.heap.push o).objs.size=s.heap.objs.size+1:=fun o=>CW ..;refine hQ _ d _ [(s.heap.push { cls:=.type "tuple",data:=.seq ((pl.map fun j:Nat=>GI (j:Int) 0).toArray) 0 }).objs.size,a,s.heap.objs.size] _ _ (fun b o e=>xK _ (xK _ e)) (i5 (by rw [hsz]; lia)) (fun b hb=>?_) (fO hpl)
       (nN hh _ a s.heap.objs.size (by rw [hsz]; exact yU (DQ hlt)) (by rw [hsz]; exact yU (CG _)) o es ep 0 t hd hf pl hplen (fun j hj=>u8.mp (hpl.mem_iff.mp hj))) ⟨xT _ rfl,xK _ (xK _ ho),xK _ (xT _ rfl)⟩
     rcases xG.mp hb with rfl | hb
     . exact .inr (i5 (by rw [hsz]; lia))
     rcases xG.mp hb with rfl | hb
     . exact .inl rfl
     . rw [xS.mp hb]; exact .inr (i5 (xN _))
end
end Sm
end
noncomputable section
namespace Sm
open PySem PySem.W PyProof.Rows
noncomputable section
variable {prog:yI} {w:yR} {A:zL} {E:xF->xH->Prop} {s:xH}
theorem mB {r:xO} {Q:Bool->xH->Prop} (hT:s.TypeIs (.ref r) "set") (h:Q false s):wpAny (yC prog w) A (FX (.ref r)) Q E s:=by
 unfold FX;refine xD (o4 hT PySem.F.slot_set_len.lookup ?_);generalize hid:("set.__len__" : String)=z
 wp_delta
 rw [show splitId z=some ("set", "__len__") from by subst hid; decide +kernel];subst hid;refine xD (AX (T := "set") (b:=true) hT (by rw [AU]; kernel_rfl) ?_);refine AF (fun hab=>absurd hab (by decide)) (fun _=>AF (fun _=>?_) (fun hab=>absurd (by decide +kernel) hab));exact xD (FE hT (xE h))
theorem Lh {a:xO} {o:Obj} {es:Array (Int×xF)} {ep:Nat} {t:l5} {Q:List xF->xH->Prop} (ho:s.heap.get? a=some o) (hex:o.ExactSet) (hd:o.data=.set es ep t) (hf:t.fits es.size=true) (ht:Kl w t) (hz:es.size<=4096) (hh:A.handled=none)
   (hQ:∀ (h1:zJ) (d1:Drawn) tk (ord:List xF),(∀ b o,s.heap.get? b=some o->h1.get? b=some o)->ord.Perm (es.toList.map (·.2))->Q ord { s with heap:=h1,drawn:=d1,toks:=tk }):wpAny (yC prog w) A (collect (.ref a)) Q E s:=by
 have hlt:a < s.heap.objs.size:=xZ ho;have hzl:es.size<=sizeLine:=by rw [u5]; omega
 have hnS:s.heap.get? s.heap.objs.size=none:=i5 (xN _);let hp:=s.heap.push { cls:=.type "list",data:=.seq ([]:List xF).toArray };have hS:hp.get? s.heap.objs.size=some { cls:=.type "list",data:=.seq #[] 0 }:=xT _ rfl;have ho':hp.get? a=some o:=xK _ ho;unfold collect;refine xD (IV (o5 F.entry_proto_collect ?_));rw [j7 F.plain_proto_collect _];refine xD (yZ (xE ⟨BK F.plain_list_iadd _,o5 F.entry_list_iadd ?_⟩));rw [j7 F.plain_list_iadd _]
 show wpAny _ _ (FY (.ref s.heap.objs.size) (.ref a) (.ref s.heap.objs.size)) _ _ { s with heap:=hp };unfold FY;have hT:HL { s with heap:=hp } (.ref a) "set" := ⟨o,ho',hex.1⟩;refine xD (FE hT ?_);have h1:GH (.ref s.heap.objs.size) (.ref a)=false:=by simp [GH]; exact y3 hlt
 rw [h1,show (x4 "set" == x4 "list")=false from by decide,show (x4 "set" == x4 "tuple")=false from by decide];simp only [DV,yY,if_false];refine xD (lU (s:={ s with heap:=hp }) ho' hex hd hf ht hz hh fun h1 d1 I fp ord St hk hI hfp hord W st=>?_);refine xD (zK (mB (s:={ s with heap:=h1,drawn:=d1 }) ⟨o,hk _ _ ho',hex.1⟩ ?_));have hS1:=hk _ _ hS;have hSf:s.heap.objs.size∉fp:=fun hb=>by
   rcases hfp _ hb with e | e
   . exact absurd (show s.heap.objs.size=a from e) (y3 hlt)
   . rw [show hp.get? s.heap.objs.size=none from e] at hS; cases hS
 have key : ∀ (h : zJ) (c : Nat), St 0 h -> (∀ b o, s.heap.get? b = some o -> h.get? b = some o) -> h.get? s.heap.objs.size = some { cls := .type "list", data := .seq #[] c } ->
     DJ (yC prog w) A (.builtin "list.extend.loop" ⟨[.ref s.heap.objs.size,.ref I,.ref s.heap.objs.size],[]⟩) (wants (fun v s'=>v=.ref s.heap.objs.size/\∃ h1 d1 tk acc c',s'={ s with heap:=h1,drawn:=d1,toks:=tk }/\(∀ b o,s.heap.get? b=some o->h1.get? b=some o)/\h1.get? s.heap.objs.size=some { cls:=.type "list",dict:=none,data:=.seq acc c',slots := #[] }/\ItemsOf (fun i v=>ord[i]? = some v) acc es.size) E) { s with heap:=h,drawn:=d1 }:=by
   intro h c hst hk2 hc; refine codeAny_extend_loopS W.toS hzl s.heap.objs.size hSf (.ref s.heap.objs.size) es.size 0 _ #[] c rfl (zY _) hst hc (ItemsOf.nil _) fun s' acc' c' hm hS' hacc=>?_;rw [Moved.eq_with hm]; refine ⟨rfl,s'.heap,d1,s'.toks,acc',c',rfl,fun b o e=>hm.heap b o (fun hmem=>?_) (hk2 b o e),hS',hacc⟩;rcases xG.mp hmem with e' | hmem
   . rw [e',hnS] at e; cases e
   . have hI':hp.get? I=none:=hI
     rw [xS.mp hmem] at e; rw [show hp.get? I=some o from xK _ e] at hI'; cases hI'
 have fin : ∀ (r : Result) (s' : xH), wants (fun v s' => v = .ref s.heap.objs.size /\ ∃ h1 d1 tk acc c', s' = { s with heap := h1, drawn := d1, toks := tk } /\ (∀ b o, s.heap.get? b = some o -> h1.get? b = some o) /\ h1.get? s.heap.objs.size = some { cls := .type "list", dict := none, data := .seq acc c', slots := #[] } /\ ItemsOf (fun i v => ord[i]? = some v) acc es.size) E r s' ->
     wants (fun v s'=>wpAny (yC prog w) A (match v with | .ref a=>load a>>=fun o=>(match o.data with | .seq xs _=>pure xs.toList | _=>unsupported "internal:collect") | _=>unsupported "internal:collect") Q E s') E r s':=fun r s' h=>by
   cases r with
   | error e=>exact h
   | ok fl =>
     cases fl with
     | ret v =>
       obtain ⟨rfl,h2,d2,tk,acc,c',rfl,hk2,hS2,hacc⟩:=h; refine xD (IW hS2 (xE ?_)); have:acc.toList=ord:=by
         have hol:ord.length=es.size:=by rw [hord.length_eq]; simp
         apply BO;intro j;by_cases hj:j < es.size
         . have hja:j < acc.size:=by rw [hacc.1]; exact hj
           rw [hacc.2 j acc[j] (by simp [hja])]; simp [hja]
         . rw [l7 (by simpa [hacc.1] using l0.mp hj),l7 (by omega)]
       rw [this]; exact hQ h2 d2 tk ord hk2 hord
     | _=>exact h
 refine AF (fun _=>?_) fun _=>xE ⟨BK F.plain_extend_loop _,AZ (key h1 0 st (fun b o e=>hk b o (xK _ e)) hS1) fin⟩;refine xD (i7 (xD ?_));show wpAny _ _ (updateSeq s.heap.objs.size (·.push .none)>>=fun _=>updateSeq s.heap.objs.size (·.pop)) _ _ _;refine xD (wpAny_updateSeq (s:={ s with heap:=h1,drawn:=d1 }) hS1 rfl ?_);have u2:=zX (BH (·.push j5)) hS1 rfl;refine wpAny_updateSeq (hz:=by seq_fits) u2 rfl ?_;have u3:=zX (BH (·.pop)) u2 rfl;have oth:∀ b o,b≠s.heap.objs.size->h1.get? b=some o->((h1.update s.heap.objs.size (BH (·.push j5))).update s.heap.objs.size (BH (·.pop))).get? b=some o:=fun b o hb e=>by rw [BQ _ _ (Ne.symm hb),BQ _ _ (Ne.symm hb)]; exact e
 refine xE ⟨BK F.plain_extend_loop _,AZ (key _ _ (W.frame 0 _ _ st fun b hb o e=>oth b o (fun z=>hSf (z▸hb)) e) (fun b o e=>oth b o (fun z=>?_) (hk b o (xK _ e))) u3) fin⟩;rw [z,hnS] at e; cases e
end
end Sm
end
noncomputable section
namespace Sm
open PySem PySem.W PyProof.Rows
theorem fJ {t:l5} {hf:Nat->Int} {h:Int} (hd:t.dummies = #[]):∀ (n:Nat) (p:SetTable.Probe) {j:Nat} {dm:Option Nat},p.dummy=none->HH t hf h n p=some (.empty j dm)->dm=none/\t.slot j=.empty:=by
 intro iN; induction iN with
 | zero=>intro _ _ _ _ e; cases e
 | succ n ih =>
   intro p j dm hp e; have ha:(t.advance p).dummy=none:=by unfold SetTable.advance; split <;> exact hp
   unfold HH at e;split at e
   . rename_i hs
     cases e; exact ⟨hp,hs⟩
   . rename_i hs
     exfalso;unfold SetTable.slot at hs; rw [hd,cY] at hs; simp only [yY,if_false] at hs;split at hs <;> cases hs
   . split at e
     . cases e
     . exact ih _ ha e
theorem Db {w:yR} {t:l5} (h:Kl w t) (n:Nat):Kl w (t.standIn n):=⟨h.1,rfl,by
 show (Array.range n).toList.Pairwise (· < ·);rw [Array.toList_range]; exact EM⟩
theorem iT {w:yR} {t:l5} (T:Kl w t) (es:Array (Int×xF)) (h:Int) (x:xF):Kl w (layNew t es h x).2.1:=by
 unfold layNew;split
 . rename_i sl wd hfr
   have hp:Kl w (t.put sl).1:=by
     unfold SetTable.freeSlot SetTable.probe at hfr;split at hfr
     . rename_i j dm e
       obtain ⟨rfl,hs⟩:=fJ T.2.1 _ _ rfl e; cases hfr; refine ⟨T.1,?_,Qv T.2.2 fun hj=>?_⟩
       . show (if SetTable.has t.dummies _ then _ else t.dummies) = #[]
         rw [T.2.1,cY]; rfl
       . obtain ⟨i,hi⟩:=fY hj
         rw [eZ T.2.2 (show t.place[i]? = some j from hi)] at hs; cases hs
     . cases hfr
   show Kl w ((t.put sl).1.orStandIn _);unfold SetTable.orStandIn;split
   . exact hp
   . exact Db hp _
 . exact Db T _
theorem Zu {w:yR} {t:l5} (T:Kl w t) (es:Array (Int×xF)) (n:Nat):Kl w (HD t es n).2.1:=by
 unfold HD;split
 . rename_i t' ord e
   unfold SetTable.relaid SetTable.laid at e; obtain ⟨ow,e1,e2⟩:=BC.mp e; cases e2; dsimp only;split
   . refine ⟨T.1,rfl,?_⟩
     have:=lP (SetTable.sizeAbove n - 1) ow; unfold aR at this; exact z8.mpr this
   . exact Db T _
 . exact Db T _
noncomputable section
variable {prog:yI} {w:yR} {K:Type} [DecidableEq K] {knd:KeyKind prog w K} {A:zL} {E:xF->xH->Prop} {s:xH}
def SetT (knd:KeyKind prog w K) (h:zJ) (a:xO) (L:List (Int×xF)):Prop :=
 ∃ o es ep t,h.get? a=some o/\o.ExactSet/\o.data=.set es ep t/\es.toList.Perm L/\ElemsOf knd L/\L.length < DP/\t.fits es.size=true/\Kl w t
theorem SetT.store {h:zJ} {a:xO} {o:Obj} {es:Array (Int×xF)} {ep:Nat} {t:l5} {L:List (Int×xF)} (ho:h.get? a=some o) (hex:o.ExactSet) (hd:o.data=.set es ep t) {es':Array (Int×xF)} {t':l5}
   (hp:es'.toList.Perm L) (hel:ElemsOf knd L) (hb:L.length < DP) (hf:t'.fits es'.size=true) (T:Kl w t'):∃ o',(h.update a (IA es' t')).get? a=some o'/\o'.ExactSet/\o'.data=.set es' (ep+1) t'/\SetT knd (h.update a (IA es' t')) a L:=by
 have hg:=zX (IA es' t') ho (by rw [putSet_of es' t' hd]; rfl);rw [putSet_of es' t' hd] at hg;exact ⟨_,hg,hex,rfl,_,es',ep+1,t',hg,hex,rfl,hp,hel,hb,hf,T⟩
theorem addST {a:xO} {L:List (Int×xF)} {k:K} {x:xF} {Q:Bool->xH->Prop} (hkey:knd.is k x=true) (hsc:x.scannable=true) (hS:SetT knd s.heap a L) (hroom:L.length+1 < DP)
   (hQ:∀ h' b,o3 a s.heap h'->SetT knd h' a (if L.any (fun e=>knd.is k e.2) then L else L++[(knd.hash k,x)])->Q b { s with heap:=h' }):wpAny (yC prog w) A (setAddHashed a x (knd.hash k)) Q E s:=by
 obtain ⟨o,es,ep,t,ho,hex,hd,hp,hel,hb,hf,T⟩:=hS;have hel0:ElemsOf knd es.toList:=hel.perm hp;have hsz:es.size=L.length:=by rw [<- hp.length_eq,zG]
 have hany:L.any (fun e=>knd.is k e.2)=es.toList.any (fun e=>knd.is k e.2):=by
   rw [l3,w5,w5]; exact ⟨fun hZ0=>by obtain ⟨e,h1,h2⟩:=hZ0; exact ⟨e,hp.mem_iff.mpr h1,h2⟩,fun hZ0=>by obtain ⟨e,h1,h2⟩:=hZ0; exact ⟨e,hp.mem_iff.mp h1,h2⟩⟩
 unfold setAddHashed setAddHashedIn;refine zK (xD (l4 ho hd hf ?_));dsimp only;rw [byScan_of hsc (by lia) hel0,if_pos rfl];unfold setAddByScan;refine xD (xD (i7 (xD (wpAny_setScan_of hkey ho hd hf hel0 ?_))));cases hr:List.findIdx? (fun e=>knd.is k e.2) es.toList with
 | some j =>
   obtain ⟨hj,hpj,_⟩:=List.findIdx?_eq_some_iff_getElem.mp hr; have:L.any (fun e=>knd.is k e.2)=true:=by rw [hany,w5]; exact ⟨_,AN hj,hpj⟩
   refine xE (xE ?_); have q:=hQ s.heap false (ID a s.heap); rw [this,if_pos rfl] at q; exact q ⟨o,es,ep,t,ho,hex,hd,hp,hel,hb,hf,T⟩
 | none =>
   have:L.any (fun e=>knd.is k e.2)=false:=by
     rw [hany,List.any_eq_false]; intro e he; rw [List.findIdx?_eq_none_iff.mp hr e he]; decide
   rw [this] at hQ; simp only [yY,if_false] at hQ; have gw:∀ (b:Bool) {s₁:xH} {Q':Unit->xH->Prop},Q' () s₁->wpAny (yC prog w) A (match b with | true=>rule "set.scan.the-table-gave-way" | false=>pure ()) Q' E s₁ :=
     fun b s₁ Q' hq=>by cases b; exact xE hq; exact i7 hq
   have p1:=layNew_perm t es (knd.hash k) x; have f1:=layNew_fits t es (knd.hash k) x; have T1:=iT T es (knd.hash k) x;generalize layNew t es (knd.hash k) x=R at p1 f1 T1 ⊢;obtain ⟨es1,t1,wd,gv⟩:=R; dsimp only at p1 f1 T1 ⊢;rw [Array.toList_push] at p1; have p2:es1.toList.Perm (L++[(knd.hash k,x)]):=p1.trans (hp.append_right _); have el2:ElemsOf knd (L++[(knd.hash k,x)]):=hel.push hkey hsc; have b2:(L++[(knd.hash k,x)]).length < DP:=by simpa using hroom
   have z1:es1.size < DP:=by rw [<- zG,p2.length_eq]; exact b2
   refine xD (gw _ ?_); have tail : ∀ t2 : l5, t2.fits es1.size = true -> Kl w t2 -> wpAny (yC prog w) A (do
       storeSet a es1 t2
       if (!wd && t2.tooFull) = true then do
           (match (HD t2 es1 (z6 es1.size)).2.2 with | true=>rule "set.scan.the-table-gave-way" | false=>pure ())
           storeSet a (HD t2 es1 (z6 es1.size)).1 (HD t2 es1 (z6 es1.size)).2.1
           pure (some true)
         else pure (some true)) (fun r s'=>∃ h',r=some true/\s'={ s with heap:=h' }/\o3 a s.heap h'/\SetT knd h' a (L++[(knd.hash k,x)])) E s:=fun t2 f2 T2=>by
     refine xD (wpAny_storeSet_of ho hd ?_ (fits_of_scanBound z1)); obtain ⟨o1,g1,x1,d1,S1⟩:=SetT.store (knd:=knd) ho hex hd p2 el2 b2 f2 T2; have sb1:=j8 s.heap a (IA es1 t2);split
     . have p3:=relayAll_perm t2 es1 (z6 es1.size)
       have f3:=relayAll_fits t2 es1 (z6 es1.size); have T3:=Zu T2 es1 (z6 es1.size);generalize HD t2 es1 (z6 es1.size)=R at p3 f3 T3 ⊢;obtain ⟨es3,t3,gv3⟩:=R; dsimp only at p3 f3 T3 ⊢;have z3:es3.size < DP:=by rw [<- zG,p3.length_eq,zG]; exact z1
       refine xD (gw _ (xD (wpAny_storeSet_of g1 d1 ?_ (fits_of_scanBound z3)))); obtain ⟨_,_,_,_,S3⟩:=SetT.store (knd:=knd) g1 x1 d1 (p3.trans p2) el2 b2 f3 T3; exact xE ⟨_,rfl,rfl,sb1.trans (j8 _ a _),S3⟩
     . exact xE ⟨_,rfl,rfl,sb1,S1⟩
   have close:∀ (r:Option Bool) (s':xH),(∃ h',r=some true/\s'={ s with heap:=h' }/\o3 a s.heap h'/\SetT knd h' a (L++[(knd.hash k,x)]))->wpAny (yC prog w) A (match r with | some added=>pure added | none=>setAddHashedIn a x (knd.hash k) 99999) Q E s':=fun r s' hZ2=>by
     obtain ⟨h',e1,e2,sb,S'⟩:=hZ2; subst e1 e2; exact xE (hQ h' true sb S')
   split
   . refine xD ?_
     rw [hashByValue_scannable 8 hsc]; refine xE (e8 (tail _ ?_ ?_) close fun _ _ e=>e)
     . split
       . exact f1
       . exact SetTable.fits_plain_off f1
     . split
       . exact T1
       . exact T1
   . exact xD (xE (e8 (tail _ f1 T1) close fun _ _ e=>e))
end
end Sm
end
noncomputable section
namespace Sm
open PySem PySem.W PyProof.Rows
noncomputable section
variable {prog:yI} {w:yR} {K:Type} [DecidableEq K]
noncomputable def IsKs (knd:KeyKind prog w K):List xF->List K->Prop
 | [],ks=>ks=[]
 | v::vs,ks=>∃ k r,ks=k::r/\knd.is k v=true/\IsKs knd vs r
noncomputable def U9 (l:List K) (k:K):List K:=if k∈l then l else l++[k]
noncomputable def Uq (ks:Nat->K):Nat->List K
 | 0=>[]
 | i+1=>U9 (Uq ks i) (ks i)
theorem Xx (ks:Nat->K):∀ i,(Uq ks i).length<=i:=by
 intro iN; induction iN with
 | zero=>skip; exact xN _
 | succ i ih =>
   skip
   have:=ih; unfold Uq U9;split
   . lia
   . simp; lia
theorem IsKs.len {knd:KeyKind prog w K}:∀ {vs:List xF} {ks:List K},IsKs knd vs ks->vs.length=ks.length
 | [],_,h=>by cases (show _=_ from h); rfl
 | v::vs,_,h=>by obtain ⟨k,r,rfl,_,h⟩:=h; simp [h.len]
theorem IsKs.push {knd:KeyKind prog w K} {v:xF} {k:K} (hv:knd.is k v=true):∀ {vs:List xF} {ks:List K},IsKs knd vs ks->IsKs knd (vs++[v]) (ks++[k])
 | [],_,h=>by cases (show _=_ from h); exact ⟨k,[],rfl,hv,rfl⟩
 | u::vs,_,h=>by obtain ⟨k',r,rfl,h1,h⟩:=h; exact ⟨k',_,rfl,h1,h.push hv⟩
theorem IsKs.any {knd:KeyKind prog w K} {k:K}:∀ {vs:List xF} {ks:List K},IsKs knd vs ks->vs.any (fun v=>knd.is k v)=decide (k∈ks)
 | [],_,h=>by cases (show _=_ from h); rfl
 | u::vs,_,h=>by
   obtain ⟨k',r,rfl,h1,h⟩:=h; rw [DR,h.any];by_cases e:k=k'
   . subst e; rw [h1]; simp
   . have : knd.is k u = false := by
       cases c:knd.is k u with
       | false=>rfl
       | true=>exact absurd (knd.inj u k k' c h1) e
     rw [this]; simp [e]
theorem IsKs.perm {knd:KeyKind prog w K} {us vs:List xF} (p:us.Perm vs):∀ {ks:List K},IsKs knd vs ks->∃ ks',ks'.Perm ks/\IsKs knd us ks':=by
 induction p with
 | nil=>exact fun h=>⟨_,g9 _,h⟩
 | cons x _ ih =>
   intro ks h; obtain ⟨k,r,rfl,h1,h⟩:=h; obtain ⟨r',p,h'⟩:=ih h; exact ⟨k::r',p.cons k,k,r',rfl,h1,h'⟩
 | swap x y l =>
   intro ks h; obtain ⟨k,r,rfl,h1,k2,r2,rfl,h2,h⟩:=h; exact ⟨k2::k::r2,EE ..,k2,_,rfl,h2,k,_,rfl,h1,h⟩
 | trans _ _ ih1 ih2 =>
   intro ks h; obtain ⟨k1,p1,h1⟩:=ih2 h; obtain ⟨k2,p2,h2⟩:=ih1 h1; exact ⟨k2,p2.trans p1,h2⟩
def SetK (knd:KeyKind prog w K) (h:zJ) (a:xO) (ks:List K):Prop:=∃ L,SetT knd h a L/\IsKs knd (L.map (·.2)) ks
theorem SetK.at {knd:KeyKind prog w K} {h h':zJ} {a:xO} {ks:List K} (S:SetK knd h a ks) (e:∀ o,h.get? a=some o->h'.get? a=some o):SetK knd h' a ks:=by
 obtain ⟨L,⟨o,es,ep,t,ho,r⟩,k⟩:=S;exact ⟨L,⟨o,es,ep,t,e _ ho,r⟩,k⟩
theorem addK' {knd:KeyKind prog w K} {A:zL} {E:xF->xH->Prop} {s:xH} {a:xO} {ks:List K} {k:K} {x:xF} {Q:Bool->xH->Prop} (hkey:knd.is k x=true) (hsc:x.scannable=true) (hS:SetK knd s.heap a ks) (hroom:ks.length+1 < DP)
   (hQ:∀ h' b,o3 a s.heap h'->SetK knd h' a (U9 ks k)->Q b { s with heap:=h' }):wpAny (yC prog w) A (setAddHashed a x (knd.hash k)) Q E s:=by
 obtain ⟨L,hT,hK⟩:=hS;have hl:L.length=ks.length:=by rw [<- hK.len,xJ]
 refine addST hkey hsc hT (by lia) fun h' b sb hT'=>hQ h' b sb ⟨_,hT',?_⟩;have:L.any (fun e=>knd.is k e.2)=decide (k∈ks):=by rw [<- hK.any,IT]; rfl
 rw [this];unfold U9;by_cases c:k∈ks
 . simp only [c,decide_true,if_true]; exact hK
 . simp only [c,decide_false,yY,if_false,yV]; exact hK.push hkey
end
noncomputable section
variable {prog:yI} {w:yR} {K:Type} [DecidableEq K] {knd:KeyKind prog w K} {A:zL} {R:Result->xH->Prop} {E:xF->xH->Prop} {I:xO} {fp wr:List xO} {G:Array GenState->Array GenState->Prop} {n:Nat} {P:Nat->xF->Prop} {St:Nat->xH->Prop} {s:xH}
theorem loopG (W:WalksS prog w A.in1 I fp wr G n P St) (S:xO) (hSf:S∉fp) (ks:Nat->K) (hval:∀ i v,P i v->knd.is (ks i) v=true/\v.scannable=true) (hb:n+1 < DP) :
   ∀ (m i:Nat) (s:xH),n - i=m->i<=n->St i s->SetK knd s.heap S (Uq ks i)->(∀ s',Moved (S::wr) G s s'->SetK knd s'.heap S (Uq ks n)->R (.ok (.ret .none)) s') ->
     DJ (yC prog w) A (.builtin "set.update.loop" ⟨[.ref S,.ref I],[]⟩) R s:=by
 intro iN; induction iN with
 | zero =>
   intro i s hk hi hst hS hR; have hin:i=n:=by lia
   subst hin; refine o5 F.entry_set_update_loop ?_; rw [j7 F.plain_set_update_loop _]; show wpAny _ A.in1 (pyNext (.ref I)>>=_) _ _ s;refine xD (W.done s _ _ hst fun s' hm=>?_);show wpAny _ A.in1 (ret j5) _ _ s';exact xE (hR s' (hm.mono fun b hb=>c6 _ hb) (hS.at fun o e=>hm.heap S o (fun h=>hSf (W.sub _ h)) e))
 | succ m ih =>
   intro i s hk hi hst hS hR; refine o5 F.entry_set_update_loop ?_; rw [j7 F.plain_set_update_loop _]; show wpAny _ A.in1 (pyNext (.ref I)>>=_) _ _ s;refine xD (W.item i s _ _ (by lia) hst fun v s' hP hst' hm=>?_);obtain ⟨hv,hsc⟩:=hval i v hP; have hS':=hS.at fun o e=>hm.heap S o (fun h=>hSf (W.sub _ h)) e;show wpAny _ A.in1 (holding [v] (setAdd S v)>>=_) _ _ s';unfold setAdd; refine xD (zK (zK (xD (knd.pyHash hv ?_)))); refine addK' (s:={ s' with toks:=s'.toks+1 }) hv hsc hS' (by have:=Xx ks i; lia) fun h' b hsb hS2=>?_
   have sub:∀ b∈wr,b∈S::wr:=fun b hb=>c6 _ hb;refine xE ⟨BK F.plain_set_update_loop _,ih (i+1) _ (by lia) (by lia) (W.frame _ s' _ _ hst' (AK _) fun b hb o e=>?_) hS2 fun s'' hm'' hS''=>?_⟩
   . rw [hsb.2 b fun h:b=S=>hSf (h▸hb)]; exact e
   . refine hR s'' (Moved.trans W.gtrans ((hm.mono sub).then_heap (AK _) fun b o hb e=>?_) hm'') hS''
     rw [hsb.2 b fun h:b=S=>hb (h▸zV)]; exact e
abbrev Qm (w:yR):Obj:={ cls:=.type "set",dict:=none,data:=.set #[] 0 (.fresh 0 0 (!(w.params.followText "set-order"))) }
theorem lD (a:xF) {Q₁:xF->xH->Prop} (h:Q₁ (.ref s.heap.objs.size) { s with heap:=s.heap.push (Qm w) }):DJ (yC prog w) A (.call (.builtin "set.__new__") ⟨[.type "set",a],[]⟩) (wants Q₁ E) s:=by
 refine II (xD (p5 (F.newCall_set_1 a) (xE ⟨BK F.plain_set_new _,o5 F.entry_set_new ?_⟩)));rw [j7 F.plain_set_new _];unfold k7.«set.__new__» Builtin.Frozenset.newClass;have hsub:=sub_set_self;obtain ⟨hp,g,d,tk,os⟩:=s
 wp_walk
 refine AY (xE ?_);dsimp only;simp only [newObj];exact xD (wpAny_alloc (xE (xE h)))
theorem jO {h:zJ} {a:xO} (hg:h.get? a=some (Qm w)):SetK knd h a [] :=
 ⟨[],⟨_,#[],0,_,hg,⟨rfl,rfl,rfl⟩,rfl,List.Perm.nil,(fun e he=>nomatch he),by decide,rfl,rfl,rfl,HS⟩,rfl⟩
theorem Tb {l:xO} {items:Array xF} {ks:Nat->K} {Q:xF->xH->Prop} (hh:A.handled=none) (hl:s.heap.IsList l items) (hk:∀ i v,items[i]? = some v->knd.is (ks i) v=true/\v.scannable=true) (hn:items.size<=3000)
   (h:∀ (s':xH),s'.gens=s.gens->s'.drawn=s.drawn->s'.os=s.os->(∀ b o,s.heap.get? b=some o->s'.heap.get? b=some o)->SetK knd s'.heap s.heap.objs.size (Uq ks items.size)->Q (.ref s.heap.objs.size) s') :
   wpAny (yC prog w) A (call (.type "set") [.ref l]) Q E s:=by
 obtain ⟨c,tl,hmro⟩:=F.called_set.mro;have hmade:=F.called_set.made;have hsub:=F.called_set.sub;refine wpAny_call (II ?_);show wpAny _ _ (callAny (.type "set") _) _ _ _;refine xE ⟨Code.quiet_builtin _ (by decide +kernel),o5 F.entry_type_call ?_⟩;rw [Around.under_plain (weight_type_call_type "set" [.ref l] []) rfl];have h1:=F.called_set.notType;have h2:=F.called_set.canCreate;have hct:=F.typeCall_set_1 (.ref l)
 repeat (any_goals (first | assumption | wp_step))
 refine AZ (lD (.ref l) (E:=E) (Q₁:=fun obj s₁=>obj=.ref s.heap.objs.size/\s₁={ s with heap:=s.heap.push (Qm w) }) ⟨rfl,rfl⟩) fun r s₁ hr=>?_;cases r with
 | error e=>exact hr
 | ok fl =>
   cases fl with
   | ret obj =>
     obtain ⟨rfl,rfl⟩:=hr; have hS:(s.heap.push (Qm w)).get? s.heap.objs.size=some (Qm w):=xT _ rfl; have hT:HL { s with heap:=s.heap.push (Qm w) } (.ref s.heap.objs.size) "set" := ⟨_,hS,rfl⟩; have hli:=F.called_set.init.lookup; have hbi:=F.called_set.init.bind (.ref s.heap.objs.size)
     repeat (any_goals (first | assumption | wp_step))
     refine AZ (codeAny_call_builtin (R:=wants (fun r s₂=>r=.none/\s₂.gens=s.gens/\s₂.drawn=s.drawn/\s₂.os=s.os/\(∀ b o,s.heap.get? b=some o->s₂.heap.get? b=some o)/\SetK knd s₂.heap s.heap.objs.size (Uq ks items.size)) E)
       F.called_set.init.plain F.entry_set_init (check_set_init_1 hT ?_)) fun r₂ s₂ hr₂=>?_
     . obtain ⟨ol,hol,hcl,nl,hdl⟩:=hl
       obtain ⟨ocls,odict,odata,oslots⟩:=ol; simp only at hcl hdl; subst hcl hdl; have hol':(s.heap.push (Qm w)).get? l=some { cls:=.type "list",dict:=odict,data:=.seq items nl,slots:=oslots }:=xK _ hol; have hsls:=F.sub_list_set; have hslf:=F.sub_list_frozenset; have hne:(x4 "list" == x4 "dict")=false:=by decide
       have hl1:(s.heap.push (Qm w)).IsList l items:=⟨_,hol',rfl,nl,rfl⟩; unfold k7.«set.__init__» noKeywords Builtin.Frozenset.updateFrom;generalize hPI:HU=PI
       wp_walk
       subst hPI; refine HA hl1 (xD (IV ?_)); have hlS:l < s.heap.objs.size:=xZ hol; have hh3:A.in1.in1.in1.handled=none:=by simp [hh]
       have hneI:l≠(s.heap.push (Qm w)).objs.size:=by rw [CW]; exact yU (DQ hlS)
       have hSf:s.heap.objs.size∉[(s.heap.push (Qm w)).objs.size,l]:=by
         rw [CW]; simp only [xG,CB,or_false,not_or];exact ⟨yU (CG _),y3 hlS⟩
       refine loopG ((Walks.list hh3 _ l hneI items).toS) s.heap.objs.size hSf ks hk (by show _ < 4096; lia) (items.size - 0) 0 _ (by lia) (zY _) ⟨⟨_,xT _ rfl,rfl,rfl⟩,(hl1.push _)⟩ (jO (xK _ hS)) fun s' hm hS'=>?_;show wpAny _ _ _ _ _ _;refine xE ?_; show wpAny _ _ (ret j5) _ _ _;refine xE ⟨rfl,hm.gens,hm.drawn,hm.os,fun b o e=>hm.heap b o (fun hb=>?_) (xK _ (xK _ e)),hS'⟩;have hlt:=xZ e; rcases xG.mp hb with e' | hb
       . rw [e'] at hlt; exact e9 _ hlt
       . rw [xS.mp hb,CW] at hlt; exact e9 _ (Nat.lt_of_succ_lt hlt)
     . cases r₂ with
       | error e=>exact hr₂
       | ok fl₂ =>
         cases fl₂ with
         | ret r =>
           obtain ⟨rfl,g1,g2,g3,g4,hS'⟩:=hr₂
           repeat (any_goals (first | assumption | wp_step))
           exact h _ g1 g2 g3 g4 hS'
         | _=>exact hr₂.elim
   | _=>exact hr.elim
end
end Sm
end
noncomputable section
namespace Sm
open PySem PySem.Spec PyProof.Rows PySem.W L2
noncomputable def Y9 {K:Type} [DecidableEq K] (l:List K):List K:=l.foldl U9 []
theorem fX {K:Type} [DecidableEq K] (ks:Nat->K):∀ i,Uq ks i=((c8 i).map ks).foldl U9 []:=by
 intro iN; induction iN with
 | zero=>skip; exact rfl
 | succ i ih=>skip; rw [List.range_succ,yV,List.foldl_append,<- ih]; rfl
theorem Jw {K:Type} [DecidableEq K] (l:List K) (d:K):Uq (fun i=>l.getD i d) l.length=Y9 l:=by
 rw [fX];have:(c8 l.length).map (fun i=>l.getD i d)=l:=by
   apply List.ext_getElem
   . simp
   . intro i h1 h2; simp [h2]
 rw [this]; rfl
theorem Yq {K:Type} [DecidableEq K] [Inhabited K] (l:List K):(Y9 l).length<=l.length:=by rw [<- Jw l default]; exact Xx _ _
theorem Yp {K:Type} [DecidableEq K] {l:List K} {x:K}:x∈Y9 l↔x∈l:=by
 have:∀ (l m:List K),x∈l.foldl U9 m↔x∈m\/x∈l:=fun l=>by
   induction l with
   | nil=>intro m; simp
   | cons y l ih =>
     intro m; rw [s0,ih]; unfold U9;split
     . rename_i hy
       constructor
       . rintro (h | h)
         . exact .inl h
         . exact .inr (.tail _ h)
       . rintro (h | h)
         . exact .inl h
         . rcases xG.mp h with rfl | h
           . exact .inl hy
           . exact .inr h
     . simp [or_assoc]
 rw [Y9,this]; simp
theorem Sj:∀ {ds:List xC} {ns:List Int},Gn ds=some ns->ds.length=ns.length:=by
 intro iN; induction iN with
 | nil=>intro _ e; cases e; rfl
 | cons d ds ih =>
   intro ns e;cases d with
   | int i =>
     obtain ⟨m,e1,e2⟩:=yT.mp (show (Gn ds).map (i::·)=some ns from e);rw [<- e2,xU,xU,ih e1]
   | _=>cases e
theorem Kq:∀ {ds:List xC} {ns:List Str},M4 ds=some ns->ds.length=ns.length:=by
 intro iN; induction iN with
 | nil=>intro _ e; cases e; rfl
 | cons d ds ih =>
   intro ns e;cases d with
   | str i =>
     obtain ⟨m,e1,e2⟩:=yT.mp (show (M4 ds).map (i::·)=some ns from e);rw [<- e2,xU,xU,ih e1]
   | _=>cases e
theorem iX:∀ {vs:List xF} {ss:List Str},EL vs ss->∀ (i:Nat) (v:xF),vs[i]? = some v->∃ t,v=.str (ss.getD i default) t
 | _,_,.nil,_,_,e=>by cases e
 | _,_,.cons x t h,0,_,e=>by cases e; exact ⟨t,rfl⟩
 | _,_,.cons x t h,i+1,v,e=>iX h i v e
noncomputable def Ev:List xC->Option xC
 | [.list ds]=>if ds.length < 64 then match Gn ds with
   | some ns=>some (.list ((Ei (Y9 ns)).map .int))
   | none=>match M4 ds with
     | some ss=>some (.list ((Q3 (Y9 ss)).map .str))
     | none=>none
   else none
 | _=>none
noncomputable section
variable {prog:yI} {w:yR} {A:zL} {E:xF->xH->Prop} {s:xH}
theorem gI:∀ {vs:List xF} {ks:List Int},IsKs (HE prog w) vs ks->EN vs ks:=by
 intro iN; induction iN with
 | nil=>intro _ h; cases (show _=_ from h); exact .nil
 | cons v vs ih =>
   intro _ h; obtain ⟨k,r,rfl,h1,h⟩:=h; obtain ⟨t,rfl⟩:=Value.isInt_shape h1; exact .cons k t (ih h)
theorem gH:∀ {vs:List xF} {ks:List Str},IsKs (strKind prog w) vs ks->EL vs ks:=by
 intro iN; induction iN with
 | nil=>intro _ h; cases (show _=_ from h); exact .nil
 | cons v vs ih =>
   intro _ h; obtain ⟨k,r,rfl,h1,h⟩:=h; obtain ⟨t,rfl⟩:=JP h1; exact .cons k t (ih h)
theorem nY {a:xO} {ks:List Int} {Q:xF->xH->Prop} (S:SetK (HE prog w) s.heap a ks) (h64:ks.length < 64) (hh:A.handled=none)
   (h:∀ (h1:zJ) d1 tk (vs:List xF) (out:Array xF) (ns:List Int),(∀ b o,s.heap.get? b=some o->h1.get? b=some o)->EN out.toList ns->ns.Perm ks->ns.Pairwise (· <= ·) ->
     Q (.ref h1.objs.size) { s with heap:=IX (h1.push (BU "list" vs.toArray 0)) h1.objs.size vs out,drawn:=d1,toks:=tk }) :
   wpAny (yC prog w) A (call (.builtin "sorted") [.ref a]) Q E s:=by
 obtain ⟨L,⟨o,es,ep,t,ho,hex,hd,hp,hel,hb,hf,T⟩,hK⟩:=S;have hl:L.length=ks.length:=by rw [<- hK.len,xJ]
 refine DD kind_sorted plain_sorted entry_sorted (args_sorted1 _) (xD (m:=checkCount "sorted" 1 1 _) (xE (xD (Lh ho hex hd hf T (by rw [<- zG,hp.length_eq]; lia) hh fun h1 d1 tk vs hk hvs=>?_))));obtain ⟨ks',p1,k1⟩:=hK.perm (hvs.trans (hp.map _));have hvl:vs.length=ks.length:=by rw [k1.len,p1.length_eq]
 have hI:=gI k1;refine xD (wpAny_newList ?_ (by rw [u5]; lia));have hoL:(h1.push (BU "list" vs.toArray 0)).get? h1.objs.size=some (BU "list" vs.toArray 0):=xT _ rfl;show wpAny _ _ _ _ _ { s with heap:=h1.push (BU "list" vs.toArray 0),drawn:=d1,toks:=tk };refine xD (zK (zD IY ⟨_,hoL,rfl⟩ IH (list_sort_tree hoL hI (by lia) fun out ns' a1 a2 a3=>⟨_,rfl,?_⟩) (JG _)));exact xE ⟨_,rfl,h h1 d1 tk vs out ns' hk a1 (a2.trans p1) a3⟩
theorem nZ {a:xO} {ks:List Str} {Q:xF->xH->Prop} (S:SetK (strKind prog w) s.heap a ks) (h64:ks.length < 64) (hh:A.handled=none)
   (h:∀ (h1:zJ) d1 tk (vs:List xF) (out:Array xF) (ns:List Str),(∀ b o,s.heap.get? b=some o->h1.get? b=some o)->EL out.toList ns->ns.Perm ks->sortedS ns=true ->
     Q (.ref h1.objs.size) { s with heap:=IX (h1.push (BU "list" vs.toArray 0)) h1.objs.size vs out,drawn:=d1,toks:=tk }) :
   wpAny (yC prog w) A (call (.builtin "sorted") [.ref a]) Q E s:=by
 obtain ⟨L,⟨o,es,ep,t,ho,hex,hd,hp,hel,hb,hf,T⟩,hK⟩:=S;have hl:L.length=ks.length:=by rw [<- hK.len,xJ]
 refine DD kind_sorted plain_sorted entry_sorted (args_sorted1 _) (xD (m:=checkCount "sorted" 1 1 _) (xE (xD (Lh ho hex hd hf T (by rw [<- zG,hp.length_eq]; lia) hh fun h1 d1 tk vs hk hvs=>?_))));obtain ⟨ks',p1,k1⟩:=hK.perm (hvs.trans (hp.map _));have hvl:vs.length=ks.length:=by rw [k1.len,p1.length_eq]
 have hS:=gH k1;refine xD (wpAny_newList ?_ (by rw [u5]; lia));have hoL:(h1.push (BU "list" vs.toArray 0)).get? h1.objs.size=some (BU "list" vs.toArray 0):=xT _ rfl;show wpAny _ _ _ _ _ { s with heap:=h1.push (BU "list" vs.toArray 0),drawn:=d1,toks:=tk };refine xD (zK (zD IY ⟨_,hoL,rfl⟩ IH (list_sort_treeK strKind_oneLt hoL hS.keysOf (fun v₁ v₂ rest e=>keyKind_strs (by rw [<- e]; exact hS)) (by lia) fun st' hp hs=>⟨_,rfl,?_⟩) (JG _)));obtain ⟨ss',a1,a2,a3⟩:=sorted_out_str hS hp hs
 exact xE ⟨_,rfl,h h1 d1 tk vs _ ss' hk a1 (a2.trans p1) a3⟩
end
theorem Inv.dr {X:Cx} {pins:List (xO×Obj)} {Z:List (Option V)} {H:Hp} {s:xH} (d:Drawn) (I:Inv X pins Z H s):Inv X pins Z H { s with drawn:=d }:=⟨I.ok,I.os,I.bare,I.base,I.loc,I.cell,I.free,I.freeC,I.pin,I.hok,I.len⟩
noncomputable def rW (X:Cx) (a:xO) (ks:List Int):HO:=.ext fun h=>SetK (HE X.prog X.w) h a ks
noncomputable def rX (X:Cx) (a:xO) (ks:List Str):HO:=.ext fun h=>SetK (strKind X.prog X.w) h a ks
noncomputable section
variable {P:yI} {w:yR} {K:xI} {mg:Str->Option xF} {base:zJ} {X:Cx} {N:List Str} {sc:Scope} {k:Nat} {df:Bool} {E:EK} {pos p p1 pos1:Pos} {e:Expr} {fs:Dn->Res (List xC)}
def rSet (X:Cx) (xs:List V) (H:Hp) (Q:VK):Prop:=∃ G ds,Same G H/\RepL G [.list ds] xs/\ds.length < 64 /\
 ((∃ ns,Gn ds=some ns/\∀ a,H a=none->Q (.ref a) (upd H a (rW X a (Y9 ns))))\/(∃ ss,M4 ds=some ss/\((∀ x∈ss,yP x=true/\x.length<=sizeLine)->∀ a,H a=none->Q (.ref a) (upd H a (rX X a (Y9 ss))))))
theorem mX (hh:X.A.handled=none):U7 X (.type "set") (rSet X):=by
 rintro pins s Z H xs us Q I r ⟨G,ds,hG,rl,hl,q⟩;obtain ⟨v,t0,rfl,rv,e0⟩:=rl;cases (show t0=[] from e0);obtain ⟨u,rfl,ru⟩:=r.one;obtain ⟨l,vs,rfl,h1,l1⟩:=rv;cases (show u=k6 l from ru);obtain ⟨z,its,n,rr,ho⟩:=U0 I hG h1;have hfr:H s.heap.objs.size=none:=I.hok.fresh (xN _);have fin:∀ (s':xH) (o:HO),s'.gens=s.gens->s'.drawn=s.drawn->s'.os=s.os->(∀ b o,s.heap.get? b=some o->s'.heap.get? b=some o)->ObjOk X.prog X.w (upd H s.heap.objs.size o) s'.heap s.heap.objs.size o->Inv X pins Z (upd H s.heap.objs.size o) s':=fun s' o g1 g2 g3 g4 ok=>by
   obtain ⟨hp,g,d,tk,os⟩:=s';cases g1; cases g2; cases g3;exact I.laid (t':=tk) g4 (xN _) ok
 rcases q with ⟨ns,e1,q⟩ | ⟨ss,e1,q⟩
 . have hI:=repZ l1 rr e1
   have hle:its.length=ns.length:=hI.length; have hln:ns.length=ds.length:=(Sj e1).symm; refine Tb (knd:=HE X.prog X.w) (ks:=fun i=>ns.getD i 0) hh ⟨_,ho,rfl,n,rfl⟩ (fun i v hv=>?_) (by simp; lia) fun s' g1 g2 g3 g4 S=>?_
   . obtain ⟨t,rfl⟩:=hI.int_at i v (by simpa using hv)
     exact ⟨by simp [HE,Value.isInt],rfl⟩
   . have S':SetK (HE X.prog X.w) s'.heap s.heap.objs.size (Y9 ns):=by rw [<- Jw ns 0,<- hle]; simpa using S
     refine ⟨.ref s.heap.objs.size,_,fin s' (rW X s.heap.objs.size (Y9 ns)) g1 g2 g3 g4 ⟨S',?_,fun h1 h2 a b=>SetK.at a b⟩,rfl,q _ hfr⟩;obtain ⟨_,⟨o,_,_,_,ho,_⟩,_⟩:=S'; exact ⟨o,ho⟩
 . obtain ⟨hI,hok⟩:=repT l1 rr e1
   have hst:=hI.strs; have hle:its.length=ss.length:=by have:=congrArg BI hst; simpa using this
   have hln:ss.length=ds.length:=(Kq e1).symm; refine Tb (knd:=strKind X.prog X.w) (ks:=fun i=>ss.getD i default) hh ⟨_,ho,rfl,n,rfl⟩ (fun i v hv=>?_) (by simp; lia) fun s' g1 g2 g3 g4 S=>?_
   . obtain ⟨t,rfl⟩:=iX hI i v (by simpa using hv)
     exact ⟨by simp [PySem.strKind,Value.isStrOf],rfl⟩
   . have S':SetK (strKind X.prog X.w) s'.heap s.heap.objs.size (Y9 ss):=by rw [<- Jw ss default,<- hle]; simpa using S
     refine ⟨.ref s.heap.objs.size,_,fin s' (rX X s.heap.objs.size (Y9 ss)) g1 g2 g3 g4 ⟨S',?_,fun h1 h2 a b=>SetK.at a b⟩,rfl,q hok _ hfr⟩;obtain ⟨_,⟨o,_,_,_,ho,_⟩,_⟩:=S'; exact ⟨o,ho⟩
def kB (X:Cx) (xs:List V) (H:Hp) (Q:VK):Prop:=∃ a,xs=[.ref a] /\
 ((∃ ks,H a=some (rW X a ks)/\ks.length < 64/\∀ l,H l=none->Q (.ref l) (upd H l (.lst ((Ei ks).map .int))))\/(∃ ks,H a=some (rX X a ks)/\ks.length < 64/\∀ l,H l=none->Q (.ref l) (upd H l (.lst ((Q3 ks).map .str)))))
theorem Vg (hh:X.A.handled=none):U7 X (.builtin "sorted") (kB X):=by
 rintro pins s Z H xs us Q I r ⟨a,hxs,q⟩;subst hxs;obtain ⟨u,rfl,ru⟩:=r.one;cases (show u=k6 a from ru);have fin : ∀ (h1 : zJ) d1 tk (vs : List xF) (out : Array xF) (xs : List V), (∀ b o, s.heap.get? b = some o -> h1.get? b = some o) -> xs.length < 64 -> Vals xs out.toList -> (∀ l, H l = none -> Q (.ref l) (upd H l (.lst xs))) ->
     EP X pins Z Q (.ref h1.objs.size) { s with heap:=IX (h1.push (BU "list" vs.toArray 0)) h1.objs.size vs out,drawn:=d1,toks:=tk }:=fun h1 d1 tk vs out xs hk hl hv hq=>by
   have I1:Inv X pins Z H { s with heap:=h1,drawn:=d1,toks:=tk }:=Inv.dr d1 (I.kept (t':=tk) hk); have hfr:H h1.objs.size=none:=I1.hok.fresh (xN _); have ho1:(h1.push (BU "list" vs.toArray 0)).get? h1.objs.size=some (BU "list" vs.toArray 0):=xT _ rfl; obtain ⟨ee,hat⟩:=sortedHeap_at (out:=out) ho1; refine ⟨.ref h1.objs.size,_,I1.laid (o:=.lst xs) (t':=tk) (fun b o e=>?_) (xN _) ⟨by rw [u5]; lia,out.toList,ee,hv,by simpa using hat⟩,rfl,hq _ hfr⟩;have hlt:b < h1.objs.size:=xZ e; rw [sortedHeap_old (yU hlt) (by rw [size_push']; exact DQ hlt)]
   exact xK _ e
 rcases q with ⟨ks,hd,h64,q⟩ | ⟨ks,hd,h64,q⟩
 . obtain ⟨S,_⟩:=I.hok a _ hd
   refine nY S h64 hh fun h1 d1 tk vs out ns hk a1 a2 a3=>?_;have hsrt:ns=Ei ks:=Vp (a2.trans (V4 ks).symm) a3 (Wr ks); subst hsrt; exact fin h1 d1 tk vs out _ hk (by rw [xJ,(V4 ks).length_eq]; exact h64) (rY a1) q
 . obtain ⟨S,_⟩:=I.hok a _ hd
   refine nZ S h64 hh fun h1 d1 tk vs out ns hk a1 a2 a3=>?_;have hsrt:ns=Q3 ks:=Oo (a2.trans (L8 ks).symm) (Np a3) (Nq ks); subst hsrt; exact fin h1 d1 tk vs out _ hk (by rw [xJ,(L8 ks).length_eq]; exact h64) (Gr a1) q
theorem gT {n:Nat} (C:Cxt P w K mg base X N sc k df) (h:okGl sc "sorted" = true) (hm:mg "sorted" = none) (h':okGl sc "set" = true) (hm':mg "set" = none) (ha:DA X E [e] n fs)
   (he:xR [.Call (.Name "set" p1) [e] [] pos1] X.env=(false,eval (.Call (.Name "set" p1) [e] [] pos1) X.env)::xR [] X.env:=by rfl) (hpl:(f9 pos (xR [] X.env)).any (·.1)=false:=by rfl)
   (he':xR [e] X.env=(false,eval e X.env)::xR [] X.env:=by rfl) (hpl':(f9 pos1 (xR [] X.env)).any (·.1)=false:=by rfl):DE X E (.Call (.Name "sorted" p) [.Call (.Name "set" p1) [e] [] pos1] [] pos) (vFn fs Ev):=by
 obtain ⟨g1,g2,g3⟩:=okGl.gl C h;obtain ⟨g4,g5,g6⟩:=okGl.gl C h';intro pins s Z H Q I q;have hh:=I.ok.hd C.calm;refine (PE.imp (Os (Vg hh) g1 (by rw [C.hmg]; exact hm) (by decide +kernel) (P6 (Se (mX hh) g4 (by rw [C.hmg]; exact hm') (by decide +kernel) ha.pa g6 g5 he' hpl') Y3 he) g3 g2 he hpl) fun Z H Q hY98=>?_) pins s Z H Q I q;obtain ⟨G,δ,S,aft⟩:=hY98;refine X2 (W:=fun G H r=>Aft E G H r Q) S aft (fun g a=>Aft.grow g a) (fun c a=>a) (fun a=>a) fun ds vs G1 H1 e g1 r1 S1 a1=>?_;cases e:Ev ds with
 | none=>rw [e] at a1; exact a1.elim
 | some d =>
   rw [e] at a1; unfold Ev at e;split at e
   . rename_i ys hfs
     split at e
     . rename_i hc
       split at e
       . rename_i ns en
         cases e; refine ⟨G1,ys,S1.sub,r1,hc,.inl ⟨ns,en,fun a ha=>⟨a,rfl,.inl ⟨_,C1,?_,fun l hl=>?_⟩⟩⟩⟩
         . have:=Yq ns; have:=Sj en; lia
         . have hla:l≠a:=fun z=>by subst z; rw [C1] at hl; cases hl
           have hG1a:G1 a=none:=S1.sub.free ha; refine a1 _ (upd (upd G1 a (rW X a (Y9 ns))) l (.lst ((Ei (Y9 ns)).map .int))) _ ((Grow.new S1.sub ha).trans (Grow.new (Grow.new S1.sub ha).gh hl)) ⟨_,_,rfl,.inl C1,RepL.ints _⟩
       . rename_i en0
         split at e
         . rename_i ss en
           cases e; refine ⟨G1,ys,S1.sub,r1,hc,.inr ⟨ss,en,fun hok a ha=>⟨a,rfl,.inr ⟨_,C1,?_,fun l hl=>?_⟩⟩⟩⟩
           . have:=Yq ss; have:=Kq en; lia
           . refine a1 _ (upd (upd G1 a (rX X a (Y9 ss))) l (.lst ((Q3 (Y9 ss)).map .str))) _ ((Grow.new S1.sub ha).trans (Grow.new (Grow.new S1.sub ha).gh hl)) ⟨_,_,rfl,.inl C1,Ol _ fun y hy=>hok y (Yp.mp ((L8 _).mem_iff.mp hy))⟩
         . cases e
     . cases e
   . cases e
end
end Sm
end
noncomputable section
namespace Sm
open PySem PySem.Spec PyProof.Rows PySem.W L2
noncomputable def Ps:xC->Res (List Sl)
 | .tuple [a,b,c]=>.ok [.sh a,.sh b,.sh c]
 | _=>.no
theorem gok3 {K:xI}:GOk (aU K 3 (Bb (L3 0) (Bb (L3 1) (Bb (L3 2) aV)))) 3 Ps:=by
 intro G H d x sl τ Q hG r e h;cases d with
 | tuple ds =>
   match ds,e with
   | [a,b,c],e =>
     cases e; obtain ⟨p,xs,rfl,h1,l1⟩:=r; obtain ⟨v,t1,rfl,r1,l2⟩:=l1; obtain ⟨v',v'',rfl,r2,r3⟩:=jY l2; refine ⟨p,_,rfl,.inl (.inl (hG _ _ h1)),rfl,v,[v',v''],rfl,v',[v''],rfl,v'',[],rfl,rfl,?_⟩; exact h [v,v',v''] rfl rfl fun i s hs=>by
       match i with
       | 0=>cases hs; exact ⟨⟨v,rfl,r1⟩,a,rfl⟩
       | 1=>cases hs; exact ⟨⟨v',rfl,r2⟩,b,rfl⟩
       | 2=>cases hs; exact ⟨⟨v'',rfl,r3⟩,c,rfl⟩
       | i+3=>simp at hs
 | _=>cases e
noncomputable def vY:xC->Bool
 | .tuple ds=>ds.all Oy
 | d=>Oy d
theorem RepL.atoms {G G':Hp}:∀ {ds:List xC} {vs:List V},RepL G ds vs->ds.all Oy=true->RepL G' ds vs
 | [],_,r,_=>r
 | d::ds,_,r,h=>by
   obtain ⟨x,t,rfl,r1,r2⟩:=r; rw [List.all_cons,yE] at h; exact ⟨x,t,rfl,r1.atom h.1,RepL.atoms r2 h.2⟩
theorem mD {G H:Hp} (hG:Same G H) {b:xO} {xs:List V} (hx:H b=some (.tup xs)):∃ G',Grow G H G' H/\G' b=some (.tup xs):=by
 cases eb:G b with
 | some u =>
   have:=hG _ _ eb; rw [hx] at this; exact ⟨G,Grow.refl hG,by rw [eb,<- this]⟩
 | none =>
   refine ⟨upd G b (.tup xs),⟨Same.upd eb,Same.refl _,fun c u e=>?_,fun c u e=>?_⟩,C1⟩
   . by_cases hc:c=b
     . subst hc; rw [C1] at e; cases e; exact hx
     . rw [C3 hc] at e; exact hG _ _ e
   . by_cases hc:c=b
     . subst hc; rw [C1] at e; cases e; exact .inr (.inr ⟨_,rfl⟩)
     . rw [C3 hc] at e; exact .inl e
noncomputable def iK (i:Nat) (f:Dn->Res xC):Dn->Res xC:=fun δ=>(f (fz i δ)).bind fun d=>if vY d=true then .ok d else .no
noncomputable section
variable {X:Cx} {E:EK} {e:Expr} {f:Dn->Res xC}
theorem qZ (i:Nat) (h:DE X E e f):DE X E e (iK i f):=PE.imp h fun Z H Q ⟨G,δ,S,a⟩=>by
 obtain ⟨G',S'⟩:=S.fz i;refine ⟨G',_,S',?_⟩;unfold iK at a;have g0:∀ {G2 H2:Hp},Grow G' H G2 H2->Grow G H G H2:=fun g=>⟨Same.refl _,g.h,S.sub.trans g.h,fun _ _ z=>.inl z⟩;cases q:f (fz i δ) with
 | ok d =>
   rw [q] at a; simp only [Res.bind] at a;split at a
   . rename_i hd
     intro v G2 H2 g r; have hat:Oy d=true->Q v H2:=fun z=>a v G H2 (g0 g) (r.atom z);cases d with
     | tuple ds =>
       obtain ⟨b,xs,rfl,hb,rl⟩:=r; obtain ⟨G3,g3,h3⟩:=mD (g0 g).gh (g.gh _ _ hb); exact a _ G3 H2 ((g0 g).trans g3) ⟨b,xs,rfl,h3,rl.atoms hd⟩
     | _=>exact hat hd
   . exact (show False from a).elim
 | exc c=>rw [q] at a; exact fun G2 H2 g=>a G H2 (g0 g)
 | no=>rw [q] at a; exact a
end
end Sm
end
noncomputable section
namespace Sm
open PySem PySem.Spec PyProof.Rows PySem.W L2
noncomputable def mS:List xC->Option xC
 | [.int i,.int j]=>some (.int (if j < i then j else i))
 | _=>none
theorem bE {X:Cx} (hc:X.calm=true):U7 X (.builtin "min") (rCD mS):=by
 rintro pins s Z H xs us Q I r ⟨G,ds,d,hG,rl,e,q⟩;unfold mS at e;split at e
 . rename_i i j
   cases e; obtain ⟨v,v',rfl,e1,e2⟩:=jY rl;cases (show _=_ from e1); cases (show _=_ from e2);exact gZ hc pins s Z H _ us Q I r ⟨i,j,rfl,q (.int (if j < i then j else i)) G H (Grow.refl hG) rfl⟩
 . cases e
noncomputable section
variable {P:yI} {w:yR} {K:xI} {mg:Str->Option xF} {base:zJ} {X:Cx} {N:List Str} {sc:Scope} {k:Nat} {df:Bool} {E:EK} {e:Expr} {es:List Expr} {fs:Dn->Res (List xC)} {p pos:Pos}
theorem d_min {n:Nat} (C:Cxt P w K mg base X N sc k df) (h:okGl sc "min" = true) (hm:mg "min" = none) (ha:DA X E (e::es) n fs)
   (he:xR (e::es) X.env=(false,eval e X.env)::xR es X.env:=by rfl) (hpl:(f9 pos (xR es X.env)).any (·.1)=false:=by rfl):DE X E (.Call (.Name "min" p) (e::es) [] pos) (vFn fs mS) :=
 Eu C (bE C.calm) h hm (by decide +kernel) ha he hpl
end
end Sm
end
noncomputable section
namespace Sm
open PySem PySem.Spec PyProof.Rows PySem.W L2
noncomputable def Yw:List xC->Option xC
 | [.list ds]=>(Cm ds).map fun is=>.int is.sum
 | _=>none
theorem lX {G:Hp}:∀ {ds:List xC} {xs:List V} {us:List xF} {is:List Int},RepL G ds xs->Vals xs us->Cm ds=some is->EN us is:=by
 intro ds;induction ds with
 | nil=>intro xs us is r q e; cases (show _=_ from r); cases q; cases e; exact .nil
 | cons d ds ih =>
   intro xs us is r q e; obtain ⟨x,t,rfl,h,l⟩:=r;cases d with
   | int b =>
     cases (show _=_ from h);cases q with
     | cons q qs =>
       obtain ⟨tk,rfl⟩:=q; obtain ⟨is,e1,rfl⟩:=yT.mp e; exact .cons b tk (ih l qs e1)
   | _=>cases e
theorem bC {X:Cx} (hc:X.calm=true):U7 X (.builtin "sum") (rCD Yw):=by
 rintro pins s Z H xs us Q I r ⟨G,ds,d,hG,rl,e,q⟩;unfold Yw at e;split at e
 . rename_i ys
   obtain ⟨is,e0,rfl⟩:=yT.mp e; obtain ⟨v,rfl,a,vs,rfl,h1,l1⟩:=Lq rl; obtain ⟨u,rfl,ru⟩:=Mm r; cases ru; obtain ⟨z,its,n,rv,e2⟩:=U0 I hG h1; have hi:=lX l1 rv e0; have hl:s.heap.IsList a its.toArray:=⟨_,e2,rfl,n,rfl⟩; have hn:(numsOf its.toArray.toList).sum=is.sum:=by rw [show its.toArray.toList=its from rfl,hi.numsOf]
   obtain ⟨ps,hp⟩:=hi.allInts.items; rw [hp] at hl hn; rw [nums_intItems] at hn; refine sum_intListG (I.ok.hd hc) hl fun h' tk t' hk=>?_;rw [preSum_eq,List.take_of_length_le (by simp),hn]; exact ⟨.int is.sum,H,I.kept (t':=tk) hk,⟨t',rfl⟩,q _ G H (Grow.refl hG) rfl⟩
 . cases e
noncomputable section
variable {P:yI} {w:yR} {K:xI} {mg:Str->Option xF} {base:zJ} {X:Cx} {N:List Str} {sc:Scope} {k:Nat} {df:Bool} {E:EK} {e:Expr} {fs:Dn->Res (List xC)} {p pos:Pos}
theorem wI (C:Cxt P w K mg base X N sc k df) (h:okGl sc "sum" = true) (hm:mg "sum" = none) (ha:DA X E [e] 1 fs)
   (he:xR [e] X.env=(false,eval e X.env)::xR [] X.env:=by rfl) (hpl:(f9 pos (xR [] X.env)).any (·.1)=false:=by rfl):DE X E (.Call (.Name "sum" p) [e] [] pos) (vFn fs Yw) :=
 Eu C (bC C.calm) h hm (by decide +kernel) ha he hpl
end
noncomputable section
variable {P:yI} {w:yR} {K:xI} {mg:Str->Option xF} {base:zJ} {X:Cx} {N:List Str} {sc scope:Scope} {k:Nat} {df:Bool} {E:EK} {pos tp px py pz pt spos:Pos} {iter elt:Expr} {ifs:List Expr} {src:Dn->Res (List xC)} {tt:Dn->Res Bool} {el:Dn->Res xC} {capN:List Str} {cap:List Nat}
theorem Oh {x1:Nat} {t x y z:Str} (C:Cxt P w K mg base X N sc k df) (i:Nat) (hset:okSet N sc df i t=true) (hsw:Cj sc scope t pt.line pos.line=true) (cap:List Nat) (capN:List Str) (ho:okComp N sc scope [x,y,z] capN cap=true) (hi:DI X E (.Tuple [.Name x px,.Name y py,.Name z pz] x1 tp) iter src)
   (ht:∀ X',Cxt P w K mg base X' ([x,y,z]++capN) (Cr scope sc) k false->DTs X' E0k ifs tt) (he:∀ X',Cxt P w K mg base X' ([x,y,z]++capN) (Cr scope sc) k false->DE X' E0k elt el)
   (hs:∀ x,zP iter X.env x=pure x:=by intro _; rfl):DS X E (.Assign [.Name t pt] (.ListComp elt [⟨.Tuple [.Name x px,.Name y py,.Name z pz] x1 tp,iter,ifs,0⟩] scope pos) spos) (Gx i (E8 src Ps cap tt el)):=fun G0 H0=>by
 obtain ⟨h1,h2,h3,h4⟩:=okSet.ok C hset;have o:=okComp.ok ho;have hl:X.env.scope.names.lookup t=some .local:=by
   rw [C.hs]; unfold Cj at hsw; simp only [yE,decide_eq_true_eq] at hsw; exact hsw.1.1.2
 refine PS.imp (Dh (g:=aU K 3 (Bb (L3 0) (Bb (L3 1) (Bb (L3 2) aV)))) C.calm (V6 C o) hi (fun X' B=>?_) (fun X' B=>ht X' (C.blk B)) (fun X' B=>he X' (C.blk B)) h1 h2 hl (Fj C hsw) hs) fun D Z H h=>Fb (m:=3) rfl o.h10 gok3 (Uk h);have C':=C.blk B;have hl:∀ u∈[x,y,z],X'.env.scope.names.lookup u=some .local:=fun u hu=>by rw [C'.hs]; exact o.h9 u hu
 have nd:X'.N.Nodup:=by rw [C'.hN]; exact o.h8
 have p1:PG X' (.Name x px) (L3 0):=O4 nd (by rw [C'.hN]; rfl) (.inl (hl x (by simp))) (.inr (hl x (by simp)));have p2:PG X' (.Name y py) (L3 1):=O4 nd (by rw [C'.hN]; rfl) (.inl (hl y (by simp))) (.inr (hl y (by simp)));have p3:PG X' (.Name z pz) (L3 2):=O4 nd (by rw [C'.hN]; rfl) (.inl (hl z (by simp))) (.inr (hl z (by simp)));have:=Ug (n:=3) (k:=x1) (pos:=tp) C'.calm (U1 p1 (U1 p2 (U1 p3 Mg)));rw [C'.hK] at this;exact this
end
end Sm
end
noncomputable section
namespace Sm
open PySem PySem.Spec PyProof.Rows L2
def top (i:Nat):w8:=PySem.Challenge.pw_staymark_k32_whole_counts.main.body.getD i (.Pass ⟨0,0,0,0⟩)
def stm (i j:Nat):w8:=(B3 (top i)).getD j (.Pass ⟨0,0,0,0⟩)
structure Txt (mg:Str->Option xF):Prop where
 b_enumerate:mg "enumerate" = none
 b_int:mg "int" = none
 b_len:mg "len" = none
 b_max:mg "max" = none
 b_min:mg "min" = none
 b_range:mg "range" = none
 b_reversed:mg "reversed" = none
 b_set:mg "set" = none
 b_sorted:mg "sorted" = none
 b_sum:mg "sum" = none
 b_tuple:mg "tuple" = none
 c_SIDES:∃ t,mg "SIDES" = some (.str "lr" t)
noncomputable def Q8:List Str:=["deed"]
noncomputable def R0:Dn->Out:=(F8 (vIf (B8 (b2 (b2 (A0 0) (vC (.int 0)) dIx) (vC (.str "add")) dEq)) (vFn (A1 (b2 (A0 0) (vC (.int 3)) dIx) A6) M9) (vC (.int 0))))
noncomputable def F3:List xC->Res xC:=fnD Q8 R0
noncomputable def W1:List Str:=["book", "behind", "deed"]
noncomputable def Y1:Dn->Res Kvs:=(Ed (Ch 1) (Ed (oF 1 2 (fun δ=>((A0 0) δ).bind D5) (B8 (b2 (B5 (A1 (A0 2) A6) F3) (vC (.int 0)) (Bl .Gt))) (b2 (A0 2) (vC (.int 2)) dIx) (A0 2)) (Um 1)))
noncomputable def O3:List xC->Res Kvs:=fnW W1 Y1
noncomputable def N6:List Str:=["book", "behind", "waiting", "told", "step", "deed", "number", "sign"]
noncomputable def Bw:Dn->Out:=(Eb 1 (Hw (A1 (A0 0) A6) O3))
noncomputable def Bv:Dn->Out:=(Iq 2 (E8 (fun δ=>((Mp 1 (vC .none) (I0 A6)) δ).bind D5) F2 [] K7 (D3 (A1 (A0 0) (A1 (vC (.int 0)) A6)))))
noncomputable def Fx:Dn->Out:=(Iq 3 A6)
noncomputable def Bu:Dn->Out:=(jU (Ze 2) (B6 (fF 2 4) (B6 (D2 5 (b2 (A0 4) (vC (.int 0)) dIx)) (B6 (D2 6 (b2 (A0 4) (vC (.int 1)) dIx)) (B6 (D2 7 (D3 (A1 (b2 (A0 5) (vC (.int 1)) dIx) (A1 (A0 6) A6)))) (B6 (Ci 3 (D3 (A1 (A0 7) (A1 (b2 (b2 (A0 5) (vC (.int 3)) dIx) (A0 6) dIx) A6)))) (B6 (sIf (B8 (b2 (b2 (A0 6) (vC (.int 1)) C5) (vFn (A1 (b2 (A0 5) (vC (.int 3)) dIx) A6) M9) (D7 .Lt))) (Ci 2 (D3 (A1 (A0 5) (A1 (b2 (A0 6) (vC (.int 1)) C5) A6)))) E6) (Xc 2 (E8 (fun δ=>((Mp 1 (A0 7) (I0 A6)) δ).bind D5) F2 [] K7 (D3 (A1 (A0 0) (A1 (vC (.int 0)) A6))))))))))))
noncomputable def Fw:Dn->Out:=(sFz 3 (F8 (A0 3)))
noncomputable def De:Dn->Out:=(B6 Bw (B6 Bv (B6 Fx (B6 Bu Fw))))
noncomputable def V5:List xC->Res xC:=fnD N6 De
noncomputable def Bp:List Str:=["book", "undone", "deed"]
noncomputable def Cc:Dn->Res Kvs:=(Ed (Ch 1) (Ed (M8 (fun δ=>((A0 0) δ).bind Xe) (st1 2) (sIf (O0 (B8 (b2 (b2 (A0 2) (vC (.int 0)) dIx) (vC (.str "undo")) dEq)) (B8 (Y7 true 1 (b2 (A0 2) (vC (.int 1)) dIx)))) (W4 1 (b2 (A0 2) (vC (.int 2)) dIx) (vC (.bool true))) E6)) (Um 1)))
noncomputable def I9:List xC->Res Kvs:=fnW Bp Cc
noncomputable def Z5:List Str:=["book", "undone", "dropped", "deed", "sign"]
noncomputable def Av:Dn->Res Kvs:=(Ed (Ch 2) (Ed (M8 (fun δ=>((A0 0) δ).bind D5) (st1 3) (sIf (O0 (B8 (b2 (b2 (A0 3) (vC (.int 0)) dIx) (vC (.str "drop")) dEq)) (B8 (Y7 true 1 (b2 (A0 3) (vC (.int 1)) dIx)))) (M8 (fun δ=>((b2 (A0 3) (vC (.int 2)) dIx) δ).bind D5) (st1 4) (W4 2 (A0 4) (vC (.bool true)))) E6)) (Um 2)))
noncomputable def K9:List Sl->Res Kvs:=qM Z5 Av
noncomputable def F7:List Str:=["book", "undone", "dropped", "told", "pair"]
noncomputable def V3:Dn->Out:=(Eb 1 (Hw (A1 (A0 0) A6) I9))
noncomputable def V2:Dn->Out:=(jV 1 (Eb 2 (Tn (A0 0) 1 K9)))
noncomputable def Cp:Dn->Out:=(Iq 3 A6)
noncomputable def P3:Dn->Out:=(M8 (fun δ=>((B5 (A1 (A0 0) A6) V5) δ).bind D5) (st1 4) (Ci 3 (D3 (A1 (A0 4) (A1 (Vo (Y7 true 1 (b2 (b2 (A0 4) (vC (.int 0)) dIx) (vC (.int 0)) dIx)) (Y7 true 2 (b2 (A0 4) (vC (.int 0)) dIx))) A6)))))
noncomputable def Co:Dn->Out:=(sFz 3 (F8 (A0 3)))
noncomputable def Y0:Dn->Out:=(B6 V3 (B6 V2 (B6 Cp (B6 P3 Co))))
noncomputable def J2:List xC->Res xC:=fnD F7 Y0
noncomputable def Du:List Str:=["book"]
noncomputable def Df:Dn->Out:=(F8 (I0 (E8 (fun δ=>((B5 (A1 (A0 0) A6) J2) δ).bind D5) F2 [] (B8 (b2 (A0 0) (vC (.int 1)) dIx)) (b2 (A0 0) (vC (.int 0)) dIx))))
noncomputable def N5:List xC->Res xC:=fnD Du Df
noncomputable def Fq:List Str:=["book"]
noncomputable def Ek:Dn->Out:=(F8 (Ko "" (I0 (E8 (fun δ=>((B5 (A1 (A0 0) A6) N5) δ).bind D5) F2 [] K7 (b2 (A0 0) (vC (.int 1)) dIx)))))
noncomputable def O2:List xC->Res xC:=fnD Fq Ek
noncomputable def Bq:List Str:=["book", "places", "behind", "step", "ahead"]
noncomputable def Cd:Dn->Res Kvs:=(Ed (Ch 1) (Ed (D2 2 (vC (.int 0))) (Ed (M8 (fun δ=>((B5 (A1 (A0 0) A6) J2) δ).bind D5) (st1 3) (B6 (D2 4 (A0 2)) (B6 (sIf (B8 (b2 (A0 3) (vC (.int 1)) dIx)) (D2 2 (b2 (A0 4) (vC (.int 1)) C5)) E6) (W4 1 (b2 (b2 (A0 3) (vC (.int 0)) dIx) (vC (.int 0)) dIx) (D3 (A1 (A0 2) (A1 (A0 4) A6))))))) (Ed (W4 1 (vC .none) (D3 (A1 (vC (.int 0)) (A1 (A0 2) A6)))) (Um 1)))))
noncomputable def T6:List xC->Res Kvs:=fnW Bq Cd
noncomputable def Dw:List Str:=["places", "anchor"]
noncomputable def Dg:Dn->Out:=(F8 (b2 (Pt 0 (b2 (A0 1) (vC (.int 0)) dIx)) (Mc (vC (.str "lr")) (b2 (A0 1) (vC (.int 1)) dIx)) dIx))
noncomputable def D9:List Sl->Res xC:=fnS Dw Dg
noncomputable def N1:List Str:=["book", "place", "side", "shown", "number"]
noncomputable def Af:Dn->Out:=(D2 3 (B5 (A1 (A0 0) A6) N5))
noncomputable def Ae:Dn->Out:=(sIf (Ez (B8 (Da (vC (.int 0)) (A0 1) (vFn (A1 (A0 3) A6) M9) (D7 .LtE) (D7 .LtE)))) sNo E6)
noncomputable def Ac:Dn->Out:=(D2 4 (vIf (B8 (b2 (A0 2) (vC (.str "l")) dEq)) (b2 (A0 1) (vC (.int 1)) Hk) (A0 1)))
noncomputable def O5:Dn->Out:=(sIf (Ez (B8 (Da (vC (.int 0)) (A0 4) (vFn (A1 (A0 3) A6) M9) (D7 .LtE) (D7 .Lt)))) (F8 (D3 (A1 (vC .none) (A1 (A0 2) A6)))) E6)
noncomputable def Eh:Dn->Out:=(F8 (D3 (A1 (b2 (b2 (A0 3) (A0 4) dIx) (vC (.int 0)) dIx) (A1 (A0 2) A6))))
noncomputable def Gj:Dn->Out:=(B6 Af (B6 Ae (B6 Ac (B6 O5 Eh))))
noncomputable def F9:List xC->Res xC:=fnD N1 Gj
noncomputable def L6:List Str:=["book", "undone", "last", "deed"]
noncomputable def X6:Dn->Out:=(Eb 1 (Hw (A1 (A0 0) A6) I9))
noncomputable def Dy:Dn->Out:=(Ch 2)
noncomputable def X5:Dn->Out:=(M8 (fun δ=>((A0 0) δ).bind D5) (st1 3) (sIf (O0 (B8 (b2 (b2 (A0 3) (vC (.int 0)) dIx) (D3 (A1 (vC (.str "mark")) (A1 (vC (.str "unmark")) A6))) (dIn false))) (B8 (Y7 true 1 (b2 (A0 3) (vC (.int 1)) dIx)))) (W4 2 (b2 (A0 3) (vC (.int 2)) dIx) (A0 3)) E6))
noncomputable def X4:Dn->Out:=(F8 (I0 (E8 (fun δ=>((Mn 2) δ).bind D5) F2 [2] (B8 (b2 (b2 (Pt 1 (A0 0)) (vC (.int 0)) dIx) (vC (.str "mark")) dEq)) (Pt 1 (A0 0)))))
noncomputable def Au:Dn->Out:=(B6 X6 (B6 Dy (B6 X5 X4)))
noncomputable def P7:List xC->Res xC:=fnD L6 Au
noncomputable def T4:List Str:=["book", "places", "told", "deed", "begin"]
noncomputable def Bz:Dn->Out:=(Eb 1 (Hw (A1 (A0 0) A6) T6))
noncomputable def Fz:Dn->Out:=(Iq 2 A6)
noncomputable def Bx:Dn->Out:=(jV 1 (M8 (fun δ=>((B5 (A1 (A0 0) A6) P7) δ).bind D5) (st1 3) (B6 (D2 4 (Be 1 (b2 (A0 3) (vC (.int 3)) dIx) D9)) (Ci 2 (D3 (A1 (b2 (A0 3) (vC (.int 2)) dIx) (A1 (A0 4) (A1 (vFn (A1 (A0 4) (A1 (Be 1 (b2 (A0 3) (vC (.int 4)) dIx) D9) A6)) bA) A6))))))))
noncomputable def Fy:Dn->Out:=(sFz 2 (F8 (A0 2)))
noncomputable def Ik:Dn->Out:=(B6 Bz (B6 Fz (B6 Bx Fy)))
noncomputable def D4:List xC->Res xC:=fnD T4 Ik
noncomputable def Dv:List Str:=["marks", "name", "mark"]
noncomputable def El:Dn->Out:=(B6 (M8 (fun δ=>((A0 0) δ).bind D5) (st1 2) (sIf (B8 (b2 (b2 (A0 2) (vC (.int 0)) dIx) (A0 1) dEq)) (F8 (A0 2)) E6)) sNo)
noncomputable def U2:List xC->Res xC:=fnD Dv El
noncomputable def Y5:List Str:=["marks", "begin", "end"]
noncomputable def Bg:Dn->Out:=(F8 (I0 (E8 (fun δ=>((A0 0) δ).bind D5) F2 [1,2] (O0 (B8 (b2 (b2 (A0 0) (vC (.int 1)) dIx) (A0 1) (D7 .LtE))) (B8 (b2 (A0 2) (b2 (A0 0) (vC (.int 2)) dIx) (D7 .LtE)))) (b2 (A0 0) (vC (.int 0)) dIx))))
noncomputable def K8:List xC->Res xC:=fnD Y5 Bg
noncomputable def Km:List Str:=["text", "marks", "begins", "ends"]
noncomputable def Lb:Dn->Out:=(B6 (Gx 2 (E8 (fun δ=>((A0 1) δ).bind D5) F2 [] K7 (b2 (A0 0) (vC (.int 1)) dIx))) (B6 (Gx 3 (E8 (fun δ=>((A0 1) δ).bind D5) F2 [] K7 (b2 (A0 0) (vC (.int 2)) dIx))) (F8 (vFn (A1 (b2 (b2 (I0 (A1 (vC (.int 0)) (A1 (vFn (A1 (A0 0) A6) M9) A6))) (A0 2) C5) (A0 3) C5) A6) Ev))))
noncomputable def Cs:List xC->Res xC:=fnD Km Lb
noncomputable def U6:List Str:=["book", "text", "marks", "cuts", "told", "number", "begin", "end"]
noncomputable def La:Dn->Out:=(D2 1 (B5 (A1 (A0 0) A6) O2))
noncomputable def Kz:Dn->Out:=(D2 2 (B5 (A1 (A0 0) A6) D4))
noncomputable def Ky:Dn->Out:=(D2 3 (B5 (A1 (A0 1) (A1 (A0 2) A6)) Cs))
noncomputable def Kx:Dn->Out:=(Iq 4 A6)
noncomputable def Eg:Dn->Out:=(M8 (fun δ=>((A1 (b2 (vFn (A1 (A0 3) A6) M9) (vC (.int 1)) Hk) A6) δ).bind Iv) (st1 5) (B6 (D2 6 (b2 (A0 3) (A0 5) dIx)) (B6 (D2 7 (b2 (A0 3) (b2 (A0 5) (vC (.int 1)) C5) dIx)) (Ci 4 (D3 (A1 (iJ (A0 1) (Bj (A0 6)) (Bj (A0 7))) (A1 (B5 (A1 (A0 2) (A1 (A0 6) (A1 (A0 7) A6))) K8) A6)))))))
noncomputable def Kw:Dn->Out:=(sFz 4 (F8 (A0 4)))
noncomputable def Ny:Dn->Out:=(B6 La (B6 Kz (B6 Ky (B6 Kx (B6 Eg Kw)))))
noncomputable def E7:List xC->Res xC:=fnD U6 Ny
noncomputable def Hu:List Str:=["book", "told", "begin", "piece", "end"]
noncomputable def Rr:Dn->Out:=(Iq 1 A6)
noncomputable def Rq:Dn->Out:=(D2 2 (vC (.int 0)))
noncomputable def Ji:Dn->Out:=(M8 (fun δ=>((B5 (A1 (A0 0) A6) E7) δ).bind D5) (st1 3) (B6 (D2 4 (b2 (A0 2) (vFn (A1 (b2 (A0 3) (vC (.int 0)) dIx) A6) M9) C5)) (B6 (sIf (cFz 1 (O0 (Ez (B8 (b2 (A0 3) (vC (.int 1)) dIx))) (O0 (B8 (A0 1)) (B8 (b2 (b2 (b2 (A0 1) (b1 (vC (.int 1)) Ke) dIx) (vC (.int 1)) dIx) (A0 2) dEq))))) (Rw 1 (b1 (vC (.int 1)) Ke) (iK 1 (D3 (A1 (b2 (b2 (A0 1) (b1 (vC (.int 1)) Ke) dIx) (vC (.int 0)) dIx) (A1 (A0 4) A6))))) (sIf (Ez (B8 (b2 (A0 3) (vC (.int 1)) dIx))) (Ci 1 (D3 (A1 (A0 2) (A1 (A0 4) A6)))) E6)) (D2 2 (A0 4)))))
noncomputable def Rp:Dn->Out:=(sFz 1 (F8 (A0 1)))
noncomputable def Wv:Dn->Out:=(B6 Rr (B6 Rq (B6 Ji Rp)))
noncomputable def Y4:List xC->Res xC:=fnD Hu Wv
noncomputable def Vl:List Str:=["mark", "other"]
noncomputable def Ru:Dn->Out:=(F8 (Vo (b2 (b2 (A0 1) (vC (.int 1)) dIx) (b2 (A0 1) (vC (.int 2)) dIx) (D7 .Lt)) (Vo (b2 (b2 (A0 0) (vC (.int 1)) dIx) (b2 (A0 1) (vC (.int 1)) dIx) (D7 .LtE)) (b2 (b2 (A0 1) (vC (.int 2)) dIx) (b2 (A0 0) (vC (.int 2)) dIx) (D7 .LtE)))))
noncomputable def U3:List xC->Res xC:=fnD Vl Ru
noncomputable def Vm:List Str:=["mark", "other"]
noncomputable def Rv:Dn->Out:=(B6 (sIf (cOr (B8 (B5 (A1 (A0 0) (A1 (A0 1) A6)) U3)) (B8 (B5 (A1 (A0 1) (A1 (A0 0) A6)) U3))) (F8 (vC (.bool false))) E6) (F8 (b2 (vFn (A1 (b2 (A0 0) (vC (.int 1)) dIx) (A1 (b2 (A0 1) (vC (.int 1)) dIx) A6)) bA) (vFn (A1 (b2 (A0 0) (vC (.int 2)) dIx) (A1 (b2 (A0 1) (vC (.int 2)) dIx) A6)) mS) (D7 .Lt))))
noncomputable def Dm:List xC->Res xC:=fnD Vm Rv
noncomputable def T5:List Str:=["book", "marks", "told", "mark"]
noncomputable def Gh:Dn->Out:=(D2 1 (B5 (A1 (A0 0) A6) D4))
noncomputable def Gg:Dn->Out:=(Iq 2 A6)
noncomputable def Ca:Dn->Out:=(M8 (fun δ=>((A0 1) δ).bind D5) (st1 3) (Xc 2 (E8 (fun δ=>((A0 1) δ).bind D5) F2 [3] (O0 (B8 (b2 (b2 (A0 1) (vC (.int 0)) dIx) (b2 (A0 0) (vC (.int 0)) dIx) (D7 .Lt))) (B8 (B5 (A1 (A0 1) (A1 (A0 0) A6)) Dm))) (D3 (A1 (b2 (A0 1) (vC (.int 0)) dIx) (A1 (b2 (A0 0) (vC (.int 0)) dIx) A6))))))
noncomputable def Gf:Dn->Out:=(sFz 2 (F8 (A0 2)))
noncomputable def Im:Dn->Out:=(B6 Gh (B6 Gg (B6 Ca Gf)))
noncomputable def L9:List xC->Res xC:=fnD T5 Im
noncomputable def V7:List Str:=["book", "name", "marks", "outer"]
noncomputable def Ge:Dn->Out:=(D2 2 (B5 (A1 (A0 0) A6) D4))
noncomputable def Gd:Dn->Out:=(D2 3 (B5 (A1 (A0 2) (A1 (A0 1) A6)) U2))
noncomputable def Ga:Dn->Out:=(F8 (I0 (E8 (fun δ=>((A0 2) δ).bind D5) F2 [1,3] (O0 (B8 (b2 (b2 (A0 0) (vC (.int 0)) dIx) (A0 1) dNe)) (B8 (B5 (A1 (A0 2) (A1 (A0 0) A6)) U3))) (b2 (A0 0) (vC (.int 0)) dIx))))
noncomputable def Il:Dn->Out:=(B6 Ge (B6 Gd Ga))
noncomputable def O8:List xC->Res xC:=fnD V7 Il
noncomputable def Bd:List Str:=["book", "marks", "most"]
noncomputable def Kv:Dn->Out:=(D2 1 (B5 (A1 (A0 0) A6) D4))
noncomputable def Ku:Dn->Out:=(sIf (Ez (B8 (A0 1))) (F8 (vC .none)) E6)
noncomputable def Kt:Dn->Out:=(D2 2 (vFn (A1 (I0 (E8 (fun δ=>((A0 1) δ).bind D5) F2 [] K7 (b2 (b2 (A0 0) (vC (.int 2)) dIx) (b2 (A0 0) (vC (.int 1)) dIx) Hk))) A6) Pg))
noncomputable def Ks:Dn->Out:=(F8 (b2 (I0 (E8 (fun δ=>((A0 1) δ).bind D5) F2 [2] (B8 (b2 (b2 (b2 (A0 0) (vC (.int 2)) dIx) (b2 (A0 0) (vC (.int 1)) dIx) Hk) (A0 1) dEq)) (b2 (A0 0) (vC (.int 0)) dIx))) (vC (.int 0)) dIx))
noncomputable def Nx:Dn->Out:=(B6 Kv (B6 Ku (B6 Kt Ks)))
noncomputable def W7:List xC->Res xC:=fnD Bd Nx
noncomputable def Br:List Str:=["_law_script", "_law_k"]
noncomputable def Cf:Dn->Out:=(B6 (sIf (B8 (b2 (A0 0) (I0 A6) dEq)) (F8 (b2 (vC (.int 7)) (A0 1) N9)) E6) (F8 (b2 (b2 (A0 0) (b2 (A0 1) (vFn (A1 (A0 0) A6) M9) Qz) dIx) (b2 (vC (.int 6553)) (b2 (A0 1) (vFn (A1 (A0 0) A6) M9) Lg) N9) C5)))
noncomputable def W8:List xC->Res xC:=fnD Br Cf
noncomputable def Aa:List Str:=["_law_script", "_law_k", "_law_many", "_law_cell_here"]
noncomputable def Az:Dn->Out:=(B6 (D2 3 (b2 (b2 (b2 (b2 (B5 (A1 (A0 0) (A1 (A0 1) A6)) W8) (vC (.int 2147483563)) Qz) (vC (.int 69069)) N9) (b2 (vC (.int 104723)) (b2 (A0 1) (vC (.int 1)) C5) N9) C5) (vC (.int 2147483563)) Qz)) (B6 (D2 3 (b2 (b2 (b2 (A0 3) (A0 3) N9) (b2 (A0 3) (vC (.int 3)) Lg) C5) (vC (.int 2147483399)) Qz)) (F8 (b2 (b2 (b2 (b2 (b2 (A0 3) (A0 3) N9) (b2 (A0 3) (vC (.int 7)) Lg) C5) (vC (.int 2147483647)) Qz) (vC (.int 11)) Lg) (A0 2) Qz))))
noncomputable def B0:List xC->Res xC:=fnD Aa Az
noncomputable def N7:List Str:=["_law_script", "_law_at", "_law_found", "_law_k", "_law_word"]
noncomputable def X9:Dn->Out:=(Iq 2 A6)
noncomputable def X8:Dn->Out:=(M8 (fun δ=>((A1 (vC (.int 3)) A6) δ).bind Iv) (st1 3) (B6 (D2 4 (b2 (b2 (vC (.str "abcdefghijklmnopqrstuvwxyz")) (B5 (A1 (A0 0) (A1 (b2 (A0 1) (b2 (vC (.int 2)) (A0 3) N9) C5) (A1 (vC (.int 26)) A6))) B0) dIx) (B5 (A1 (A0 0) (A1 (b2 (b2 (A0 1) (b2 (vC (.int 2)) (A0 3) N9) C5) (vC (.int 1)) C5) (A1 (vC (.int 2)) A6))) B0) N9)) (Ci 2 (b2 (I0 (A1 (b2 (A0 4) (b2 (vC (.str "xyz")) (A0 3) dIx) C5) (A1 (b2 (b2 (vC (.str "xyz")) (A0 3) dIx) (A0 4) C5) A6))) (B5 (A1 (A0 0) (A1 (b2 (A0 1) (vC (.int 6)) C5) (A1 (vC (.int 2)) A6))) B0) dIx))))
noncomputable def X7:Dn->Out:=(sFz 2 (F8 (A0 2)))
noncomputable def Ay:Dn->Out:=(B6 X9 (B6 X8 X7))
noncomputable def Q0:List xC->Res xC:=fnD N7 Ay
noncomputable def Z8:List Str:=["_law_script", "_law_at"]
noncomputable def Aw:Dn->Out:=(F8 (Ko "" (I0 (E8 (fun δ=>((A1 (b2 (vC (.int 1)) (B5 (A1 (A0 0) (A1 (b2 (A0 1) (vC (.int 4)) C5) (A1 (vC (.int 4)) A6))) B0) C5) A6) δ).bind Iv) F2 [0,1] K7 (b2 (vC (.str "ab cd~ <")) (B5 (A1 (A0 1) (A1 (b2 (A0 2) (A0 0) C5) (A1 (vC (.int 8)) A6))) B0) dIx)))))
noncomputable def P8:List xC->Res xC:=fnD Z8 Aw
noncomputable def Z9:List Str:=["_law_book_here", "_law_found", "_law_deed_here"]
noncomputable def Ax:Dn->Out:=(B6 (D2 1 (I0 A6)) (B6 (M8 (fun δ=>((A0 0) δ).bind D5) (st1 2) (sIf (B8 (b2 (b2 (A0 2) (vC (.int 0)) dIx) (vC (.str "add")) dEq)) (D2 1 (b2 (A0 1) (I0 (E8 (fun δ=>((A1 (vFn (A1 (b2 (A0 2) (vC (.int 3)) dIx) A6) M9) A6) δ).bind Iv) F2 [2] K7 (D3 (A1 (b2 (A0 1) (vC (.int 1)) dIx) (A1 (A0 0) A6))))) C5)) E6)) (F8 (A0 1))))
noncomputable def P9:List xC->Res xC:=fnD Z9 Ax
noncomputable def W2:List Str:=["_law_script", "_law_at", "_law_signs_here", "_law_sign"]
noncomputable def Y2:Dn->Out:=(B6 (D2 3 (b2 (b2 (I0 (A1 (vC .none) A6)) (A0 2) C5) (B5 (A1 (A0 0) (A1 (A0 1) (A1 (b2 (vFn (A1 (A0 2) A6) M9) (vC (.int 1)) C5) A6))) B0) dIx)) (F8 (D3 (A1 (A0 3) (A1 (b2 (vC (.str "lr")) (B5 (A1 (A0 0) (A1 (b2 (A0 1) (vC (.int 1)) C5) (A1 (vC (.int 2)) A6))) B0) dIx) A6)))))
noncomputable def M0:List xC->Res xC:=fnD W2 Y2
noncomputable def F6:List Str:=["_law_script", "_law_at", "_law_one", "_law_known", "_law_names_here", "_law_signs_here", "_law_way", "_law_behind", "_law_some", "_law_ends"]
noncomputable def An:Dn->Out:=(D2 5 (B5 (A1 (A0 3) A6) P9))
noncomputable def Am:Dn->Out:=(D2 6 (B5 (A1 (A0 0) (A1 (A0 1) (A1 (vC (.int 12)) A6))) B0))
noncomputable def Al:Dn->Out:=(sIf (O0 (B8 (b2 (A0 6) (vC (.int 2)) (D7 .Lt))) (B8 (b2 (A0 5) (I0 A6) dNe))) (B6 (Gx 8 (E8 (fun δ=>((A1 (A0 5) A6) δ).bind Pd) V0 [0,1] (B8 (b2 (B5 (A1 (A0 2) (A1 (b2 (b2 (A0 3) (vC (.int 20)) C5) (A0 0) C5) (A1 (vC (.int 4)) A6))) B0) (vC (.int 0)) dEq)) (A0 1))) (F8 (D3 (A1 (vC (.str "drop")) (A1 (A0 2) (A1 (vFn (A1 (b2 (A0 8) (b2 (vSl (A0 5) Ov (Bj (vC (.int 1)))) (vFn (A1 (b2 (A0 8) (I0 A6) dEq) A6) Lf) N9) C5) A6) Gp) A6)))))) E6)
noncomputable def Ak:Dn->Out:=(sIf (B8 (b2 (A0 6) (vC (.int 5)) (D7 .Lt))) (B6 (D2 9 (D3 (A1 (B5 (A1 (A0 0) (A1 (b2 (A0 1) (vC (.int 1)) C5) (A1 (A0 5) A6))) M0) (A1 (B5 (A1 (A0 0) (A1 (b2 (A0 1) (vC (.int 3)) C5) (A1 (A0 5) A6))) M0) A6)))) (F8 (b2 (D3 (A1 (vC (.str "mark")) (A1 (A0 2) (A1 (b2 (A0 4) (B5 (A1 (A0 0) (A1 (b2 (A0 1) (vC (.int 5)) C5) (A1 (vC (.int 3)) A6))) B0) dIx) A6)))) (A0 9) C5))) E6)
noncomputable def Aj:Dn->Out:=(sIf (B8 (b2 (A0 6) (vC (.int 5)) dEq)) (F8 (D3 (A1 (vC (.str "unmark")) (A1 (A0 2) (A1 (b2 (A0 4) (B5 (A1 (A0 0) (A1 (b2 (A0 1) (vC (.int 5)) C5) (A1 (vC (.int 3)) A6))) B0) dIx) A6))))) E6)
noncomputable def Ai:Dn->Out:=(sIf (O0 (B8 (b2 (A0 6) (vC (.int 8)) (D7 .Lt))) (B8 (b2 (A0 3) (D3 A6) dNe))) (F8 (D3 (A1 (vC (.str "undo")) (A1 (A0 2) (A1 (b2 (b2 (A0 3) (B5 (A1 (A0 0) (A1 (b2 (A0 1) (vC (.int 6)) C5) (A1 (vFn (A1 (A0 3) A6) M9) A6))) B0) dIx) (vC (.int 1)) dIx) A6))))) E6)
noncomputable def Ah:Dn->Out:=(D2 7 (b2 (b2 (b2 (I0 (A1 (vC .none) A6)) (A0 5) C5) (vSl (A0 5) (Bj (b1 (vC (.int 3)) Ke)) Ov) C5) (B5 (A1 (A0 0) (A1 (b2 (A0 1) (vC (.int 7)) C5) (A1 (b2 (b2 (vFn (A1 (A0 5) A6) M9) (vC (.int 1)) C5) (vFn (A1 (vSl (A0 5) (Bj (b1 (vC (.int 3)) Ke)) Ov) A6) M9) C5) A6))) B0) dIx))
noncomputable def Ag:Dn->Out:=(F8 (D3 (A1 (vC (.str "add")) (A1 (A0 2) (A1 (A0 7) (A1 (B5 (A1 (A0 0) (A1 (b2 (A0 1) (vC (.int 8)) C5) A6)) P8) A6))))))
noncomputable def Ce:Dn->Out:=(B6 An (B6 Am (B6 Al (B6 Ak (B6 Aj (B6 Ai (B6 Ah Ag)))))))
noncomputable def N0:List xC->Res xC:=fnD F6 Ce
noncomputable def N2:List Str:=["_law_script", "_law_at", "_law_most", "_law_names_here", "_law_found", "_law_one", "_law_k", "_law_time", "_law_hand", "_law_known"]
noncomputable def Ar:Dn->Out:=(D2 4 (D3 A6))
noncomputable def Aq:Dn->Out:=(D2 5 (D3 (A1 (vC (.int 1)) (A1 (vC (.str "a")) A6))))
noncomputable def Ap:Dn->Out:=(M8 (fun δ=>((A1 (B5 (A1 (A0 0) (A1 (A0 1) (A1 (b2 (A0 2) (vC (.int 1)) C5) A6))) B0) A6) δ).bind Iv) (st1 6) (B6 (D2 7 (b2 (b2 (A0 5) (vC (.int 0)) dIx) (B5 (A1 (A0 0) (A1 (b2 (b2 (A0 1) (vC (.int 1)) C5) (b2 (vC (.int 60)) (A0 6) N9) C5) (A1 (vC (.int 2)) A6))) B0) C5)) (B6 (D2 8 (b2 (vC (.str "abc")) (B5 (A1 (A0 0) (A1 (b2 (b2 (A0 1) (vC (.int 2)) C5) (b2 (vC (.int 60)) (A0 6) N9) C5) (A1 (vC (.int 3)) A6))) B0) dIx)) (B6 (sIf (O0 (B8 (b2 (A0 4) (D3 A6) dNe)) (B8 (b2 (D3 (A1 (A0 7) (A1 (A0 8) A6))) (A0 5) (D7 .LtE)))) (D2 7 (b2 (b2 (A0 5) (vC (.int 0)) dIx) (vC (.int 1)) C5)) E6) (B6 (D2 5 (D3 (A1 (A0 7) (A1 (A0 8) A6)))) (B6 (D2 9 (vFn (A1 (I0 (E8 (fun δ=>((A0 4) δ).bind D5) F2 [7] (B8 (b2 (b2 (b2 (A0 0) (vC (.int 1)) dIx) (vC (.int 0)) dIx) (A0 1) (D7 .Lt))) (A0 0))) A6) Gp)) (D2 4 (b2 (A0 4) (D3 (A1 (B5 (A1 (A0 0) (A1 (b2 (b2 (A0 1) (vC (.int 3)) C5) (b2 (vC (.int 60)) (A0 6) N9) C5) (A1 (A0 5) (A1 (A0 9) (A1 (A0 3) A6))))) N0) A6)) C5))))))))
noncomputable def Ao:Dn->Out:=(F8 (A0 4))
noncomputable def Cg:Dn->Out:=(B6 Ar (B6 Aq (B6 Ap Ao)))
noncomputable def W9:List xC->Res xC:=fnD N2 Cg
noncomputable def P0:List Str:=["_law_script", "_law_book_here", "_law_text", "_law_marks", "_law_held", "_law_piece", "_law_names_here", "_law_ends", "_law_whole", "_law_some", "_law_sizes", "_law_place", "_law_none"]
noncomputable def Vz:Dn->Out:=(D2 1 (B5 (A1 (A0 0) (A1 (vC (.int 10)) (A1 (vC (.int 10)) (A1 (B5 (A1 (A0 0) (A1 (vC (.int 0)) A6)) Q0) A6)))) W9))
noncomputable def Vy:Dn->Out:=(D2 2 (B5 (A1 (A0 1) A6) O2))
noncomputable def Vx:Dn->Out:=(D2 3 (B5 (A1 (A0 1) A6) D4))
noncomputable def Ie:Dn->Out:=(sIf (B8 (b2 (vFn (A1 (B5 (A1 (A0 1) A6) E7) A6) M9) (b2 (b2 (vC (.int 2)) (vFn (A1 (A0 3) A6) M9) N9) (vC (.int 1)) C5) (Bl .Gt))) (F8 (vC (.bool false))) E6)
noncomputable def Vw:Dn->Out:=(D2 4 (vC (.int 0)))
noncomputable def Ms:Dn->Out:=(M8 (fun δ=>((B5 (A1 (A0 1) A6) E7) δ).bind D5) (st2 5 6) (D2 4 (b2 (A0 4) (b2 (vFn (A1 (A0 5) A6) M9) (vFn (A1 (b2 (A0 6) (I0 A6) dNe) A6) Lf) N9) C5)))
noncomputable def Ic:Dn->Out:=(sIf (B8 (b2 (b2 (A0 4) (vFn (A1 (I0 (E8 (fun δ=>((B5 (A1 (A0 1) A6) Y4) δ).bind D5) V0 [] K7 (b2 (A0 1) (A0 0) Hk))) A6) Yw) C5) (vFn (A1 (A0 2) A6) M9) dNe)) (F8 (vC (.bool false))) E6)
noncomputable def Vv:Dn->Out:=(D2 7 (D3 (A1 (B5 (A1 (A0 1) (A1 (vC (.int 0)) (A1 (vC (.str "l")) A6))) F9) (A1 (B5 (A1 (A0 1) (A1 (vFn (A1 (A0 2) A6) M9) (A1 (vC (.str "r")) A6))) F9) A6))))
noncomputable def Vu:Dn->Out:=(D2 8 (b2 (A0 1) (D3 (A1 (b2 (D3 (A1 (vC (.str "mark")) (A1 (D3 (A1 (vC (.int 60)) (A1 (vC (.str "d")) A6))) (A1 (vC (.str "whole")) A6)))) (A0 7) C5) A6)) C5))
noncomputable def Ib:Dn->Out:=(Gx 9 (E8 (fun δ=>((A0 3) δ).bind D5) Ps [] (B8 (b2 (A0 1) (A0 2) (D7 .Lt))) (A0 0)))
noncomputable def Fi:Dn->Out:=(sIf (cOr (B8 (b2 (B5 (A1 (A0 8) (A1 (vC (.str "whole")) A6)) O8) (A0 9) dNe)) (cOr (B8 (b2 (B5 (A1 (A0 8) A6) L9) (B5 (A1 (A0 1) A6) L9) dNe)) (B8 (b2 (B5 (A1 (A0 8) A6) Y4) (I0 A6) dNe)))) (F8 (vC (.bool false))) E6)
noncomputable def Fh:Dn->Out:=(sIf (B8 (b2 (I0 (E8 (fun δ=>((B5 (A1 (A0 8) A6) E7) δ).bind D5) V0 [] K7 (A0 0))) (I0 (E8 (fun δ=>((B5 (A1 (A0 1) A6) E7) δ).bind D5) V0 [] K7 (A0 0))) dNe)) (F8 (vC (.bool false))) E6)
noncomputable def Fg:Dn->Out:=(sIf (B8 (b2 (I0 (E8 (fun δ=>((B5 (A1 (A0 8) A6) E7) δ).bind D5) V0 [] (B8 (b2 (vC (.str "whole")) (A0 1) (dIn true))) (A0 1))) (I0 A6) dNe)) (F8 (vC (.bool false))) E6)
noncomputable def Ff:Dn->Out:=(Gx 10 (E8 (fun δ=>((A0 3) δ).bind D5) Ps [] K7 (b2 (A0 2) (A0 1) Hk)))
noncomputable def Fe:Dn->Out:=(sIf (O0 (B8 (b2 (vFn (A1 (A0 2) A6) M9) (vFn (A1 (b2 (I0 (A1 (vC (.int 0)) A6)) (A0 10) C5) A6) Pg) (Bl .Gt))) (B8 (b2 (B5 (A1 (A0 8) A6) W7) (vC (.str "whole")) dNe))) (F8 (vC (.bool false))) E6)
noncomputable def Ro:Dn->Out:=(D2 11 (B5 (A1 (A0 0) (A1 (vC (.int 620)) (A1 (b2 (vFn (A1 (A0 2) A6) M9) (vC (.int 1)) C5) A6))) B0))
noncomputable def Rn:Dn->Out:=(D2 7 (D3 (A1 (B5 (A1 (A0 1) (A1 (A0 11) (A1 (vC (.str "r")) A6))) F9) (A1 (B5 (A1 (A0 1) (A1 (A0 11) (A1 (vC (.str "l")) A6))) F9) A6))))
noncomputable def Rm:Dn->Out:=(D2 12 (b2 (A0 1) (D3 (A1 (b2 (D3 (A1 (vC (.str "mark")) (A1 (D3 (A1 (vC (.int 60)) (A1 (vC (.str "d")) A6))) (A1 (vC (.str "none")) A6)))) (A0 7) C5) A6)) C5))
noncomputable def Fd:Dn->Out:=(sIf (cOr (B8 (b2 (Ko "" (I0 (E8 (fun δ=>((B5 (A1 (A0 12) A6) E7) δ).bind D5) V0 [] K7 (A0 0)))) (A0 2) dNe)) (B8 (b2 (B5 (A1 (A0 12) A6) L9) (B5 (A1 (A0 1) A6) L9) dNe))) (F8 (vC (.bool false))) E6)
noncomputable def Fc:Dn->Out:=(F8 (Vo (b2 (B5 (A1 (A0 12) A6) Y4) (B5 (A1 (A0 1) A6) Y4) dEq) (b2 (B5 (A1 (A0 12) (A1 (vC (.str "none")) A6)) O8) (I0 A6) dEq)))
noncomputable def bW:Dn->Out:=(B6 Vz (B6 Vy (B6 Vx (B6 Ie (B6 Vw (B6 Ms (B6 Ic (B6 Vv (B6 Vu (B6 Ib (B6 Fi (B6 Fh (B6 Fg (B6 Ff (B6 Fe (B6 Ro (B6 Rn (B6 Rm (B6 Fd Fc)))))))))))))))))))
noncomputable def cR:List xC->Res xC:=fnD P0 bW
end Sm
end
noncomputable section
namespace Sm
open PySem PySem.Spec PyProof.Rows L2
variable {P:yI} {w:yR} {K:xI} {mg:Str->Option xF} {base:zJ} {X:Cx}
theorem Nz:FnScope Q8 ["deed"] (A4 (top 2)):=⟨rfl,rfl,rfl,by decide +kernel,rfl,by decide +kernel,by decide +kernel⟩
theorem Kf  (T:Txt mg) (C:Cxt P w K mg base X Q8 (A4 (top 2)) 0 true):DSs X E0k (B3 (top 2)) R0 :=
 (B7 (E5 (dA (Li C (C7 (A2 C 0 ⋯) A8) G6) (Q6 C ⋯ T.b_len (A3 (C7 (A2 C 0 ⋯) A8) A7)) A8)))
theorem Ob:FnScope W1 ["book"] (A4 (top 8)):=⟨rfl,rfl,rfl,by decide +kernel,rfl,by decide +kernel,by decide +kernel⟩
theorem Kh  (T:Txt mg) (F_signs_added:Fn P w K mg base "signs_added" 1 1 F3) (C:Cxt P w K mg base X W1 (A4 (top 8)) 1 true):DSN X E0k (B3 (top 8)) Y1 :=
 (Ck (Io C 1 ⋯) (Ck (s_grp C 1 2 ⋯ ⋯ (J3 (A2 C 0 ⋯)) (tM C (B9 C F_signs_added (by decide) ⋯ (A3 (A2 C 2 ⋯) A7)) A8) (C7 (A2 C 2 ⋯) A8) (A2 C 2 ⋯) ⟨rfl,rfl,rfl,rfl⟩ (fun _=>rfl) rfl rfl rfl rfl rfl rfl) (cP C 1 ⋯)))
theorem Ww:FnScope N6 ["book"] (A4 (top 9)):=⟨rfl,rfl,rfl,by decide +kernel,rfl,by decide +kernel,by decide +kernel⟩
theorem Qa  (T:Txt mg) (F_adds_behind:FnN P w K mg base "adds_behind" 2 1 O3) (C:Cxt P w K mg base X N6 (A4 (top 9)) 2 true):DS X E0k (stm 9 0) Bw :=
 (Oe C 1 ⋯ (Ul C F_adds_behind (by decide) ⋯ (A3 (A2 C 0 ⋯) A7)))
theorem Pz  (T:Txt mg) (C:Cxt P w K mg base X N6 (A4 (top 9)) 2 true):DS X E0k (stm 9 1) Bv :=
 (aF C 2 ⋯ ⋯ [] [] ⋯ (J3 (mR C 1 ⋯ Kc (K6 (Q2 A7)))) (fun X' C'=>V1) (fun X' C'=>(F4 (A3 (A2 C' 0 ⋯) (A3 A8 A7)))))
theorem Py  (T:Txt mg) (C:Cxt P w K mg base X N6 (A4 (top 9)) 2 true):DS X E0k (stm 9 2) Fx :=
 (Og C 3 ⋯ (Q2 A7))
theorem Px  (T:Txt mg) (C:Cxt P w K mg base X N6 (A4 (top 9)) 2 true):DS X E0k (stm 9 3) Bu :=
 (oD C (t_own C 2 ⋯) (A9 (s_pop C 2 4 ⋯ ⋯) (A9 (D6 C 5 ⋯ (C7 (A2 C 4 ⋯) A8)) (A9 (D6 C 6 ⋯ (C7 (A2 C 4 ⋯) A8)) (A9 (D6 C 7 ⋯ (F4 (A3 (C7 (A2 C 5 ⋯) A8) (A3 (A2 C 6 ⋯) A7)))) (A9 (Oj C 3 ⋯ (F4 (A3 (A2 C 7 ⋯) (A3 (C7 (C7 (A2 C 5 ⋯) A8) (A2 C 6 ⋯)) A7)))) (A9 (W3 (Zv C (C9 (A2 C 6 ⋯) A8) (Q6 C ⋯ T.b_len (A3 (C7 (A2 C 5 ⋯) A8) A7))) (B7 (Oj C 2 ⋯ (F4 (A3 (A2 C 5 ⋯) (A3 (C9 (A2 C 6 ⋯) A8) A7))))) G9) (B7 (sE C 2 ⋯ (S9 C [] [] ⋯ (J3 (mR C 1 ⋯ (A2 C 7 ⋯) (K6 (Q2 A7)))) (fun X' C'=>V1) (fun X' C'=>(F4 (A3 (A2 C' 0 ⋯) (A3 A8 A7))))))))))))))
theorem Pw  (T:Txt mg) (C:Cxt P w K mg base X N6 (A4 (top 9)) 2 true):DS X E0k (stm 9 4) Fw :=
 (aH 3 (E5 (A2 C 3 ⋯)))
theorem Rb  (T:Txt mg) (F_adds_behind:FnN P w K mg base "adds_behind" 2 1 O3) (C:Cxt P w K mg base X N6 (A4 (top 9)) 2 true):DSs X E0k (B3 (top 9)) De:=by
 have h:B3 (top 9)=[stm 9 0,stm 9 1,stm 9 2,stm 9 3,stm 9 4]:=by kernel_rfl
 rw [h];exact (A9 (Qa T F_adds_behind C) (A9 (Pz T C) (A9 (Py T C) (A9 (Px T C) (B7 (Pw T C))))))
theorem Tu:FnScope Bp ["book"] (A4 (top 10)):=⟨rfl,rfl,rfl,by decide +kernel,rfl,by decide +kernel,by decide +kernel⟩
theorem Pk  (T:Txt mg) (C:Cxt P w K mg base X Bp (A4 (top 10)) 0 true):DSN X E0k (B3 (top 10)) Cc :=
 (Ck (Io C 1 ⋯) (Ck (T8 C 2 ⋯ (i_rev C ⋯ T.b_reversed (A2 C 0 ⋯)) (B7 (W3 (w_t (Dx (Li C (C7 (A2 C 2 ⋯) A8) G6) (Ab (Mr C 1 ⋯ (C7 (A2 C 2 ⋯) A8))))) (B7 (Od C 1 ⋯ (C7 (A2 C 2 ⋯) A8) Cn)) G9))) (cP C 1 ⋯)))
theorem Qp:FnScope Z5 ["book", "undone"] (A4 (top 11)):=⟨rfl,rfl,rfl,by decide +kernel,rfl,by decide +kernel,by decide +kernel⟩
theorem Lv  (T:Txt mg) (C:Cxt P w K mg base X Z5 (A4 (top 11)) 0 true):DSN X E0k (B3 (top 11)) Av :=
 (Ck (Io C 2 ⋯) (Ck (T8 C 3 ⋯ (J3 (A2 C 0 ⋯)) (B7 (W3 (w_t (Dx (Li C (C7 (A2 C 3 ⋯) A8) G6) (Ab (Mr C 1 ⋯ (C7 (A2 C 3 ⋯) A8))))) (B7 (T8 C 4 ⋯ (J3 (C7 (A2 C 3 ⋯) A8)) (B7 (Od C 2 ⋯ (A2 C 4 ⋯) Cn)))) G9))) (cP C 2 ⋯)))
theorem Oa:FnScope F7 ["book"] (A4 (top 12)):=⟨rfl,rfl,rfl,by decide +kernel,rfl,by decide +kernel,by decide +kernel⟩
theorem Jn  (T:Txt mg) (F_undone_in:FnN P w K mg base "undone_in" 1 1 I9) (C:Cxt P w K mg base X F7 (A4 (top 12)) 3 true):DS X E0k (stm 12 0) V3 :=
 (Oe C 1 ⋯ (Ul C F_undone_in (by decide) ⋯ (A3 (A2 C 0 ⋯) A7)))
theorem Jm  (T:Txt mg) (F_dropped_in:FnSN P w K mg base "dropped_in" 1 2 K9) (C:Cxt P w K mg base X F7 (A4 (top 12)) 3 true):DS X E0k (stm 12 1) V2 :=
 (sD 1 (Oe C 2 ⋯ (lG C F_dropped_in (by decide) ⋯ (A2 C 0 ⋯) 1 ⋯)))
theorem Jl  (T:Txt mg) (C:Cxt P w K mg base X F7 (A4 (top 12)) 3 true):DS X E0k (stm 12 2) Cp :=
 (Og C 3 ⋯ (Q2 A7))
theorem Jk  (T:Txt mg) (F_signs_of:Fn P w K mg base "signs_of" 3 1 V5) (C:Cxt P w K mg base X F7 (A4 (top 12)) 3 true):DS X E0k (stm 12 3) P3 :=
 (T8 C 4 ⋯ (J3 (B9 C F_signs_of (by decide) ⋯ (A3 (A2 C 0 ⋯) A7))) (B7 (Oj C 3 ⋯ (F4 (A3 (A2 C 4 ⋯) (A3 (dC (Yr C 1 ⋯ (C7 (C7 (A2 C 4 ⋯) A8) A8)) (mM (Yr C 2 ⋯ (C7 (A2 C 4 ⋯) A8)))) A7))))))
theorem Jj  (T:Txt mg) (C:Cxt P w K mg base X F7 (A4 (top 12)) 3 true):DS X E0k (stm 12 4) Co :=
 (aH 3 (E5 (A2 C 3 ⋯)))
theorem Kg  (T:Txt mg) (F_dropped_in:FnSN P w K mg base "dropped_in" 1 2 K9) (F_signs_of:Fn P w K mg base "signs_of" 3 1 V5) (F_undone_in:FnN P w K mg base "undone_in" 1 1 I9) (C:Cxt P w K mg base X F7 (A4 (top 12)) 3 true):DSs X E0k (B3 (top 12)) Y0:=by
 have h:B3 (top 12)=[stm 12 0,stm 12 1,stm 12 2,stm 12 3,stm 12 4]:=by kernel_rfl
 rw [h];exact (A9 (Jn T F_undone_in C) (A9 (Jm T F_dropped_in C) (A9 (Jl T C) (A9 (Jk T F_signs_of C) (B7 (Jj T C))))))
theorem Wx:FnScope Du ["book"] (A4 (top 13)):=⟨rfl,rfl,rfl,by decide +kernel,rfl,by decide +kernel,by decide +kernel⟩
theorem Rc  (T:Txt mg) (F_presence_in:Fn P w K mg base "presence_in" 4 1 J2) (C:Cxt P w K mg base X Du (A4 (top 13)) 4 true):DSs X E0k (B3 (top 13)) Df :=
 (B7 (E5 (K6 (S9 C [] [] ⋯ (J3 (B9 C F_presence_in (by decide) ⋯ (A3 (A2 C 0 ⋯) A7))) (fun X' C'=>(Bt (Fv (C7 (A2 C' 0 ⋯) A8)))) (fun X' C'=>(C7 (A2 C' 0 ⋯) A8))))))
theorem aD:FnScope Fq ["book"] (A4 (top 14)):=⟨rfl,rfl,rfl,by decide +kernel,rfl,by decide +kernel,by decide +kernel⟩
theorem Vj  (T:Txt mg) (F_shown_in:Fn P w K mg base "shown_in" 5 1 N5) (C:Cxt P w K mg base X Fq (A4 (top 14)) 5 true):DSs X E0k (B3 (top 14)) Ek :=
 (B7 (E5 (aZ (K6 (S9 C [] [] ⋯ (J3 (B9 C F_shown_in (by decide) ⋯ (A3 (A2 C 0 ⋯) A7))) (fun X' C'=>V1) (fun X' C'=>(C7 (A2 C' 0 ⋯) A8)))))))
theorem Tv:FnScope Bq ["book"] (A4 (top 16)):=⟨rfl,rfl,rfl,by decide +kernel,rfl,by decide +kernel,by decide +kernel⟩
theorem Pl  (T:Txt mg) (F_presence_in:Fn P w K mg base "presence_in" 4 1 J2) (C:Cxt P w K mg base X Bq (A4 (top 16)) 4 true):DSN X E0k (B3 (top 16)) Cd :=
 (Ck (Io C 1 ⋯) (Ck (D6 C 2 ⋯ A8) (Ck (T8 C 3 ⋯ (J3 (B9 C F_presence_in (by decide) ⋯ (A3 (A2 C 0 ⋯) A7))) (A9 (D6 C 4 ⋯ (A2 C 2 ⋯)) (A9 (W3 (Fv (C7 (A2 C 3 ⋯) A8)) (B7 (D6 C 2 ⋯ (C9 (A2 C 4 ⋯) A8))) G9) (B7 (Od C 1 ⋯ (C7 (C7 (A2 C 3 ⋯) A8) A8) (F4 (A3 (A2 C 2 ⋯) (A3 (A2 C 4 ⋯) A7)))))))) (Ck (Od C 1 ⋯ Kc (F4 (A3 A8 (A3 (A2 C 2 ⋯) A7)))) (cP C 1 ⋯)))))
theorem Xb:FnScope Dw ["places", "anchor"] (A4 (top 17)):=⟨rfl,rfl,rfl,by decide +kernel,rfl,by decide +kernel,by decide +kernel⟩
theorem Ri  (T:Txt mg) (C:Cxt P w K mg base X Dw (A4 (top 17)) 0 true):DSs X E0k (B3 (top 17)) Dg :=
 (B7 (E5 (C7 (mO C 0 ⋯ (C7 (A2 C 1 ⋯) A8)) (mQ (rB (z := "lr") C ⋯ T.c_SIDES) (C7 (A2 C 1 ⋯) A8)))))
theorem Tw:FnScope N1 ["book", "place", "side"] (A4 (top 18)):=⟨rfl,rfl,rfl,by decide +kernel,rfl,by decide +kernel,by decide +kernel⟩
theorem Na  (T:Txt mg) (F_shown_in:Fn P w K mg base "shown_in" 5 1 N5) (C:Cxt P w K mg base X N1 (A4 (top 18)) 5 true):DS X E0k (stm 18 0) Af :=
 (D6 C 3 ⋯ (B9 C F_shown_in (by decide) ⋯ (A3 (A2 C 0 ⋯) A7)))
theorem Mz  (T:Txt mg) (C:Cxt P w K mg base X N1 (A4 (top 18)) 5 true):DS X E0k (stm 18 1) Ae :=
 (W3 (Vs (eH C A8 (A2 C 1 ⋯) (Q6 C ⋯ T.b_len (A3 (A2 C 3 ⋯) A7)))) (B7 s_no) G9)
theorem My  (T:Txt mg) (C:Cxt P w K mg base X N1 (A4 (top 18)) 5 true):DS X E0k (stm 18 2) Ac :=
 (D6 C 4 ⋯ (dA (Li C (A2 C 2 ⋯) G6) (Sy (A2 C 1 ⋯) A8) (A2 C 1 ⋯)))
theorem Mx  (T:Txt mg) (C:Cxt P w K mg base X N1 (A4 (top 18)) 5 true):DS X E0k (stm 18 3) O5 :=
 (W3 (Vs (Vt C A8 (A2 C 4 ⋯) (Q6 C ⋯ T.b_len (A3 (A2 C 3 ⋯) A7)))) (B7 (E5 (F4 (A3 Kc (A3 (A2 C 2 ⋯) A7))))) G9)
theorem Mw  (T:Txt mg) (C:Cxt P w K mg base X N1 (A4 (top 18)) 5 true):DS X E0k (stm 18 4) Eh :=
 (E5 (F4 (A3 (C7 (C7 (A2 C 3 ⋯) (A2 C 4 ⋯)) A8) (A3 (A2 C 2 ⋯) A7))))
theorem Pm  (T:Txt mg) (F_shown_in:Fn P w K mg base "shown_in" 5 1 N5) (C:Cxt P w K mg base X N1 (A4 (top 18)) 5 true):DSs X E0k (B3 (top 18)) Gj:=by
 have h:B3 (top 18)=[stm 18 0,stm 18 1,stm 18 2,stm 18 3,stm 18 4]:=by kernel_rfl
 rw [h];exact (A9 (Na T F_shown_in C) (A9 (Mz T C) (A9 (My T C) (A9 (Mx T C) (B7 (Mw T C))))))
theorem Qo:FnScope L6 ["book"] (A4 (top 19)):=⟨rfl,rfl,rfl,by decide +kernel,rfl,by decide +kernel,by decide +kernel⟩
theorem Lm  (T:Txt mg) (F_undone_in:FnN P w K mg base "undone_in" 1 1 I9) (C:Cxt P w K mg base X L6 (A4 (top 19)) 1 true):DS X E0k (stm 19 0) X6 :=
 (Oe C 1 ⋯ (Ul C F_undone_in (by decide) ⋯ (A3 (A2 C 0 ⋯) A7)))
theorem Ll  (T:Txt mg) (C:Cxt P w K mg base X L6 (A4 (top 19)) 1 true):DS X E0k (stm 19 1) Dy :=
 (Io C 2 ⋯)
theorem Lk  (T:Txt mg) (C:Cxt P w K mg base X L6 (A4 (top 19)) 1 true):DS X E0k (stm 19 2) X5 :=
 (T8 C 3 ⋯ (J3 (A2 C 0 ⋯)) (B7 (W3 (w_t (Dx (t_in C (C7 (A2 C 3 ⋯) A8) (F4 (A3 G6 (A3 G6 A7)))) (Ab (Mr C 1 ⋯ (C7 (A2 C 3 ⋯) A8))))) (B7 (Od C 2 ⋯ (C7 (A2 C 3 ⋯) A8) (A2 C 3 ⋯))) G9)))
theorem Lj  (T:Txt mg) (C:Cxt P w K mg base X L6 (A4 (top 19)) 1 true):DS X E0k (stm 19 3) X4 :=
 (E5 (K6 (S9 C [2] ["last"] ⋯ (J3 (rA C ⋯ T.b_sorted 2 ⋯)) (fun X' C'=>(Bt (Li C' (C7 (mO C' 1 ⋯ (A2 C' 0 ⋯)) A8) G6))) (fun X' C'=>(mO C' 1 ⋯ (A2 C' 0 ⋯))))))
theorem Lu  (T:Txt mg) (F_undone_in:FnN P w K mg base "undone_in" 1 1 I9) (C:Cxt P w K mg base X L6 (A4 (top 19)) 1 true):DSs X E0k (B3 (top 19)) Au:=by
 have h:B3 (top 19)=[stm 19 0,stm 19 1,stm 19 2,stm 19 3]:=by kernel_rfl
 rw [h];exact (A9 (Lm T F_undone_in C) (A9 (Ll T C) (A9 (Lk T C) (B7 (Lj T C)))))
theorem Wy:FnScope T4 ["book"] (A4 (top 20)):=⟨rfl,rfl,rfl,by decide +kernel,rfl,by decide +kernel,by decide +kernel⟩
theorem Qe  (T:Txt mg) (F_places_in:FnN P w K mg base "places_in" 5 1 T6) (C:Cxt P w K mg base X T4 (A4 (top 20)) 5 true):DS X E0k (stm 20 0) Bz :=
 (Oe C 1 ⋯ (Ul C F_places_in (by decide) ⋯ (A3 (A2 C 0 ⋯) A7)))
theorem Qd  (T:Txt mg) (C:Cxt P w K mg base X T4 (A4 (top 20)) 5 true):DS X E0k (stm 20 1) Fz :=
 (Og C 2 ⋯ (Q2 A7))
theorem Qc  (T:Txt mg) (F_anchored:FnS P w K mg base "anchored" 1 2 D9) (F_mark_deeds:Fn P w K mg base "mark_deeds" 2 1 P7) (C:Cxt P w K mg base X T4 (A4 (top 20)) 5 true):DS X E0k (stm 20 2) Bx :=
 (sD 1 (T8 C 3 ⋯ (J3 (B9 C F_mark_deeds (by decide) ⋯ (A3 (A2 C 0 ⋯) A7))) (A9 (D6 C 4 ⋯ (Yu C F_anchored (by decide) ⋯ 1 ⋯ (C7 (A2 C 3 ⋯) A8))) (B7 (Oj C 2 ⋯ (F4 (A3 (C7 (A2 C 3 ⋯) A8) (A3 (A2 C 4 ⋯) (A3 (sS C ⋯ T.b_max (A3 (A2 C 4 ⋯) (A3 (Yu C F_anchored (by decide) ⋯ 1 ⋯ (C7 (A2 C 3 ⋯) A8)) A7))) A7)))))))))
theorem Qb  (T:Txt mg) (C:Cxt P w K mg base X T4 (A4 (top 20)) 5 true):DS X E0k (stm 20 3) Fy :=
 (aH 2 (E5 (A2 C 2 ⋯)))
theorem Re  (T:Txt mg) (F_anchored:FnS P w K mg base "anchored" 1 2 D9) (F_mark_deeds:Fn P w K mg base "mark_deeds" 2 1 P7) (F_places_in:FnN P w K mg base "places_in" 5 1 T6) (C:Cxt P w K mg base X T4 (A4 (top 20)) 5 true):DSs X E0k (B3 (top 20)) Ik:=by
 have h:B3 (top 20)=[stm 20 0,stm 20 1,stm 20 2,stm 20 3]:=by kernel_rfl
 rw [h];exact (A9 (Qe T F_places_in C) (A9 (Qd T C) (A9 (Qc T F_anchored F_mark_deeds C) (B7 (Qb T C)))))
theorem Qn:FnScope Dv ["marks", "name"] (A4 (top 21)):=⟨rfl,rfl,rfl,by decide +kernel,rfl,by decide +kernel,by decide +kernel⟩
theorem Ls  (T:Txt mg) (C:Cxt P w K mg base X Dv (A4 (top 21)) 0 true):DSs X E0k (B3 (top 21)) El :=
 (A9 (T8 C 2 ⋯ (J3 (A2 C 0 ⋯)) (B7 (W3 (Li C (C7 (A2 C 2 ⋯) A8) (A2 C 1 ⋯)) (B7 (E5 (A2 C 2 ⋯))) G9))) (B7 s_no))
theorem Jo:FnScope Y5 ["marks", "begin", "end"] (A4 (top 22)):=⟨rfl,rfl,rfl,by decide +kernel,rfl,by decide +kernel,by decide +kernel⟩
theorem Hq  (T:Txt mg) (C:Cxt P w K mg base X Y5 (A4 (top 22)) 0 true):DSs X E0k (B3 (top 22)) Bg :=
 (B7 (E5 (K6 (S9 C [1,2] ["begin", "end"] ⋯ (J3 (A2 C 0 ⋯)) (fun X' C'=>(Bt (w_t (Dx (tL C' (C7 (A2 C' 0 ⋯) A8) (A2 C' 1 ⋯)) (Ab (tL C' (A2 C' 2 ⋯) (C7 (A2 C' 0 ⋯) A8))))))) (fun X' C'=>(C7 (A2 C' 0 ⋯) A8))))))
theorem aE:FnScope Km ["text", "marks"] (A4 (top 24)):=⟨rfl,rfl,rfl,by decide +kernel,rfl,by decide +kernel,by decide +kernel⟩
theorem Vk  (T:Txt mg) (C:Cxt P w K mg base X Km (A4 (top 24)) 0 true):DSs X E0k (B3 (top 24)) Lb :=
 (A9 (Oi C 2 ⋯ ⋯ [] [] ⋯ (J3 (A2 C 1 ⋯)) (fun X' C'=>V1) (fun X' C'=>(C7 (A2 C' 0 ⋯) A8))) (A9 (Oi C 3 ⋯ ⋯ [] [] ⋯ (J3 (A2 C 1 ⋯)) (fun X' C'=>V1) (fun X' C'=>(C7 (A2 C' 0 ⋯) A8))) (B7 (E5 (gT C ⋯ T.b_sorted ⋯ T.b_set (A3 (C9 (C9 (K6 (Q2 (A3 A8 (A3 (Q6 C ⋯ T.b_len (A3 (A2 C 0 ⋯) A7)) A7)))) (A2 C 2 ⋯)) (A2 C 3 ⋯)) A7))))))
theorem fE:FnScope U6 ["book"] (A4 (top 25)):=⟨rfl,rfl,rfl,by decide +kernel,rfl,by decide +kernel,by decide +kernel⟩
theorem Wq  (T:Txt mg) (F_text_of:Fn P w K mg base "text_of" 6 1 O2) (C:Cxt P w K mg base X U6 (A4 (top 25)) 6 true):DS X E0k (stm 25 0) La :=
 (D6 C 1 ⋯ (B9 C F_text_of (by decide) ⋯ (A3 (A2 C 0 ⋯) A7)))
theorem Wp  (T:Txt mg) (F_marks_of:Fn P w K mg base "marks_of" 6 1 D4) (C:Cxt P w K mg base X U6 (A4 (top 25)) 6 true):DS X E0k (stm 25 1) Kz :=
 (D6 C 2 ⋯ (B9 C F_marks_of (by decide) ⋯ (A3 (A2 C 0 ⋯) A7)))
theorem Wo  (T:Txt mg) (F_cuts_of:Fn P w K mg base "cuts_of" 1 2 Cs) (C:Cxt P w K mg base X U6 (A4 (top 25)) 6 true):DS X E0k (stm 25 2) Ky :=
 (D6 C 3 ⋯ (B9 C F_cuts_of (by decide) ⋯ (A3 (A2 C 1 ⋯) (A3 (A2 C 2 ⋯) A7))))
theorem Wn  (T:Txt mg) (C:Cxt P w K mg base X U6 (A4 (top 25)) 6 true):DS X E0k (stm 25 3) Kx :=
 (Og C 4 ⋯ (Q2 A7))
theorem Wm  (T:Txt mg) (F_names_holding:Fn P w K mg base "names_holding" 1 3 K8) (C:Cxt P w K mg base X U6 (A4 (top 25)) 6 true):DS X E0k (stm 25 4) Eg :=
 (T8 C 5 ⋯ (Ep C ⋯ T.b_range (A3 (Sy (Q6 C ⋯ T.b_len (A3 (A2 C 3 ⋯) A7)) A8) A7)) (A9 (D6 C 6 ⋯ (C7 (A2 C 3 ⋯) (A2 C 5 ⋯))) (A9 (D6 C 7 ⋯ (C7 (A2 C 3 ⋯) (C9 (A2 C 5 ⋯) A8))) (B7 (Oj C 4 ⋯ (F4 (A3 (mL (A2 C 1 ⋯) (Ou (A2 C 6 ⋯)) (Ou (A2 C 7 ⋯))) (A3 (B9 C F_names_holding (by decide) ⋯ (A3 (A2 C 2 ⋯) (A3 (A2 C 6 ⋯) (A3 (A2 C 7 ⋯) A7)))) A7))))))))
theorem Wl  (T:Txt mg) (C:Cxt P w K mg base X U6 (A4 (top 25)) 6 true):DS X E0k (stm 25 5) Kw :=
 (aH 4 (E5 (A2 C 4 ⋯)))
theorem Zg  (T:Txt mg) (F_cuts_of:Fn P w K mg base "cuts_of" 1 2 Cs) (F_marks_of:Fn P w K mg base "marks_of" 6 1 D4) (F_names_holding:Fn P w K mg base "names_holding" 1 3 K8) (F_text_of:Fn P w K mg base "text_of" 6 1 O2) (C:Cxt P w K mg base X U6 (A4 (top 25)) 6 true):DSs X E0k (B3 (top 25)) Ny:=by
 have h:B3 (top 25)=[stm 25 0,stm 25 1,stm 25 2,stm 25 3,stm 25 4,stm 25 5]:=by kernel_rfl
 rw [h];exact (A9 (Wq T F_text_of C) (A9 (Wp T F_marks_of C) (A9 (Wo T F_cuts_of C) (A9 (Wn T C) (A9 (Wm T F_names_holding C) (B7 (Wl T C)))))))
theorem oC:FnScope Hu ["book"] (A4 (top 26)):=⟨rfl,rfl,rfl,by decide +kernel,rfl,by decide +kernel,by decide +kernel⟩
theorem eX  (T:Txt mg) (C:Cxt P w K mg base X Hu (A4 (top 26)) 7 true):DS X E0k (stm 26 0) Rr :=
 (Og C 1 ⋯ (Q2 A7))
theorem eW  (T:Txt mg) (C:Cxt P w K mg base X Hu (A4 (top 26)) 7 true):DS X E0k (stm 26 1) Rq :=
 (D6 C 2 ⋯ A8)
theorem eV  (T:Txt mg) (F_pieces:Fn P w K mg base "pieces" 7 1 E7) (C:Cxt P w K mg base X Hu (A4 (top 26)) 7 true):DS X E0k (stm 26 2) Ji :=
 (T8 C 3 ⋯ (J3 (B9 C F_pieces (by decide) ⋯ (A3 (A2 C 0 ⋯) A7))) (A9 (D6 C 4 ⋯ (C9 (A2 C 2 ⋯) (Q6 C ⋯ T.b_len (A3 (C7 (A2 C 3 ⋯) A8) A7)))) (A9 (W3 (tK 1 (w_t (Dx (Vs (Fv (C7 (A2 C 3 ⋯) A8))) (Dx (Fv (A2 C 1 ⋯)) (Ab (Li C (C7 (C7 (A2 C 1 ⋯) (Ys A8)) A8) (A2 C 2 ⋯))))))) (B7 (uB C 1 ⋯ (Ys A8) (qZ 1 (F4 (A3 (C7 (C7 (A2 C 1 ⋯) (Ys A8)) A8) (A3 (A2 C 4 ⋯) A7)))))) (B7 (W3 (Vs (Fv (C7 (A2 C 3 ⋯) A8))) (B7 (Oj C 1 ⋯ (F4 (A3 (A2 C 2 ⋯) (A3 (A2 C 4 ⋯) A7))))) G9))) (B7 (D6 C 2 ⋯ (A2 C 4 ⋯))))))
theorem eU  (T:Txt mg) (C:Cxt P w K mg base X Hu (A4 (top 26)) 7 true):DS X E0k (stm 26 3) Rp :=
 (aH 1 (E5 (A2 C 1 ⋯)))
theorem hZ  (T:Txt mg) (F_pieces:Fn P w K mg base "pieces" 7 1 E7) (C:Cxt P w K mg base X Hu (A4 (top 26)) 7 true):DSs X E0k (B3 (top 26)) Wv:=by
 have h:B3 (top 26)=[stm 26 0,stm 26 1,stm 26 2,stm 26 3]:=by kernel_rfl
 rw [h];exact (A9 (eX T C) (A9 (eW T C) (A9 (eV T F_pieces C) (B7 (eU T C)))))
theorem jP:FnScope Vl ["mark", "other"] (A4 (top 27)):=⟨rfl,rfl,rfl,by decide +kernel,rfl,by decide +kernel,by decide +kernel⟩
theorem bK  (T:Txt mg) (C:Cxt P w K mg base X Vl (A4 (top 27)) 0 true):DSs X E0k (B3 (top 27)) Ru :=
 (B7 (E5 (dC (d_lt C (C7 (A2 C 1 ⋯) A8) (C7 (A2 C 1 ⋯) A8)) (dC (d_le C (C7 (A2 C 0 ⋯) A8) (C7 (A2 C 1 ⋯) A8)) (mM (d_le C (C7 (A2 C 1 ⋯) A8) (C7 (A2 C 0 ⋯) A8)))))))
theorem jQ:FnScope Vm ["mark", "other"] (A4 (top 28)):=⟨rfl,rfl,rfl,by decide +kernel,rfl,by decide +kernel,by decide +kernel⟩
theorem bL  (T:Txt mg) (F_holds:Fn P w K mg base "holds" 1 2 U3) (C:Cxt P w K mg base X Vm (A4 (top 28)) 1 true):DSs X E0k (B3 (top 28)) Rv :=
 (A9 (W3 (w_t (nP (Fv (B9 C F_holds (by decide) ⋯ (A3 (A2 C 0 ⋯) (A3 (A2 C 1 ⋯) A7)))) (iI (Fv (B9 C F_holds (by decide) ⋯ (A3 (A2 C 1 ⋯) (A3 (A2 C 0 ⋯) A7))))))) (B7 (E5 Cn)) G9) (B7 (E5 (d_lt C (sS C ⋯ T.b_max (A3 (C7 (A2 C 0 ⋯) A8) (A3 (C7 (A2 C 1 ⋯) A8) A7))) (d_min C ⋯ T.b_min (A3 (C7 (A2 C 0 ⋯) A8) (A3 (C7 (A2 C 1 ⋯) A8) A7)))))))
theorem Xa:FnScope T5 ["book"] (A4 (top 29)):=⟨rfl,rfl,rfl,by decide +kernel,rfl,by decide +kernel,by decide +kernel⟩
theorem Ql  (T:Txt mg) (F_marks_of:Fn P w K mg base "marks_of" 6 1 D4) (C:Cxt P w K mg base X T5 (A4 (top 29)) 6 true):DS X E0k (stm 29 0) Gh :=
 (D6 C 1 ⋯ (B9 C F_marks_of (by decide) ⋯ (A3 (A2 C 0 ⋯) A7)))
theorem Qk  (T:Txt mg) (C:Cxt P w K mg base X T5 (A4 (top 29)) 6 true):DS X E0k (stm 29 1) Gg :=
 (Og C 2 ⋯ (Q2 A7))
theorem Qj  (T:Txt mg) (F_cross:Fn P w K mg base "cross" 2 2 Dm) (C:Cxt P w K mg base X T5 (A4 (top 29)) 6 true):DS X E0k (stm 29 2) Ca :=
 (T8 C 3 ⋯ (J3 (A2 C 1 ⋯)) (B7 (sE C 2 ⋯ (S9 C [3] ["mark"] ⋯ (J3 (A2 C 1 ⋯)) (fun X' C'=>(Bt (w_t (Dx (Zv C' (C7 (A2 C' 1 ⋯) A8) (C7 (A2 C' 0 ⋯) A8)) (Ab (Fv (B9 C' F_cross (by decide) ⋯ (A3 (A2 C' 1 ⋯) (A3 (A2 C' 0 ⋯) A7))))))))) (fun X' C'=>(F4 (A3 (C7 (A2 C' 1 ⋯) A8) (A3 (C7 (A2 C' 0 ⋯) A8) A7))))))))
theorem Qi  (T:Txt mg) (C:Cxt P w K mg base X T5 (A4 (top 29)) 6 true):DS X E0k (stm 29 3) Gf :=
 (aH 2 (E5 (A2 C 2 ⋯)))
theorem Rh  (T:Txt mg) (F_cross:Fn P w K mg base "cross" 2 2 Dm) (F_marks_of:Fn P w K mg base "marks_of" 6 1 D4) (C:Cxt P w K mg base X T5 (A4 (top 29)) 6 true):DSs X E0k (B3 (top 29)) Im:=by
 have h:B3 (top 29)=[stm 29 0,stm 29 1,stm 29 2,stm 29 3]:=by kernel_rfl
 rw [h];exact (A9 (Ql T F_marks_of C) (A9 (Qk T C) (A9 (Qj T F_cross C) (B7 (Qi T C)))))
theorem Wz:FnScope V7 ["book", "name"] (A4 (top 30)):=⟨rfl,rfl,rfl,by decide +kernel,rfl,by decide +kernel,by decide +kernel⟩
theorem Qh  (T:Txt mg) (F_marks_of:Fn P w K mg base "marks_of" 6 1 D4) (C:Cxt P w K mg base X V7 (A4 (top 30)) 6 true):DS X E0k (stm 30 0) Ge :=
 (D6 C 2 ⋯ (B9 C F_marks_of (by decide) ⋯ (A3 (A2 C 0 ⋯) A7)))
theorem Qg  (T:Txt mg) (F_mark_named:Fn P w K mg base "mark_named" 1 2 U2) (C:Cxt P w K mg base X V7 (A4 (top 30)) 6 true):DS X E0k (stm 30 1) Gd :=
 (D6 C 3 ⋯ (B9 C F_mark_named (by decide) ⋯ (A3 (A2 C 2 ⋯) (A3 (A2 C 1 ⋯) A7))))
theorem Qf  (T:Txt mg) (F_holds:Fn P w K mg base "holds" 1 2 U3) (C:Cxt P w K mg base X V7 (A4 (top 30)) 6 true):DS X E0k (stm 30 2) Ga :=
 (E5 (K6 (S9 C [1,3] ["name", "outer"] ⋯ (J3 (A2 C 2 ⋯)) (fun X' C'=>(Bt (w_t (Dx (Jh C' (C7 (A2 C' 0 ⋯) A8) (A2 C' 1 ⋯)) (Ab (Fv (B9 C' F_holds (by decide) ⋯ (A3 (A2 C' 2 ⋯) (A3 (A2 C' 0 ⋯) A7))))))))) (fun X' C'=>(C7 (A2 C' 0 ⋯) A8)))))
theorem Rg  (T:Txt mg) (F_holds:Fn P w K mg base "holds" 1 2 U3) (F_mark_named:Fn P w K mg base "mark_named" 1 2 U2) (F_marks_of:Fn P w K mg base "marks_of" 6 1 D4) (C:Cxt P w K mg base X V7 (A4 (top 30)) 6 true):DSs X E0k (B3 (top 30)) Il:=by
 have h:B3 (top 30)=[stm 30 0,stm 30 1,stm 30 2]:=by kernel_rfl
 rw [h];exact (A9 (Qh T F_marks_of C) (A9 (Qg T F_mark_named C) (B7 (Qf T F_holds C))))
theorem fD:FnScope Bd ["book"] (A4 (top 31)):=⟨rfl,rfl,rfl,by decide +kernel,rfl,by decide +kernel,by decide +kernel⟩
theorem Wj  (T:Txt mg) (F_marks_of:Fn P w K mg base "marks_of" 6 1 D4) (C:Cxt P w K mg base X Bd (A4 (top 31)) 6 true):DS X E0k (stm 31 0) Kv :=
 (D6 C 1 ⋯ (B9 C F_marks_of (by decide) ⋯ (A3 (A2 C 0 ⋯) A7)))
theorem Wi  (T:Txt mg) (C:Cxt P w K mg base X Bd (A4 (top 31)) 6 true):DS X E0k (stm 31 1) Ku :=
 (W3 (Vs (Fv (A2 C 1 ⋯))) (B7 (E5 Kc)) G9)
theorem Wh  (T:Txt mg) (C:Cxt P w K mg base X Bd (A4 (top 31)) 6 true):DS X E0k (stm 31 2) Kt :=
 (D6 C 2 ⋯ (mN C ⋯ T.b_max (A3 (K6 (S9 C [] [] ⋯ (J3 (A2 C 1 ⋯)) (fun X' C'=>V1) (fun X' C'=>(Sy (C7 (A2 C' 0 ⋯) A8) (C7 (A2 C' 0 ⋯) A8))))) A7)))
theorem Wg  (T:Txt mg) (C:Cxt P w K mg base X Bd (A4 (top 31)) 6 true):DS X E0k (stm 31 3) Ks :=
 (E5 (C7 (K6 (S9 C [2] ["most"] ⋯ (J3 (A2 C 1 ⋯)) (fun X' C'=>(Bt (Li C' (Sy (C7 (A2 C' 0 ⋯) A8) (C7 (A2 C' 0 ⋯) A8)) (A2 C' 1 ⋯)))) (fun X' C'=>(C7 (A2 C' 0 ⋯) A8)))) A8))
theorem Zf  (T:Txt mg) (F_marks_of:Fn P w K mg base "marks_of" 6 1 D4) (C:Cxt P w K mg base X Bd (A4 (top 31)) 6 true):DSs X E0k (B3 (top 31)) Nx:=by
 have h:B3 (top 31)=[stm 31 0,stm 31 1,stm 31 2,stm 31 3]:=by kernel_rfl
 rw [h];exact (A9 (Wj T F_marks_of C) (A9 (Wi T C) (A9 (Wh T C) (B7 (Wg T C)))))
theorem Ty:FnScope Br ["_law_script", "_law_k"] (A4 (top 33)):=⟨rfl,rfl,rfl,by decide +kernel,rfl,by decide +kernel,by decide +kernel⟩
theorem Po  (T:Txt mg) (C:Cxt P w K mg base X Br (A4 (top 33)) 0 true):DSs X E0k (B3 (top 33)) Cf :=
 (A9 (W3 (Li C (A2 C 0 ⋯) (K6 (Q2 A7))) (B7 (E5 (Bc A8 (A2 C 1 ⋯)))) G9) (B7 (E5 (C9 (C7 (A2 C 0 ⋯) (Sz (A2 C 1 ⋯) (Q6 C ⋯ T.b_len (A3 (A2 C 0 ⋯) A7)))) (Bc A8 (Va (A2 C 1 ⋯) (Q6 C ⋯ T.b_len (A3 (A2 C 0 ⋯) A7))))))))
theorem Qt:FnScope Aa ["_law_script", "_law_k", "_law_many"] (A4 (top 34)):=⟨rfl,rfl,rfl,by decide +kernel,rfl,by decide +kernel,by decide +kernel⟩
theorem Lz  (T:Txt mg) (F__law_cell:Fn P w K mg base "_law_cell" 1 2 W8) (C:Cxt P w K mg base X Aa (A4 (top 34)) 1 true):DSs X E0k (B3 (top 34)) Az :=
 (A9 (D6 C 3 ⋯ (Sz (C9 (Bc (Sz (B9 C F__law_cell (by decide) ⋯ (A3 (A2 C 0 ⋯) (A3 (A2 C 1 ⋯) A7))) A8) A8) (Bc A8 (C9 (A2 C 1 ⋯) A8))) A8)) (A9 (D6 C 3 ⋯ (Sz (C9 (Bc (A2 C 3 ⋯) (A2 C 3 ⋯)) (Va (A2 C 3 ⋯) A8)) A8)) (B7 (E5 (Sz (Va (Sz (C9 (Bc (A2 C 3 ⋯) (A2 C 3 ⋯)) (Va (A2 C 3 ⋯) A8)) A8) A8) (A2 C 2 ⋯))))))
theorem Qs:FnScope N7 ["_law_script", "_law_at"] (A4 (top 35)):=⟨rfl,rfl,rfl,by decide +kernel,rfl,by decide +kernel,by decide +kernel⟩
theorem Lp  (T:Txt mg) (C:Cxt P w K mg base X N7 (A4 (top 35)) 2 true):DS X E0k (stm 35 0) X9 :=
 (Og C 2 ⋯ (Q2 A7))
theorem Lo  (T:Txt mg) (F__law_drawn:Fn P w K mg base "_law_drawn" 2 3 B0) (C:Cxt P w K mg base X N7 (A4 (top 35)) 2 true):DS X E0k (stm 35 1) X8 :=
 (T8 C 3 ⋯ (Ep C ⋯ T.b_range (A3 A8 A7)) (A9 (D6 C 4 ⋯ (Bc (C7 G6 (B9 C F__law_drawn (by decide) ⋯ (A3 (A2 C 0 ⋯) (A3 (C9 (A2 C 1 ⋯) (Bc A8 (A2 C 3 ⋯))) (A3 A8 A7))))) (B9 C F__law_drawn (by decide) ⋯ (A3 (A2 C 0 ⋯) (A3 (C9 (C9 (A2 C 1 ⋯) (Bc A8 (A2 C 3 ⋯))) A8) (A3 A8 A7)))))) (B7 (Oj C 2 ⋯ (C7 (K6 (Q2 (A3 (C9 (A2 C 4 ⋯) (C7 G6 (A2 C 3 ⋯))) (A3 (C9 (C7 G6 (A2 C 3 ⋯)) (A2 C 4 ⋯)) A7)))) (B9 C F__law_drawn (by decide) ⋯ (A3 (A2 C 0 ⋯) (A3 (C9 (A2 C 1 ⋯) A8) (A3 A8 A7)))))))))
theorem Ln  (T:Txt mg) (C:Cxt P w K mg base X N7 (A4 (top 35)) 2 true):DS X E0k (stm 35 2) X7 :=
 (aH 2 (E5 (A2 C 2 ⋯)))
theorem Ly  (T:Txt mg) (F__law_drawn:Fn P w K mg base "_law_drawn" 2 3 B0) (C:Cxt P w K mg base X N7 (A4 (top 35)) 2 true):DSs X E0k (B3 (top 35)) Ay:=by
 have h:B3 (top 35)=[stm 35 0,stm 35 1,stm 35 2]:=by kernel_rfl
 rw [h];exact (A9 (Lp T C) (A9 (Lo T F__law_drawn C) (B7 (Ln T C))))
theorem Qq:FnScope Z8 ["_law_script", "_law_at"] (A4 (top 36)):=⟨rfl,rfl,rfl,by decide +kernel,rfl,by decide +kernel,by decide +kernel⟩
theorem Lw  (T:Txt mg) (F__law_drawn:Fn P w K mg base "_law_drawn" 2 3 B0) (C:Cxt P w K mg base X Z8 (A4 (top 36)) 2 true):DSs X E0k (B3 (top 36)) Aw :=
 (B7 (E5 (aZ (K6 (S9 C [0,1] ["_law_script", "_law_at"] ⋯ (Ep C ⋯ T.b_range (A3 (C9 A8 (B9 C F__law_drawn (by decide) ⋯ (A3 (A2 C 0 ⋯) (A3 (C9 (A2 C 1 ⋯) A8) (A3 A8 A7))))) A7)) (fun X' C'=>V1) (fun X' C'=>(C7 G6 (B9 C' F__law_drawn (by decide) ⋯ (A3 (A2 C' 1 ⋯) (A3 (C9 (A2 C' 2 ⋯) (A2 C' 0 ⋯)) (A3 A8 A7)))))))))))
theorem Qr:FnScope Z9 ["_law_book_here"] (A4 (top 37)):=⟨rfl,rfl,rfl,by decide +kernel,rfl,by decide +kernel,by decide +kernel⟩
theorem Lx  (T:Txt mg) (C:Cxt P w K mg base X Z9 (A4 (top 37)) 0 true):DSs X E0k (B3 (top 37)) Ax :=
 (A9 (D6 C 1 ⋯ (K6 (Q2 A7))) (A9 (T8 C 2 ⋯ (J3 (A2 C 0 ⋯)) (B7 (W3 (Li C (C7 (A2 C 2 ⋯) A8) G6) (B7 (D6 C 1 ⋯ (C9 (A2 C 1 ⋯) (K6 (S9 C [2] ["_law_deed_here"] ⋯ (Ep C ⋯ T.b_range (A3 (Q6 C ⋯ T.b_len (A3 (C7 (A2 C 2 ⋯) A8) A7)) A7)) (fun X' C'=>V1) (fun X' C'=>(F4 (A3 (C7 (A2 C' 1 ⋯) A8) (A3 (A2 C' 0 ⋯) A7))))))))) G9))) (B7 (E5 (A2 C 1 ⋯)))))
theorem Oc:FnScope W2 ["_law_script", "_law_at", "_law_signs_here"] (A4 (top 38)):=⟨rfl,rfl,rfl,by decide +kernel,rfl,by decide +kernel,by decide +kernel⟩
theorem Ki  (T:Txt mg) (F__law_drawn:Fn P w K mg base "_law_drawn" 2 3 B0) (C:Cxt P w K mg base X W2 (A4 (top 38)) 2 true):DSs X E0k (B3 (top 38)) Y2 :=
 (A9 (D6 C 3 ⋯ (C7 (C9 (K6 (Q2 (A3 Kc A7))) (A2 C 2 ⋯)) (B9 C F__law_drawn (by decide) ⋯ (A3 (A2 C 0 ⋯) (A3 (A2 C 1 ⋯) (A3 (C9 (Q6 C ⋯ T.b_len (A3 (A2 C 2 ⋯) A7)) A8) A7)))))) (B7 (E5 (F4 (A3 (A2 C 3 ⋯) (A3 (C7 G6 (B9 C F__law_drawn (by decide) ⋯ (A3 (A2 C 0 ⋯) (A3 (C9 (A2 C 1 ⋯) A8) (A3 A8 A7))))) A7))))))
theorem Tx:FnScope F6 ["_law_script", "_law_at", "_law_one", "_law_known", "_law_names_here"] (A4 (top 39)):=⟨rfl,rfl,rfl,by decide +kernel,rfl,by decide +kernel,by decide +kernel⟩
theorem Nj  (T:Txt mg) (F__law_signs:Fn P w K mg base "_law_signs" 1 1 P9) (C:Cxt P w K mg base X F6 (A4 (top 39)) 3 true):DS X E0k (stm 39 0) An :=
 (D6 C 5 ⋯ (B9 C F__law_signs (by decide) ⋯ (A3 (A2 C 3 ⋯) A7)))
theorem Ni  (T:Txt mg) (F__law_drawn:Fn P w K mg base "_law_drawn" 2 3 B0) (C:Cxt P w K mg base X F6 (A4 (top 39)) 3 true):DS X E0k (stm 39 1) Am :=
 (D6 C 6 ⋯ (B9 C F__law_drawn (by decide) ⋯ (A3 (A2 C 0 ⋯) (A3 (A2 C 1 ⋯) (A3 A8 A7)))))
theorem Nh  (T:Txt mg) (F__law_drawn:Fn P w K mg base "_law_drawn" 2 3 B0) (C:Cxt P w K mg base X F6 (A4 (top 39)) 3 true):DS X E0k (stm 39 2) Al :=
 (W3 (w_t (Dx (Zv C (A2 C 6 ⋯) A8) (Ab (Jh C (A2 C 5 ⋯) (K6 (Q2 A7)))))) (A9 (aG C 8 ⋯ ⋯ [0,1] ["_law_script", "_law_at"] ⋯ (vZ C ⋯ T.b_enumerate (A3 (A2 C 5 ⋯) A7)) (fun X' C'=>(Bt (Li C' (B9 C' F__law_drawn (by decide) ⋯ (A3 (A2 C' 2 ⋯) (A3 (C9 (C9 (A2 C' 3 ⋯) A8) (A2 C' 0 ⋯)) (A3 A8 A7)))) A8))) (fun X' C'=>(A2 C' 1 ⋯))) (B7 (E5 (F4 (A3 G6 (A3 (A2 C 2 ⋯) (A3 (mK C ⋯ T.b_tuple (A3 (C9 (A2 C 8 ⋯) (Bc (Uz (A2 C 5 ⋯) aM (Ou A8)) (mP C ⋯ T.b_int (A3 (wJ C (A2 C 8 ⋯) (K6 (Q2 A7))) A7)))) A7)) A7))))))) G9)
theorem Ng  (T:Txt mg) (F__law_anchor:Fn P w K mg base "_law_anchor" 3 3 M0) (F__law_drawn:Fn P w K mg base "_law_drawn" 2 3 B0) (C:Cxt P w K mg base X F6 (A4 (top 39)) 3 true):DS X E0k (stm 39 3) Ak :=
 (W3 (Zv C (A2 C 6 ⋯) A8) (A9 (D6 C 9 ⋯ (F4 (A3 (B9 C F__law_anchor (by decide) ⋯ (A3 (A2 C 0 ⋯) (A3 (C9 (A2 C 1 ⋯) A8) (A3 (A2 C 5 ⋯) A7)))) (A3 (B9 C F__law_anchor (by decide) ⋯ (A3 (A2 C 0 ⋯) (A3 (C9 (A2 C 1 ⋯) A8) (A3 (A2 C 5 ⋯) A7)))) A7)))) (B7 (E5 (C9 (F4 (A3 G6 (A3 (A2 C 2 ⋯) (A3 (C7 (A2 C 4 ⋯) (B9 C F__law_drawn (by decide) ⋯ (A3 (A2 C 0 ⋯) (A3 (C9 (A2 C 1 ⋯) A8) (A3 A8 A7))))) A7)))) (A2 C 9 ⋯))))) G9)
theorem Nf  (T:Txt mg) (F__law_drawn:Fn P w K mg base "_law_drawn" 2 3 B0) (C:Cxt P w K mg base X F6 (A4 (top 39)) 3 true):DS X E0k (stm 39 4) Aj :=
 (W3 (Li C (A2 C 6 ⋯) A8) (B7 (E5 (F4 (A3 G6 (A3 (A2 C 2 ⋯) (A3 (C7 (A2 C 4 ⋯) (B9 C F__law_drawn (by decide) ⋯ (A3 (A2 C 0 ⋯) (A3 (C9 (A2 C 1 ⋯) A8) (A3 A8 A7))))) A7)))))) G9)
theorem Nd  (T:Txt mg) (F__law_drawn:Fn P w K mg base "_law_drawn" 2 3 B0) (C:Cxt P w K mg base X F6 (A4 (top 39)) 3 true):DS X E0k (stm 39 5) Ai :=
 (W3 (w_t (Dx (Zv C (A2 C 6 ⋯) A8) (Ab (Jh C (A2 C 3 ⋯) (F4 A7))))) (B7 (E5 (F4 (A3 G6 (A3 (A2 C 2 ⋯) (A3 (C7 (C7 (A2 C 3 ⋯) (B9 C F__law_drawn (by decide) ⋯ (A3 (A2 C 0 ⋯) (A3 (C9 (A2 C 1 ⋯) A8) (A3 (Q6 C ⋯ T.b_len (A3 (A2 C 3 ⋯) A7)) A7))))) A8) A7)))))) G9)
theorem Nc  (T:Txt mg) (F__law_drawn:Fn P w K mg base "_law_drawn" 2 3 B0) (C:Cxt P w K mg base X F6 (A4 (top 39)) 3 true):DS X E0k (stm 39 6) Ah :=
 (D6 C 7 ⋯ (C7 (C9 (C9 (K6 (Q2 (A3 Kc A7))) (A2 C 5 ⋯)) (Uz (A2 C 5 ⋯) (Ou (Ys A8)) aM)) (B9 C F__law_drawn (by decide) ⋯ (A3 (A2 C 0 ⋯) (A3 (C9 (A2 C 1 ⋯) A8) (A3 (C9 (C9 (Q6 C ⋯ T.b_len (A3 (A2 C 5 ⋯) A7)) A8) (Q6 C ⋯ T.b_len (A3 (Uz (A2 C 5 ⋯) (Ou (Ys A8)) aM) A7))) A7))))))
theorem Nb  (T:Txt mg) (F__law_words:Fn P w K mg base "_law_words" 3 2 P8) (C:Cxt P w K mg base X F6 (A4 (top 39)) 3 true):DS X E0k (stm 39 7) Ag :=
 (E5 (F4 (A3 G6 (A3 (A2 C 2 ⋯) (A3 (A2 C 7 ⋯) (A3 (B9 C F__law_words (by decide) ⋯ (A3 (A2 C 0 ⋯) (A3 (C9 (A2 C 1 ⋯) A8) A7))) A7))))))
theorem Pn  (T:Txt mg) (F__law_anchor:Fn P w K mg base "_law_anchor" 3 3 M0) (F__law_drawn:Fn P w K mg base "_law_drawn" 2 3 B0) (F__law_signs:Fn P w K mg base "_law_signs" 1 1 P9) (F__law_words:Fn P w K mg base "_law_words" 3 2 P8) (C:Cxt P w K mg base X F6 (A4 (top 39)) 3 true):DSs X E0k (B3 (top 39)) Ce:=by
 have h:B3 (top 39)=[stm 39 0,stm 39 1,stm 39 2,stm 39 3,stm 39 4,stm 39 5,stm 39 6,stm 39 7]:=by kernel_rfl
 rw [h];exact (A9 (Nj T F__law_signs C) (A9 (Ni T F__law_drawn C) (A9 (Nh T F__law_drawn C) (A9 (Ng T F__law_anchor F__law_drawn C) (A9 (Nf T F__law_drawn C) (A9 (Nd T F__law_drawn C) (A9 (Nc T F__law_drawn C) (B7 (Nb T F__law_words C)))))))))
theorem Tz:FnScope N2 ["_law_script", "_law_at", "_law_most", "_law_names_here"] (A4 (top 40)):=⟨rfl,rfl,rfl,by decide +kernel,rfl,by decide +kernel,by decide +kernel⟩
theorem Nn  (T:Txt mg) (C:Cxt P w K mg base X N2 (A4 (top 40)) 4 true):DS X E0k (stm 40 0) Ar :=
 (D6 C 4 ⋯ (F4 A7))
theorem Nm  (T:Txt mg) (C:Cxt P w K mg base X N2 (A4 (top 40)) 4 true):DS X E0k (stm 40 1) Aq :=
 (D6 C 5 ⋯ (F4 (A3 A8 (A3 G6 A7))))
theorem Nl  (T:Txt mg) (F__law_deed:Fn P w K mg base "_law_deed" 4 5 N0) (F__law_drawn:Fn P w K mg base "_law_drawn" 2 3 B0) (C:Cxt P w K mg base X N2 (A4 (top 40)) 4 true):DS X E0k (stm 40 2) Ap :=
 (T8 C 6 ⋯ (Ep C ⋯ T.b_range (A3 (B9 C F__law_drawn (by decide) ⋯ (A3 (A2 C 0 ⋯) (A3 (A2 C 1 ⋯) (A3 (C9 (A2 C 2 ⋯) A8) A7)))) A7)) (A9 (D6 C 7 ⋯ (C9 (C7 (A2 C 5 ⋯) A8) (B9 C F__law_drawn (by decide) ⋯ (A3 (A2 C 0 ⋯) (A3 (C9 (C9 (A2 C 1 ⋯) A8) (Bc A8 (A2 C 6 ⋯))) (A3 A8 A7)))))) (A9 (D6 C 8 ⋯ (C7 G6 (B9 C F__law_drawn (by decide) ⋯ (A3 (A2 C 0 ⋯) (A3 (C9 (C9 (A2 C 1 ⋯) A8) (Bc A8 (A2 C 6 ⋯))) (A3 A8 A7)))))) (A9 (W3 (w_t (Dx (Jh C (A2 C 4 ⋯) (F4 A7)) (Ab (tL C (F4 (A3 (A2 C 7 ⋯) (A3 (A2 C 8 ⋯) A7))) (A2 C 5 ⋯))))) (B7 (D6 C 7 ⋯ (C9 (C7 (A2 C 5 ⋯) A8) A8))) G9) (A9 (D6 C 5 ⋯ (F4 (A3 (A2 C 7 ⋯) (A3 (A2 C 8 ⋯) A7)))) (A9 (D6 C 9 ⋯ (mK C ⋯ T.b_tuple (A3 (K6 (S9 C [7] ["_law_time"] ⋯ (J3 (A2 C 4 ⋯)) (fun X' C'=>(Bt (Zv C' (C7 (C7 (A2 C' 0 ⋯) A8) A8) (A2 C' 1 ⋯)))) (fun X' C'=>(A2 C' 0 ⋯)))) A7))) (B7 (D6 C 4 ⋯ (C9 (A2 C 4 ⋯) (F4 (A3 (B9 C F__law_deed (by decide) ⋯ (A3 (A2 C 0 ⋯) (A3 (C9 (C9 (A2 C 1 ⋯) A8) (Bc A8 (A2 C 6 ⋯))) (A3 (A2 C 5 ⋯) (A3 (A2 C 9 ⋯) (A3 (A2 C 3 ⋯) A7)))))) A7)))))))))))
theorem Nk  (T:Txt mg) (C:Cxt P w K mg base X N2 (A4 (top 40)) 4 true):DS X E0k (stm 40 3) Ao :=
 (E5 (A2 C 4 ⋯))
theorem Pp  (T:Txt mg) (F__law_deed:Fn P w K mg base "_law_deed" 4 5 N0) (F__law_drawn:Fn P w K mg base "_law_drawn" 2 3 B0) (C:Cxt P w K mg base X N2 (A4 (top 40)) 4 true):DSs X E0k (B3 (top 40)) Cg:=by
 have h:B3 (top 40)=[stm 40 0,stm 40 1,stm 40 2,stm 40 3]:=by kernel_rfl
 rw [h];exact (A9 (Nn T C) (A9 (Nm T C) (A9 (Nl T F__law_deed F__law_drawn C) (B7 (Nk T C)))))
theorem uA:FnScope P0 ["_law_script"] (A4 (top 41)):=⟨rfl,rfl,rfl,by decide +kernel,rfl,by decide +kernel,by decide +kernel⟩
theorem jH  (T:Txt mg) (F__law_book:Fn P w K mg base "_law_book" 5 4 W9) (F__law_names:Fn P w K mg base "_law_names" 3 2 Q0) (C:Cxt P w K mg base X P0 (A4 (top 41)) 8 true):DS X E0k (stm 41 0) Vz :=
 (D6 C 1 ⋯ (B9 C F__law_book (by decide) ⋯ (A3 (A2 C 0 ⋯) (A3 A8 (A3 A8 (A3 (B9 C F__law_names (by decide) ⋯ (A3 (A2 C 0 ⋯) (A3 A8 A7))) A7))))))
theorem jG  (T:Txt mg) (F_text_of:Fn P w K mg base "text_of" 6 1 O2) (C:Cxt P w K mg base X P0 (A4 (top 41)) 8 true):DS X E0k (stm 41 1) Vy :=
 (D6 C 2 ⋯ (B9 C F_text_of (by decide) ⋯ (A3 (A2 C 1 ⋯) A7)))
theorem jF  (T:Txt mg) (F_marks_of:Fn P w K mg base "marks_of" 6 1 D4) (C:Cxt P w K mg base X P0 (A4 (top 41)) 8 true):DS X E0k (stm 41 2) Vx :=
 (D6 C 3 ⋯ (B9 C F_marks_of (by decide) ⋯ (A3 (A2 C 1 ⋯) A7)))
theorem jE  (T:Txt mg) (F_pieces:Fn P w K mg base "pieces" 7 1 E7) (C:Cxt P w K mg base X P0 (A4 (top 41)) 8 true):DS X E0k (stm 41 3) Ie :=
 (W3 (tM C (Q6 C ⋯ T.b_len (A3 (B9 C F_pieces (by decide) ⋯ (A3 (A2 C 1 ⋯) A7)) A7)) (C9 (Bc A8 (Q6 C ⋯ T.b_len (A3 (A2 C 3 ⋯) A7))) A8)) (B7 (E5 Cn)) G9)
theorem jD  (T:Txt mg) (C:Cxt P w K mg base X P0 (A4 (top 41)) 8 true):DS X E0k (stm 41 4) Vw :=
 (D6 C 4 ⋯ A8)
theorem jC  (T:Txt mg) (F_pieces:Fn P w K mg base "pieces" 7 1 E7) (C:Cxt P w K mg base X P0 (A4 (top 41)) 8 true):DS X E0k (stm 41 5) Ms :=
 (uC C 5 6 ⋯ ⋯ (J3 (B9 C F_pieces (by decide) ⋯ (A3 (A2 C 1 ⋯) A7))) (B7 (D6 C 4 ⋯ (C9 (A2 C 4 ⋯) (Bc (Q6 C ⋯ T.b_len (A3 (A2 C 5 ⋯) A7)) (mP C ⋯ T.b_int (A3 (d_ne C (A2 C 6 ⋯) (K6 (Q2 A7))) A7)))))))
theorem jB  (T:Txt mg) (F_bare:Fn P w K mg base "bare" 8 1 Y4) (C:Cxt P w K mg base X P0 (A4 (top 41)) 8 true):DS X E0k (stm 41 6) Ic :=
 (W3 (Jh C (C9 (A2 C 4 ⋯) (wI C ⋯ T.b_sum (A3 (K6 (Jc C [] [] ⋯ (J3 (B9 C F_bare (by decide) ⋯ (A3 (A2 C 1 ⋯) A7))) (fun X' C'=>V1) (fun X' C'=>(Sy (A2 C' 1 ⋯) (A2 C' 0 ⋯))))) A7))) (Q6 C ⋯ T.b_len (A3 (A2 C 2 ⋯) A7))) (B7 (E5 Cn)) G9)
theorem jA  (T:Txt mg) (F_anchor_at:Fn P w K mg base "anchor_at" 6 3 F9) (C:Cxt P w K mg base X P0 (A4 (top 41)) 8 true):DS X E0k (stm 41 7) Vv :=
 (D6 C 7 ⋯ (F4 (A3 (B9 C F_anchor_at (by decide) ⋯ (A3 (A2 C 1 ⋯) (A3 A8 (A3 G6 A7)))) (A3 (B9 C F_anchor_at (by decide) ⋯ (A3 (A2 C 1 ⋯) (A3 (Q6 C ⋯ T.b_len (A3 (A2 C 2 ⋯) A7)) (A3 G6 A7)))) A7))))
theorem iZ  (T:Txt mg) (C:Cxt P w K mg base X P0 (A4 (top 41)) 8 true):DS X E0k (stm 41 8) Vu :=
 (D6 C 8 ⋯ (C9 (A2 C 1 ⋯) (F4 (A3 (C9 (F4 (A3 G6 (A3 (F4 (A3 A8 (A3 G6 A7))) (A3 G6 A7)))) (A2 C 7 ⋯)) A7))))
theorem iY  (T:Txt mg) (C:Cxt P w K mg base X P0 (A4 (top 41)) 8 true):DS X E0k (stm 41 9) Ib :=
 (Oh C 9 ⋯ ⋯ [] [] ⋯ (J3 (A2 C 3 ⋯)) (fun X' C'=>(Bt (Zv C' (A2 C' 1 ⋯) (A2 C' 2 ⋯)))) (fun X' C'=>(A2 C' 0 ⋯)))
theorem eT  (T:Txt mg) (F_bare:Fn P w K mg base "bare" 8 1 Y4) (F_crossing:Fn P w K mg base "crossing" 7 1 L9) (F_inner_of:Fn P w K mg base "inner_of" 7 2 O8) (C:Cxt P w K mg base X P0 (A4 (top 41)) 8 true):DS X E0k (stm 41 10) Fi :=
 (W3 (w_t (nP (Jh C (B9 C F_inner_of (by decide) ⋯ (A3 (A2 C 8 ⋯) (A3 G6 A7))) (A2 C 9 ⋯)) (nP (Jh C (B9 C F_crossing (by decide) ⋯ (A3 (A2 C 8 ⋯) A7)) (B9 C F_crossing (by decide) ⋯ (A3 (A2 C 1 ⋯) A7))) (iI (Jh C (B9 C F_bare (by decide) ⋯ (A3 (A2 C 8 ⋯) A7)) (K6 (Q2 A7))))))) (B7 (E5 Cn)) G9)
theorem eS  (T:Txt mg) (F_pieces:Fn P w K mg base "pieces" 7 1 E7) (C:Cxt P w K mg base X P0 (A4 (top 41)) 8 true):DS X E0k (stm 41 11) Fh :=
 (W3 (Jh C (K6 (Jc C [] [] ⋯ (J3 (B9 C F_pieces (by decide) ⋯ (A3 (A2 C 8 ⋯) A7))) (fun X' C'=>V1) (fun X' C'=>(A2 C' 0 ⋯)))) (K6 (Jc C [] [] ⋯ (J3 (B9 C F_pieces (by decide) ⋯ (A3 (A2 C 1 ⋯) A7))) (fun X' C'=>V1) (fun X' C'=>(A2 C' 0 ⋯))))) (B7 (E5 Cn)) G9)
theorem eR  (T:Txt mg) (F_pieces:Fn P w K mg base "pieces" 7 1 E7) (C:Cxt P w K mg base X P0 (A4 (top 41)) 8 true):DS X E0k (stm 41 12) Fg :=
 (W3 (Jh C (K6 (Jc C [] [] ⋯ (J3 (B9 C F_pieces (by decide) ⋯ (A3 (A2 C 8 ⋯) A7))) (fun X' C'=>(Bt (nT C' G6 (A2 C' 1 ⋯)))) (fun X' C'=>(A2 C' 1 ⋯)))) (K6 (Q2 A7))) (B7 (E5 Cn)) G9)
theorem eQ  (T:Txt mg) (C:Cxt P w K mg base X P0 (A4 (top 41)) 8 true):DS X E0k (stm 41 13) Ff :=
 (Oh C 10 ⋯ ⋯ [] [] ⋯ (J3 (A2 C 3 ⋯)) (fun X' C'=>V1) (fun X' C'=>(Sy (A2 C' 2 ⋯) (A2 C' 1 ⋯))))
theorem eP  (T:Txt mg) (F_widest:Fn P w K mg base "widest" 7 1 W7) (C:Cxt P w K mg base X P0 (A4 (top 41)) 8 true):DS X E0k (stm 41 14) Fe :=
 (W3 (w_t (Dx (tM C (Q6 C ⋯ T.b_len (A3 (A2 C 2 ⋯) A7)) (mN C ⋯ T.b_max (A3 (C9 (K6 (Q2 (A3 A8 A7))) (A2 C 10 ⋯)) A7))) (Ab (Jh C (B9 C F_widest (by decide) ⋯ (A3 (A2 C 8 ⋯) A7)) G6)))) (B7 (E5 Cn)) G9)
theorem eO  (T:Txt mg) (F__law_drawn:Fn P w K mg base "_law_drawn" 2 3 B0) (C:Cxt P w K mg base X P0 (A4 (top 41)) 8 true):DS X E0k (stm 41 15) Ro :=
 (D6 C 11 ⋯ (B9 C F__law_drawn (by decide) ⋯ (A3 (A2 C 0 ⋯) (A3 A8 (A3 (C9 (Q6 C ⋯ T.b_len (A3 (A2 C 2 ⋯) A7)) A8) A7)))))
theorem eN  (T:Txt mg) (F_anchor_at:Fn P w K mg base "anchor_at" 6 3 F9) (C:Cxt P w K mg base X P0 (A4 (top 41)) 8 true):DS X E0k (stm 41 16) Rn :=
 (D6 C 7 ⋯ (F4 (A3 (B9 C F_anchor_at (by decide) ⋯ (A3 (A2 C 1 ⋯) (A3 (A2 C 11 ⋯) (A3 G6 A7)))) (A3 (B9 C F_anchor_at (by decide) ⋯ (A3 (A2 C 1 ⋯) (A3 (A2 C 11 ⋯) (A3 G6 A7)))) A7))))
theorem eM  (T:Txt mg) (C:Cxt P w K mg base X P0 (A4 (top 41)) 8 true):DS X E0k (stm 41 17) Rm :=
 (D6 C 12 ⋯ (C9 (A2 C 1 ⋯) (F4 (A3 (C9 (F4 (A3 G6 (A3 (F4 (A3 A8 (A3 G6 A7))) (A3 G6 A7)))) (A2 C 7 ⋯)) A7))))
theorem eL  (T:Txt mg) (F_crossing:Fn P w K mg base "crossing" 7 1 L9) (F_pieces:Fn P w K mg base "pieces" 7 1 E7) (C:Cxt P w K mg base X P0 (A4 (top 41)) 8 true):DS X E0k (stm 41 18) Fd :=
 (W3 (w_t (nP (Jh C (aZ (K6 (Jc C [] [] ⋯ (J3 (B9 C F_pieces (by decide) ⋯ (A3 (A2 C 12 ⋯) A7))) (fun X' C'=>V1) (fun X' C'=>(A2 C' 0 ⋯))))) (A2 C 2 ⋯)) (iI (Jh C (B9 C F_crossing (by decide) ⋯ (A3 (A2 C 12 ⋯) A7)) (B9 C F_crossing (by decide) ⋯ (A3 (A2 C 1 ⋯) A7)))))) (B7 (E5 Cn)) G9)
theorem eK  (T:Txt mg) (F_bare:Fn P w K mg base "bare" 8 1 Y4) (F_inner_of:Fn P w K mg base "inner_of" 7 2 O8) (C:Cxt P w K mg base X P0 (A4 (top 41)) 8 true):DS X E0k (stm 41 19) Fc :=
 (E5 (dC (wJ C (B9 C F_bare (by decide) ⋯ (A3 (A2 C 12 ⋯) A7)) (B9 C F_bare (by decide) ⋯ (A3 (A2 C 1 ⋯) A7))) (mM (wJ C (B9 C F_inner_of (by decide) ⋯ (A3 (A2 C 12 ⋯) (A3 G6 A7))) (K6 (Q2 A7))))))
theorem mZ  (T:Txt mg) (F__law_book:Fn P w K mg base "_law_book" 5 4 W9) (F__law_drawn:Fn P w K mg base "_law_drawn" 2 3 B0) (F__law_names:Fn P w K mg base "_law_names" 3 2 Q0) (F_anchor_at:Fn P w K mg base "anchor_at" 6 3 F9) (F_bare:Fn P w K mg base "bare" 8 1 Y4) (F_crossing:Fn P w K mg base "crossing" 7 1 L9) (F_inner_of:Fn P w K mg base "inner_of" 7 2 O8) (F_marks_of:Fn P w K mg base "marks_of" 6 1 D4) (F_pieces:Fn P w K mg base "pieces" 7 1 E7) (F_text_of:Fn P w K mg base "text_of" 6 1 O2) (F_widest:Fn P w K mg base "widest" 7 1 W7) (C:Cxt P w K mg base X P0 (A4 (top 41)) 8 true):DSs X E0k (B3 (top 41)) bW:=by
 have h:B3 (top 41)=[stm 41 0,stm 41 1,stm 41 2,stm 41 3,stm 41 4,stm 41 5,stm 41 6,stm 41 7,stm 41 8,stm 41 9,stm 41 10,stm 41 11,stm 41 12,stm 41 13,stm 41 14,stm 41 15,stm 41 16,stm 41 17,stm 41 18,stm 41 19]:=by kernel_rfl
 rw [h];exact (A9 (jH T F__law_book F__law_names C) (A9 (jG T F_text_of C) (A9 (jF T F_marks_of C) (A9 (jE T F_pieces C) (A9 (jD T C) (A9 (jC T F_pieces C) (A9 (jB T F_bare C) (A9 (jA T F_anchor_at C) (A9 (iZ T C) (A9 (iY T C) (A9 (eT T F_bare F_crossing F_inner_of C) (A9 (eS T F_pieces C) (A9 (eR T F_pieces C) (A9 (eQ T C) (A9 (eP T F_widest C) (A9 (eO T F__law_drawn C) (A9 (eN T F_anchor_at C) (A9 (eM T C) (A9 (eL T F_crossing F_pieces C) (B7 (eK T F_bare F_inner_of C)))))))))))))))))))))
end Sm
end
noncomputable section
namespace Sm
open PySem PySem.Spec PyProof.Rows L2
theorem Pf {K:xI} {mg:Str->Option xF} {h:zJ} {x:Str} {st:w8} {ps:List Str} {f:xO} {oc:xF} {od an:Option xO} {osl:Array (Option xF)} {kV doc pm cdv ct:xF} (X:K.In h) (G:h.Ns a9 mg) (a:CL K a9 x=some (some (.ref f)))
   (l:K.lookup f=some ⟨oc,od,.func (zQ x x (L4 st) (B3 st) (A4 st) .none kV doc pm an cdv ct),osl⟩) (c:o6 K cdv x=true) (k:i3 K (.ref f)=true)
   (hb:∀ (kV doc pm:xF) (an:Option xO) (cdv ct:xF) (us:List xF),us.length=ps.length->EW (zQ x x (L4 st) (B3 st) (A4 st) .none kV doc pm an cdv ct) ⟨us,[]⟩=pure (ps.zip us)):Def K mg x st ps :=
 ⟨f,_,mE l c k,PySem.W.mg_of X G a,(mE l c k).binds hb⟩
theorem Xz:∀ {l:List (xO×Obj)} {a:xO} {o:Obj},l.lookup a=some o->(a,o)∈l
 | [],_,_,h=>nomatch h
 | (b,q)::r,a,o,h=>by
   rw [List.lookup_cons] at h;cases e:a==b with
   | true=>rw [e] at h; cases h; rw [j6 e]; exact .head _
   | false=>rw [e] at h; exact .tail _ (Xz h)
noncomputable def noList (K:xI):Bool:=K.all fun p => !(match p.2.cls with | .type n=>n == "list" | _=>false)
theorem noList.out {K:xI} (h:noList K=true) {a:xO} {o:Obj} (e:K.lookup a=some o):o.cls≠.type "list" := fun z=>by
 have hm:(a,o)∈K:=Xz e;unfold noList at h;have:=o9.mp h _ hm;rw [z] at this;simp at this
theorem N3 {us:List xF} {n:Nat} (h:us.length=n+1):∃ a t,us=a::t/\t.length=n:=by cases us with | nil=>cases h | cons a t=>exact ⟨a,t,rfl,Nat.succ.inj h⟩
theorem qX {K:xI} {mg:Str->Option xF} {h:zJ} {x:Str} {st:w8} {ps:List Str} {f:xO} {oc:xF} {od an:Option xO} {osl:Array (Option xF)} {kV doc pm cdv ct:xF} (X:K.In h) (G:h.Ns a9 mg) (a:CL K a9 x=some (some (.ref f)))
   (l:K.lookup f=some ⟨oc,od,.func (zQ x x (L4 st) (B3 st) (A4 st) .none kV doc pm an cdv ct),osl⟩) (c:o6 K cdv x=true) (k:i3 K (.ref f)=true)
   (hb:∀ (kV doc pm:xF) (an:Option xO) (cdv ct:xF) (u0:xF),EW (zQ x x (L4 st) (B3 st) (A4 st) .none kV doc pm an cdv ct) ⟨[u0],[]⟩=pure (ps.zip [u0])) (hp:ps.length=1):Def K mg x st ps :=
 Pf X G a l c k fun kV doc pm an cdv ct us hl=>by
   have h0:=hl.trans hp; obtain ⟨u0,t0,rfl,h1⟩:=N3 h0;cases i4.mp h1;exact hb kV doc pm an cdv ct u0
theorem qW {K:xI} {mg:Str->Option xF} {h:zJ} {x:Str} {st:w8} {ps:List Str} {f:xO} {oc:xF} {od an:Option xO} {osl:Array (Option xF)} {kV doc pm cdv ct:xF} (X:K.In h) (G:h.Ns a9 mg) (a:CL K a9 x=some (some (.ref f)))
   (l:K.lookup f=some ⟨oc,od,.func (zQ x x (L4 st) (B3 st) (A4 st) .none kV doc pm an cdv ct),osl⟩) (c:o6 K cdv x=true) (k:i3 K (.ref f)=true)
   (hb:∀ (kV doc pm:xF) (an:Option xO) (cdv ct:xF) (u0 u1:xF),EW (zQ x x (L4 st) (B3 st) (A4 st) .none kV doc pm an cdv ct) ⟨[u0,u1],[]⟩=pure (ps.zip [u0,u1])) (hp:ps.length=2):Def K mg x st ps :=
 Pf X G a l c k fun kV doc pm an cdv ct us hl=>by
   have h0:=hl.trans hp; obtain ⟨u0,t0,rfl,h1⟩:=N3 h0; obtain ⟨u1,t1,rfl,h2⟩:=N3 h1;cases i4.mp h2;exact hb kV doc pm an cdv ct u0 u1
theorem qV {K:xI} {mg:Str->Option xF} {h:zJ} {x:Str} {st:w8} {ps:List Str} {f:xO} {oc:xF} {od an:Option xO} {osl:Array (Option xF)} {kV doc pm cdv ct:xF} (X:K.In h) (G:h.Ns a9 mg) (a:CL K a9 x=some (some (.ref f)))
   (l:K.lookup f=some ⟨oc,od,.func (zQ x x (L4 st) (B3 st) (A4 st) .none kV doc pm an cdv ct),osl⟩) (c:o6 K cdv x=true) (k:i3 K (.ref f)=true)
   (hb:∀ (kV doc pm:xF) (an:Option xO) (cdv ct:xF) (u0 u1 u2:xF),EW (zQ x x (L4 st) (B3 st) (A4 st) .none kV doc pm an cdv ct) ⟨[u0,u1,u2],[]⟩=pure (ps.zip [u0,u1,u2])) (hp:ps.length=3):Def K mg x st ps :=
 Pf X G a l c k fun kV doc pm an cdv ct us hl=>by
   have h0:=hl.trans hp; obtain ⟨u0,t0,rfl,h1⟩:=N3 h0; obtain ⟨u1,t1,rfl,h2⟩:=N3 h1; obtain ⟨u2,t2,rfl,h3⟩:=N3 h2;cases i4.mp h3;exact hb kV doc pm an cdv ct u0 u1 u2
theorem qU {K:xI} {mg:Str->Option xF} {h:zJ} {x:Str} {st:w8} {ps:List Str} {f:xO} {oc:xF} {od an:Option xO} {osl:Array (Option xF)} {kV doc pm cdv ct:xF} (X:K.In h) (G:h.Ns a9 mg) (a:CL K a9 x=some (some (.ref f)))
   (l:K.lookup f=some ⟨oc,od,.func (zQ x x (L4 st) (B3 st) (A4 st) .none kV doc pm an cdv ct),osl⟩) (c:o6 K cdv x=true) (k:i3 K (.ref f)=true)
   (hb:∀ (kV doc pm:xF) (an:Option xO) (cdv ct:xF) (u0 u1 u2 u3:xF),EW (zQ x x (L4 st) (B3 st) (A4 st) .none kV doc pm an cdv ct) ⟨[u0,u1,u2,u3],[]⟩=pure (ps.zip [u0,u1,u2,u3])) (hp:ps.length=4):Def K mg x st ps :=
 Pf X G a l c k fun kV doc pm an cdv ct us hl=>by
   have h0:=hl.trans hp; obtain ⟨u0,t0,rfl,h1⟩:=N3 h0; obtain ⟨u1,t1,rfl,h2⟩:=N3 h1; obtain ⟨u2,t2,rfl,h3⟩:=N3 h2; obtain ⟨u3,t3,rfl,h4⟩:=N3 h3;cases i4.mp h4;exact hb kV doc pm an cdv ct u0 u1 u2 u3
theorem qT {K:xI} {mg:Str->Option xF} {h:zJ} {x:Str} {st:w8} {ps:List Str} {f:xO} {oc:xF} {od an:Option xO} {osl:Array (Option xF)} {kV doc pm cdv ct:xF} (X:K.In h) (G:h.Ns a9 mg) (a:CL K a9 x=some (some (.ref f)))
   (l:K.lookup f=some ⟨oc,od,.func (zQ x x (L4 st) (B3 st) (A4 st) .none kV doc pm an cdv ct),osl⟩) (c:o6 K cdv x=true) (k:i3 K (.ref f)=true)
   (hb:∀ (kV doc pm:xF) (an:Option xO) (cdv ct:xF) (u0 u1 u2 u3 u4:xF),EW (zQ x x (L4 st) (B3 st) (A4 st) .none kV doc pm an cdv ct) ⟨[u0,u1,u2,u3,u4],[]⟩=pure (ps.zip [u0,u1,u2,u3,u4])) (hp:ps.length=5):Def K mg x st ps :=
 Pf X G a l c k fun kV doc pm an cdv ct us hl=>by
   have h0:=hl.trans hp; obtain ⟨u0,t0,rfl,h1⟩:=N3 h0; obtain ⟨u1,t1,rfl,h2⟩:=N3 h1; obtain ⟨u2,t2,rfl,h3⟩:=N3 h2; obtain ⟨u3,t3,rfl,h4⟩:=N3 h3; obtain ⟨u4,t4,rfl,h5⟩:=N3 h4;cases i4.mp h5;exact hb kV doc pm an cdv ct u0 u1 u2 u3 u4
def Defs (K:xI) (mg:Str->Option xF):Prop :=
 Def K mg "law" (top 41) ["_law_script"] /\
 Def K mg "signs_added" (top 2) ["deed"] /\
 Def K mg "adds_behind" (top 8) ["book"] /\
 Def K mg "signs_of" (top 9) ["book"] /\
 Def K mg "undone_in" (top 10) ["book"] /\
 Def K mg "dropped_in" (top 11) ["book", "undone"] /\
 Def K mg "presence_in" (top 12) ["book"] /\
 Def K mg "shown_in" (top 13) ["book"] /\
 Def K mg "text_of" (top 14) ["book"] /\
 Def K mg "places_in" (top 16) ["book"] /\
 Def K mg "anchored" (top 17) ["places", "anchor"] /\
 Def K mg "anchor_at" (top 18) ["book", "place", "side"] /\
 Def K mg "mark_deeds" (top 19) ["book"] /\
 Def K mg "marks_of" (top 20) ["book"] /\
 Def K mg "mark_named" (top 21) ["marks", "name"] /\
 Def K mg "names_holding" (top 22) ["marks", "begin", "end"] /\
 Def K mg "cuts_of" (top 24) ["text", "marks"] /\
 Def K mg "pieces" (top 25) ["book"] /\
 Def K mg "bare" (top 26) ["book"] /\
 Def K mg "holds" (top 27) ["mark", "other"] /\
 Def K mg "cross" (top 28) ["mark", "other"] /\
 Def K mg "crossing" (top 29) ["book"] /\
 Def K mg "inner_of" (top 30) ["book", "name"] /\
 Def K mg "widest" (top 31) ["book"] /\
 Def K mg "_law_cell" (top 33) ["_law_script", "_law_k"] /\
 Def K mg "_law_drawn" (top 34) ["_law_script", "_law_k", "_law_many"] /\
 Def K mg "_law_names" (top 35) ["_law_script", "_law_at"] /\
 Def K mg "_law_words" (top 36) ["_law_script", "_law_at"] /\
 Def K mg "_law_signs" (top 37) ["_law_book_here"] /\
 Def K mg "_law_anchor" (top 38) ["_law_script", "_law_at", "_law_signs_here"] /\
 Def K mg "_law_deed" (top 39) ["_law_script", "_law_at", "_law_one", "_law_known", "_law_names_here"] /\
 Def K mg "_law_book" (top 40) ["_law_script", "_law_at", "_law_most", "_law_names_here"]
noncomputable section
variable {P:yI} {w:yR} {K:xI} {mg:Str->Option xF} {base:zJ}
theorem vP {f:xO} {fd:CH} (F:L2.Fun K "law" "law" (top 41) f fd) (T:Txt mg) (D:Defs K mg):FnOk P w K mg base CX0 9 f fd ["_law_script"] (spD 1 cR):=by
 have D_law:=D.1;have R1:=D.2;have D_signs_added:=R1.1;have R2:=R1.2;have D_adds_behind:=R2.1;have R3:=R2.2;have D_signs_of:=R3.1;have R4:=R3.2;have D_undone_in:=R4.1;have R5:=R4.2;have D_dropped_in:=R5.1;have R6:=R5.2;have D_presence_in:=R6.1;have R7:=R6.2;have D_shown_in:=R7.1;have R8:=R7.2;have D_text_of:=R8.1;have R9:=R8.2;have D_places_in:=R9.1;have R10:=R9.2;have D_anchored:=R10.1;have R11:=R10.2;have D_anchor_at:=R11.1;have R12:=R11.2;have D_mark_deeds:=R12.1;have R13:=R12.2;have D_marks_of:=R13.1;have R14:=R13.2;have D_mark_named:=R14.1;have R15:=R14.2;have D_names_holding:=R15.1;have R16:=R15.2
 have D_cuts_of:=R16.1;have R17:=R16.2;have D_pieces:=R17.1;have R18:=R17.2;have D_bare:=R18.1;have R19:=R18.2;have D_holds:=R19.1;have R20:=R19.2;have D_cross:=R20.1;have R21:=R20.2;have D_crossing:=R21.1;have R22:=R21.2;have D_inner_of:=R22.1;have R23:=R22.2;have D_widest:=R23.1;have R24:=R23.2;have D__law_cell:=R24.1;have R25:=R24.2;have D__law_drawn:=R25.1;have R26:=R25.2;have D__law_names:=R26.1;have R27:=R26.2;have D__law_words:=R27.1;have R28:=R27.2;have D__law_signs:=R28.1;have R29:=R28.2;have D__law_anchor:=R29.1;have R30:=R29.2;have D__law_deed:=R30.1;have R31:=R30.2;have D__law_book:=R31
 have F_signs_added:Fn P w K mg base "signs_added" 1 1 F3:=X1 (k:=0) D_signs_added Nz rfl (fun X C=>Kf T  C) rfl;have F_adds_behind:FnN P w K mg base "adds_behind" 2 1 O3:=wC (k:=1) D_adds_behind Ob rfl (fun X C=>Kh T F_signs_added C) rfl;have F_signs_of:Fn P w K mg base "signs_of" 3 1 V5:=X1 (k:=2) D_signs_of Ww rfl (fun X C=>Rb T F_adds_behind C) rfl;have F_undone_in:FnN P w K mg base "undone_in" 1 1 I9:=wC (k:=0) D_undone_in Tu rfl (fun X C=>Pk T  C) rfl;have F_dropped_in:FnSN P w K mg base "dropped_in" 1 2 K9:=fn_SN (k:=0) D_dropped_in Qp rfl (fun X C=>Lv T  C) rfl;have F_presence_in:Fn P w K mg base "presence_in" 4 1 J2:=X1 (k:=3) D_presence_in Oa rfl (fun X C=>Kg T F_dropped_in F_signs_of F_undone_in C) rfl
 have F_shown_in:Fn P w K mg base "shown_in" 5 1 N5:=X1 (k:=4) D_shown_in Wx rfl (fun X C=>Rc T F_presence_in C) rfl;have F_text_of:Fn P w K mg base "text_of" 6 1 O2:=X1 (k:=5) D_text_of aD rfl (fun X C=>Vj T F_shown_in C) rfl;have F_places_in:FnN P w K mg base "places_in" 5 1 T6:=wC (k:=4) D_places_in Tv rfl (fun X C=>Pl T F_presence_in C) rfl;have F_anchored:FnS P w K mg base "anchored" 1 2 D9:=fn_S (k:=0) D_anchored Xb rfl (fun X C=>Ri T  C) rfl;have F_anchor_at:Fn P w K mg base "anchor_at" 6 3 F9:=X1 (k:=5) D_anchor_at Tw rfl (fun X C=>Pm T F_shown_in C) rfl;have F_mark_deeds:Fn P w K mg base "mark_deeds" 2 1 P7:=X1 (k:=1) D_mark_deeds Qo rfl (fun X C=>Lu T F_undone_in C) rfl
 have F_marks_of:Fn P w K mg base "marks_of" 6 1 D4:=X1 (k:=5) D_marks_of Wy rfl (fun X C=>Re T F_anchored F_mark_deeds F_places_in C) rfl;have F_mark_named:Fn P w K mg base "mark_named" 1 2 U2:=X1 (k:=0) D_mark_named Qn rfl (fun X C=>Ls T  C) rfl;have F_names_holding:Fn P w K mg base "names_holding" 1 3 K8:=X1 (k:=0) D_names_holding Jo rfl (fun X C=>Hq T  C) rfl;have F_cuts_of:Fn P w K mg base "cuts_of" 1 2 Cs:=X1 (k:=0) D_cuts_of aE rfl (fun X C=>Vk T  C) rfl;have F_pieces:Fn P w K mg base "pieces" 7 1 E7:=X1 (k:=6) D_pieces fE rfl (fun X C=>Zg T F_cuts_of F_marks_of F_names_holding F_text_of C) rfl
 have F_bare:Fn P w K mg base "bare" 8 1 Y4:=X1 (k:=7) D_bare oC rfl (fun X C=>hZ T F_pieces C) rfl;have F_holds:Fn P w K mg base "holds" 1 2 U3:=X1 (k:=0) D_holds jP rfl (fun X C=>bK T  C) rfl;have F_cross:Fn P w K mg base "cross" 2 2 Dm:=X1 (k:=1) D_cross jQ rfl (fun X C=>bL T F_holds C) rfl;have F_crossing:Fn P w K mg base "crossing" 7 1 L9:=X1 (k:=6) D_crossing Xa rfl (fun X C=>Rh T F_cross F_marks_of C) rfl;have F_inner_of:Fn P w K mg base "inner_of" 7 2 O8:=X1 (k:=6) D_inner_of Wz rfl (fun X C=>Rg T F_holds F_mark_named F_marks_of C) rfl;have F_widest:Fn P w K mg base "widest" 7 1 W7:=X1 (k:=6) D_widest fD rfl (fun X C=>Zf T F_marks_of C) rfl
 have F__law_cell:Fn P w K mg base "_law_cell" 1 2 W8:=X1 (k:=0) D__law_cell Ty rfl (fun X C=>Po T  C) rfl;have F__law_drawn:Fn P w K mg base "_law_drawn" 2 3 B0:=X1 (k:=1) D__law_drawn Qt rfl (fun X C=>Lz T F__law_cell C) rfl;have F__law_names:Fn P w K mg base "_law_names" 3 2 Q0:=X1 (k:=2) D__law_names Qs rfl (fun X C=>Ly T F__law_drawn C) rfl;have F__law_words:Fn P w K mg base "_law_words" 3 2 P8:=X1 (k:=2) D__law_words Qq rfl (fun X C=>Lw T F__law_drawn C) rfl;have F__law_signs:Fn P w K mg base "_law_signs" 1 1 P9:=X1 (k:=0) D__law_signs Qr rfl (fun X C=>Lx T  C) rfl;have F__law_anchor:Fn P w K mg base "_law_anchor" 3 3 M0:=X1 (k:=2) D__law_anchor Oc rfl (fun X C=>Ki T F__law_drawn C) rfl
 have F__law_deed:Fn P w K mg base "_law_deed" 4 5 N0:=X1 (k:=3) D__law_deed Tx rfl (fun X C=>Pn T F__law_anchor F__law_drawn F__law_signs F__law_words C) rfl;have F__law_book:Fn P w K mg base "_law_book" 5 4 W9:=X1 (k:=4) D__law_book Tz rfl (fun X C=>Pp T F__law_deed F__law_drawn C) rfl;exact mF (k:=8) F uA rfl (fun X C=>mZ T F__law_book F__law_drawn F__law_names F_anchor_at F_bare F_crossing F_inner_of F_marks_of F_pieces F_text_of F_widest C) rfl
end
end Sm
open PySem PySem.W PyProof.Rows
theorem Sm.walkD {l:PySem.W.OpenLaw} {q:yI} {loose:List Str} {XP:(Str->Option xF)->zJ->Prop} {YP:yR->zJ->Prop} {d:DefRec} {K:FG->xI} (hn:l.most=some 63) (hdf:d.params.defaults=[]) (hnm:d.name = "law")
   (hY:∀ (w:yR) (h:zJ),YP w h->(K w.params).In h) (hK:∀ w:yR,Sm.noList (K w.params)=true)
   (F:∀ (w:yR) (mg:Str->Option xF) (h:zJ),(K w.params).In h->h.Ns a9 mg->Sm.Txt mg/\Sm.Defs (K w.params) mg)
   (pure:∀ ns:List Int,ns.length<=63->Sm.cR [.list (ns.map xV)]=.ok (.bool true)) :
   PySem.W.WalkO q loose XP YP l.row.toRowW d [] (fun f vs=>PySem.call f vs):=by
 refine L2.nO (n:=63) (k:=9) (x := "_law_script") (CX:=fun _=>L2.CX0) (sp:=fun _=>Sm.spD 1 Sm.cR) hn (by decide) hdf ⟨rfl,by decide,by decide,rfl⟩ hY (fun w mg fa h KX G hmg=>?_) (fun w H a ns hl hO hS=>?_) fun _ _ _ _ _ z=>z
 . obtain ⟨T,D⟩:=F w mg h KX G
   obtain ⟨f0,fd0,F0,hm0,hb0⟩:=D.1.ex; rw [hnm,hm0] at hmg; cases hmg; refine ⟨fd0,fun s u=>?_,fun base kb nb=>?_⟩
   . obtain ⟨oc,od,kV,doc,pm,an,cdv,ct,osl,rfl,lk,hcd⟩:=F0.ex
     exact .of_eq rfl
   . exact Sm.vP F0 T D
 . rcases hS with hS | ⟨o,its,nn,hk,hc,_⟩
   . refine ⟨H,[.list (ns.map xV)],.bool true,L2.Same.refl _,Sm.RepL.cons ⟨a,_,rfl,hS,Sm.RepL.ints ns⟩ rfl,rfl,pure ns hl,fun v G' H' g r=>r⟩
   . exact absurd hc (Sm.noList.out (hK w) hk)
end
noncomputable section
open PySem
namespace Sm
open L2
noncomputable def Out.seq (o:Out) (g:Dn->Out):Out:=match o with
 | .nx δ=>g δ
 | o=>o
noncomputable def Out.fin (o:Out):Res xC:=match o with
 | .rt d=>.ok d
 | .nx _=>.ok .none
 | .exc c=>.exc c
 | _=>.no
noncomputable def sC (s:Option Sl):Res xC:=match s with
 | some (.sh d)=>.ok d
 | _=>.no
theorem C4 {α β:Type} (a:α) (k:α->Res β):(Res.ok a).bind k=k a:=rfl
theorem Xr {α:Type} (a:α):ofO (some a)=.ok a:=rfl
theorem D1 {α:Type} (a:α) (k:α->Out):M5 (.ok a) k=k a:=rfl
theorem Ip (g1 g2:Dn->Out) (δ:Dn):B6 g1 g2 δ=(g1 δ).seq g2:=by unfold B6 Out.seq; cases g1 δ <;> rfl
theorem aC (δ:Dn) (g:Dn->Out):(Out.nx δ).seq g=g δ:=rfl
theorem tZ (d:xC) (g:Dn->Out):(Out.rt d).seq g=.rt d:=rfl
theorem Jz (N:List Str) (g:Dn->Out) (ds:List xC):fnD N g ds=(g (M6 N ds)).fin:=by unfold fnD Out.fin; cases g (M6 N ds) <;> rfl
theorem wD (d:xC):(Out.rt d).fin=.ok d:=rfl
theorem Hy (i:Nat) (δ:Dn):A0 i δ=sC δ[i]? := rfl
theorem Ej (d:xC):sC (some (.sh d))=.ok d:=rfl
theorem uE (c:Dn->Res Bool) (g1 g2:Dn->Out) (δ:Dn):sIf c g1 g2 δ=M5 (c δ) fun b=>if b=true then g1 δ else g2 δ:=rfl
theorem eF (b:Bool):Jg (.bool b)=some b:=rfl
local macro_rules
 | `(tactic| simp_arith) => `(tactic| simp_arith [C4])
 | `(tactic| simp_arith [$ls,*]) => `(tactic| simp only [$ls,*, Jz, M6, Ip, aC, tZ, wD, uE, B8, b2, b1, Hy, Ej, I0, D3, A6, A1, vC, C4, Xr, D1, F8, D2, E6, vFn, B5, O0, Bj, Ov, vSl, Ko, K7, eF,
 xL,l9,xU,zT,yD,a8,zE,zN,u9,BJ,yF,yG,o8,o7,yY,reduceIte])
theorem E9 {src:Dn->Res (List xC)} {bnd:xC->Res (List Sl)} {cap:List Nat} {tt:Dn->Res Bool} {el:Dn->Res xC} {δ δc:Dn} {ds ys:List xC} (h:src δ=.ok ds) (hl:ds.length<=1000) (hc:Cv δ cap=δc) (e:C8 bnd δc tt el ds=.ok ys):E8 src bnd cap tt el δ=.ok ys:=by
 unfold E8;rw [h,C4,if_pos (yA hl (by decide)),hc,e]
theorem B1 {f g:Dn->Res xC} {op:xC->xC->Option xC} {δ:Dn} {x y d:xC} (h1:f δ=.ok x) (h2:g δ=.ok y) (h3:op x y=some d):b2 f g op δ=.ok d:=by
 unfold b2;rw [h1,C4,h2,C4,h3]; rfl
theorem P2 {f:Dn->Res (List xC)} {δ:Dn} {ds:List xC} (h:f δ=.ok ds):I0 f δ=.ok (.list ds):=by unfold I0; rw [h]; rfl
theorem C6 {i:Nat} {f:Dn->Res xC} {δ:Dn} {d:xC} (h:f δ=.ok d):D2 i f δ=.nx (δ.set i (.sh d)):=by unfold D2; rw [h]; rfl
theorem W5 {c:Dn->Res Bool} {g1 g2:Dn->Out} {δ:Dn} (h:c δ=.ok true):sIf c g1 g2 δ=g1 δ:=by unfold sIf; rw [h]; rfl
theorem O6 {c:Dn->Res Bool} {g1 g2:Dn->Out} {δ:Dn} (h:c δ=.ok false):sIf c g1 g2 δ=g2 δ:=by unfold sIf; rw [h]; rfl
theorem B2 {g1 g2:Dn->Out} {δ δ':Dn} (h:g1 δ=.nx δ'):B6 g1 g2 δ=g2 δ':=by unfold B6; rw [h]
theorem Bh {g1 g2:Dn->Out} {δ:Dn} {d:xC} (h:g1 δ=.rt d):B6 g1 g2 δ=.rt d:=by unfold B6; rw [h]
theorem K4 {f:Dn->Res xC} {δ:Dn} {d:xC} (h:f δ=.ok d):F8 f δ=.rt d:=by unfold F8; rw [h]; rfl
theorem U4 {N:List Str} {g:Dn->Out} {ds:List xC} {d:xC} (h:g (M6 N ds)=.rt d):fnD N g ds=.ok d:=by rw [Jz,h]; rfl
theorem A5 {f:Dn->Res xC} {fs:Dn->Res (List xC)} {δ:Dn} {d:xC} {ds:List xC} (h:f δ=.ok d) (h2:fs δ=.ok ds):A1 f fs δ=.ok (d::ds):=by unfold A1; rw [h,C4,h2]; rfl
theorem B4 {fs:Dn->Res (List xC)} {m:List xC->Res xC} {δ:Dn} {ds:List xC} {r:Res xC} (h:fs δ=.ok ds) (h2:m ds=r):B5 fs m δ=r:=by unfold B5; rw [h,C4,h2]
theorem M3 {f:Dn->Res (List xC)} {δ:Dn} {ds:List xC} (h:f δ=.ok ds):D3 f δ=.ok (.tuple ds):=by unfold D3; rw [h]; rfl
theorem K0 {f:Dn->Res (List xC)} {op:List xC->Option xC} {δ:Dn} {ds:List xC} {d:xC} (h:f δ=.ok ds) (h2:op ds=some d):vFn f op δ=.ok d:=by unfold vFn; rw [h,C4,h2]; rfl
theorem C0 {f:Dn->Res xC} {δ:Dn} {b:Bool} (h:f δ=.ok (.bool b)):B8 f δ=.ok b:=by unfold B8; rw [h]; rfl
abbrev scr (ns:List Int):xC:=.list (ns.map .int)
theorem qG {n j:Nat} (h:j < n):ixN n (j:Int)=some j:=by
 unfold ixN;rw [if_pos (by lia)];simp [h]
theorem K5 {α:Type} {xs:List α} {j:Nat} (h:j < xs.length):atI xs (j:Int)=some xs[j]:=by
 unfold atI;rw [qG h];simp
theorem Mj {α:Type} {xs:List α} {i:Int} (h0:0<=i) (h:i < xs.length):∃ x∈xs,atI xs i=some x:=by
 obtain ⟨j,rfl⟩:=Int.eq_ofNat_of_zero_le h0;have hj:j < xs.length:=by lia
 exact ⟨xs[j],AN _,K5 hj⟩
theorem qN (ns:List Int):xX (scr ns) (.list [])=ns.isEmpty:=by
 cases ns with
 | nil=>rfl
 | cons n ns=>rfl
theorem dD (ns:List Int):dEq (scr ns) (.list [])=some (.bool ns.isEmpty):=by
 unfold dEq;rw [if_pos (yA (p0 _ _) (by decide)),qN]
theorem Uo {a b:Int} (h:(-(2 ^ 64) < a/\a < 2 ^ 64)\/(-(2 ^ 64) < b/\b < 2 ^ 64)):N9 (.int a) (.int b)=some (.int (a*b)):=by
 show (if _ then _ else _)=_;rw [if_pos h]
theorem mul7 {b:Int}:N9 (.int 7) (.int b)=some (.int (7*b)):=Uo (.inl ⟨by decide,by decide⟩)
theorem pU {b:Int}:N9 (.int 6553) (.int b)=some (.int (6553*b)):=Uo (.inl ⟨by decide,by decide⟩)
theorem fV {b:Int}:N9 (.int 104723) (.int b)=some (.int (104723*b)):=Uo (.inl ⟨by decide,by decide⟩)
theorem lH {b:Int}:N9 (.int b) (.int 69069)=some (.int (b*69069)):=Uo (.inr ⟨by decide,by decide⟩)
theorem mul2 {b:Int}:N9 (.int 2) (.int b)=some (.int (2*b)):=Uo (.inl ⟨by decide,by decide⟩)
theorem lI {b:Int}:N9 (.int 60) (.int b)=some (.int (60*b)):=Uo (.inl ⟨by decide,by decide⟩)
theorem lK {a b:Int} (h:0 < b):Qz (.int a) (.int b)=some (.int (a % b)):=by
 show (if _ then _ else _)=_;rw [if_pos h]
theorem qR {a b:Int} (h:0 < b) (h2:b < 1073741824):Lg (.int a) (.int b)=some (.int (a / b)):=by
 show (if _ then _ else _)=_;rw [if_pos ⟨h,h2⟩]
theorem Q7 {a b:Int}:C5 (.int a) (.int b)=some (.int (a+b)):=rfl
theorem rK (ns:List Int) (hns:ns.length<=63) (k:Int):∃ c,W8 [scr ns,.int k]=.ok (.int c):=by
 unfold W8 Cf Br;cases hn:ns with
 | nil =>
   refine ⟨7*k,?_⟩;simp_arith [dD,List.isEmpty_nil,mul7]
 | cons n r =>
   have e1:=dD (n::r); have hl:(0:Int) < ((n::r).length:Int):=by simp
   have hl2:((n::r).length:Int)<=63:=by rw [<- hn]; lia
   obtain ⟨x,hx,e2⟩:=Mj (xs:=(n::r).map xV) (i:=k % ((n::r).length:Int)) (EU _ (by lia)) (by rw [xJ]; exact DC _ hl);obtain ⟨c,_,rfl⟩:=yH.mp hx; refine ⟨c+6553*(k / ((n::r).length:Int)),?_⟩; have e3:M9 [scr (n::r)]=some (.int ((n::r).length:Int)):=by simp [M9,scr]
   have e4:dIx (scr (n::r)) (.int (k % ((n::r).length:Int)))=some (.int c):=e2;generalize hS:scr (n::r)=S at *;generalize hL:((n::r).length:Int)=m at *;simp_arith [e1,List.isEmpty_cons,e3,lK hl,qR hl (show m < 1073741824 by lia),pU,e4,Q7]
theorem I8 (ns:List Int) (hns:ns.length<=63) (k m:Int) (hm:0 < m):∃ r,B0 [scr ns,.int k,.int m]=.ok (.int r)/\0<=r/\r < m:=by
 obtain ⟨c,hc⟩:=rK ns hns k;unfold B0 Az Aa;generalize scr ns=S at *;simp_arith [hc,lK (show (0:Int) < 2147483563 by decide),Q7,lH,fV];generalize hA:(c % 2147483563*69069+104723*(k+1)) % 2147483563=A;have a0:0<=A:=by rw [<- hA]; exact EU _ (by decide)
 have a1:A < 2147483563:=by rw [<- hA]; exact DC _ (by decide)
 simp_arith [Uo (a:=A) (b:=A) (.inl ⟨Int.lt_of_lt_of_le (by decide) a0,Int.lt_trans a1 (by decide)⟩),qR (show (0:Int) < 3 by decide) (by decide),Q7,lK (show (0:Int) < 2147483399 by decide)]
 generalize hB:(A*A+A / 3) % 2147483399=B;have b0:0<=B:=by rw [<- hB]; exact EU _ (by decide)
 have b1:B < 2147483399:=by rw [<- hB]; exact DC _ (by decide)
 simp_arith [Uo (a:=B) (b:=B) (.inl ⟨Int.lt_of_lt_of_le (by decide) b0,Int.lt_trans b1 (by decide)⟩),qR (show (0:Int) < 7 by decide) (by decide),Q7,lK (show (0:Int) < 2147483647 by decide),qR (show (0:Int) < 11 by decide) (by decide),lK hm]
 exact ⟨_,rfl,EU _ (by lia),DC _ hm⟩
theorem lT {x:Str} {i:Int} (h0:0<=i) (h:i < (x.cps.toList.length:Int)):∃ c∈x.cps.toList,dIx (.str x) (.int i)=some (.str ⟨#[c]⟩):=by
 obtain ⟨c,hc,e⟩:=Mj (xs:=x.cps.toList) h0 h;exact ⟨c,hc,by show (atI x.cps.toList i).map _=_; rw [e]; rfl⟩
theorem gE (c:Nat):(⟨#[c]⟩:Str).length=1:=rfl
theorem Kr:(1000:Nat)<=sizeLine:=by decide
theorem addS {x y:Str} (h:x.length+y.length<=1000):C5 (.str x) (.str y)=some (.str (x++y)):=by
 show (if _ then _ else _)=_;rw [if_pos (yA h Kr)]
theorem Zm {x y:List xC} (h:x.length+y.length<=1000):C5 (.list x) (.list y)=some (.list (x++y)):=by
 show (if _ then _ else _)=_;rw [if_pos (yA h Kr)]
theorem rV {x y:List xC} (h:x.length+y.length<=1000):C5 (.tuple x) (.tuple y)=some (.tuple (x++y)):=by
 show (if _ then _ else _)=_;rw [if_pos (yA h Kr)]
theorem O1 (x y:Str):(x++y).length=x.length+y.length:=by
 show (x.cps++y.cps).size=_;rw [Array.size_append]; rfl
def chOk (lo hi:Nat) (x:Str):Prop:=∀ c∈x.cps.toList,lo<=c/\c<=hi
theorem chOk.app {lo hi:Nat} {x y:Str} (hx:chOk lo hi x) (hy:chOk lo hi y):chOk lo hi (x++y):=fun c hc=>by
 have:c∈(x.cps++y.cps).toList:=hc;rw [Array.toList_append] at this;exact (xY.mp this).elim (hx c) (hy c)
theorem chOk.one {lo hi c:Nat} (h:lo<=c/\c<=hi):chOk lo hi ⟨#[c]⟩:=fun d hd=>by
 have:d=c:=by simpa using hd
 rw [this]; exact h
theorem chOk.nil {lo hi:Nat}:chOk lo hi "" := fun c hc=>by
 rw [show ("" : Str).cps.toList=[] from rfl] at hc; exact nomatch hc
theorem mulS {c:Nat} {n:Int} (h0:0<=n) (h:n < 2):∃ y:Str,N9 (.str ⟨#[c]⟩) (.int n)=some (.str y)/\y.length<=1/\∀ d∈y.cps.toList,d=c:=by
 have:n=0\/n=1:=by lia
 rcases this with rfl | rfl
 . refine ⟨L7 0 ⟨#[c]⟩,rfl,(show (0:Nat)<=1 by decide),fun d hd=>?_⟩
   simp [L7] at hd
 . refine ⟨L7 1 ⟨#[c]⟩,rfl,by unfold L7; simp; exact xN _,fun d hd=>?_⟩
   simpa [L7] using hd
def nmOk (x:Str):Prop:=1<=x.length/\x.length<=2/\chOk 97 122 x
def Zo (x:Str):Prop:=1<=x.length/\x.length<=4/\chOk 32 126 x
theorem ixL {xs:List xC} {i:Int} (h0:0<=i) (h:i < (xs.length:Int)):∃ x∈xs,dIx (.list xs) (.int i)=some x:=Mj h0 h
theorem Ha (ns:List Int) (hns:ns.length<=63) (a k:Int) (hk:0<=k) (hk2:k < 3) (fd:List xC) (hf:fd.length < 1000) (s4:Sl):∃ z w:Str,nmOk z /\
   (B6 (D2 4 (b2 (b2 (vC (.str "abcdefghijklmnopqrstuvwxyz")) (B5 (A1 (A0 0) (A1 (b2 (A0 1) (b2 (vC (.int 2)) (A0 3) N9) C5) (A1 (vC (.int 26)) A6))) B0) dIx) (B5 (A1 (A0 0) (A1 (b2 (b2 (A0 1) (b2 (vC (.int 2)) (A0 3) N9) C5) (vC (.int 1)) C5) (A1 (vC (.int 2)) A6))) B0) N9)) (Ci 2 (b2 (I0 (A1 (b2 (A0 4) (b2 (vC (.str "xyz")) (A0 3) dIx) C5) (A1 (b2 (b2 (vC (.str "xyz")) (A0 3) dIx) (A0 4) C5) A6))) (B5 (A1 (A0 0) (A1 (b2 (A0 1) (vC (.int 6)) C5) (A1 (vC (.int 2)) A6))) B0) dIx)))
     [.sh (scr ns),.sh (.int a),.ow (.list fd),.sh (.int k),s4]=.nx [.sh (scr ns),.sh (.int a),.ow (.list (fd++[.str z])),.sh (.int k),.sh (.str w)]:=by
 obtain ⟨r1,e1,a1,b1⟩:=I8 ns hns (a+2*k) 26 (by decide);obtain ⟨r2,e2,a2,b2'⟩:=I8 ns hns (a+2*k+1) 2 (by decide);obtain ⟨r3,e3,a3,b3⟩:=I8 ns hns (a+6) 2 (by decide);obtain ⟨c1,hc1,f1⟩:=lT (x := "abcdefghijklmnopqrstuvwxyz") a1 (by rw [show ("abcdefghijklmnopqrstuvwxyz" : Str).cps.toList.length=26 from by decide]; exact b1);obtain ⟨y,f2,l2,hy⟩:=mulS (c:=c1) a2 b2';obtain ⟨c2,hc2,f3⟩:=lT (x := "xyz") hk (by rw [show ("xyz" : Str).cps.toList.length=3 from by decide]; exact hk2);have g1:C5 (.str y) (.str ⟨#[c2]⟩)=_:=addS (x:=y) (y:=⟨#[c2]⟩) (by rw [gE]; lia);have g2:C5 (.str ⟨#[c2]⟩) (.str y)=_:=addS (x:=⟨#[c2]⟩) (y:=y) (by rw [gE]; lia)
 obtain ⟨x,hx,f4⟩:=ixL (xs:=[.str (y++⟨#[c2]⟩),.str (⟨#[c2]⟩++y)]) a3 b3;have o1:chOk 97 122 y:=fun d hd=>by
   rw [hy d hd]; exact (by decide:∀ c∈("abcdefghijklmnopqrstuvwxyz" : Str).cps.toList,97<=c/\c<=122) c1 hc1
 have o2:chOk 97 122 ⟨#[c2]⟩:=.one ((by decide:∀ c∈("xyz" : Str).cps.toList,97<=c/\c<=122) c2 hc2);have:∃ z,x=.str z/\nmOk z:=by
   rcases xG.mp hx with h | h
   . exact ⟨_,h,by rw [O1,gE]; lia,by rw [O1,gE]; lia,o1.app o2⟩
   . exact ⟨_,xS.mp h,by rw [O1,gE]; lia,by rw [O1,gE]; lia,o2.app o1⟩
 obtain ⟨z,rfl,hz⟩:=this;refine ⟨z,y,hz,?_⟩;have szB:fd.length < sizeLine:=yS hf Kr;simp_arith [mul2,Q7,e1,e2,e3,f1,f2,f3,g1,g2,f4,Ci,szB]
theorem lE (ns:List Int) (hns:ns.length<=63) (a:Int):∃ x y z:Str,(nmOk x/\nmOk y/\nmOk z)/\Q0 [scr ns,.int a]=.ok (.list [.str x,.str y,.str z]):=by
 obtain ⟨x,w1,hx,e1⟩:=Ha ns hns a 0 (by decide) (by decide) [] (by simp) .un;obtain ⟨y,w2,hy,e2⟩:=Ha ns hns a 1 (by decide) (by decide) [.str x] (by simp) (.sh (.str w1));obtain ⟨z,w3,hz,e3⟩:=Ha ns hns a 2 (by decide) (by decide) [.str x,.str y] (by simp) (.sh (.str w2));refine ⟨x,y,z,⟨hx,hy,hz⟩,?_⟩;unfold Q0 Ay X9 X8 X7 N7;have r:Iv [.int 3]=.ok [.int 0,.int 1,.int 2]:=rfl;simp only [Jz,M6,Ip (Iq _ _),Iq,A6,D1,aC,xL,l9,xU,zT,yD,a8,zE,yF,yG,Ip (M8 _ _ _),M8,A1,vC,C4,r,E2,st1,o8,o7]
 rw [e1];simp only [zE,yF,yG];rw [e2];simp only [a8,zE,yF,yG];rw [e3];rfl
theorem Yy {bnd:xC->Res (List Sl)} {δc:Dn} {el:Dn->Res xC} {P:xC->Prop}:∀ (ds:List xC),(∀ d∈ds,∃ sl y,bnd d=.ok sl/\el (sl++δc)=.ok y/\P y)->∃ ys:List xC,C8 bnd δc K7 el ds=.ok ys/\ys.length=ds.length/\∀ y∈ys,P y
 | [],_=>⟨[],rfl,rfl,fun _ h=>nomatch h⟩
 | d::ds,h=>by
   obtain ⟨sl,y,e1,e2,p⟩:=h d (.head _); obtain ⟨ys,e3,e4,e5⟩:=Yy ds fun d' h'=>h d' (.tail _ h');refine ⟨y::ys,?_,by simp [e4],fun z hz=>?_⟩
   . unfold C8
     rw [e1]; simp only [K7,e2,e3]
   . rcases xG.mp hz with rfl | hz
     . exact p
     . exact e5 z hz
theorem bU {P:Str->Prop}:∀ (ys:List xC),(∀ y∈ys,∃ x,y=.str x/\P x)->∃ xs:List Str,Cb ys=some xs/\xs.length=ys.length/\∀ x∈xs,P x
 | [],_=>⟨[],rfl,rfl,fun _ h=>nomatch h⟩
 | y::ys,h=>by
   obtain ⟨x,rfl,p⟩:=h y (.head _); obtain ⟨xs,e1,e2,e3⟩:=bU ys fun d' h'=>h d' (.tail _ h');exact ⟨x::xs,by show (Cb ys).map _=_; rw [e1]; rfl,by simp [e2],fun z hz=>by
     rcases xG.mp hz with rfl | hz
     . exact p
     . exact e3 z hz⟩
theorem Jy:∀ (xs:List Str),(∀ x∈xs,x.length=1/\yP x=true/\chOk 32 126 x)->(k9 "" xs).length=xs.length/\yP (k9 "" xs)=true/\chOk 32 126 (k9 "" xs)
 | [],_=>⟨rfl,by decide +kernel,chOk.nil⟩
 | [x],h=>⟨(h x (.head _)).1,(h x (.head _)).2.1,(h x (.head _)).2.2⟩
 | x::y::r,h=>by
   obtain ⟨l,o,q⟩:=Jy (y::r) fun z hz=>h z (.tail _ hz);obtain ⟨l1,o1,q1⟩:=h x (.head _); show (x ++ "" ++ k9 "" (y::r)).length=_/\yP (x ++ "" ++ k9 "" (y::r))=true/\chOk 32 126 (x ++ "" ++ k9 "" (y::r));refine ⟨?_,Dc (Dc o1 (by decide +kernel)) o,(q1.app chOk.nil).app q⟩;rw [O1,O1]; have:(("" : Str)).length=0:=rfl; simp only [xU] at l ⊢;lia
theorem Mt:∀ (xs:List Str),(∀ x∈xs,x.length=1/\yP x=true/\chOk 32 126 x)->(xs.map (·.length)).sum=xs.length
 | [],_=>rfl
 | x::r,h=>by
   simp only [xL,List.sum_cons,xU,(h x (.head _)).1,Mt r fun z hz=>h z (.tail _ hz)];lia
theorem jW {n:Int} (h0:0<=n) (h:n < 1000):Iv [.int n]=.ok (W6 0 n):=by
 show (if _ then _ else _)=_;rw [if_pos (by lia)]
theorem Tp {fs:Dn->Res (List xC)} {δ:Dn} {n:Int} (h:fs δ=.ok [.int n]) (h0:0<=n) (h1:n < 1000):(fun δ=>(fs δ).bind Iv) δ=.ok (W6 0 n):=by
 show (fs δ).bind Iv=_;rw [h,C4,jW h0 h1]
theorem E1 {f:Dn->Res xC} {δ:Dn} {d:xC} {ds:List xC} (h:f δ=.ok d) (h2:D5 d=.ok ds):(fun δ=>(f δ).bind D5) δ=.ok ds:=by
 show (f δ).bind D5=_;rw [h,C4,h2]
theorem iE (ns:List Int) (hns:ns.length<=63) (a:Int):∃ x:Str,P8 [scr ns,.int a]=.ok (.str x)/\Zo x:=by
 obtain ⟨r1,e1,a1,b1⟩:=I8 ns hns (a+4) 4 (by decide);unfold P8 Aw Z8;have hr:Iv [.int (1+r1)]=.ok (W6 0 (1+r1)):=jW (by lia) (by lia);have hlen:(W6 0 (1+r1)).length<=4/\1<=(W6 0 (1+r1)).length:=by unfold W6; simp; lia
 have hall:∀ d∈W6 0 (1+r1),∃ sl y,F2 d=.ok sl/\(b2 (vC (.str "ab cd~ <")) (B5 (A1 (A0 1) (A1 (b2 (A0 2) (A0 0) C5) (A1 (vC (.int 8)) A6))) B0) dIx) (sl++[.sh (scr ns),.sh (.int a)])=.ok y/\∃ x:Str,y=.str x/\x.length=1/\yP x=true/\chOk 32 126 x:=fun d hd=>by
   unfold W6 at hd; obtain ⟨i,hi,rfl⟩:=yH.mp hd; have hi':i < 4:=by have:=u8.mp hi; lia
   obtain ⟨r2,e2,a2,b2'⟩:=I8 ns hns (a+(0+(i:Int))) 8 (by decide);obtain ⟨c,hc,f⟩:=lT (x := "ab cd~ <") a2 (by have:("ab cd~ <" : Str).cps.toList.length=8:=(by decide); rw [this]; exact b2');refine ⟨[.sh (.int (0+(i:Int)))],.str ⟨#[c]⟩,rfl,?_,⟨#[c]⟩,rfl,rfl,?_,.one ((by decide:∀ c∈("ab cd~ <" : Str).cps.toList,32<=c/\c<=126) c hc)⟩
   . simp_arith [Q7,e2,f]
   . have:∀ c∈("ab cd~ <" : Str).cps.toList,c < 0x110000:=by decide
     unfold yP; simp [this c hc]
 obtain ⟨ys,g1,g2,g3⟩:=Yy (W6 0 (1+r1)) hall;obtain ⟨xs,g4,g5,g6⟩:=bU ys g3;obtain ⟨l1,o1,q1⟩:=Jy xs g6;have s1:=Mt xs g6;refine ⟨k9 "" xs,?_,by lia,by lia,q1⟩;have hj:Le "" (.list ys)=some (.str (k9 "" xs)):=by
   show (Cb ys).bind _=_;rw [g4]; show (if _ then _ else _)=_;have:(("" : Str)).length=0:=rfl; rw [if_pos ⟨by rw [s1,this]; lia,o1,yA (show _<=1000 by lia) Kr⟩]
 have hz:(W6 0 (1+r1)).length<=sizeLine:=yA (show _<=1000 by lia) Kr;simp_arith [Q7,e1,hr,E8,hz,Cv,Option.getD_some,g1,hj]
abbrev idD (t:Int) (h:Str):xC:=.tuple [.int t,.str h]
abbrev IdP:=Int×Str
abbrev idP (p:IdP):xC:=idD p.1 p.2
abbrev sgD (p:IdP) (n:Int):xC:=.tuple [idP p,.int n]
noncomputable def hj (h:Str):Nat:=if h = "a" then 0 else if h = "b" then 1 else 2
noncomputable def key (p:IdP):Int:=3*p.1+hj p.2
def okH (h:Str):Prop:=h = "a" \/ h = "b" \/ h = "c"
def okI (p:IdP):Prop:=1<=p.1/\p.1<=11/\okH p.2
theorem Yi (h:Str):hj h<=2:=by unfold hj; split <;> (try split) <;> lia
def SgOf (T:Int) (ds:List xC) (x:xC):Prop:=∃ (p:IdP) (b:xC) (w:Str) (n:Nat),n0 [.str "add",idP p,b,.str w]∈ds/\x=sgD p n/\n < w.length/\p.1 < T/\okI p
theorem SgOf.mono {T:Int} {ds ds':List xC} {x:xC} (h:SgOf T ds x) (k:∀ d∈ds,d∈ds'):SgOf T ds' x:=by
 obtain ⟨p,b,w,n,e,r⟩:=h; exact ⟨p,b,w,n,k _ e,r⟩
def sgR (a b:xC):Prop:=∃ (p q:IdP) (n m:Int),a=sgD p n/\b=sgD q m/\okH p.2/\okH q.2/\(key p < key q\/(p=q/\n < m))
def OrN (S:xC->Prop) (d:xC):Prop:=d=.none\/S d
def aQ (x:Str):Prop:=x = "l" \/ x = "r"
def Wf (p:IdP) (S:xC->Prop) (U:IdP->Prop) (d:xC):Prop:=okI p /\
 ((∃ b w,d=.tuple [.str "add",idP p,b,.str w]/\OrN S b/\Zo w) \/
  (∃ sg,d=.tuple [.str "drop",idP p,.tuple sg]/\(∀ x∈sg,S x)/\sg.length<=60/\sg≠[]/\sg.Pairwise sgR) \/
  (∃ n s1 x1 s2 x2,d=.tuple [.str "mark",idP p,.str n,.tuple [s1,.str x1],.tuple [s2,.str x2]]/\OrN S s1/\OrN S s2/\nmOk n/\aQ x1/\aQ x2) \/
  (∃ n,d=.tuple [.str "unmark",idP p,.str n]/\nmOk n) \/
  (∃ q,d=.tuple [.str "undo",idP p,idP q]/\U q))
theorem OrN.mono {S S':xC->Prop} {d:xC} (h:OrN S d) (k:∀ x,S x->S' x):OrN S' d:=h.elim .inl fun z=>.inr (k _ z)
theorem Wf.mono {p:IdP} {S S':xC->Prop} {U U':IdP->Prop} {d:xC} (h:Wf p S U d) (k2:∀ x,S x->S' x) (k3:∀ q,U q->U' q):Wf p S' U' d:=by
 obtain ⟨o,r⟩:=h;refine ⟨o,?_⟩;rcases r with ⟨b,w,e,hb,hw⟩ | ⟨sg,e,hs,hl⟩ | ⟨n,s1,x1,s2,x2,e,h1,h2,h3⟩ | ⟨n,e⟩ | ⟨i,e,hi⟩
 . exact .inl ⟨b,w,e,hb.mono k2,hw⟩
 . exact .inr (.inl ⟨sg,e,fun x hx=>k2 x (hs x hx),hl⟩)
 . exact .inr (.inr (.inl ⟨n,s1,x1,s2,x2,e,h1.mono k2,h2.mono k2,h3⟩))
 . exact .inr (.inr (.inr (.inl ⟨n,e⟩)))
 . exact .inr (.inr (.inr (.inr ⟨i,e,k3 _ hi⟩)))
theorem Ft (x y:Str):dEq (.str x) (.str y)=some (.bool (x==y)):=by
 unfold dEq;rw [if_pos (yA (CO _ _) (by simp [zR]))];rfl
theorem sX:(("add" : Str)==("add" : Str))=true:=by decide +kernel
noncomputable def Tg:Dn->Out:=(sIf (B8 (b2 (b2 (A0 2) (vC (.int 0)) dIx) (vC (.str "add")) dEq)) (D2 1 (b2 (A0 1) (I0 (E8 (fun δ=>((A1 (vFn (A1 (b2 (A0 2) (vC (.int 3)) dIx) A6) M9) A6) δ).bind Iv) F2 [2] K7 (D3 (A1 (b2 (A0 1) (vC (.int 1)) dIx) (A1 (A0 0) A6))))) C5)) E6)
theorem Jd {α:Type} {δc:Dn} {el:Dn->Res xC} (g f:α->xC) (h:∀ y:α,el ([.sh (g y)]++δc)=.ok (f y)):∀ ys:List α,C8 F2 δc K7 el (ys.map g)=.ok (ys.map f)
 | []=>rfl
 | y::ys=>by
   rw [xL,xL]; unfold C8; simp only [F2,K7,h y,Jd g f h ys]
theorem aB {p:IdP} {S:xC->Prop} {U:IdP->Prop} {T:Int} {d:xC} (hd:Wf p S U d) (hT:p.1 < T) (B:xC) (fd:List xC) (hf:fd.length<=100):∃ U8:List xC,U8.length<=4/\(∀ x∈U8,SgOf T [d] x)/\(∀ x∈U8,∃ n,x=sgD p n)/\U8.Pairwise sgR /\
   Tg [.sh B,.sh (.list fd),.sh d]=.nx [.sh B,.sh (.list (fd++U8)),.sh d]:=by
 obtain ⟨o,r⟩:=hd;have ix0:∀ (x:xC) (xs:List xC),dIx (.tuple (x::xs)) (.int 0)=some x:=fun x xs=>K5 (xs:=x::xs) (j:=0) (by simp);have ix1:∀ (x y:xC) (xs:List xC),dIx (.tuple (x::y::xs)) (.int 1)=some y:=fun x y xs=>K5 (xs:=x::y::xs) (j:=1) (by simp);have ix3:∀ (x y z u:xC),dIx (.tuple [x,y,z,u]) (.int 3)=some u:=fun x y z u=>K5 (xs:=[x,y,z,u]) (j:=3) (by simp);have no:∀ d,(B8 (b2 (b2 (A0 2) (vC (.int 0)) dIx) (vC (.str "add")) dEq)) [.sh B,.sh (.list fd),.sh d]=.ok false->∃ U8:List xC,U8.length<=4/\(∀ x∈U8,SgOf T [d] x)/\(∀ x∈U8,∃ n,x=sgD p n)/\U8.Pairwise sgR/\Tg [.sh B,.sh (.list fd),.sh d]=.nx [.sh B,.sh (.list (fd++U8)),.sh d]:=fun d e=>by
   refine ⟨[],by simp,(fun _ h=>nomatch h),(fun _ h=>nomatch h),.nil,?_⟩;unfold Tg; rw [O6 e,zN]; rfl
 rcases r with ⟨b,w,rfl,hb,hw⟩ | ⟨sg,rfl,_⟩ | ⟨n,s1,x1,s2,x2,rfl,_⟩ | ⟨n,rfl,_⟩ | ⟨i,rfl,_⟩
 . have er:W6 0 (w.length:Int)=(c8 w.length).map fun i:Nat=>xV (0+(i:Int)):=by unfold W6; simp
   have g1:=Jd (δc:=[.sh (.tuple [.str "add",idP p,b,.str w])]) (el:=D3 (A1 (b2 (A0 1) (vC (.int 1)) dIx) (A1 (A0 0) A6))) (fun i:Nat=>xV (0+(i:Int))) (fun i=>sgD p (0+(i:Int))) (fun i=>by simp_arith [ix1]) (c8 w.length);have hl:=hw.2.1; refine ⟨(c8 w.length).map fun i:Nat=>sgD p (0+(i:Int)),by simp; exact hl,fun x hx=>?_,fun x hx=>?_,?_,?_⟩
   . obtain ⟨i,hi,rfl⟩:=yH.mp hx
     exact ⟨p,b,w,i,.head _,by rw [JN],u8.mp hi,hT,o⟩
   . obtain ⟨i,hi,rfl⟩:=yH.mp hx
     exact ⟨_,rfl⟩
   . rw [z8]
     exact (EM).imp fun {a b} h=>⟨p,p,_,_,rfl,rfl,o.2.2,o.2.2,.inr ⟨rfl,by lia⟩⟩
   . have ha:C5 (.list fd) (.list ((c8 w.length).map fun i:Nat=>sgD p (0+(i:Int))))=_:=Zm (by simp; lia)
     have e1:M9 [.str w]=some (.int (w.length:Int)):=rfl; unfold Tg; rw [W5 (by simp_arith [ix0,Ft,sX])];refine C6 (B1 rfl (P2 (E9 (ds:=W6 0 (w.length:Int)) (Tp (by simp_arith [ix3,e1]) (by lia) (by lia)) (by rw [er]; simp; lia) rfl (by rw [er]; exact g1))) ha)
 . exact no _ (by simp_arith [ix0,Ft,show (("drop" : Str)==("add" : Str))=false from by decide +kernel])
 . exact no _ (by simp_arith [ix0,Ft,show (("mark" : Str)==("add" : Str))=false from by decide +kernel])
 . exact no _ (by simp_arith [ix0,Ft,show (("unmark" : Str)==("add" : Str))=false from by decide +kernel])
 . exact no _ (by simp_arith [ix0,Ft,show (("undo" : Str)==("add" : Str))=false from by decide +kernel])
abbrev Dp:=xC×IdP
theorem Nw {S:IdP->xC->Prop} {U:IdP->IdP->Prop} {T:Int} (D:List xC) (B:xC):∀ (ds:List Dp),(∀ e∈ds,Wf e.2 (S e.2) (U e.2) e.1/\e.1∈D/\e.2.1 < T)->ds.Pairwise (fun a b=>key a.2 < key b.2)->∀ (fd:List xC) (s2:Sl),fd.length+4*ds.length<=100->(∀ x∈fd,SgOf T D x) ->
   fd.Pairwise sgR->(∀ x∈fd,∃ q n,x=sgD q n/\okH q.2/\∀ e∈ds,key q < key e.2)->∃ (out:List xC) (s2':Sl),out.length<=fd.length+4*ds.length/\(∀ x∈out,SgOf T D x)/\out.Pairwise sgR /\
   E2 (st1 2) Tg (ds.map (·.1)) [.sh B,.sh (.list fd),s2]=.nx [.sh B,.sh (.list out),s2']
 | [],_,_,fd,s2,_,hs,hp,_=>⟨fd,s2,by lia,hs,hp,rfl⟩
 | e::ds,hd,up,fd,s2,hl,hs,hp,hq=>by
   obtain ⟨w,m,ht⟩:=hd e (.head _); obtain ⟨U8,l1,s1,i1,p1,e1⟩:=aB w ht B fd (by simp at hl; lia);have up':=yK.mp up; obtain ⟨out,s2',l2,s3,p3,e2⟩:=Nw D B ds (fun d' h'=>hd d' (.tail _ h')) up'.2 (fd++U8) (.sh e.1) (by simp at hl ⊢; lia)
     (fun x hx=>(xY.mp hx).elim (hs x) fun z=>(s1 x z).mono fun q hq=>by rw [xS.mp hq]; exact m)
     (AI.mpr ⟨hp,p1,fun a ha b hb=>by
       obtain ⟨q,n,rfl,o,k⟩:=hq a ha; obtain ⟨n',rfl⟩:=i1 b hb; exact ⟨q,e.2,n,n',rfl,rfl,o,w.1.2.2,.inl (k e (.head _))⟩⟩)
     (fun x hx=>(xY.mp hx).elim (fun z=>by
       obtain ⟨q,n,h1,h2,h3⟩:=hq x z; exact ⟨q,n,h1,h2,fun e' he'=>h3 e' (.tail _ he')⟩) fun z=>by
       obtain ⟨n',rfl⟩:=i1 x z; exact ⟨e.2,n',rfl,w.1.2.2,fun e' he'=>up'.1 e' he'⟩)
   refine ⟨out,s2',by simp at l2 ⊢; lia,s3,p3,?_⟩;rw [xL]; unfold E2; simp only [st1,yF,yG]; rw [e1]; exact e2
theorem jJ {S:IdP->xC->Prop} {U:IdP->IdP->Prop} {T:Int} (ds:List Dp) (hd:∀ e∈ds,Wf e.2 (S e.2) (U e.2) e.1/\e.2.1 < T) (up:ds.Pairwise (fun a b=>key a.2 < key b.2)) (hl:ds.length<=11) :
   ∃ out:List xC,P9 [.tuple (ds.map (·.1))]=.ok (.list out)/\out.length<=44/\(∀ x∈out,SgOf T (ds.map (·.1)) x)/\out.Pairwise sgR:=by
 obtain ⟨out,s2',l2,s3,p3,e2⟩:=Nw (ds.map (·.1)) (.tuple (ds.map (·.1))) ds (fun e h=>⟨(hd e h).1,zA h,(hd e h).2⟩) up [] .un (by simp; lia) (fun _ h=>nomatch h) .nil (fun _ h=>nomatch h);refine ⟨out,?_,by simp at l2; lia,s3,p3⟩;unfold P9 Ax Z9;simp only [Jz,M6,Ip (D2 _ _),D2,I0,A6,D1,C4,aC,xL,l9,xU,zT,yD,a8,zE,yF,yG,Ip (M8 _ _ _),M8,Hy,Ej,D5,u9,o8,o7];unfold Tg at e2;rw [e2];simp_arith
theorem M7 {c:Dn->Res Bool} {g1 g2:Dn->Out} {δ:Dn} (h:c δ=.ok false):B6 (sIf c g1 E6) g2 δ=g2 δ:=B2 (O6 h)
theorem mulL {xs:List xC} {n:Int} (h : -(2 ^ 63)<=n/\n < 2 ^ 63/\xs.length*n.toNat<=sizeLine):N9 (.list xs) (.int n)=some (.list (yD n.toNat xs).flatten):=by
 show (if _ then _ else _)=_;rw [if_pos h]
theorem wK (xs:List xC):dNe (.list xs) (.list [])=some (.bool (!xs.isEmpty)):=by
 unfold dNe;rw [if_pos (yA (p0 _ _) (by decide))];cases xs <;> rfl
theorem dEqL (xs:List xC):dEq (.list xs) (.list [])=some (.bool xs.isEmpty):=by
 unfold dEq;rw [if_pos (yA (p0 _ _) (by decide))];cases xs <;> rfl
theorem rC (xs:List xC):dNe (.tuple xs) (.tuple [])=some (.bool (!xs.isEmpty)):=by
 unfold dNe;rw [if_pos (yA (p0 _ _) (by decide))];cases xs <;> rfl
theorem ltI (a b:Int):D7 .Lt (.int a) (.int b)=some (.bool (decide (a < b))):=by
 unfold D7;rw [if_pos (by simp [zR])];rfl
theorem gV (a b:Int):dEq (.int a) (.int b)=some (.bool (a==b)):=by
 unfold dEq;rw [if_pos (yA (CO _ _) (by simp [zR]))];rfl
theorem qS (t:Int) (h:Str):(idD t h).depth<=2:=by simp [idD,zR,zW]
theorem vO (xs:List xC):M9 [.list xs]=some (.int (xs.length:Int)):=rfl
theorem lenT (xs:List xC):M9 [.tuple xs]=some (.int (xs.length:Int)):=rfl
theorem Tl (ns:List Int) (hns:ns.length<=63) (a:Int) (S:xC->Prop) (sg:List xC) (hs:∀ x∈sg,S x) (hl:sg.length<=44):∃ s x,M0 [scr ns,.int a,.list sg]=.ok (.tuple [s,.str x])/\OrN S s/\aQ x:=by
 obtain ⟨r1,e1,a1,b1⟩:=I8 ns hns a ((sg.length:Int)+1) (by lia);obtain ⟨r2,e2,a2,b2'⟩:=I8 ns hns (a+1) 2 (by decide);obtain ⟨c,hc,f2⟩:=lT (x := "lr") a2 (by rw [show ("lr" : Str).cps.toList.length=2 from by decide]; exact b2');have g:=Zm (x:=[.none]) (y:=sg) (by simp; lia);obtain ⟨s,hs',f1⟩:=ixL (xs:=[.none]++sg) a1 (by simp; lia);refine ⟨s,⟨#[c]⟩,?_,?_,?_⟩
 . unfold M0 Y2 W2
   generalize [PyData.none]++sg=L at *;simp_arith [g,vO,Q7,e1,f1,e2,f2]
 . rcases xY.mp hs' with h | h
   . exact .inl (xS.mp h)
   . exact .inr (hs s h)
 . have h':c∈[108,114]:=by rw [show ("lr" : Str).cps.toList=[108,114] from by decide] at hc; exact hc
   simp only [xG,CB,or_false] at h'; rcases h' with rfl | rfl
   . exact .inl (by decide)
   . exact .inr (by decide)
theorem Ta {δc:Dn} {tt:Dn->Res Bool}:∀ (zs:List (xC×xC)),(∀ z∈zs,∃ b,tt ([.sh z.1,.sh z.2]++δc)=.ok b)->∃ ys:List xC,C8 V0 δc tt (A0 1) (zs.map fun z=>.tuple [z.1,z.2])=.ok ys/\ys.Sublist (zs.map (·.2))
 | [],_=>⟨[],rfl,.slnil⟩
 | z::zs,h=>by
   obtain ⟨b,e⟩:=h z (.head _); obtain ⟨ys,e1,e2⟩:=Ta zs fun z' hz=>h z' (.tail _ hz);rw [xL,xL];cases b with
   | true =>
     refine ⟨z.2::ys,?_,e2.cons_cons _⟩; unfold C8; rw [show V0 (.tuple [z.1,z.2])=.ok [.sh z.1,.sh z.2] from rfl];simp only [e,e1]; rfl
   | false =>
     refine ⟨ys,?_,e2.cons _⟩; unfold C8; rw [show V0 (.tuple [z.1,z.2])=.ok [.sh z.1,.sh z.2] from rfl];simp only [e,e1]
theorem qP (xs:List xC):Go xs=(xs.mapIdx fun i d=>(xV i,d)).map fun z=>n0 [z.1,z.2]:=by
 unfold Go;apply BO;intro i;simp [Function.comp_def]
theorem mG (xs:List xC):(xs.mapIdx fun i d=>(xV i,d)).map (·.2)=xs:=by
 apply BO;intro i;simp only [yQ,JS,Option.map_map];cases xs[i]? <;> rfl
theorem iU {xs:List xC} {x:xC} (h:x∈Hl xs (some (-3)) none):x∈xs:=by
 unfold Hl at h;exact FC (JR h)
theorem rE (xs:List xC) (lo hi:Option Int):(Hl xs lo hi).length<=xs.length:=by
 unfold Hl;rw [CC,EC]; exact yA (p0 _ _) (Nat.sub_le _ _)
theorem Uw {o:Out} {d:xC} (h:o=.rt d):o.fin=.ok d:=by rw [h]; rfl
theorem gB {a b:Int} (h:a < b):D7 .Lt (.int a) (.int b)=some (.bool true):=by rw [ltI,decide_eq_true h]
theorem gC {a b:Int} (h:¬ a < b):D7 .Lt (.int a) (.int b)=some (.bool false):=by rw [ltI,decide_eq_false h]
theorem Ds {f g:Dn->Res Bool} {δ:Dn} (h1:f δ=.ok true) (h2:g δ=.ok true):O0 f g δ=.ok true:=by unfold O0; rw [h1,C4,if_pos rfl,h2]
theorem Fa {f g:Dn->Res Bool} {δ:Dn} (h1:f δ=.ok false):O0 f g δ=.ok false:=by unfold O0; rw [h1,C4,if_neg (by decide)]
theorem Z4 {f g:Dn->Res Bool} {δ:Dn} (h1:f δ=.ok true) (h2:g δ=.ok false):O0 f g δ=.ok false:=by unfold O0; rw [h1,C4,if_pos rfl,h2]
theorem sZ {f:Dn->Res xC} {lo hi:Dn->Res (Option Int)} {δ:Dn} {x y:xC} {l u:Option Int} (h1:f δ=.ok x) (h2:lo δ=.ok l) (h3:hi δ=.ok u) (h4:gW x l u=some y):vSl f lo hi δ=.ok y:=by unfold vSl; rw [h1,C4,h2,C4,h3,C4,h4]; rfl
theorem qY (ns:List Int) (hns:ns.length<=63) {S:IdP->xC->Prop} {U:IdP->IdP->Prop} (a:Int) (p:IdP) (ho:okI p) (kn0:List Dp) (hk:∀ e∈kn0,Wf e.2 (S e.2) (U e.2) e.1/\e.2.1 < p.1) (up:kn0.Pairwise (fun a b=>key a.2 < key b.2)) (hkl:kn0.length<=9) (x y z:Str) (hxyz:nmOk x/\nmOk y/\nmOk z) :
   ∃ d,N0 [scr ns,.int a,idP p,.tuple (kn0.map (·.1)),.list [.str x,.str y,.str z]]=.ok d/\Wf p (SgOf p.1 (kn0.map (·.1))) (fun q=>∃ e∈kn0,e.2=q) d:=by
 have hids:∀ d∈kn0.map (·.1),∃ q:IdP,dIx d (.int 1)=some (idP q)/\∃ e∈kn0,e.2=q:=fun d hd=>by
   obtain ⟨e,he,rfl⟩:=yH.mp hd; obtain ⟨_,hf⟩:=(hk e he).1; refine ⟨e.2,?_,e,he,rfl⟩; rcases hf with ⟨_,_,q,_⟩ | ⟨_,q,_⟩ | ⟨_,_,_,_,_,q,_⟩ | ⟨_,q,_⟩ | ⟨_,q,_⟩ <;> rw [q] <;> exact K5 (j:=1) (by simp)
 obtain ⟨sg,es,hsl,hsg,hsr⟩:=jJ (T:=p.1) kn0 hk up (by lia);have hkl':(kn0.map (·.1)).length<=9:=by rw [xJ]; exact hkl
 generalize kn0.map (·.1)=kn at *;obtain ⟨way,ew,w0,w1⟩:=I8 ns hns a 12 (by decide);obtain ⟨r5,e5,a5,b5⟩:=I8 ns hns (a+5) 3 (by decide);obtain ⟨nm,hnm,f5⟩:=ixL (xs:=[.str x,.str y,.str z]) a5 b5;have:∃ q,nm=.str q/\nmOk q:=by
   simp only [xG,CB,or_false] at hnm; rcases hnm with rfl | rfl | rfl
   . exact ⟨_,rfl,hxyz.1⟩
   . exact ⟨_,rfl,hxyz.2.1⟩
   . exact ⟨_,rfl,hxyz.2.2⟩
 obtain ⟨q,rfl,hq⟩:=this;unfold N0 Ce An Am Al Ak Aj Ai Ah Ag F6;rw [Jz];simp only [M6,xL,l9,xU,zT,yD,a8,zE,o8,o7];rw [B2 (C6 (B4 (A5 rfl rfl) es)),B2 (C6 (B4 (A5 rfl (A5 rfl (A5 rfl rfl))) ew))];simp only [yF,yG];by_cases c1:way < 2/\sg≠[]
 . have t1 : (O0 (B8 (b2 (A0 6) (vC (.int 2)) (D7 .Lt))) (B8 (b2 (A0 5) (I0 A6) dNe))) [.sh (scr ns), .sh (.int a), .sh (idP p), .sh (.tuple kn), .sh (.list [.str x, .str y, .str z]), .sh (.list sg), .sh (.int way), .un, .un, .un] = .ok true := by
     have:sg.isEmpty=false:=by cases sg with | nil=>exact absurd rfl c1.2 | cons _ _=>rfl
     exact Ds (C0 (B1 rfl rfl (gB c1.1))) (C0 (B1 rfl rfl (by rw [wK,this]; rfl)))
   have hall:∀ z∈sg.mapIdx (fun i d=>(xV i,d)),∃ b,(B8 (b2 (B5 (A1 (A0 2) (A1 (b2 (b2 (A0 3) (vC (.int 20)) C5) (A0 0) C5) (A1 (vC (.int 4)) A6))) B0) (vC (.int 0)) dEq)) ([.sh z.1,.sh z.2]++[.sh (scr ns),.sh (.int a)])=.ok b:=fun z hz=>by
     rw [List.mem_mapIdx] at hz; obtain ⟨i,hi,rfl⟩:=hz; obtain ⟨r,er,_,_⟩:=I8 ns hns (a+20+(i:Int)) 4 (by decide);refine ⟨r==0,?_⟩;simp_arith [Q7,er,gV]
   obtain ⟨ys,g1,g2'⟩:=Ta _ hall; rw [mG] at g2'; rw [<- qP] at g1; have g2:=g2'.length_le; have hel:(Go sg).length=sg.length:=by unfold Go; simp
   have n1:E8 (fun δ=>((A1 (A0 5) A6) δ).bind Pd) V0 [0,1] (B8 (b2 (B5 (A1 (A0 2) (A1 (b2 (b2 (A0 3) (vC (.int 20)) C5) (A0 0) C5) (A1 (vC (.int 4)) A6))) B0) (vC (.int 0)) dEq)) (A0 1) [.sh (scr ns),.sh (.int a),.sh (idP p),.sh (.tuple kn),.sh (.list [.str x,.str y,.str z]),.sh (.list sg),.sh (.int way),.un,.un,.un]=.ok ys :=
     E9 (ds:=Go sg) (by show ((A1 (A0 5) A6) _).bind Pd=_; rw [A5 (d:=.list sg) (ds:=[]) rfl rfl]; rfl) (by lia) rfl g1
   have hex:∃ ex:List xC,ex.length<=1/\((ys++ex).Sublist sg/\ys++ex≠[])/\N9 (.list (sg.take 1)) (.int (if ys.isEmpty=true then 1 else 0))=some (.list ex):=by
     have lt:(sg.take 1).length<=1:=by simp; lia
     cases ey:ys with
     | nil =>
       refine ⟨(yD 1 (sg.take 1)).flatten,by simpa using lt,⟨by simpa using GG 1 sg,fun z=>c1.2 ?_⟩,?_⟩
       . cases sg with
         | nil=>rfl
         | cons _ _=>simp at z
       . rw [if_pos (show List.isEmpty []=true from rfl)]
         exact mulL ⟨by decide,by decide,yA (show _<=1 by simpa using lt) (by decide)⟩
     | cons y0 yr =>
       refine ⟨[],by simp,⟨by rw [zN,<- ey]; exact g2',by simp⟩,?_⟩;rw [if_neg (by simp)]; exact mulL ⟨by decide,by decide,by simp⟩
   obtain ⟨ex,exl,exs,hmul⟩:=hex; have hadd:=Zm (x:=ys) (y:=ex) (by lia);have cut1:gW (.list sg) none (some 1)=some (.list (sg.take 1)):=by
     show some (IP (Hl sg none (some 1)))=_;congr 2;cases sg with
     | nil=>rfl
     | cons s r =>
       unfold Hl HT.sIx; simp
   have hint:Lf [.bool ys.isEmpty]=some (.int (if ys.isEmpty=true then 1 else 0)):=rfl;have htup:∀ l,Gp [.list l]=some (.tuple l):=fun _=>rfl;have hnew:Gx 8 (E8 (fun δ=>((A1 (A0 5) A6) δ).bind Pd) V0 [0,1] (B8 (b2 (B5 (A1 (A0 2) (A1 (b2 (b2 (A0 3) (vC (.int 20)) C5) (A0 0) C5) (A1 (vC (.int 4)) A6))) B0) (vC (.int 0)) dEq)) (A0 1)) [.sh (scr ns),.sh (.int a),.sh (idP p),.sh (.tuple kn),.sh (.list [.str x,.str y,.str z]),.sh (.list sg),.sh (.int way),.un,.un,.un]=.nx [.sh (scr ns),.sh (.int a),.sh (idP p),.sh (.tuple kn),.sh (.list [.str x,.str y,.str z]),.sh (.list sg),.sh (.int way),.un,.sh (.list ys),.un]:=by
     unfold Gx; rw [n1]; rfl
   have t2:(F8 (D3 (A1 (vC (.str "drop")) (A1 (A0 2) (A1 (vFn (A1 (b2 (A0 8) (b2 (vSl (A0 5) Ov (Bj (vC (.int 1)))) (vFn (A1 (b2 (A0 8) (I0 A6) dEq) A6) Lf) N9) C5) A6) Gp) A6))))) [.sh (scr ns),.sh (.int a),.sh (idP p),.sh (.tuple kn),.sh (.list [.str x,.str y,.str z]),.sh (.list sg),.sh (.int way),.un,.sh (.list ys),.un]=.rt (.tuple [.str "drop",idP p,.tuple (ys++ex)]):=by
     simp_arith [dEqL,hint,cut1,hmul,hadd,htup]
   rw [Bh ((W5 t1).trans ((B2 hnew).trans t2))]; refine ⟨_,rfl,ho,.inr (.inl ⟨_,rfl,fun s hs=>hsg s (exs.1.subset hs),?_,exs.2,hsr.sublist exs.1⟩)⟩;rw [yB];lia
 . have t1 : (O0 (B8 (b2 (A0 6) (vC (.int 2)) (D7 .Lt))) (B8 (b2 (A0 5) (I0 A6) dNe))) [.sh (scr ns), .sh (.int a), .sh (idP p), .sh (.tuple kn), .sh (.list [.str x, .str y, .str z]), .sh (.list sg), .sh (.int way), .un, .un, .un] = .ok false := by
     by_cases h2:way < 2
     . have:sg=[]:=AC fun z=>c1 ⟨h2,z⟩
       subst this; exact Z4 (C0 (B1 rfl rfl (gB h2))) (C0 (B1 rfl rfl (wK [])))
     . exact Fa (C0 (B1 rfl rfl (gC h2)))
   rw [M7 t1];by_cases c2:way < 5
   . obtain ⟨s1,x1,f1,g1,l1⟩:=Tl ns hns (a+1) (SgOf p.1 kn) sg hsg hsl
     obtain ⟨s2,x2,f2,g2,l2⟩:=Tl ns hns (a+3) (SgOf p.1 kn) sg hsg hsl; have hadd:=rV (x:=[.str "mark",idP p,.str q]) (y:=[.tuple [s1,.str x1],.tuple [s2,.str x2]]) (by simp);refine ⟨.tuple [.str "mark",idP p,.str q,.tuple [s1,.str x1],.tuple [s2,.str x2]],?_,ho,.inr (.inr (.inl ⟨q,s1,x1,s2,x2,rfl,g1,g2,hq,l1,l2⟩))⟩; exact Uw (Bh ((W5 (C0 (B1 rfl rfl (gB c2)))).trans ((B2 (C6 (M3 (A5 (B4 (A5 rfl (A5 (B1 rfl rfl Q7) (A5 rfl rfl))) f1) (A5 (B4 (A5 rfl (A5 (B1 rfl rfl Q7) (A5 rfl rfl))) f2) rfl))))).trans (K4 (B1 (M3 (A5 rfl (A5 rfl (A5 (B1 rfl (B4 (A5 rfl (A5 (B1 rfl rfl Q7) (A5 rfl rfl))) e5) f5) rfl)))) rfl hadd)))))
   . by_cases c3:way=5
     . refine ⟨.tuple [.str "unmark",idP p,.str q],?_,ho,.inr (.inr (.inr (.inl ⟨q,rfl,hq⟩)))⟩
       rw [M7 (C0 (B1 rfl rfl (gC c2)))]; exact Uw (Bh ((W5 (C0 (B1 rfl rfl (by rw [gV,c3]; rfl)))).trans (K4 (M3 (A5 rfl (A5 rfl (A5 (B1 rfl (B4 (A5 rfl (A5 (B1 rfl rfl Q7) (A5 rfl rfl))) e5) f5) rfl)))))))
     . have c3':(way==5)=false:=by simpa using c3
       by_cases c4:way < 8/\kn≠[]
       . have hne:kn.isEmpty=false:=by cases kn with | nil=>exact absurd rfl c4.2 | cons _ _=>rfl
         have hpos:(0:Int) < kn.length:=by cases kn with | nil=>exact absurd rfl c4.2 | cons _ _=>simp
         obtain ⟨r6,e6,a6,b6⟩:=I8 ns hns (a+6) (kn.length:Int) hpos; obtain ⟨d,hd,f6⟩:=Mj (xs:=kn) a6 b6; obtain ⟨qi,f7,hu⟩:=hids d hd; have f6':dIx (.tuple kn) (.int r6)=some d:=f6; refine ⟨.tuple [.str "undo",idP p,idP qi],?_,ho,.inr (.inr (.inr (.inr ⟨_,rfl,hu⟩)))⟩; rw [M7 (C0 (B1 rfl rfl (gC c2))),M7 (C0 (B1 rfl rfl (by rw [gV,c3'])))];exact Uw (Bh ((W5 (Ds (C0 (B1 rfl rfl (gB c4.1))) (C0 (B1 rfl rfl (by rw [rC,hne]; rfl))))).trans (K4 (M3 (A5 rfl (A5 rfl (A5 (B1 (B1 rfl (B4 (A5 rfl (A5 (B1 rfl rfl Q7) (A5 (K0 (A5 rfl rfl) (lenT _)) rfl))) e6) f6') rfl f7) rfl)))))))
       . have t4 : (O0 (B8 (b2 (A0 6) (vC (.int 8)) (D7 .Lt))) (B8 (b2 (A0 3) (D3 A6) dNe))) [.sh (scr ns), .sh (.int a), .sh (idP p), .sh (.tuple kn), .sh (.list [.str x, .str y, .str z]), .sh (.list sg), .sh (.int way), .un, .un, .un] = .ok false := by
           by_cases h2:way < 8
           . have:kn=[]:=AC fun z=>c4 ⟨h2,z⟩
             subst this; exact Z4 (C0 (B1 rfl rfl (gB h2))) (C0 (B1 rfl rfl (rC [])))
           . exact Fa (C0 (B1 rfl rfl (gC h2)))
         obtain ⟨w,ew2,wl⟩:=iE ns hns (a+8); have g1:=Zm (x:=[.none]) (y:=sg) (by simp; lia);have hc:gW (.list sg) (some (-3)) none=some (.list (Hl sg (some (-3)) none)):=rfl; have hcl:=rE sg (some (-3)) none; have hcm:∀ s∈Hl sg (some (-3)) none,SgOf p.1 kn s:=fun s hs=>hsg s (iU hs);generalize Hl sg (some (-3)) none=ct at *;have g2:=Zm (x:=[.none]++sg) (y:=ct) (by simp; lia);obtain ⟨r7,e7,a7,b7⟩:=I8 ns hns (a+7) ((sg.length:Int)+1+(ct.length:Int)) (by lia);obtain ⟨bh,hbh,f7⟩:=ixL (xs:=[.none]++sg++ct) a7 (by simp; lia);have hneg:Ke (.int 3)=some (.int (-3)):=rfl; have hb:OrN (SgOf p.1 kn) bh:=by
           rcases xY.mp hbh with h | h
           . rcases xY.mp h with h | h
             . exact .inl (xS.mp h)
             . exact .inr (hsg bh h)
           . exact .inr (hcm bh h)
         generalize [PyData.none]++sg=L1 at *;generalize L1++ct=L2' at *;refine ⟨.tuple [.str "add",idP p,bh,.str w],?_,ho,.inl ⟨bh,w,rfl,hb,wl⟩⟩; rw [M7 (C0 (B1 rfl rfl (gC c2))),M7 (C0 (B1 rfl rfl (by rw [gV,c3']))),M7 t4];have sl:vSl (A0 5) (Bj (b1 (vC (.int 3)) Ke)) Ov [.sh (scr ns),.sh (.int a),.sh (idP p),.sh (.tuple kn),.sh (.list [.str x,.str y,.str z]),.sh (.list sg),.sh (.int way),.un,.un,.un]=.ok (.list ct):=sZ rfl rfl rfl hc; exact Uw ((B2 (C6 (B1 (B1 (B1 rfl rfl g1) sl g2) (B4 (A5 rfl (A5 (B1 rfl rfl Q7) (A5 (B1 (B1 (K0 (A5 rfl rfl) (vO _)) rfl Q7) (K0 (A5 sl rfl) (vO _)) Q7) rfl))) e7) f7))).trans (K4 (M3 (A5 rfl (A5 rfl (A5 rfl (A5 (B4 (A5 rfl (A5 (B1 rfl rfl Q7) rfl)) ew2) rfl)))))))
noncomputable def dP:Dn->Out:=(B6 (D2 7 (b2 (b2 (A0 5) (vC (.int 0)) dIx) (B5 (A1 (A0 0) (A1 (b2 (b2 (A0 1) (vC (.int 1)) C5) (b2 (vC (.int 60)) (A0 6) N9) C5) (A1 (vC (.int 2)) A6))) B0) C5)) (B6 (D2 8 (b2 (vC (.str "abc")) (B5 (A1 (A0 0) (A1 (b2 (b2 (A0 1) (vC (.int 2)) C5) (b2 (vC (.int 60)) (A0 6) N9) C5) (A1 (vC (.int 3)) A6))) B0) dIx)) (B6 (sIf (O0 (B8 (b2 (A0 4) (D3 A6) dNe)) (B8 (b2 (D3 (A1 (A0 7) (A1 (A0 8) A6))) (A0 5) (D7 .LtE)))) (D2 7 (b2 (b2 (A0 5) (vC (.int 0)) dIx) (vC (.int 1)) C5)) E6) (B6 (D2 5 (D3 (A1 (A0 7) (A1 (A0 8) A6)))) (B6 (D2 9 (vFn (A1 (I0 (E8 (fun δ=>((A0 4) δ).bind D5) F2 [7] (B8 (b2 (b2 (b2 (A0 0) (vC (.int 1)) dIx) (vC (.int 0)) dIx) (A0 1) (D7 .Lt))) (A0 0))) A6) Gp)) (D2 4 (b2 (A0 4) (D3 (A1 (B5 (A1 (A0 0) (A1 (b2 (b2 (A0 1) (vC (.int 3)) C5) (b2 (vC (.int 60)) (A0 6) N9) C5) (A1 (A0 5) (A1 (A0 9) (A1 (A0 3) A6))))) N0) A6)) C5)))))))
theorem leS (h h':Str) (k:okH h) (k':okH h'):(h==h')=decide (hj h=hj h')/\Xd .LtE h h'=decide (hj h<=hj h'):=by
 rcases k with rfl | rfl | rfl <;> rcases k' with rfl | rfl | rfl <;> exact ⟨by decide +kernel,by decide +kernel⟩
theorem leIdE {t t':Int} {h h':Str} (k:okH h) (k':okH h'):D7 .LtE (idD t h) (idD t' h')=some (.bool (decide (key (t,h)<=key (t',h')))):=by
 obtain ⟨e1,e2⟩:=leS h h' k k';have l1:=Yi h;have l2:=Yi h';unfold D7 key;rw [if_pos (yA (qS t h) (by decide))];show (Fu .LtE [.int t,.str h] [.int t',.str h']).map CA=_;simp only [Fu];have f1:xX (.int t) (.int t')=(t==t'):=rfl;have f2:xX (.str h) (.str h')=(h==h'):=rfl;rw [f1,f2,e1];by_cases c1:t=t'
 . subst c1
   rw [if_pos (by simp)];by_cases c2:hj h=hj h'
   . rw [if_pos (by simp [c2])]
     simp [Zn,c2]
   . rw [if_neg (by simp [c2])]
     show (some (Xd .LtE h h')).map CA=_;rw [e2]; simp only [CJ];congr 3;apply propext; lia
 . rw [if_neg (by simp [c1])]
   show (some (decide (t<=t'))).map CA=_;simp only [CJ];congr 3;apply propext; lia
theorem Wf.id {p:IdP} {S:xC->Prop} {U:IdP->Prop} {d:xC} (w:Wf p S U d):dIx d (.int 1)=some (idP p):=by
 obtain ⟨_,hf⟩:=w;rcases hf with ⟨_,_,q,_⟩ | ⟨_,q,_⟩ | ⟨_,_,_,_,_,q,_⟩ | ⟨_,q,_⟩ | ⟨_,q,_⟩ <;> rw [q] <;> exact K5 (j:=1) (by simp)
theorem ix0 (x:xC) (xs:List xC):dIx (.tuple (x::xs)) (.int 0)=some x:=K5 (xs:=x::xs) (j:=0) (by simp)
theorem abc {c:Nat} (h:c∈("abc" : Str).cps.toList):(⟨#[c]⟩:Str) = "a" \/ (⟨#[c]⟩:Str) = "b" \/ (⟨#[c]⟩:Str) = "c" := by
 have h':c∈[97,98,99]:=by
   have:("abc" : Str).cps.toList=[97,98,99]:=by decide
   rw [this] at h; exact h
 simp only [xG,CB,or_false] at h';rcases h' with rfl | rfl | rfl
 . exact .inl (by decide)
 . exact .inr (.inl (by decide))
 . exact .inr (.inr (by decide))
theorem dH {δc:Dn} {tt:Dn->Res Bool} (f:Dp->Bool):∀ L:List Dp,(∀ e∈L,tt ([.sh e.1]++δc)=.ok (f e))->C8 F2 δc tt (A0 0) (L.map (·.1))=.ok ((L.filter f).map (·.1))
 | [],_=>rfl
 | e::L,h=>by
   have h1:=h e (.head _); have ih:=dH f L fun e' he=>h e' (.tail _ he);rw [xL]; unfold C8; rw [show F2 e.1=.ok [.sh e.1] from rfl];simp only [h1,ih];cases hf:f e with
   | true=>rw [List.filter_cons_of_pos hf]; rfl
   | false=>rw [List.filter_cons_of_neg (by rw [hf]; decide)]
def Upk (L:List Dp):Prop:=L.Pairwise fun a b=>key a.2 < key b.2
def WfIn (L:List Dp) (e:Dp):Prop:=Wf e.2 (SgOf e.2.1 (L.map (·.1))) (fun q=>(∃ e'∈L,e'.2=q)/\q.1 < e.2.1) e.1
def BkW (L:List Dp):Prop:=(∀ e∈L,WfIn L e)/\Upk L
theorem WfIn.mono {L L':List Dp} {e:Dp} (h:WfIn L e) (k:∀ x∈L,x∈L'):WfIn L' e :=
 Wf.mono h (fun x hx=>hx.mono fun d hd=>by obtain ⟨y,hy,rfl⟩:=yH.mp hd; exact zA (k y hy)) fun q ⟨⟨y,hy,e⟩,hq⟩=>⟨⟨y,k y hy,e⟩,hq⟩
theorem hV (ns:List Int) (hns:ns.length<=63) (x y z:Str) (hxyz:nmOk x/\nmOk y/\nmOk z) (k:Int) (hk:0<=k) (hk2:k < 10) (j:Nat) (hj:j < 10) (L:List Dp) (hl:L.length=j) (hd:BkW L) (t:Int) (h:Str) (ht:1<=t) (ht2:t<=j+1) (hth:okH h) (s7 s8 s9:Sl) :
   ∃ (d:xC) (t':Int) (h':Str) (s7' s8' s9':Sl),WfIn L (d,(t',h'))/\1<=t'/\t'<=((j+1:Nat):Int)+1/\okH h'/\(L=[]\/key (t,h) < key (t',h'))/\dP [.sh (scr ns),.sh (.int 10),.sh (.int 10),.sh (.list [.str x,.str y,.str z]),.sh (.tuple (L.map (·.1))),.sh (idD t h),.sh (.int k),s7,s8,s9]
     = .nx [.sh (scr ns),.sh (.int 10),.sh (.int 10),.sh (.list [.str x,.str y,.str z]),.sh (.tuple (L.map (·.1)++[d])),.sh (idD t' h'),.sh (.int k),s7',s8',s9']:=by
 obtain ⟨r1,e1,a1,b1⟩:=I8 ns hns (10+1+60*k) 2 (by decide);obtain ⟨r2,e2,a2,b2'⟩:=I8 ns hns (10+2+60*k) 3 (by decide);obtain ⟨c,hc,f2⟩:=lT (x := "abc") a2 (by have:("abc" : Str).cps.toList.length=3:=(by decide); rw [this]; exact b2');have hh:=abc hc;generalize (⟨#[c]⟩:Str)=hd' at *;have eb:=leIdE (t:=t+r1) (t':=t) (show okH hd' from hh) hth;have go : ∀ tt : Int, 1 <= tt -> tt <= j + 2 -> ∃ d, WfIn L (d, (tt, hd')) /\ ∃ kn, (B6 (D2 5 (D3 (A1 (A0 7) (A1 (A0 8) A6)))) (B6 (D2 9 (vFn (A1 (I0 (E8 (fun δ => ((A0 4) δ).bind D5) F2 [7] (B8 (b2 (b2 (b2 (A0 0) (vC (.int 1)) dIx) (vC (.int 0)) dIx) (A0 1) (D7 .Lt))) (A0 0))) A6) Gp)) (D2 4 (b2 (A0 4) (D3 (A1 (B5 (A1 (A0 0) (A1 (b2 (b2 (A0 1) (vC (.int 3)) C5) (b2 (vC (.int 60)) (A0 6) N9) C5) (A1 (A0 5) (A1 (A0 9) (A1 (A0 3) A6))))) N0) A6)) C5))))
     [.sh (scr ns),.sh (.int 10),.sh (.int 10),.sh (.list [.str x,.str y,.str z]),.sh (.tuple (L.map (·.1))),.sh (idD t h),.sh (.int k),.sh (.int tt),.sh (.str hd'),s9]
     = .nx [.sh (scr ns),.sh (.int 10),.sh (.int 10),.sh (.list [.str x,.str y,.str z]),.sh (.tuple (L.map (·.1)++[d])),.sh (idD tt hd'),.sh (.int k),.sh (.int tt),.sh (.str hd'),.sh (.tuple kn)]:=fun tt h1 h2=>by
   have g1:=dH (δc:=[.sh (.int tt)]) (tt:=B8 (b2 (b2 (b2 (A0 0) (vC (.int 1)) dIx) (vC (.int 0)) dIx) (A0 1) (D7 .Lt))) (fun e=>decide (e.2.1 < tt)) L fun e he=>by
     have:=(hd.1 e he).id;simp_arith [this,ix0,ltI]
   have fm:∀ e∈L.filter fun e=>decide (e.2.1 < tt),e∈L/\e.2.1 < tt:=fun e he=>by
     obtain ⟨m,q⟩:=j4.mp he; exact ⟨m,of_decide_eq_true q⟩
   have fl:=BY (fun e:Dp=>decide (e.2.1 < tt)) L;obtain ⟨d,ed,wd'⟩:=qY ns hns (S:=fun p=>SgOf p.1 (L.map (·.1))) (U:=fun p q=>(∃ e'∈L,e'.2=q)/\q.1 < p.1) (10+3+60*k) (tt,hd') ⟨h1,by simp only; lia,hh⟩ (L.filter fun e=>decide (e.2.1 < tt)) (fun e he=>⟨hd.1 e (fm e he).1,(fm e he).2⟩) (hd.2.filter _) (by lia) x y z hxyz;have wd:WfIn L (d,(tt,hd')):=wd'.mono (fun x hx=>hx.mono fun q hq=>by obtain ⟨e,he,rfl⟩:=yH.mp hq; exact zA (fm e he).1) fun q ⟨e,he,hq⟩=>⟨⟨e,(fm e he).1,hq⟩,hq▸(fm e he).2⟩;have ll:(L.map (·.1)).length=j:=by rw [xJ]; exact hl
   generalize (L.filter fun e=>decide (e.2.1 < tt)).map (·.1)=kn at *;refine ⟨d,wd,kn,?_⟩; have hadd:=rV (x:=L.map (·.1)) (y:=[d]) (by simp; lia);have htup:Gp [.list kn]=some (.tuple kn):=rfl; rw [B2 (C6 (M3 (A5 rfl (A5 rfl rfl))))]; simp only [yF,yG]; rw [B2 (C6 (K0 (A5 (P2 (E9 (E1 rfl rfl) (by lia) rfl g1)) rfl) htup))]; simp only [yF,yG];simp_arith [Q7,lI,ed,hadd]
 unfold dP;rw [B2 (C6 (d:=.int (t+r1)) (by simp_arith [ix0,Q7,lI,e1]))];simp only [yF,yG];rw [B2 (C6 (d:=.str hd') (by simp_arith [Q7,lI,e2,f2]))];simp only [yF,yG];have hc1:∃ b,(b=false->L=[]\/key (t,h) < key (t+r1,hd'))/\(O0 (B8 (b2 (A0 4) (D3 A6) dNe)) (B8 (b2 (D3 (A1 (A0 7) (A1 (A0 8) A6))) (A0 5) (D7 .LtE)))) [.sh (scr ns),.sh (.int 10),.sh (.int 10),.sh (.list [.str x,.str y,.str z]),.sh (.tuple (L.map (·.1))),.sh (idD t h),.sh (.int k),.sh (.int (t+r1)),.sh (.str hd'),s9]=.ok b:=by
   cases he:(L.map (·.1)).isEmpty with
   | true=>exact ⟨false,fun _=>.inl (by cases L with | nil=>rfl | cons _ _=>cases he),by simp_arith [rC,he,FZ]⟩
   | false=>exact ⟨decide (key (t+r1,hd')<=key (t,h)),fun z=>.inr (by have:=of_decide_eq_false z; lia),by simp_arith [rC,he,Bool.not_false,eb]⟩
 obtain ⟨b,hbk,hb⟩:=hc1;cases b with
 | true =>
   obtain ⟨d,wd,kn,ek⟩:=go (t+1) (by lia) (by lia);refine ⟨d,t+1,hd',.sh (.int (t+1)),.sh (.str hd'),.sh (.tuple kn),wd,by lia,by lia,hh,.inr (by have:=Yi h; unfold key; simp only; lia),?_⟩;rw [B2 ((W5 hb).trans (C6 (d:=.int (t+1)) (by simp_arith [ix0,Q7])))];simp only [yF,yG]; exact ek
 | false =>
   obtain ⟨d,wd,kn,ek⟩:=go (t+r1) (by lia) (by lia);refine ⟨d,t+r1,hd',.sh (.int (t+r1)),.sh (.str hd'),.sh (.tuple kn),wd,by lia,by lia,hh,hbk rfl,?_⟩;rw [M7 hb]; exact ek
theorem BkW.snoc {L:List Dp} {d:xC} {p q:IdP} (h:BkW L) (w:WfIn L (d,q)) (hk:∀ e∈L,key e.2<=key p) (hq:L=[]\/key p < key q):BkW (L++[(d,q)])/\∀ e∈L++[(d,q)],key e.2<=key q:=by
 have lt:∀ e∈L,key e.2 < key q:=fun e he=>by
   rcases hq with z | z
   . rw [z] at he; exact nomatch he
   . have:=hk e he; lia
 have up:∀ x∈L,x∈L++[(d,q)]:=fun x hx=>FD _ hx;refine ⟨⟨fun e he=>?_,?_⟩,fun e he=>?_⟩
 . rcases xY.mp he with z | z
   . exact (h.1 e z).mono up
   . rw [xS.mp z]; exact w.mono up
 . exact AI.mpr ⟨h.2,u7 _ _,fun a ha b hb=>by rw [xS.mp hb]; exact lt a ha⟩
 . rcases xY.mp he with z | z
   . exact Int.le_of_lt (lt e z)
   . rw [xS.mp z]; exact Int.le_refl _
theorem Te (ns:List Int) (hns:ns.length<=63) (x y z:Str) (hxyz:nmOk x/\nmOk y/\nmOk z):∀ (l:List xC),(∀ d∈l,∃ k:Int,d=.int k/\0<=k/\k < 10)->∀ (j:Nat) (L:List Dp) (t:Int) (h:Str) (s6 s7 s8 s9:Sl),j+l.length<=10->L.length=j->BkW L->(∀ e∈L,key e.2<=key (t,h))->1<=t->t<=j+1->okH h ->
   ∃ L' s5 s6' s7' s8' s9',BkW L'/\L'.length<=10/\E2 (st1 6) dP l [.sh (scr ns),.sh (.int 10),.sh (.int 10),.sh (.list [.str x,.str y,.str z]),.sh (.tuple (L.map (·.1))),.sh (idD t h),s6,s7,s8,s9]=.nx [.sh (scr ns),.sh (.int 10),.sh (.int 10),.sh (.list [.str x,.str y,.str z]),.sh (.tuple (L'.map (·.1))),s5,s6',s7',s8',s9']
 | [],_,j,L,t,h,s6,s7,s8,s9,hj,hl,hd,_,_,_,_=>⟨L,_,_,_,_,_,hd,by simp at hj; lia,rfl⟩
 | d0::l,hk,j,L,t,h,s6,s7,s8,s9,hj,hl,hd,hb,h1,h2,h3=>by
   obtain ⟨k,rfl,k0,k1⟩:=hk d0 (.head _); simp only [xU] at hj; obtain ⟨d,t',h',s7',s8',s9',wd,t1,t2,t3,kk,e⟩:=hV ns hns x y z hxyz k k0 k1 j (by lia) L hl hd t h h1 h2 h3 s7 s8 s9;obtain ⟨hB,hB2⟩:=hd.snoc wd hb kk; obtain ⟨L',s5,s6',s7'',s8'',s9'',w',l',e'⟩:=Te ns hns x y z hxyz l (fun d hd=>hk d (.tail _ hd)) (j+1) (L++[(d,(t',h'))]) t' h' (.sh (.int k)) s7' s8' s9' (by lia) (by simp [hl]) hB hB2 t1 t2 t3;refine ⟨L',s5,s6',s7'',s8'',s9'',w',l',?_⟩; unfold E2; simp only [st1,yF,yG]; rw [e]; rw [yV] at e'; exact e'
theorem rQ (ns:List Int) (hns:ns.length<=63) (x y z:Str) (hxyz:nmOk x/\nmOk y/\nmOk z):∃ L,W9 [scr ns,.int 10,.int 10,.list [.str x,.str y,.str z]]=.ok (.tuple (L.map (·.1)))/\L.length<=10/\BkW L:=by
 obtain ⟨r,e,a,b⟩:=I8 ns hns 10 (10+1) (by decide);have hmem:∀ d∈W6 0 r,∃ k:Int,d=.int k/\0<=k/\k < 10:=fun d hd=>by
   unfold W6 at hd; obtain ⟨i,hi,rfl⟩:=yH.mp hd; have:=u8.mp hi; exact ⟨_,rfl,by lia,by lia⟩
 have hlen:(W6 0 r).length<=10:=by unfold W6; simp; lia
 obtain ⟨L,s5,s6,s7,s8,s9,w,l,e'⟩:=Te ns hns x y z hxyz (W6 0 r) hmem 0 [] 1 "a" .un .un .un .un (by lia) rfl ⟨(fun _ h=>nomatch h),.nil⟩ (fun _ h=>nomatch h) (by decide) (by decide) (.inl rfl);refine ⟨L,U4 ?_,l,w⟩;unfold Cg Ar Aq Ap Ao N2;simp only [M6,xL,l9,xU,zT,yD,a8,zE,o8,o7];rw [B2 (C6 (d:=.tuple []) rfl),B2 (C6 (d:=idD 1 "a") rfl)];simp only [yF,yG];have hfor:M8 (fun δ=>((A1 (B5 (A1 (A0 0) (A1 (A0 1) (A1 (b2 (A0 2) (vC (.int 1)) C5) A6))) B0) A6) δ).bind Iv) (st1 6) dP [.sh (scr ns),.sh (.int 10),.sh (.int 10),.sh (.list [.str x,.str y,.str z]),.sh (.tuple []),.sh (idD 1 "a"),.un,.un,.un,.un]=.nx [.sh (scr ns),.sh (.int 10),.sh (.int 10),.sh (.list [.str x,.str y,.str z]),.sh (.tuple (L.map (·.1))),s5,s6,s7,s8,s9]:=by
   unfold M8; have:=Tp (fs:=A1 (B5 (A1 (A0 0) (A1 (A0 1) (A1 (b2 (A0 2) (vC (.int 1)) C5) A6))) B0) A6) (δ:=[.sh (scr ns),.sh (.int 10),.sh (.int 10),.sh (.list [.str x,.str y,.str z]),.sh (.tuple []),.sh (idD 1 "a"),.un,.un,.un,.un]) (n:=r) (by simp_arith [Q7,e]) a (by lia);rw [this,D1]; exact e'
 exact (B2 hfor).trans (K4 rfl)
structure Ad where
 p:IdP
 b:Option (IdP×Nat)
 w:Str
abbrev As:=Ad×Nat
abbrev sgn (u:As):IdP×Nat:=(u.1.p,u.2)
noncomputable def blk (e:Ad):List As:=(c8 e.w.length).map fun k=>(e,k)
noncomputable def Yg (s:IdP×Nat) (l:List As):List As->List As
 | []=>[]
 | u::r=>if sgn u=s then u::(l++r) else u::Yg s l r
noncomputable def qJ (x:Option (IdP×Nat)) (l L:List As):List As:=match x with
 | none=>l++L
 | some s=>Yg s l L
noncomputable def ord (B:List Ad):List As:=B.foldl (fun L a=>qJ a.b (blk a) L) []
theorem Iy (B:List Ad) (e:Ad):ord (B++[e])=qJ e.b (blk e) (ord B):=by unfold ord; rw [List.foldl_append]; rfl
inductive Bk:List Ad->Prop where
 | nil:Bk []
 | snoc {B:List Ad} {e:Ad}:Bk B->0 < e.w.length->(∀ a∈B,key a.p < key e.p)->(e.b=none\/∃ a∈B,∃ n,n < a.w.length/\e.b=some (a.p,n))->Bk (B++[e])
theorem cQ {e:Ad} {u:As}:u∈blk e↔u.1=e/\u.2 < e.w.length:=by
 unfold blk;rw [yH];constructor
 . rintro ⟨k,hk,rfl⟩; exact ⟨rfl,u8.mp hk⟩
 . rintro ⟨h1,h2⟩; exact ⟨u.2,u8.mpr h2,by rw [<- h1]⟩
theorem Yf {s:IdP×Nat} {l:List As} {v:As}:∀ {L:List As},(∃ u∈L,sgn u=s)->(v∈Yg s l L↔v∈l\/v∈L)
 | [],h=>by obtain ⟨u,hu,_⟩:=h; cases hu
 | u::r,h=>by
   unfold Yg;split
   . rw [xG,xY,xG]
     constructor
     . rintro (h | h | h)
       . exact .inr (.inl h)
       . exact .inl h
       . exact .inr (.inr h)
     . rintro (h | h | h)
       . exact .inr (.inl h)
       . exact .inl h
       . exact .inr (.inr h)
   . rename_i hn
     have h':∃ u∈r,sgn u=s:=by
       obtain ⟨x,hx,e⟩:=h; rcases xG.mp hx with rfl | hx
       . exact absurd e hn
       . exact ⟨x,hx,e⟩
     rw [xG,Yf h',xG];constructor
     . rintro (h | h | h)
       . exact .inr (.inl h)
       . exact .inl h
       . exact .inr (.inr h)
     . rintro (h | h | h)
       . exact .inr (.inl h)
       . exact .inl h
       . exact .inr (.inr h)
theorem Bk.pos {B:List Ad} (h:Bk B):∀ a∈B,0 < a.w.length:=by
 induction h with
 | nil=>intro a h; cases h
 | snoc _ h0 _ _ ih =>
   intro a ha; rcases xY.mp ha with ha | ha
   . exact ih a ha
   . rw [xS.mp ha]; exact h0
theorem Bk.refs {B:List Ad} (h:Bk B):∀ c∈B,∀ q n,c.b=some (q,n)->∃ a∈B,a.p=q/\n < a.w.length:=by
 induction h with
 | nil=>intro a h; cases h
 | @snoc B e _ h0 _ hb ih =>
   intro c hc q n e1; rcases xY.mp hc with hc | hc
   . obtain ⟨a,ha,r⟩:=ih c hc q n e1; exact ⟨a,xY.mpr (.inl ha),r⟩
   . rw [xS.mp hc] at e1
     rcases hb with hb | ⟨a,ha,n',hn,hb⟩
     . rw [hb] at e1; cases e1
     . rw [hb] at e1; cases e1; exact ⟨a,xY.mpr (.inl ha),rfl,hn⟩
theorem Bk.nokid {B:List Ad} {e:Ad} (h:Bk B) (hk:∀ a∈B,key a.p < key e.p) (hb:e.b=none\/∃ a∈B,∃ n,n < a.w.length/\e.b=some (a.p,n)):∀ c∈B++[e],∀ n,c.b≠some (e.p,n):=by
 intro c hc n z;have:∃ a∈B,a.p=e.p:=by
   rcases xY.mp hc with hc | hc
   . obtain ⟨a,ha,r,_⟩:=h.refs c hc _ _ z; exact ⟨a,ha,r⟩
   . rw [xS.mp hc] at z
     rcases hb with hb | ⟨a,ha,n',hn,hb⟩
     . rw [hb] at z; cases z
     . rw [hb] at z; exact ⟨a,ha,congrArg Prod.fst (zH z)⟩
 obtain ⟨a,ha,r⟩:=this;have:=hk a ha;rw [r] at this;lia
theorem Di {B:List Ad} (h:Bk B):∀ u,u∈ord B↔u.1∈B/\u.2 < u.1.w.length:=by
 induction h with
 | nil=>intro u; constructor <;> intro h <;> simp [ord] at h
 | @snoc B e hB h0 hk hb ih =>
   intro u; have key:u∈qJ e.b (blk e) (ord B)↔u∈blk e\/u∈ord B:=by
     rcases hb with hb | ⟨a,ha,n,hn,hb⟩
     . rw [hb]; exact xY
     . rw [hb]; exact Yf ⟨(a,n),(ih (a,n)).mpr ⟨ha,hn⟩,rfl⟩
   rw [Iy,key,cQ,ih,xY,xS];constructor
   . rintro (⟨h1,h2⟩ | ⟨h1,h2⟩)
     . exact ⟨.inr h1,by rw [h1]; exact h2⟩
     . exact ⟨.inl h1,h2⟩
   . rintro ⟨h1 | h1,h2⟩
     . exact .inr ⟨h1,h2⟩
     . exact .inl ⟨h1,by rw [<- h1]; exact h2⟩
theorem So {s:IdP×Nat} {l:List As}:∀ {L:List As},(∃ u∈L,sgn u=s)->(Yg s l L).Perm (l++L)
 | [],h=>by obtain ⟨u,hu,_⟩:=h; cases hu
 | u::r,h=>by
   unfold Yg;split
   . exact (List.perm_middle (l₁:=l) (a:=u) (l₂:=r)).symm
   . rename_i hn
     have h':∃ u∈r,sgn u=s:=by
       obtain ⟨x,hx,e⟩:=h; rcases xG.mp hx with rfl | hx
       . exact absurd e hn
       . exact ⟨x,hx,e⟩
     exact ((So h').cons u).trans (List.perm_middle (l₁:=l) (a:=u) (l₂:=r)).symm
theorem Sq {B:List Ad} {e:Ad} (hB:Bk B) (hb:e.b=none\/∃ a∈B,∃ n,n < a.w.length/\e.b=some (a.p,n)):(qJ e.b (blk e) (ord B)).Perm (blk e++ord B):=by
 rcases hb with hb | ⟨a,ha,n,hn,hb⟩
 . rw [hb]; exact g9 _
 . rw [hb]; exact So ⟨(a,n),(Di hB (a,n)).mpr ⟨ha,hn⟩,rfl⟩
noncomputable def sgs (B:List Ad):List As:=B.flatMap blk
theorem kQ {B:List Ad} (h:Bk B):(ord B).Perm (sgs B):=by
 induction h with
 | nil=>exact g9 _
 | @snoc B e hB h0 hk hb ih =>
   rw [Iy]; unfold sgs; rw [List.flatMap_append]; refine (Sq hB hb).trans ?_; refine List.perm_append_comm.trans ?_; rw [List.flatMap_cons,List.flatMap_nil,zN]; exact List.Perm.append_right _ ih
theorem iA (e:Ad):((blk e).map sgn).Nodup:=by
 unfold blk;rw [i6,CT,z8];refine List.Pairwise.imp ?_ (CT.mp List.nodup_range);intro a b h z;exact h (congrArg Prod.snd z)
theorem Fl {B:List Ad} (h:Bk B):((ord B).map sgn).Nodup:=by
 induction h with
 | nil=>exact .nil
 | @snoc B e hB h0 hk hb ih =>
   rw [Iy]; refine ((Sq hB hb).map sgn).nodup_iff.mpr ?_; rw [yV,z9]; refine ⟨iA e,ih,fun x hx y hy z=>?_⟩;obtain ⟨u,hu,rfl⟩:=yH.mp hx; obtain ⟨v,hv,rfl⟩:=yH.mp hy; have h1:=(cQ.mp hu).1; have h2:=((Di hB v).mp hv).1; have h3:=hk v.1 h2; have h4:u.1.p=v.1.p:=congrArg Prod.fst z; rw [h1] at h4; rw [<- h4] at h3;lia
noncomputable def He (B:List Ad) (u:As):List As:=(B.filter fun c=>c.b=some (sgn u)).map fun c=>(c,0)
noncomputable def Lc (B:List Ad):List As:=(B.filter fun c=>c.b=none).map fun c=>(c,0)
noncomputable def nxt (u:As):List As:=if u.2+1 < u.1.w.length then [(u.1,u.2+1)] else []
inductive Run (B:List Ad):List As->List As->Prop where
 | nil:Run B [] []
 | step {u:As} {st out:List As}:Run B ((He B u).reverse++(nxt u++st)) out->Run B (u::st) (u::out)
theorem Run.blk {B:List Ad} {e:Ad} (hn:∀ c∈B,∀ n,c.b≠some (e.p,n)) {st out:List As} (h:Run B st out):∀ (j k:Nat),k+j+1=e.w.length->Run B ((e,k)::st) (((c8 e.w.length).drop k).map (fun i=>(e,i))++out):=by
 have nk:∀ k,He B (e,k)=[]:=fun k=>by
   unfold He; rw [x6.mpr (fun c hc=>by simpa using hn c hc k),l9]
 intro j;induction j with
 | zero =>
   intro k hk; have hd:(c8 e.w.length).drop k=[k]:=by
     rw [c7 (by simp; lia),List.getElem_range,BP (by simp; lia)]
   rw [hd]; refine .step ?_; rw [nk,List.reverse_nil,zE]; unfold nxt; rw [if_neg (by show ¬ (k+1 < e.w.length); lia),zE];exact h
 | succ j ih =>
   intro k hk; have hd:(c8 e.w.length).drop k=k::(c8 e.w.length).drop (k+1):=by
     rw [c7 (by simp; lia),List.getElem_range]
   rw [hd]; refine .step ?_; rw [nk,List.reverse_nil,zE]; unfold nxt; rw [if_pos (by show k+1 < e.w.length; lia)];exact ih (k+1) (by lia)
theorem Run.new {B:List Ad} {e:Ad} (hp:0 < e.w.length) (hn:∀ c∈B,∀ n,c.b≠some (e.p,n)) {st out:List As} (h:Run B st out):Run B ((e,0)::st) (Sm.blk e++out):=by
 have:=h.blk hn (e.w.length - 1) 0 (by lia);rw [CV] at this;exact this
theorem Jx (B:List Ad) (e:Ad) (u:As):He (B++[e]) u=He B u++if e.b=some (sgn u) then [(e,0)] else []:=by
 unfold He;rw [CU,yV];congr 1;by_cases c:e.b=some (sgn u)
 . rw [if_pos c,yL,if_pos (by simpa using c)]; rfl
 . rw [if_neg c,yL,if_neg (by simpa using c)]; rfl
theorem Run.old {B:List Ad} {e:Ad} {st out:List As} (h:Run B st out) (hn:∀ u∈out,e.b≠some (sgn u)):Run (B++[e]) st out:=by
 induction h with
 | nil=>exact .nil
 | @step u st out h ih =>
   refine .step ?_; rw [Jx,if_neg (hn u (.head _)),zN]; exact ih fun v hv=>hn v (.tail _ hv)
theorem Run.ins {B:List Ad} {e:Ad} {s:IdP×Nat} (he:e.b=some s) (hp:0 < e.w.length) (hk:∀ c∈B++[e],∀ n,c.b≠some (e.p,n)) {st out:List As} (h:Run B st out) (hs:∃ u∈out,sgn u=s) (nd:(out.map sgn).Nodup):Run (B++[e]) st (Yg s (Sm.blk e) out):=by
 induction h with
 | nil=>obtain ⟨u,hu,_⟩:=hs; cases hu
 | @step u st out h ih =>
   rw [xL,zS] at nd; unfold Yg;split
   . rename_i c
     refine .step ?_; rw [Jx,if_pos (by rw [he,c]),AS,zU];refine Run.new hp hk (h.old fun v hv z=>nd.1 ?_);rw [he] at z; cases z; rw [c]; exact zA hv
   . rename_i c
     refine .step ?_; rw [Jx,if_neg (by rw [he]; intro z; cases z; exact c rfl),zN];refine ih ?_ nd.2; obtain ⟨x,hx,e1⟩:=hs; rcases xG.mp hx with rfl | hx
     . exact absurd e1 c
     . exact ⟨x,hx,e1⟩
theorem bZ {B:List Ad} (h:Bk B):Run B (Lc B).reverse (ord B):=by
 induction h with
 | nil=>exact .nil
 | @snoc B e hB h0 hk hb ih =>
   have nk:=hB.nokid hk hb; rw [Iy]; unfold Lc at ih ⊢;rw [CU,yV,AS]; rcases hb with hb | ⟨a,ha,n,hn,hb⟩
   . rw [hb,yL,if_pos (by simpa using hb)]
     exact Run.new h0 nk (ih.old fun u _ z=>by rw [hb] at z; cases z)
   . rw [hb,yL,if_neg (by rw [hb]; simp)]
     exact ih.ins hb h0 nk ⟨(a,n),(Di hB (a,n)).mpr ⟨ha,hn⟩,rfl⟩ (Fl hB)
noncomputable def anD (x:Option (IdP×Nat)):xC:=match x with
 | none=>.none
 | some s=>sgD s.1 s.2
noncomputable def Ad.d (a:Ad):xC:=.tuple [.str "add",idP a.p,anD a.b,.str a.w]
inductive Adds:List Dp->List Ad->Prop where
 | nil:Adds [] []
 | add {L:List Dp} {B:List Ad} (a:Ad):Adds L B->Adds ((a.d,a.p)::L) (a::B)
 | oth {L:List Dp} {B:List Ad} {e:Dp} (k:Str) (x:xC) (xs:List xC):e.1=.tuple (.str k::idP e.2::x::xs)->k ≠ "add" -> Adds L B->Adds (e::L) B
theorem Adds.snoc {L:List Dp} {B:List Ad} (h:Adds L B) (a:Ad):Adds (L++[(a.d,a.p)]) (B++[a]):=by
 induction h with
 | nil=>exact .add a .nil
 | add c _ ih=>exact .add c ih
 | oth k x xs e n _ ih=>exact .oth k x xs e n ih
theorem Adds.snocO {L:List Dp} {B:List Ad} {e:Dp} (h:Adds L B) (k:Str) (x:xC) (xs:List xC) (h1:e.1=.tuple (.str k::idP e.2::x::xs)) (h2:k ≠ "add"):Adds (L++[e]) B:=by
 induction h with
 | nil=>exact .oth k x xs h1 h2 .nil
 | add c _ ih=>exact .add c ih
 | oth k' x' xs' e' n _ ih=>exact .oth k' x' xs' e' n ih
theorem Ut {p q:IdP} (h:idP p=idP q):p=q:=by
 simp only [idP,idD,HN,AO,PyData.int.injEq,PyData.str.injEq,and_true] at h;exact Prod.ext h.1 h.2
theorem Adds.of {L:List Dp} {B:List Ad} (h:Adds L B) {p:IdP} {b:xC} {w:Str} (m:n0 [.str "add",idP p,b,.str w]∈L.map (·.1)):∃ a∈B,a.p=p/\a.w=w:=by
 induction h with
 | nil=>cases m
 | add c _ ih =>
   rcases xG.mp m with e | m
   . have e':n0 [.str "add",idP p,b,.str w]=.tuple [.str "add",idP c.p,anD c.b,.str c.w]:=e
     injection e' with e'
     injection e' with _ e'
     injection e' with e1 e'
     injection e' with _ e'
     injection e' with e2 _
     injection e2 with e2
     exact ⟨c,.head _,(Ut e1).symm,e2.symm⟩
   . obtain ⟨a,ha,r⟩:=ih m; exact ⟨a,.tail _ ha,r⟩
 | oth k x xs e n _ ih =>
   rcases xG.mp m with e1 | m
   . replace e1:=e1.trans e
     injection e1 with e1
     injection e1 with e1 _
     injection e1 with e1
     exact absurd e1.symm n
   . exact ih m
theorem Wf.shape {p:IdP} {S:xC->Prop} {U:IdP->Prop} {d:xC} (w:Wf p S U d):(∃ b w,d=.tuple [.str "add",idP p,b,.str w]/\OrN S b/\Zo w)\/∃ k x xs,d=.tuple (.str k::idP p::x::xs)/\k ≠ "add" := by
 obtain ⟨o,r⟩:=w;rcases r with h | ⟨sg,rfl,_⟩ | ⟨n,s1,x1,s2,x2,rfl,_⟩ | ⟨n,rfl,_⟩ | ⟨i,rfl,_⟩
 . exact .inl h
 . exact .inr ⟨"drop",_,_,rfl,by decide⟩
 . exact .inr ⟨"mark",_,_,rfl,by decide⟩
 . exact .inr ⟨"unmark",_,_,rfl,by decide⟩
 . exact .inr ⟨"undo",_,_,rfl,by decide⟩
theorem lR {p q:IdP} (h:key p < key q):p.1<=q.1:=by
 have h1:=Yi p.2;have h2:=Yi q.2;unfold key at h;lia
theorem BkW.init {L:List Dp} {e:Dp} (h:BkW (L++[e])):BkW L:=by
 obtain ⟨hw,hu⟩:=h;have hu':=AI.mp hu;refine ⟨fun x hx=>?_,hu'.1⟩;have hxe:key x.2 < key e.2:=hu'.2.2 x hx e (xS.mpr rfl);have ht:=lR hxe;refine Wf.mono (hw x (xY.mpr (.inl hx))) (fun y hy=>?_) fun q hq=>?_
 . obtain ⟨p,b,w,n,hm,e1,hn,hp,ho⟩:=hy
   refine ⟨p,b,w,n,?_,e1,hn,hp,ho⟩; rw [yV] at hm; rcases xY.mp hm with hm | hm
   . exact hm
   . exfalso
     have he:n0 [.str "add",idP p,b,.str w]=e.1:=by simpa using hm
     have hid:p=e.2:=by
       have w1:=(hw e (xY.mpr (.inr (.head _)))).id; rw [<- he] at w1; have w2:dIx (n0 [.str "add",idP p,b,.str w]) (.int 1)=some (idP p):=K5 (xs:=[.str "add",idP p,b,.str w]) (j:=1) (by simp);rw [w2] at w1; exact Ut (zH w1)
     rw [hid] at hp;lia
 . obtain ⟨⟨e',he',rfl⟩,hq⟩:=hq
   refine ⟨?_,hq⟩; rcases xY.mp he' with he' | he'
   . exact ⟨e',he',rfl⟩
   . rw [xS.mp he'] at hq
     lia
structure BkA (L:List Dp) (B:List Ad):Prop where
 ad:Adds L B
 bk:Bk B
 wd:∀ a∈B,Zo a.w
 id:∀ a∈B,okI a.p
 inL:∀ a∈B,(a.d,a.p)∈L
 len:B.length<=L.length
theorem bka:∀ (n:Nat) (L:List Dp),L.length=n->BkW L->∃ B,BkA L B
 | 0,L,hn,_=>by
   rw [i4.mp hn]; exact ⟨[],.nil,.nil,(fun _ h=>nomatch h),(fun _ h=>nomatch h),(fun _ h=>nomatch h),xN _⟩
 | n+1,L,hn,h=>by
   have hne:L≠[]:=fun z=>by rw [z] at hn; cases hn
   obtain ⟨L',e,rfl⟩:∃ L' e,L=L'++[e]:=⟨L.dropLast,L.getLast hne,(y4 hne).symm⟩; have h':=h.init; obtain ⟨B,A⟩:=bka n L' (by simpa using hn) h';have hu':=AI.mp h.2; have we:=h.1 e (xY.mpr (.inr (.head _))); rcases we.shape with ⟨b,w,e1,hb,hw⟩ | ⟨k,x,xs,e1,hk⟩
   . have hx : ∃ x : Option (IdP × Nat), b = anD x /\ (x = none \/ ∃ a ∈ B, ∃ n, n < a.w.length /\ x = some (a.p, n)) := by
       rcases hb with rfl | ⟨p,b',w',n',hm,rfl,hn',hp,ho⟩
       . exact ⟨none,rfl,.inl rfl⟩
       . rw [yV] at hm
         rcases xY.mp hm with hm | hm
         . obtain ⟨a,ha,rfl,rfl⟩:=A.ad.of hm
           exact ⟨some (a.p,n'),rfl,.inr ⟨a,ha,n',hn',rfl⟩⟩
         . exfalso
           have he:n0 [.str "add",idP p,b',.str w']=e.1:=by simpa using hm
           rw [e1] at he;injection he with he
           injection he with _ he
           injection he with he _
           rw [Ut he] at hp;lia
     obtain ⟨x,rfl,hx⟩:=hx; have ee:e=((⟨e.2,x,w⟩:Ad).d,(⟨e.2,x,w⟩:Ad).p):=Prod.ext e1 rfl; refine ⟨B++[⟨e.2,x,w⟩],?_,.snoc A.bk (by have:=hw.1; show 0 < w.length; lia) (fun a ha=>hu'.2.2 _ (A.inL a ha) e (xS.mpr rfl)) hx,fun a ha=>?_,fun a ha=>?_,fun a ha=>?_,by simp; exact A.len⟩
     . rw [ee]; exact A.ad.snoc _
     . rcases xY.mp ha with ha | ha
       . exact A.wd a ha
       . rw [xS.mp ha]; exact hw
     . rcases xY.mp ha with ha | ha
       . exact A.id a ha
       . rw [xS.mp ha]; exact we.1
     . rcases xY.mp ha with ha | ha
       . exact xY.mpr (.inl (A.inL a ha))
       . rw [xS.mp ha,<- ee]; exact xY.mpr (.inr (.head _))
   . refine ⟨B,A.ad.snocO k x xs e1 hk,A.bk,A.wd,A.id,fun a ha=>xY.mpr (.inl (A.inL a ha)),by simp; have:=A.len; lia⟩
theorem bka' {L:List Dp} (h:BkW L):∃ B,BkA L B:=bka _ L rfl h
theorem X3 (x:xC) (xs:List xC):dIx (.tuple (x::xs)) (.int 0)=some x:=K5 (xs:=x::xs) (j:=0) (by simp)
theorem Ef (x y:xC) (xs:List xC):dIx (.tuple (x::y::xs)) (.int 1)=some y:=K5 (xs:=x::y::xs) (j:=1) (by simp)
theorem eG (x y z:xC) (xs:List xC):dIx (.tuple (x::y::z::xs)) (.int 2)=some z:=K5 (xs:=x::y::z::xs) (j:=2) (by simp)
theorem iS (x y z u:xC) (xs:List xC):dIx (.tuple (x::y::z::u::xs)) (.int 3)=some u:=K5 (xs:=x::y::z::u::xs) (j:=3) (by simp)
theorem Qx (w:Str):M9 [.str w]=some (.int (w.length:Int)):=rfl
theorem jS (a:Ad):F3 [a.d]=.ok (.int (a.w.length:Int)):=by
 unfold F3 R0 Q8 Ad.d;simp_arith [vIf,X3,iS,Ft,sX,Qx]
theorem jR {k:Str} {i:xC} {xs:List xC} (h:k ≠ "add"):F3 [.tuple (.str k::i::xs)]=.ok (.int 0):=by
 unfold F3 R0 Q8;have:(k==("add" : Str))=false:=beq_eq_false_iff_ne.mpr h;simp_arith [vIf,X3,Ft,this]
noncomputable def Ur (kvs:Kvs) (x:xC):xC:=(F1 kvs x).getD (.list [])
theorem W0 (x y:Option (IdP×Nat)):xX (anD x) (anD y)=decide (x=y):=by
 cases x with
 | none=>cases y with
   | none=>rfl
   | some s=>rfl
 | some s=>cases y with
   | none=>rfl
   | some t =>
     show ((xX (idP s.1) (idP t.1))&&((xX (.int s.2) (.int t.2))&&true))=_;show (((s.1.1==t.1.1)&&((s.1.2==t.1.2)&&true))&&(((s.2:Int)==(t.2:Int))&&true))=_;rw [l3]; obtain ⟨⟨a,b⟩,c⟩:=s; obtain ⟨⟨a',b'⟩,c'⟩:=t; simp;intro _ _;lia
def nJ (kvs:Kvs):Prop:=∀ p∈kvs,(∃ x,p.1=anD x)/\∃ ds,p.2=.list ds
theorem dU {kvs:Kvs} (h:nJ kvs) (x:Option (IdP×Nat)) (v:xC):nJ (Ma kvs (anD x) v)/\∀ y,∃ ds,Ur kvs (anD y)=.list ds/\Ur (Ma kvs (anD x) v) (anD y)=.list (if x=y then ds++[v] else ds):=by
 induction kvs with
 | nil =>
   refine ⟨fun p hp=>?_,fun y=>⟨[],rfl,?_⟩⟩
   . rw [xS.mp hp]; exact ⟨⟨x,rfl⟩,_,rfl⟩
   . show ((HR (fun p=>xX p.1 (anD y)) [(anD x,IP [v])]).map (·.2)).getD (.list [])=_
     rw [yN,W0];by_cases c:x=y
     . rw [decide_eq_true c,if_pos c]; rfl
     . rw [decide_eq_false c,if_neg c]; rfl
 | cons p r ih =>
   obtain ⟨⟨z,hz⟩,ds0,hd⟩:=h p (.head _); obtain ⟨i1,i2⟩:=ih fun q hq=>h q (.tail _ hq);unfold Ma; rw [hz,W0];by_cases c:z=x
   . rw [if_pos (decide_eq_true c),hd]
     refine ⟨fun q hq=>?_,fun y=>?_⟩
     . rcases xG.mp hq with rfl | hq
       . exact ⟨⟨z,rfl⟩,_,rfl⟩
       . exact h q (.tail _ hq)
     . unfold Ur F1
       rw [yN,yN,hz,W0];by_cases c2:z=y
       . rw [decide_eq_true c2]
         exact ⟨ds0,by rw [show (some p:Option (xC×xC)).map (·.2)=some p.2 from rfl,hd]; rfl,by rw [if_pos (c.symm.trans c2)]; rfl⟩
       . rw [decide_eq_false c2]
         obtain ⟨ds,e1,_⟩:=i2 y; exact ⟨ds,e1,by rw [if_neg (fun w=>c2 (c.trans w))]; exact e1⟩
   . rw [if_neg (by rw [decide_eq_false c]; decide)]
     refine ⟨fun q hq=>?_,fun y=>?_⟩
     . rcases xG.mp hq with rfl | hq
       . exact ⟨⟨z,hz⟩,_,hd⟩
       . exact i1 q hq
     . unfold Ur F1
       rw [yN,yN,hz,W0];by_cases c2:z=y
       . rw [decide_eq_true c2]
         exact ⟨ds0,by rw [show (some p:Option (xC×xC)).map (·.2)=some p.2 from rfl,hd]; rfl,by rw [if_neg (fun w=>c (c2.trans w.symm)),show (some p:Option (xC×xC)).map (·.2)=some p.2 from rfl,hd]; rfl⟩
       . rw [decide_eq_false c2]
         exact i2 y
theorem Dt (x:Option (IdP×Nat)):nkD (anD x)=true:=by
 cases x with
 | none=>rfl
 | some s=>simp [anD,nkD,Hf,isK,zR,zW]
theorem wA {L:List Dp} {B:List Ad} (h:Adds L B) (hp:∀ a∈B,0 < a.w.length) (bk:xC):∀ (kvs:Kvs),nJ kvs->∃ out,Qy [.sh bk,.un,.un] 2 (B8 (b2 (B5 (A1 (A0 2) A6) F3) (vC (.int 0)) (Bl .Gt))) (b2 (A0 2) (vC (.int 2)) dIx) (A0 2) (L.map (·.1)) kvs=.ok out /\
   ∀ y,∃ ds,Ur kvs (anD y)=.list ds/\Ur out (anD y)=.list (ds++(B.filter fun a=>a.b=y).map Ad.d):=by
 induction h with
 | nil =>
   intro kvs g; refine ⟨kvs,rfl,fun y=>?_⟩;obtain ⟨ds,e,_⟩:=(dU g none .none).2 y; exact ⟨ds,e,by simpa using e⟩
 | @add L B a _ ih =>
   intro kvs g; obtain ⟨g1,g2⟩:=dU g a.b a.d; obtain ⟨out,e,k⟩:=ih (fun c hc=>hp c (.tail _ hc)) _ g1;have ha:=hp a (.head _); have gt:Bl .Gt (.int (a.w.length:Int)) (.int 0)=some (.bool true):=by
     show some (CA (decide ((0:Int) < a.w.length)))=_;rw [decide_eq_true (by lia)]
   refine ⟨out,?_,fun y=>?_⟩
   . rw [xL]
     unfold Qy; have e1:(B8 (b2 (B5 (A1 (A0 2) A6) F3) (vC (.int 0)) (Bl .Gt))) ([Sl.sh bk,.un,.un].set 2 (.sh a.d))=.ok true:=by simp_arith [jS,gt]
     have e2:(b2 (A0 2) (vC (.int 2)) dIx) ([Sl.sh bk,.un,.un].set 2 (.sh a.d))=.ok (anD a.b):=by unfold Ad.d; simp_arith [eG]
     rw [e1,e2]; show (if nkD (anD a.b)=true then _ else _)=_;rw [if_pos (Dt _)]; exact e
   . obtain ⟨ds,e3,e4⟩:=g2 y
     obtain ⟨ds',e5,e6⟩:=k y; rw [e4] at e5; cases e5; refine ⟨ds,e3,?_⟩; rw [e6];by_cases c:a.b=y
     . rw [if_pos c,yL,if_pos (by simpa using c)]; simp
     . rw [if_neg c,yL,if_neg (by simpa using c)]
 | @oth L B e k x xs he hk _ ih =>
   intro kvs g; obtain ⟨out,e2,kk⟩:=ih hp kvs g; refine ⟨out,?_,kk⟩; rw [xL]; unfold Qy; have gt:Bl .Gt (.int 0) (.int 0)=some (.bool false):=rfl; have e1:(B8 (b2 (B5 (A1 (A0 2) A6) F3) (vC (.int 0)) (Bl .Gt))) ([Sl.sh bk,.un,.un].set 2 (.sh e.1))=.ok false:=by rw [he]; simp_arith [jR hk,gt]
   rw [e1]; exact e2
theorem iB {L:List Dp} {B:List Ad} (A:BkA L B) (hl:L.length<=11):∃ out,O3 [.tuple (L.map (·.1))]=.ok out/\∀ y,Ur out (anD y)=.list ((B.filter fun a=>a.b=y).map Ad.d):=by
 obtain ⟨out,e,k⟩:=wA A.ad A.bk.pos (.tuple (L.map (·.1))) [] (fun _ h=>nomatch h);refine ⟨out,?_,fun y=>?_⟩
 . unfold O3 Y1 W1 fnW M6 Ed Ch oF Um
   simp only [xL,l9,xU,zT,o8,o7,yD,a8,zE,yF,yG,u9,BJ,Hy,Ej,C4,D5,D1]; rw [if_pos ⟨by rw [xJ]; lia,by decide⟩,e];rfl
 . obtain ⟨ds,e1,e2⟩:=k y
   cases e1; exact e2
noncomputable def Zh:Dn->Out:=(B6 (fF 2 4) (B6 (D2 5 (b2 (A0 4) (vC (.int 0)) dIx)) (B6 (D2 6 (b2 (A0 4) (vC (.int 1)) dIx)) (B6 (D2 7 (D3 (A1 (b2 (A0 5) (vC (.int 1)) dIx) (A1 (A0 6) A6)))) (B6 (Ci 3 (D3 (A1 (A0 7) (A1 (b2 (b2 (A0 5) (vC (.int 3)) dIx) (A0 6) dIx) A6)))) (B6 (sIf (B8 (b2 (b2 (A0 6) (vC (.int 1)) C5) (vFn (A1 (b2 (A0 5) (vC (.int 3)) dIx) A6) M9) (D7 .Lt))) (Ci 2 (D3 (A1 (A0 5) (A1 (b2 (A0 6) (vC (.int 1)) C5) A6)))) E6) (Xc 2 (E8 (fun δ=>((Mp 1 (A0 7) (I0 A6)) δ).bind D5) F2 [] K7 (D3 (A1 (A0 0) (A1 (vC (.int 0)) A6)))))))))))
abbrev wt (u:As):xC:=.tuple [u.1.d,.int (u.2:Int)]
noncomputable def ltr (u:As):Str:=⟨#[u.1.w.cps.toList.getD u.2 0]⟩
abbrev sgA (u:As):xC:=sgD u.1.p (u.2:Int)
abbrev tl (u:As):xC:=.tuple [sgA u,.str (ltr u)]
theorem Zy (x:Str):x.length=x.cps.toList.length:=by unfold Str.length; simp
theorem vM {u:As} (h:u.2 < u.1.w.length):dIx (.str u.1.w) (.int (u.2:Int))=some (.str (ltr u)):=by
 have h':u.2 < u.1.w.cps.toList.length:=by rw [<- Zy]; exact h
 show (atI u.1.w.cps.toList (u.2:Int)).map _=_;rw [K5 h'];unfold ltr;rw [HQ,yW h'];rfl
theorem oE {i j:Nat} {δ:Dn} {W:List xC} {d:xC} (h:δ[i]? = some (.ow (.list (W++[d])))) (hij:i≠j):fF i j δ=.nx ((δ.set i (.ow (.list W))).set j (.sh d)):=by
 unfold fF;rw [h];simp [hij]
theorem Fk {i:Nat} {δ:Dn} {f:Dn->Res xC} {W:List xC} {d:xC} (h:δ[i]? = some (.ow (.list W))) (hf:f δ=.ok d) (hl:W.length<=1000):Ci i f δ=.nx (δ.set i (.ow (.list (W++[d])))):=by
 unfold Ci;rw [h];show M5 (f δ) _=_;rw [hf,D1,if_pos (DB hl (by decide))]
theorem bX {i:Nat} {δ:Dn} {f:Dn->Res (List xC)} {W ds:List xC} (h:δ[i]? = some (.ow (.list W))) (hf:f δ=.ok ds) (hl:W.length+ds.length<=1000):Xc i f δ=.nx (δ.set i (.ow (.list (W++ds)))):=by
 unfold Xc;rw [h];show M5 (f δ) _=_;rw [hf,D1,if_pos (yA hl (by decide))]
theorem dG (δc:Dn):∀ ds:List Ad,C8 F2 δc K7 (D3 (A1 (A0 0) (A1 (vC (.int 0)) A6))) (ds.map Ad.d)=.ok (ds.map fun a=>wt (a,0))
 | ds=>Jd Ad.d (fun a=>wt (a,0)) (fun a=>by simp_arith; rfl) ds
theorem Run.len {B:List Ad} {st out:List As} (h:Run B st out):st.length<=out.length:=by
 induction h with
 | nil=>exact xN _
 | step _ ih=>simp only [yB,xU] at ih ⊢; lia
theorem qC (B:List Ad) (u:As):(He B u).map wt=((B.filter fun a=>a.b=some (sgn u)).map fun a=>wt (a,0)):=by
 unfold He;rw [i6]; rfl
theorem nX {B:List Ad} {b:xC} {kvs:Kvs} (hk:∀ y,Ur kvs (anD y)=.list ((B.filter fun a=>a.b=y).map Ad.d)) {u:As} (hu:u.2 < u.1.w.length) (W T:List xC) (hl:W.length+1+(He B u).length<=900) (hT:T.length<=900) (s4 s5 s6 s7:Sl) :
   ∃ t4 t5 t6 t7,Zh [.sh b,.ow (.tuple [.dict kvs,.none]),.ow (.list (W++[wt u])),.ow (.list T),s4,s5,s6,s7]=.nx [.sh b,.ow (.tuple [.dict kvs,.none]),.ow (.list (W++(nxt u).map wt++(He B u).map wt)),.ow (.list (T++[tl u])),t4,t5,t6,t7]:=by
 refine ⟨.sh (wt u),.sh u.1.d,.sh (.int u.2),.sh (sgA u),?_⟩;unfold Zh;rw [B2 (oE (W:=W) rfl (by decide))];simp only [yF,yG];rw [B2 (C6 (d:=u.1.d) (by simp_arith [X3]))];simp only [yF,yG];rw [B2 (C6 (d:=.int (u.2:Int)) (by simp_arith [Ef]))];simp only [yF,yG];rw [B2 (C6 (d:=sgA u) (by unfold Ad.d; simp_arith [Ef]))];simp only [yF,yG];rw [B2 (Fk (W:=T) (d:=tl u) rfl (by unfold Ad.d; simp_arith [iS,vM hu]) (by lia))];simp only [yF,yG];have hif : sIf (B8 (b2 (b2 (A0 6) (vC (.int 1)) C5) (vFn (A1 (b2 (A0 5) (vC (.int 3)) dIx) A6) M9) (D7 .Lt))) (Ci 2 (D3 (A1 (A0 5) (A1 (b2 (A0 6) (vC (.int 1)) C5) A6)))) E6 [.sh b, .ow (.tuple [.dict kvs, .none]), .ow (.list W), .ow (.list (T ++ [tl u])), .sh (wt u), .sh u.1.d, .sh (.int u.2), .sh (sgA u)]
     = .nx [.sh b,.ow (.tuple [.dict kvs,.none]),.ow (.list (W++(nxt u).map wt)),.ow (.list (T++[tl u])),.sh (wt u),.sh u.1.d,.sh (.int u.2),.sh (sgA u)]:=by
   unfold nxt;by_cases c:u.2+1 < u.1.w.length
   . rw [if_pos c,W5 (by unfold Ad.d; simp_arith [iS,Qx,Q7,gB (show (u.2:Int)+1 < (u.1.w.length:Int) by lia)])]
     rw [Fk (W:=W) (d:=wt (u.1,u.2+1)) rfl (by simp_arith [Q7]; rfl) (by lia)];rfl
   . rw [if_neg c,O6 (by unfold Ad.d; simp_arith [iS,Qx,Q7,gC (show ¬ (u.2:Int)+1 < (u.1.w.length:Int) by lia)])]
     simp [E6]
 rw [B2 hif];have hnl:(nxt u).length<=1:=by unfold nxt; split <;> simp
 have hgl:(B.filter fun a=>a.b=some (sgn u)).length=(He B u).length:=by unfold He; rw [xJ]
 have hget:(fun δ=>((Mp 1 (A0 7) (I0 A6)) δ).bind D5) [.sh b,.ow (.tuple [.dict kvs,.none]),.ow (.list (W++(nxt u).map wt)),.ow (.list (T++[tl u])),.sh (wt u),.sh u.1.d,.sh (.int u.2),.sh (sgA u)]=.ok ((B.filter fun a=>a.b=some (sgn u)).map Ad.d):=by
   refine E1 (d:=.list ((B.filter fun a=>a.b=some (sgn u)).map Ad.d)) ?_ rfl;rw [<- hk (some (sgn u))]; show (if nkD (anD (some (sgn u)))=true then Res.ok ((F1 kvs (anD (some (sgn u)))).getD (.list [])) else Res.no)=_;rw [if_pos (Dt (some (sgn u)))]; rfl
 rw [bX (W:=W++(nxt u).map wt) (ds:=(He B u).map wt) rfl (E9 hget (by rw [xJ,hgl]; lia) rfl (by rw [qC]; exact dG _ _)) (by simp only [yB,xJ]; lia)];rfl
theorem iF {B:List Ad} {b:xC} {kvs:Kvs} (hk:∀ y,Ur kvs (anD y)=.list ((B.filter fun a=>a.b=y).map Ad.d)) {st out:List As} (h:Run B st out):(∀ u∈out,u.2 < u.1.w.length)->∀ (n:Nat) (T:List xC) (s4 s5 s6 s7:Sl),out.length < n->T.length+out.length<=800 ->
   ∃ t4 t5 t6 t7,En (Ze 2) Zh n [.sh b,.ow (.tuple [.dict kvs,.none]),.ow (.list (st.reverse.map wt)),.ow (.list T),s4,s5,s6,s7]=.nx [.sh b,.ow (.tuple [.dict kvs,.none]),.ow (.list []),.ow (.list (T++out.map tl)),t4,t5,t6,t7]:=by
 induction h with
 | nil =>
   intro _ n T s4 s5 s6 s7 hn _;cases n with
   | zero=>cases hn
   | succ n =>
     refine ⟨s4,s5,s6,s7,?_⟩; unfold En; rw [show Ze 2 [Sl.sh b,.ow (.tuple [.dict kvs,.none]),.ow (.list (([]:List As).reverse.map wt)),.ow (.list T),s4,s5,s6,s7]=.ok false from rfl,D1,if_neg (by decide)];simp
 | @step u st out h ih =>
   intro hu n T s4 s5 s6 s7 hn hT; have hlen:=h.len; simp only [yB,FM,xU] at hlen hn hT;cases n with
   | zero=>cases hn
   | succ n =>
     have e1:(u::st).reverse.map wt=st.reverse.map wt++[wt u]:=by rw [List.reverse_cons,yV]; rfl
     rw [e1]; obtain ⟨a4,a5,a6,a7,e2⟩:=nX (b:=b) hk (hu u (.head _)) (st.reverse.map wt) T (by rw [xJ,FM]; lia) (by lia) s4 s5 s6 s7;have e3:(st.reverse.map wt++(nxt u).map wt++(He B u).map wt)=((He B u).reverse++(nxt u++st)).reverse.map wt:=by
       have hr:(nxt u).reverse=nxt u:=by unfold nxt; split <;> rfl
       rw [AS,AS,JQ,hr,yV,yV]
     rw [e3] at e2; obtain ⟨t4,t5,t6,t7,e4⟩:=ih (fun v hv=>hu v (.tail _ hv)) n (T++[tl u]) a4 a5 a6 a7 (by lia) (by rw [yB]; simp; lia);refine ⟨t4,t5,t6,t7,?_⟩; unfold En; have ec:Ze 2 [Sl.sh b,.ow (.tuple [.dict kvs,.none]),.ow (.list (st.reverse.map wt++[wt u])),.ow (.list T),s4,s5,s6,s7]=.ok true:=by
       show Res.ok (!(st.reverse.map wt++[wt u]).isEmpty)=_;simp
     rw [ec,D1,if_pos rfl,e2]; show En (Ze 2) Zh n _=_;rw [e4,zU]; rfl
theorem oA {B:List Ad} (h:∀ a∈B,Zo a.w):(sgs B).length<=4*B.length:=by
 unfold sgs;induction B with
 | nil=>exact xN _
 | cons a B ih =>
   rw [List.flatMap_cons,yB,xU]; have:=ih fun c hc=>h c (.tail _ hc);have h2:=(h a (.head _)).2.1; have h3:(blk a).length=a.w.length:=by unfold blk; simp
   lia
theorem Dj {L:List Dp} {B:List Ad} (A:BkA L B):(ord B).length<=4*L.length:=by
 have h1:=(kQ A.bk).length_eq;have h2:=oA A.wd;have h3:=A.len;lia
theorem Ws {L:List Dp} {B:List Ad} (A:BkA L B) (hl:L.length<=11):V5 [.tuple (L.map (·.1))]=.ok (.list ((ord B).map tl)):=by
 obtain ⟨kvs,e1,hk⟩:=iB A hl;have hol:=Dj A;unfold V5 De N6;refine U4 ?_;unfold M6;simp only [xL,l9,xU,zT,o8,o7,yD,a8,zE];rw [B2 (δ':=[.sh (.tuple (L.map (·.1))),.ow (.tuple [.dict kvs,.none]),.un,.un,.un,.un,.un,.un]) (by unfold Bw Eb Hw; simp_arith [e1])];have hrl:(Lc B).length<=44:=by
   have:=(bZ A.bk).len; rw [FM] at this;lia
 have hgl:(B.filter fun a=>a.b=none).length=(Lc B).length:=by unfold Lc; rw [xJ]
 have hget:(fun δ=>((Mp 1 (vC .none) (I0 A6)) δ).bind D5) [.sh (.tuple (L.map (·.1))),.ow (.tuple [.dict kvs,.none]),.un,.un,.un,.un,.un,.un]=.ok ((B.filter fun a=>a.b=none).map Ad.d):=by
   refine E1 (d:=.list ((B.filter fun a=>a.b=none).map Ad.d)) ?_ rfl;rw [<- hk none]; rfl
 rw [B2 (δ':=[.sh (.tuple (L.map (·.1))),.ow (.tuple [.dict kvs,.none]),.ow (.list (((Lc B).reverse).reverse.map wt)),.un,.un,.un,.un,.un]) (by
   unfold Bv Iq; rw [E9 hget (by rw [xJ,hgl]; lia) rfl (dG _ _),D1,JQ];unfold Lc; rw [i6]; rfl)]
 rw [B2 (δ':=[.sh (.tuple (L.map (·.1))),.ow (.tuple [.dict kvs,.none]),.ow (.list (((Lc B).reverse).reverse.map wt)),.ow (.list []),.un,.un,.un,.un]) (by rfl)];obtain ⟨t4,t5,t6,t7,e2⟩:=iF (b:=.tuple (L.map (·.1))) hk (bZ A.bk) (fun u hu=>((Di A.bk u).mp hu).2) 4096 [] .un .un .un .un (by lia) (by simp; lia);rw [zE] at e2;have e3:Bu=En (Ze 2) Zh 4096:=rfl;rw [e3,B2 e2];rfl
noncomputable def Tf:Dn->Out:=(sIf (O0 (B8 (b2 (b2 (A0 2) (vC (.int 0)) dIx) (vC (.str "undo")) dEq)) (B8 (Y7 true 1 (b2 (A0 2) (vC (.int 1)) dIx)))) (W4 1 (b2 (A0 2) (vC (.int 2)) dIx) (vC (.bool true))) E6)
noncomputable def Kj:Dn->Out:=(sIf (O0 (B8 (b2 (b2 (A0 3) (vC (.int 0)) dIx) (vC (.str "drop")) dEq)) (B8 (Y7 true 1 (b2 (A0 3) (vC (.int 1)) dIx)))) (M8 (fun δ=>((b2 (A0 3) (vC (.int 2)) dIx) δ).bind D5) (st1 4) (W4 2 (A0 4) (vC (.bool true)))) E6)
abbrev sgO (s:IdP×Nat):xC:=anD (some s)
inductive Kd (e:Dp):Prop where
 | drop (ss:List (IdP×Nat)):e.1=.tuple [.str "drop",idP e.2,.tuple (ss.map sgO)]->ss.length<=60->Kd e
 | undo (q:IdP):e.1=.tuple [.str "undo",idP e.2,idP q]->Kd e
 | oth (k:Str) (x:xC) (xs:List xC):e.1=.tuple (.str k::idP e.2::x::xs)->k ≠ "drop" -> k ≠ "undo" -> Kd e
theorem Wu {T:Int} {D:List xC}:∀ (sg:List xC),(∀ x∈sg,SgOf T D x)->∃ ss:List (IdP×Nat),sg=ss.map sgO
 | [],_=>⟨[],rfl⟩
 | x::sg,h=>by
   obtain ⟨ss,e⟩:=Wu sg fun y hy=>h y (.tail _ hy);obtain ⟨p,b,w,n,_,e1,_⟩:=h x (.head _); exact ⟨(p,n)::ss,by rw [xL,<- e,e1]; rfl⟩
theorem WfIn.kd {L:List Dp} {e:Dp} (h:WfIn L e):Kd e:=by
 obtain ⟨o,r⟩:=(show Wf _ _ _ _ from h);rcases r with ⟨b,w,e1,_⟩ | ⟨sg,e1,hs,hl,_⟩ | ⟨n,s1,x1,s2,x2,e1,_⟩ | ⟨n,e1,_⟩ | ⟨q,e1,_⟩
 . exact .oth "add" _ _ e1 (by decide) (by decide)
 . obtain ⟨ss,rfl⟩:=Wu sg hs
   exact .drop ss e1 (by simpa using hl)
 . exact .oth "mark" _ _ e1 (by decide) (by decide)
 . exact .oth "unmark" _ _ e1 (by decide) (by decide)
 . exact .undo q e1
theorem Kd.id {e:Dp} (h:Kd e):∃ k x xs,e.1=.tuple (.str k::idP e.2::x::xs):=by
 cases h with
 | drop ss h _=>exact ⟨_,_,_,h⟩
 | undo q h=>exact ⟨_,_,_,h⟩
 | oth k x xs h _ _=>exact ⟨_,_,_,h⟩
abbrev oN (kvs:Kvs):Sl:=.ow (.tuple [.dict kvs,.none])
abbrev fN (kvs:Kvs):Sl:=.fd ((.dict [],.none)::kvs)
theorem Ia {b:Bool} {i:Nat} {f:Dn->Res xC} {δ:Dn} {kvs:Kvs} {kd:xC} (h:kvN δ i=some kvs) (hf:f δ=.ok kd) (hk:nkD kd=true):Y7 b i f δ=.ok (.bool ((F1 kvs kd).isSome != b)):=by
 unfold Y7;rw [hf,C4,h];show (if nkD kd=true then _ else _)=_;rw [if_pos hk]
theorem Oz (p:IdP):nkD (idP p)=true:=by simp [nkD,Hf,isK,zR,zW]
theorem Em {i:Nat} {fk fv:Dn->Res xC} {δ:Dn} {kvs:Kvs} {kd v:xC} (h:δ[i]? = some (oN kvs)) (hv:fv δ=.ok v) (hk:fk δ=.ok kd) (hn:nkD kd=true) (hl:kvs.length<=1000):W4 i fk fv δ=.nx (δ.set i (oN (N4 kvs kd v))):=by
 unfold W4;rw [h];show M5 (fv δ) _=_;rw [hv,D1,hk,D1,if_pos ⟨hn,DB hl (by decide)⟩]
theorem Dz {x y:Str} (h:x≠y):(x==y)=false:=beq_eq_false_iff_ne.mpr h
theorem Ig (x:Str):(x==x)=true:=beq_self_eq_true x
abbrev has (kvs:Kvs) (y:Option (IdP×Nat)):Bool:=(F1 kvs (anD y)).isSome
abbrev Jf (kvs:Kvs):Prop:=∀ p∈kvs,∃ x,p.1=anD x
theorem kC {kvs:Kvs} (h:Jf kvs) (x:Option (IdP×Nat)) (v:xC):Jf (N4 kvs (anD x) v)/\∀ y,has (N4 kvs (anD x) v) y=(decide (x=y)||has kvs y):=by
 induction kvs with
 | nil =>
   refine ⟨fun p hp=>?_,fun y=>?_⟩
   . rw [xS.mp hp]; exact ⟨x,rfl⟩
   . show ((HR (fun p=>xX p.1 (anD y)) [(anD x,v)]).map (·.2)).isSome=_
     rw [yN,W0];cases decide (x=y) <;> rfl
 | cons p r ih =>
   obtain ⟨z,hz⟩:=h p (.head _); obtain ⟨i1,i2⟩:=ih fun q hq=>h q (.tail _ hq);unfold N4; rw [hz,W0];by_cases c:z=x
   . rw [if_pos (decide_eq_true c)]
     refine ⟨fun q hq=>?_,fun y=>?_⟩
     . rcases xG.mp hq with rfl | hq
       . exact ⟨z,rfl⟩
       . exact h q (.tail _ hq)
     . unfold has F1
       rw [yN,yN,hz,W0,c];cases decide (x=y) <;> rfl
   . rw [if_neg (by rw [decide_eq_false c]; decide)]
     refine ⟨fun q hq=>?_,fun y=>?_⟩
     . rcases xG.mp hq with rfl | hq
       . exact ⟨z,hz⟩
       . exact i1 q hq
     . unfold has F1
       rw [yN,yN,hz,W0];cases hd:decide (z=y) with
       | true=>simp
       | false=>exact i2 y
noncomputable def Et (un:IdP->Bool) (e:Dp) (s:IdP×Nat):Bool:=match e.1 with
 | .tuple (.str k::_::.tuple xs::_)=>(k == "drop")&&(!un e.2)&&(xs.any fun y=>xX y (sgO s))
 | _=>false
theorem Sx {un:IdP->Bool} {e:Dp} {s:IdP×Nat} {k:Str} {i x:xC} {xs:List xC} (h:e.1=.tuple (.str k::i::x::xs)) (hk:k ≠ "drop"):Et un e s=false:=by
 unfold Et;rw [h];split
 . rename_i heq
   injection heq with heq
   injection heq with h1 _
   injection h1 with h1
   rw [<- h1,Dz hk]; rfl
 . rfl
theorem Xj (b:xC) (ku:Kvs) (s3:Sl):∀ (ss:List (IdP×Nat)) (kvs:Kvs) (s4:Sl),Jf kvs->kvs.length+ss.length<=900->∃ kvs' s4',Jf kvs'/\kvs'.length<=kvs.length+ss.length/\(∀ y,has kvs' y=(has kvs y||ss.any fun s=>decide (some s=y))) /\
   E2 (st1 4) (W4 2 (A0 4) (vC (.bool true))) (ss.map sgO) [.sh b,fN ku,oN kvs,s3,s4]=.nx [.sh b,fN ku,oN kvs',s3,s4']
 | [],kvs,s4,hk,_=>⟨kvs,s4,hk,by simp,fun y=>by simp,rfl⟩
 | s::ss,kvs,s4,hk,hl=>by
   rw [xU] at hl; obtain ⟨g1,g2⟩:=kC hk (some s) (.bool true); have l1:=Eo (k:=sgO s) (v:=CA true) kvs; obtain ⟨kvs',s4',k1,k2,k3,k4⟩:=Xj b ku s3 ss (N4 kvs (sgO s) (.bool true)) (.sh (sgO s)) g1 (by lia);refine ⟨kvs',s4',k1,by rw [xU]; lia,fun y=>?_,?_⟩
   . rw [k3,g2,DR]
     cases decide (some s=y) <;> simp
   . rw [xL]
     unfold E2; simp only [st1,yF,yG]; rw [Em (kd:=sgO s) (v:=.bool true) rfl rfl rfl (Dt _) (by lia)]; exact k4
theorem mJ {e:Dp} (h:Kd e) (b:xC) (ku kvs:Kvs) (s4:Sl) (hk:Jf kvs) (hl:kvs.length<=800):∃ kvs' s4',Jf kvs'/\kvs'.length<=kvs.length+60/\(∀ s,has kvs' (some s)=(has kvs (some s)||Et (fun p=>(F1 ku (idP p)).isSome) e s)) /\
   Kj [.sh b,fN ku,oN kvs,.sh e.1,s4]=.nx [.sh b,fN ku,oN kvs',.sh e.1,s4']:=by
 have no : ∀ k x xs, e.1 = .tuple (.str k :: idP e.2 :: x :: xs) -> k ≠ "drop" -> ∃ kvs' s4', Jf kvs' /\ kvs'.length <= kvs.length + 60 /\ (∀ s, has kvs' (some s) = (has kvs (some s) || Et (fun p => (F1 ku (idP p)).isSome) e s)) /\
     Kj [.sh b,fN ku,oN kvs,.sh e.1,s4]=.nx [.sh b,fN ku,oN kvs',.sh e.1,s4']:=fun k x xs e1 hn=>by
   refine ⟨kvs,s4,hk,by lia,fun s=>by rw [Sx e1 hn,DV],?_⟩;unfold Kj; rw [O6 (Fa (by rw [e1]; simp_arith [X3,Ft,Dz hn]))];rfl
 cases h with
 | undo q h=>exact no _ _ _ h (by decide)
 | oth k x xs h h1 _=>exact no _ _ _ h h1
 | drop ss h hss =>
   have c1:(B8 (b2 (b2 (A0 3) (vC (.int 0)) dIx) (vC (.str "drop")) dEq)) [.sh b,fN ku,oN kvs,.sh e.1,s4]=.ok true:=by rw [h]; simp_arith [X3,Ft,Ig]
   have c2:(B8 (Y7 true 1 (b2 (A0 3) (vC (.int 1)) dIx))) [.sh b,fN ku,oN kvs,.sh e.1,s4]=.ok ((F1 ku (idP e.2)).isSome != true):=by
     refine C0 (Ia rfl ?_ (Oz e.2)); rw [h]; simp_arith [Ef]
   have hd:∀ s,Et (fun p=>(F1 ku (idP p)).isSome) e s=(!(F1 ku (idP e.2)).isSome&&ss.any fun t=>decide (some t=some s)):=fun s=>by
     unfold Et; rw [h]; show (("drop" : Str) == "drop" && (!(F1 ku (idP e.2)).isSome)&&((ss.map sgO).any fun y=>xX y (sgO s)))=_;rw [Ig,Bool.true_and,IT];congr 1;congr 1;funext t;exact W0 _ _
   unfold Kj;cases c:(F1 ku (idP e.2)).isSome with
   | true =>
     rw [c] at c2 hd; rw [O6 (Z4 c1 c2)]; exact ⟨kvs,s4,hk,by lia,fun s=>by rw [hd]; simp,rfl⟩
   | false =>
     rw [c] at c2 hd; obtain ⟨kvs',s4',k1,k2,k3,k4⟩:=Xj b ku (.sh e.1) ss kvs s4 hk (by lia);refine ⟨kvs',s4',k1,by lia,fun s=>by rw [k3,hd]; simp,?_⟩;rw [W5 (Ds c1 c2)]; unfold M8; rw [E1 (d:=.tuple (ss.map sgO)) (ds:=ss.map sgO) (by rw [h]; simp_arith [eG]) rfl,D1];exact k4
theorem Yo (b:xC) (ku:Kvs):∀ (ds:List Dp),(∀ e∈ds,Kd e)->∀ (kvs:Kvs) (s3 s4:Sl),Jf kvs->kvs.length+60*ds.length<=800->∃ kvs' s3' s4',Jf kvs'/\(∀ s,has kvs' (some s)=(has kvs (some s)||ds.any fun e=>Et (fun p=>(F1 ku (idP p)).isSome) e s)) /\
   E2 (st1 3) Kj (ds.map (·.1)) [.sh b,fN ku,oN kvs,s3,s4]=.nx [.sh b,fN ku,oN kvs',s3',s4']
 | [],_,kvs,s3,s4,hk,_=>⟨kvs,s3,s4,hk,fun s=>by simp,rfl⟩
 | e::ds,h,kvs,s3,s4,hk,hl=>by
   rw [xU] at hl; obtain ⟨kvs1,t4,g1,g2,g3,g4⟩:=mJ (h e (.head _)) b ku kvs s4 hk (by lia);obtain ⟨kvs2,u3,u4,k1,k2,k3⟩:=Yo b ku ds (fun d hd=>h d (.tail _ hd)) kvs1 (.sh e.1) t4 g1 (by lia);refine ⟨kvs2,u3,u4,k1,fun s=>by rw [k2,g3,DR,Bool.or_assoc],?_⟩;rw [xL]; unfold E2; simp only [st1,yF,yG]; rw [g4]; exact k3
theorem wG {L:List Dp} (h:∀ e∈L,Kd e) (hl:L.length<=11) (ku:Kvs):∃ kd,K9 [.sh (.tuple (L.map (·.1))),fN ku]=.ok kd/\∀ s,has kd (some s)=L.any fun e=>Et (fun p=>(F1 ku (idP p)).isSome) e s:=by
 obtain ⟨kd,s3,s4,k1,k2,k3⟩:=Yo (.tuple (L.map (·.1))) ku L h [] .un .un (fun _ h=>nomatch h) (by simp; lia);refine ⟨kd,?_,fun s=>by rw [k2]; rfl⟩;unfold K9 Av Z5 qM Dd Ed Ch M8 Um;simp only [xU,zT,o8,o7,yD,a8,zE,yF,yG,Hy,u9,Ej,C4,D5,D1];have k3':=k3;unfold Kj at k3';unfold M8 at k3';rw [k3'];rfl
noncomputable def dO:Dn->Out:=(Ci 3 (D3 (A1 (A0 4) (A1 (Vo (Y7 true 1 (b2 (b2 (A0 4) (vC (.int 0)) dIx) (vC (.int 0)) dIx)) (Y7 true 2 (b2 (A0 4) (vC (.int 0)) dIx))) A6))))
abbrev bkD (L:List Dp):xC:=.tuple (L.map (·.1))
structure Pr (L:List Dp) (ku kd:Kvs):Prop where
 u:I9 [bkD L]=.ok ku
 d:K9 [.sh (bkD L),fN ku]=.ok kd
 h:∀ s,has kd (some s)=L.any fun e=>Et (fun p=>(F1 ku (idP p)).isSome) e s
noncomputable def un (ku:Kvs) (p:IdP):Bool:=(F1 ku (idP p)).isSome
noncomputable def E4 (ku kd:Kvs) (u:As):Bool := !(un ku u.1.p) && !(has kd (some (sgn u)))
theorem bne_true (b:Bool):(b != true) = !b:=by cases b <;> rfl
theorem Me {f g:Dn->Res xC} {δ:Dn} {a b:Bool} (h1:f δ=.ok (.bool a)) (h2:g δ=.ok (.bool b)):Vo f g δ=.ok (.bool (a&&b)):=by
 unfold Vo;rw [h1,C4];cases a with
 | true=>exact h2
 | false=>rfl
theorem Sa (b:xC) (ku kd:Kvs):∀ (us:List As) (T:List xC) (s4:Sl),T.length+us.length<=800->∃ s4',E2 (st1 4) dO (us.map tl) [.sh b,fN ku,oN kd,.ow (.list T),s4]=.nx [.sh b,fN ku,oN kd,.ow (.list (T++us.map fun u=>.tuple [tl u,.bool (E4 ku kd u)])),s4']
 | [],T,s4,_=>⟨s4,by simp [E2]⟩
 | u::us,T,s4,hl=>by
   rw [xU] at hl; obtain ⟨s4',e⟩:=Sa b ku kd us (T++[.tuple [tl u,.bool (E4 ku kd u)]]) (.sh (tl u)) (by simp; lia);refine ⟨s4',?_⟩; rw [xL]; unfold E2; simp only [st1,yF,yG]; have e1:(Y7 true 1 (b2 (b2 (A0 4) (vC (.int 0)) dIx) (vC (.int 0)) dIx)) [.sh b,fN ku,oN kd,.ow (.list T),.sh (tl u)]=.ok (.bool (!(un ku u.1.p))):=by
     rw [Ia (kvs:=ku) (kd:=idP u.1.p) rfl (by simp_arith [X3]) (Oz _),bne_true]; rfl
   have e2:(Y7 true 2 (b2 (A0 4) (vC (.int 0)) dIx)) [.sh b,fN ku,oN kd,.ow (.list T),.sh (tl u)]=.ok (.bool (!(has kd (some (sgn u))))):=by
     rw [Ia (kvs:=kd) (kd:=sgA u) rfl (by simp_arith [X3]) (Dt (some (sgn u))),bne_true]; rfl
   have e3:dO [.sh b,fN ku,oN kd,.ow (.list T),.sh (tl u)]=.nx [.sh b,fN ku,oN kd,.ow (.list (T++[.tuple [tl u,.bool (E4 ku kd u)]])),.sh (tl u)]:=by
     unfold dO; exact Fk rfl (M3 (A5 (d:=tl u) (by simp_arith) (A5 (Me e1 e2) rfl))) (by lia)
   rw [e3]; show E2 (st1 4) dO (us.map tl) _=_;rw [e,zU]; rfl
theorem cF {L:List Dp} {B:List Ad} (A:BkA L B) (hl:L.length<=11) {ku kd:Kvs} (P:Pr L ku kd):J2 [bkD L]=.ok (.list ((ord B).map fun u=>.tuple [tl u,.bool (E4 ku kd u)])):=by
 have hol:=Dj A;obtain ⟨s4,e⟩:=Sa (bkD L) ku kd (ord B) [] .un (by simp; lia);unfold J2 Y0 F7;refine U4 ?_;unfold M6;simp only [xL,l9,xU,zT,o8,o7,yD,a8,zE];rw [B2 (δ':=[.sh (bkD L),oN ku,.un,.un,.un]) (by unfold V3 Eb Hw; simp_arith [P.u])];rw [B2 (δ':=[.sh (bkD L),fN ku,oN kd,.un,.un]) (by
   unfold V2 jV Eb Tn; show M5 (Res.bind (Res.ok (bkD L)) fun d=>K9 [.sh d,fN ku]) _=_;rw [C4,P.d]; rfl)]
 rw [B2 (δ':=[.sh (bkD L),fN ku,oN kd,.ow (.list []),.un]) (by rfl)];rw [zE] at e;have e3:P3 [.sh (bkD L),fN ku,oN kd,.ow (.list []),.un]=.nx [.sh (bkD L),fN ku,oN kd,.ow (.list ((ord B).map fun u=>.tuple [tl u,.bool (E4 ku kd u)])),s4]:=by
   unfold P3 M8; rw [E1 (d:=.list ((ord B).map tl)) (ds:=(ord B).map tl) (by simp_arith [Ws A hl]) rfl,D1];exact e
 rw [B2 e3];rfl
theorem Z0 {α:Type} {δc:Dn} {tt:Dn->Res Bool} {el:Dn->Res xC} (g h:α->xC) (f:α->Bool):∀ xs:List α,(∀ x∈xs,tt ([.sh (g x)]++δc)=.ok (f x))->(∀ x∈xs,el ([.sh (g x)]++δc)=.ok (h x))->C8 F2 δc tt el (xs.map g)=.ok ((xs.filter f).map h)
 | [],_,_=>rfl
 | x::xs,ht,he=>by
   have ih:=Z0 g h f xs (fun y hy=>ht y (.tail _ hy)) fun y hy=>he y (.tail _ hy);have h1:=ht x (.head _); have h2:=he x (.head _); rw [xL]; unfold C8;cases c:f x with
   | true =>
     rw [c] at h1; simp only [F2,h1,h2,ih]; rw [yL,c,if_pos rfl,xL]
   | false =>
     rw [c] at h1; simp only [F2,h1,ih]; rw [yL,c,if_neg (by decide)]
theorem Wt {L:List Dp} {B:List Ad} (A:BkA L B) (hl:L.length<=11) {ku kd:Kvs} (P:Pr L ku kd):N5 [bkD L]=.ok (.list (((ord B).filter (E4 ku kd)).map tl)):=by
 have hol:=Dj A;have hp:=cF A hl P;unfold N5 Df Du;refine U4 (K4 (P2 (E9 (E1 (d:=.list ((ord B).map fun u=>.tuple [tl u,.bool (E4 ku kd u)])) (by simp_arith [hp]) rfl) (by simp; lia) rfl ?_)));exact Z0 (fun u=>.tuple [tl u,.bool (E4 ku kd u)]) tl (E4 ku kd) (ord B) (fun u _=>by
   unfold Cv; exact C0 (by simp_arith [Ef])) fun u _=>by unfold Cv; simp_arith [X3]
theorem lO {u:As} (hw:Zo u.1.w) (h:u.2 < u.1.w.length):(ltr u).length=1/\yP (ltr u)=true/\chOk 32 126 (ltr u):=by
 have h':u.2 < u.1.w.cps.toList.length:=by rw [<- Zy]; exact h
 have hc:=hw.2.2 _ (AN h');have e:u.1.w.cps.toList.getD u.2 0=u.1.w.cps.toList[u.2]:=by rw [HQ,yW h']; rfl
 refine ⟨rfl,?_,?_⟩
 . unfold ltr
   rw [e];generalize u.1.w.cps.toList[u.2]=c at hc;unfold yP; simp;lia
 . unfold ltr
   rw [e]; exact .one hc
theorem Gw {α:Type} (f:α->Str):∀ us:List α,Cb (us.map fun u=>zM (f u))=some (us.map f)
 | []=>rfl
 | u::us=>by
   show (Cb (us.map fun u=>zM (f u))).map _=_;rw [Gw f us]; rfl
theorem lS {us:List As} (h:∀ u∈us,Zo u.1.w/\u.2 < u.1.w.length) (hl:us.length<=100):Le "" (.list (us.map fun u=>zM (ltr u)))=some (.str (k9 "" (us.map ltr))):=by
 have hx:∀ x∈us.map ltr,x.length=1/\yP x=true/\chOk 32 126 x:=fun x hx=>by
   obtain ⟨u,hu,rfl⟩:=yH.mp hx; exact lO (h u hu).1 (h u hu).2
 obtain ⟨l1,o1,_⟩:=Jy _ hx;have s1:=Mt _ hx;rw [xJ] at l1 s1;show (Cb (us.map fun u=>zM (ltr u))).bind _=_;rw [Gw ltr us];show (if _ then _ else _)=_;have:(("" : Str)).length=0:=rfl;rw [if_pos ⟨by rw [s1,this]; lia,o1,yA (show _<=1000 by lia) Kr⟩]
theorem nS {L:List Dp} {B:List Ad} (A:BkA L B) (hl:L.length<=11) {ku kd:Kvs} (P:Pr L ku kd):O2 [bkD L]=.ok (.str (k9 "" (((ord B).filter (E4 ku kd)).map ltr))):=by
 have hol:=Dj A;have hf:=BY (E4 ku kd) (ord B);have hs:=Wt A hl P;have hj:=lS (us:=(ord B).filter (E4 ku kd)) (fun u hu=>by
   have:=(Di A.bk u).mp (j4.mp hu).1; exact ⟨A.wd _ this.1,this.2⟩) (by lia)
 have hc:E8 (fun δ=>((B5 (A1 (A0 0) A6) N5) δ).bind D5) F2 [] K7 (b2 (A0 0) (vC (.int 1)) dIx) [.sh (bkD L)]=.ok (((ord B).filter (E4 ku kd)).map fun u=>zM (ltr u)) :=
   E9 (E1 (d:=.list (((ord B).filter (E4 ku kd)).map tl)) (by simp_arith [hs]) rfl) (by simp; lia) rfl (Jd tl (fun u=>zM (ltr u)) (fun u=>by unfold Cv; simp_arith [Ef]) _)
 unfold O2 Ek Fq;refine U4 (K4 ?_);show (Ko "" _ [.sh (bkD L)])=_;unfold Ko;rw [P2 hc,C4,hj]; rfl
theorem P5 {st:xC->Dn->Option Dn} {body:Dn->Out} {d:xC} {ds:List xC} {δ δ1 δ':Dn} (h1:st d δ=some δ1) (h2:body δ1=.nx δ'):E2 st body (d::ds) δ=E2 st body ds δ':=by
 conv=>lhs; unfold E2
 rw [h1];show (match body δ1 with | .nx δ'=>_ | .ct δ'=>_ | .bk δ'=>_ | o=>_)=_;rw [h2]
theorem qO (p q:IdP):xX (idP p) (idP q)=decide (p=q):=by
 show ((p.1==q.1)&&((p.2==q.2)&&true))=_;rw [l3];simp [Prod.ext_iff]
noncomputable def Gs (d:xC):Option IdP:=match d with
 | .tuple [.str k,_,.tuple [.int t,.str h]]=>if k = "undo" then some (t,h) else none
 | _=>none
theorem Mq {k:Str} {i x:xC} {xs:List xC} (h:k ≠ "undo"):Gs (.tuple (.str k::i::x::xs))=none:=by
 unfold Gs;split
 . rename_i heq
   injection heq with heq
   injection heq with h1 _
   injection h1 with h1
   rw [<- h1,if_neg h]
 . rfl
theorem Kp (i:xC) (q:IdP):Gs (.tuple [.str "undo",i,idP q])=some q:=by
 unfold Gs;exact if_pos rfl
noncomputable def Uj (e:Dp) (o:List IdP):List IdP:=match Gs e.1 with
 | some q=>if e.2∈o then o else o++[q]
 | none=>o
theorem fR {e:Dp} {q:IdP} (h:e.1=.tuple [.str "undo",idP e.2,idP q]) (o:List IdP):Uj e o=if e.2∈o then o else o++[q]:=by
 unfold Uj; rw [h,Kp]
theorem Xq {e:Dp} {k:Str} {i x:xC} {xs:List xC} (h:e.1=.tuple (.str k::i::x::xs)) (hk:k ≠ "undo") (o:List IdP):Uj e o=o:=by
 unfold Uj; rw [h,Mq hk]
noncomputable def fQ:List Dp->List IdP->List IdP
 | [],o=>o
 | e::r,o=>fQ r (Uj e o)
abbrev off (L:List Dp):List IdP:=fQ L.reverse []
abbrev Tm (kvs:Kvs):Prop:=∀ p∈kvs,∃ x:IdP,p.1=idP x
theorem fI {kvs:Kvs} (h:Tm kvs) (x:IdP) (v:xC):Tm (N4 kvs (idP x) v)/\∀ y,un (N4 kvs (idP x) v) y=(decide (x=y)||un kvs y):=by
 induction kvs with
 | nil =>
   refine ⟨fun p hp=>?_,fun y=>?_⟩
   . rw [xS.mp hp]; exact ⟨x,rfl⟩
   . show ((HR (fun p=>xX p.1 (idP y)) [(idP x,v)]).map (·.2)).isSome=_
     rw [yN,qO];cases decide (x=y) <;> rfl
 | cons p r ih =>
   obtain ⟨z,hz⟩:=h p (.head _); obtain ⟨i1,i2⟩:=ih fun q hq=>h q (.tail _ hq);unfold N4; rw [hz,qO];by_cases c:z=x
   . rw [if_pos (decide_eq_true c)]
     refine ⟨fun q hq=>?_,fun y=>?_⟩
     . rcases xG.mp hq with rfl | hq
       . exact ⟨z,rfl⟩
       . exact h q (.tail _ hq)
     . unfold un F1
       rw [yN,yN,hz,qO,c];cases decide (x=y) <;> rfl
   . rw [if_neg (by rw [decide_eq_false c]; decide)]
     refine ⟨fun q hq=>?_,fun y=>?_⟩
     . rcases xG.mp hq with rfl | hq
       . exact ⟨z,hz⟩
       . exact i1 q hq
     . unfold un F1
       rw [yN,yN,hz,qO];cases hd:decide (z=y) with
       | true=>simp
       | false=>exact i2 y
theorem eB {e:Dp} (h:Kd e) (b:xC) (kvs:Kvs) (o:List IdP) (hk:Tm kvs) (ho:∀ p,un kvs p=decide (p∈o)) (hl:kvs.length<=900):∃ kvs',Tm kvs'/\kvs'.length<=kvs.length+1/\(∀ p,un kvs' p=decide (p∈Uj e o))/\Tf [.sh b,oN kvs,.sh e.1]=.nx [.sh b,oN kvs',.sh e.1]:=by
 have no:∀ k x xs,e.1=.tuple (.str k::idP e.2::x::xs)->k ≠ "undo" -> ∃ kvs',Tm kvs'/\kvs'.length<=kvs.length+1/\(∀ p,un kvs' p=decide (p∈Uj e o))/\Tf [.sh b,oN kvs,.sh e.1]=.nx [.sh b,oN kvs',.sh e.1]:=fun k x xs e1 hk2=>by
   refine ⟨kvs,hk,AK _,by rw [Xq e1 hk2]; exact ho,?_⟩;unfold Tf; rw [O6 (Fa (by rw [e1]; simp_arith [X3,Ft,Dz hk2]))];rfl
 cases h with
 | drop ss h _=>exact no _ _ _ h (by decide)
 | oth k x xs h _ h2=>exact no _ _ _ h h2
 | undo q h =>
   have c1:(B8 (b2 (b2 (A0 2) (vC (.int 0)) dIx) (vC (.str "undo")) dEq)) [.sh b,oN kvs,.sh e.1]=.ok true:=by rw [h]; simp_arith [X3,Ft,Ig]
   have c2:(B8 (Y7 true 1 (b2 (A0 2) (vC (.int 1)) dIx))) [.sh b,oN kvs,.sh e.1]=.ok (!(decide (e.2∈o))):=by
     refine C0 ?_; rw [Ia (kvs:=kvs) (kd:=idP e.2) rfl (by rw [h]; simp_arith [Ef]) (Oz e.2),bne_true];exact congrArg (fun z=>Res.ok (CA (!z))) (ho e.2)
   rw [fR h]; unfold Tf;by_cases c:e.2∈o
   . rw [decide_eq_true c] at c2
     rw [O6 (Z4 c1 c2),if_pos c]; exact ⟨kvs,hk,AK _,ho,rfl⟩
   . rw [decide_eq_false c] at c2
     obtain ⟨g1,g2⟩:=fI hk q (.bool true); rw [W5 (Ds c1 c2),Em (kd:=idP q) (v:=.bool true) rfl rfl (by rw [h]; simp_arith [eG]) (Oz q) (by lia),if_neg c];refine ⟨_,g1,Eo kvs,fun p=>?_,rfl⟩;rw [g2,ho]; rw [l3]; simp;constructor
     . rintro (h | h)
       . exact .inr h.symm
       . exact .inl h
     . rintro (h | h)
       . exact .inr h
       . exact .inl h.symm
theorem Rl (b:xC):∀ (ds:List Dp),(∀ e∈ds,Kd e)->∀ (kvs:Kvs) (o:List IdP) (s2:Sl),Tm kvs->(∀ p,un kvs p=decide (p∈o))->kvs.length+ds.length<=900->∃ kvs' s2',(∀ p,un kvs' p=decide (p∈fQ ds o))/\E2 (st1 2) Tf (ds.map (·.1)) [.sh b,oN kvs,s2]=.nx [.sh b,oN kvs',s2']
 | [],_,kvs,o,s2,_,ho,_=>⟨kvs,s2,ho,rfl⟩
 | e::ds,h,kvs,o,s2,hk,ho,hl=>by
   rw [xU] at hl; obtain ⟨kvs1,k1,l1,o1,e1⟩:=eB (h e (.head _)) b kvs o hk ho (by lia);obtain ⟨kvs2,s2',o2,e2⟩:=Rl b ds (fun d hd=>h d (.tail _ hd)) kvs1 _ (.sh e.1) k1 o1 (by lia);exact ⟨kvs2,s2',o2,(P5 rfl e1).trans e2⟩
theorem nR {L:List Dp} (h:∀ e∈L,Kd e) (hl:L.length<=11):∃ kvs,I9 [.tuple (L.map (·.1))]=.ok kvs/\∀ p,un kvs p=decide (p∈off L):=by
 obtain ⟨kvs,s2,o,e⟩:=Rl (.tuple (L.map (·.1))) L.reverse (fun e he=>h e (List.mem_reverse.mp he)) [] [] .un (fun _ h=>nomatch h) (fun _=>rfl) (by simp; lia);refine ⟨kvs,?_,o⟩;rw [List.map_reverse] at e;unfold I9 Cc Bp fnW M6 Ed Ch M8 Um;simp only [xL,l9,xU,zT,o8,o7,yD,a8,zE,yF,yG,Hy,u9,Ej,C4,Xe,D1];have e':=e;unfold Tf at e';rw [e'];rfl
structure Pq (L:List Dp) (ku kd:Kvs):Prop where
 P:Pr L ku kd
 o:∀ p,un ku p=decide (p∈off L)
theorem sI {L:List Dp} (h:∀ e∈L,Kd e) (hl:L.length<=11):∃ ku kd,Pq L ku kd:=by
 obtain ⟨ku,e1,e4⟩:=nR h hl;obtain ⟨kd,e2,e3⟩:=wG h hl ku;exact ⟨ku,kd,⟨e1,e2,e3⟩,e4⟩
theorem Vh {i:Nat} {c:Dn->Res Bool} {δ δ':Dn} {r:Res Bool} (h:fz i δ=δ') (h2:c δ'=r):cFz i c δ=r:=by unfold cFz; rw [h,h2]
theorem Kd.tid {e:Dp} (h:Kd e):dIx e.1 (.int 1)=some (idP e.2):=by
 obtain ⟨k,x,xs,e1⟩:=h.id;rw [e1]; exact Ef _ _ _
theorem Ts (u v:As):xX (sgA u) (sgA v)=decide (sgn u=sgn v):=by
 rw [show sgA u=anD (some (sgn u)) from rfl,show sgA v=anD (some (sgn v)) from rfl,W0];congr 1;exact propext ⟨fun h=>zH h,fun h=>congrArg some h⟩
theorem wN {δc:Dn} {tt:Dn->Res Bool} {el:Dn->Res xC} {d y:xC} {ds ys:List xC} (h1:tt ([.sh d]++δc)=.ok true) (h2:el ([.sh d]++δc)=.ok y) (h3:C8 F2 δc tt el ds=.ok ys):C8 F2 δc tt el (d::ds)=.ok (y::ys):=by
 unfold C8;simp only [F2,h1,h2,h3]
theorem wO {δc:Dn} {tt:Dn->Res Bool} {el:Dn->Res xC} {d:xC} {ds ys:List xC} (h1:tt ([.sh d]++δc)=.ok false) (h3:C8 F2 δc tt el ds=.ok ys):C8 F2 δc tt el (d::ds)=.ok ys:=by
 unfold C8;simp only [F2,h1,h3]
theorem Gy {k v:xC}:∀ {kvs:Kvs},(∀ p∈kvs,xX p.1 k=false)->N4 kvs k v=kvs++[(k,v)]
 | [],_=>rfl
 | p::r,h=>by
   unfold N4; rw [if_neg (by rw [h p (.head _)]; decide),Gy fun q hq=>h q (.tail _ hq)]; rfl
theorem Yk {α:Type} (f:α->xC×xC) {u:α} (hu:xX (f u).1 (f u).1=true):∀ {us:List α} {U8:Kvs},u∈us->us.Pairwise (fun a b=>xX (f a).1 (f b).1=false)->F1 (us.map f++U8) (f u).1=some (f u).2
 | x::us,U8,h,pw=>by
   rw [yK] at pw; unfold F1; rw [xL,a8,yN]; rcases xG.mp h with rfl | h
   . rw [hu]; rfl
   . rw [pw.1 u h]; exact Yk f hu h pw.2
noncomputable def cnt (f:As->Bool) (X:List As):Nat:=(X.filter f).length
noncomputable def b1n (b:Bool):Nat:=if b=true then 1 else 0
theorem Yz (f:As->Bool) (X:List As) (u:As):cnt f (X++[u])=cnt f X+b1n (f u):=by
 unfold cnt b1n;rw [CU,yB];cases h:f u with
 | true=>rw [yL,h]; rfl
 | false=>rw [yL,h]; rfl
noncomputable def num (f:As->Bool):List As->Nat->List (As×Nat)
 | [],_=>[]
 | u::us,n=>(u,n)::num f us (n+b1n (f u))
theorem Xs (f:As->Bool) (u:As):∀ (X:List As) (n:Nat),num f (X++[u]) n=num f X n++[(u,n+cnt f X)]
 | [],n=>rfl
 | x::X,n=>by
   show (x,n)::num f (X++[u]) (n+b1n (f x))=(x,n)::(num f X (n+b1n (f x))++[(u,n+cnt f (x::X))]);rw [Xs f u X,Nat.add_assoc]; have:b1n (f x)+cnt f X=cnt f (x::X):=by
     unfold cnt b1n; rw [yL];cases f x <;> simp <;> lia
   rw [this]
theorem Iz (f:As->Bool):∀ (X:List As) (n:Nat),(num f X n).map (·.1)=X
 | [],_=>rfl
 | x::X,n=>by show x::(num f X _).map (·.1)=_; rw [Iz f X]
theorem cL (f:As->Bool) (u:As) (Y:List As):∀ (X:List As) (n:Nat),(u,n+cnt f X)∈num f (X++u::Y) n
 | [],n=>.head _
 | x::X,n=>by
   have:=cL f u Y X (n+b1n (f x)); have e:n+b1n (f x)+cnt f X=n+cnt f (x::X):=by
     unfold cnt b1n; rw [yL];cases f x <;> simp <;> lia
   rw [e] at this; exact .tail _ this
abbrev plE (f:As->Bool) (x:As×Nat):xC×xC:=(sgA x.1,.tuple [.int ((x.2+b1n (f x.1):Nat):Int),.int (x.2:Int)])
noncomputable def dM:Dn->Out:=(B6 (D2 4 (A0 2)) (B6 (sIf (B8 (b2 (A0 3) (vC (.int 1)) dIx)) (D2 2 (b2 (A0 4) (vC (.int 1)) C5)) E6) (W4 1 (b2 (b2 (A0 3) (vC (.int 0)) dIx) (vC (.int 0)) dIx) (D3 (A1 (A0 2) (A1 (A0 4) A6))))))
theorem pB (f:As->Bool) (b:xC) (X:List As) (u:As) (hX:X.length<=100) (hn:sgn u∉X.map sgn) (s4:Sl):dM [.sh b,oN ((num f X 0).map (plE f)),.sh (.int (cnt f X:Int)),.sh (.tuple [tl u,.bool (f u)]),s4]=.nx [.sh b,oN ((num f (X++[u]) 0).map (plE f)),.sh (.int (cnt f (X++[u]):Int)),.sh (.tuple [tl u,.bool (f u)]),.sh (.int (cnt f X:Int))]:=by
 unfold dM;rw [B2 (C6 (d:=.int (cnt f X:Int)) rfl)];simp only [yF,yG];have hif:sIf (B8 (b2 (A0 3) (vC (.int 1)) dIx)) (D2 2 (b2 (A0 4) (vC (.int 1)) C5)) E6 [.sh b,oN ((num f X 0).map (plE f)),.sh (.int (cnt f X:Int)),.sh (.tuple [tl u,.bool (f u)]),.sh (.int (cnt f X:Int))]=.nx [.sh b,oN ((num f X 0).map (plE f)),.sh (.int (cnt f (X++[u]):Int)),.sh (.tuple [tl u,.bool (f u)]),.sh (.int (cnt f X:Int))]:=by
   rw [Yz];cases c:f u with
   | true =>
     rw [W5 (C0 (B1 (x:=.tuple [tl u,.bool true]) (y:=.int 1) rfl rfl (Ef _ _ _)))];rw [C6 (d:=.int ((cnt f X:Int)+1)) (B1 rfl rfl rfl)]; rfl
   | false =>
     rw [O6 (C0 (B1 (x:=.tuple [tl u,.bool false]) (y:=.int 1) rfl rfl (Ef _ _ _)))];rfl
 rw [B2 hif];have hl:((num f X 0).map (plE f)).length<=1000:=by
   have:=congrArg BI (Iz f X 0); rw [xJ] at this ⊢;lia
 rw [Em (kvs:=(num f X 0).map (plE f)) (kd:=sgA u) (v:=.tuple [.int (cnt f (X++[u]):Int),.int (cnt f X:Int)]) rfl rfl (B1 (x:=tl u) (y:=.int 0) (B1 (x:=.tuple [tl u,.bool (f u)]) (y:=.int 0) rfl rfl (X3 _ _)) rfl (X3 _ _)) (Dt (some (sgn u))) hl];rw [Gy (fun p hp=>by
   obtain ⟨x,hx,rfl⟩:=yH.mp hp; have hx:x.1∈X:=by rw [<- Iz f X 0]; exact zA hx
   show xX (sgA x.1) (sgA u)=false;rw [Ts,decide_eq_false]; intro z; exact hn (by rw [<- z]; exact zA hx))]
 rw [Xs,yV,JI,Yz];rfl
theorem cG (f:As->Bool) (b:xC):∀ (us X:List As),((X++us).map sgn).Nodup->(X++us).length<=100->∀ s3 s4:Sl,∃ t3 t4,E2 (st1 3) dM (us.map fun u=>.tuple [tl u,.bool (f u)]) [.sh b,oN ((num f X 0).map (plE f)),.sh (.int (cnt f X:Int)),s3,s4]=.nx [.sh b,oN ((num f (X++us) 0).map (plE f)),.sh (.int (cnt f (X++us):Int)),t3,t4]
 | [],X,_,_,s3,s4=>by rw [zN]; exact ⟨s3,s4,rfl⟩
 | u::us,X,nd,hl,s3,s4=>by
   have e1:=pB f b X u (by rw [yB] at hl; lia) (by
     rw [yV,z9] at nd; intro z; exact nd.2.2 _ z _ (by rw [xL]; exact .head _) rfl) s4
   obtain ⟨t3,t4,e2⟩:=cG f b us (X++[u]) (by rw [zU]; exact nd) (by rw [zU]; exact hl) (.sh (.tuple [tl u,.bool (f u)])) (.sh (.int (cnt f X:Int)));rw [zU] at e2; exact ⟨t3,t4,(P5 rfl e1).trans e2⟩
noncomputable def plN (f:As->Bool) (O:List As):Kvs:=(num f O 0).map (plE f)++[(.none,.tuple [.int 0,.int (cnt f O:Int)])]
theorem Mb {g1:Dn->Out} {g2:Dn->Res Kvs} {δ δ':Dn} (h:g1 δ=.nx δ'):Ed g1 g2 δ=g2 δ':=by unfold Ed; rw [h]
theorem fL {L:List Dp} {B:List Ad} (A:BkA L B) (hl:L.length<=11) {ku kd:Kvs} (P:Pr L ku kd):T6 [bkD L]=.ok (plN (E4 ku kd) (ord B)):=by
 have hol:=Dj A;obtain ⟨t3,t4,e⟩:=cG (E4 ku kd) (bkD L) (ord B) [] (Fl A.bk) (by simp; lia) .un .un;have hp:=cF A hl P;have hlen:((num (E4 ku kd) (ord B) 0).map (plE (E4 ku kd))).length<=1000:=by
   have:=congrArg BI (Iz (E4 ku kd) (ord B) 0); rw [xJ] at this ⊢;lia
 have e5:W4 1 (vC .none) (D3 (A1 (vC (.int 0)) (A1 (A0 2) A6))) [.sh (bkD L),oN ((num (E4 ku kd) (ord B) 0).map (plE (E4 ku kd))),.sh (.int (cnt (E4 ku kd) (ord B):Int)),t3,t4]=.nx [.sh (bkD L),oN (plN (E4 ku kd) (ord B)),.sh (.int (cnt (E4 ku kd) (ord B):Int)),t3,t4]:=by
   rw [Em (kvs:=(num (E4 ku kd) (ord B) 0).map (plE (E4 ku kd))) (kd:=.none) (v:=.tuple [.int 0,.int (cnt (E4 ku kd) (ord B):Int)]) rfl rfl rfl rfl hlen];rw [Gy (fun p hp=>by
     obtain ⟨x,hx,rfl⟩:=yH.mp hp; rfl)]
   rfl
 have e6:M8 (fun δ=>((B5 (A1 (A0 0) A6) J2) δ).bind D5) (st1 3) dM [.sh (bkD L),oN [],.sh (.int 0),.un,.un]=.nx [.sh (bkD L),oN ((num (E4 ku kd) (ord B) 0).map (plE (E4 ku kd))),.sh (.int (cnt (E4 ku kd) (ord B):Int)),t3,t4]:=by
   unfold M8; rw [E1 (d:=.list ((ord B).map fun u=>.tuple [tl u,.bool (E4 ku kd u)])) (B4 (A5 (d:=bkD L) rfl rfl) hp) rfl,D1];exact e
 unfold T6 Cd Bq fnW;show Ed _ _ [.sh (bkD L),.un,.un,.un,.un]=_;refine (Mb (g1:=Ch 1) (δ':=[.sh (bkD L),oN [],.un,.un,.un]) rfl).trans ((Mb (g1:=D2 2 (vC (.int 0))) (δ':=[.sh (bkD L),oN [],.sh (.int 0),.un,.un]) rfl).trans ((Mb e6).trans ((Mb e5).trans rfl)))
theorem Sv {k:xC} {U8:Kvs}:∀ {kvs:Kvs},(∀ p∈kvs,xX p.1 k=false)->F1 (kvs++U8) k=F1 U8 k
 | [],_=>rfl
 | p::r,h=>by
   unfold F1; rw [a8,yN,h p (.head _)]; exact Sv (kvs:=r) fun q hq=>h q (.tail _ hq)
theorem vG {O:List As} (nd:(O.map sgn).Nodup) (f:As->Bool):(num f O 0).Pairwise (fun a b=>xX (plE f a).1 (plE f b).1=false):=by
 have h1:((num f O 0).map (fun x=>sgn x.1)).Nodup:=by
   have:(num f O 0).map (fun x=>sgn x.1)=((num f O 0).map (·.1)).map sgn:=by rw [i6]; rfl
   rw [this,Iz]; exact nd
 rw [CT,z8] at h1;exact h1.imp fun {a b} h=>by show xX (sgA a.1) (sgA b.1)=false; rw [Ts,decide_eq_false h]
theorem Ix (f:As->Bool) (O:List As):F1 (plN f O) .none=some (.tuple [.int 0,.int (cnt f O:Int)]):=by
 unfold plN;rw [Sv (fun p hp=>by obtain ⟨x,hx,rfl⟩:=yH.mp hp; rfl)];rfl
theorem Iw {f:As->Bool} {O X Y:List As} {u:As} (nd:(O.map sgn).Nodup) (e:O=X++u::Y):F1 (plN f O) (sgA u)=some (.tuple [.int ((cnt f X+b1n (f u):Nat):Int),.int (cnt f X:Int)]):=by
 have hm:(u,cnt f X)∈num f O 0:=by have:=cL f u Y X 0; rw [JI] at this; rw [e]; exact this
 exact Yk (plE f) (u:=(u,cnt f X)) (by show xX (sgA u) (sgA u)=true; rw [Ts]; simp) hm (vG nd f)
theorem cX:Ew "lr" (.str "l")=some (.int 0):=by
 have:AV "lr" "l" 0 (("lr" : Str)).length 1=[0]:=by decide +kernel
 simp only [Ew,this]; rfl
theorem cW:Ew "lr" (.str "r")=some (.int 1):=by
 have:AV "lr" "r" 0 (("lr" : Str)).length 1=[1]:=by decide +kernel
 simp only [Ew,this]; rfl
theorem Bn {kvs:Kvs} {k:xC} {x:Str} {y z v:xC} {j:Int} (hk:nkD k=true) (hg:F1 kvs k=some (.tuple [y,z])) (hi:Ew "lr" (.str x)=some (.int j)) (hv:dIx (.tuple [y,z]) (.int j)=some v):D9 [fN kvs,.sh (.tuple [k,.str x])]=.ok v:=by
 unfold D9 Dg Dw fnS;have:F8 (b2 (Pt 0 (b2 (A0 1) (vC (.int 0)) dIx)) (Mc (vC (.str "lr")) (b2 (A0 1) (vC (.int 1)) dIx)) dIx) [fN kvs,.sh (.tuple [k,.str x])]=.rt v:=by
   refine K4 (B1 (x:=.tuple [y,z]) (y:=.int j) ?_ ?_ hv)
   . unfold Pt
     show Res.bind _ (fun kd'=>if nkD kd'=true then ofO (F1 kvs kd') else Res.no)=_;rw [B1 (x:=.tuple [k,.str x]) (y:=.int 0) rfl rfl (X3 _ _),C4,if_pos hk,hg]; rfl
   . unfold Mc
     show Res.bind _ _=_;rw [show vC (.str "lr") [fN kvs,.sh (.tuple [k,.str x])]=.ok (.str "lr") from rfl,C4];show Res.bind _ _=_;rw [B1 (x:=.tuple [k,.str x]) (y:=.int 1) rfl rfl (Ef _ _ _),C4,hi]; rfl
 show (match F8 _ [fN kvs,.sh (.tuple [k,.str x])] with | .rt d=>_ | .nx _=>_ | .exc c=>_ | _=>_)=_;rw [this]
def Hv (O:List As) (d:xC):Prop:=∃ s x,d=.tuple [s,.str x]/\aQ x/\(s=.none\/∃ u∈O,s=sgA u)
def nmL (x:Str):Prop:=1<=x.length/\x.length<=6/\chOk 97 122 x
theorem nmOk.l {x:Str} (h:nmOk x):nmL x:=⟨h.1,yA h.2.1 (by decide),h.2.2⟩
inductive Md (O:List As) (e:Dp):Prop where
 | mark (n:Str) (a1 a2:xC):e.1=.tuple [.str "mark",idP e.2,.str n,a1,a2]->nmL n->Hv O a1->Hv O a2->Md O e
 | unm (n:Str):e.1=.tuple [.str "unmark",idP e.2,.str n]->nmL n->Md O e
 | oth (k:Str) (x:xC) (xs:List xC):e.1=.tuple (.str k::idP e.2::x::xs)->k ≠ "mark" -> k ≠ "unmark" -> Md O e
theorem WfIn.md {L:List Dp} {B:List Ad} (A:BkA L B) {e:Dp} (h:WfIn L e):Md (ord B) e:=by
 obtain ⟨o,r⟩:=(show Wf _ _ _ _ from h);have an:∀ s x,OrN (SgOf e.2.1 (L.map (·.1))) s->aQ x->Hv (ord B) (.tuple [s,.str x]):=fun s x hs hx=>by
   refine ⟨s,x,rfl,hx,?_⟩; rcases hs with rfl | ⟨p,b,w,n,hm,rfl,hn,_,_⟩
   . exact .inl rfl
   . obtain ⟨a,ha,rfl,rfl⟩:=A.ad.of hm
     exact .inr ⟨(a,n),(Di A.bk (a,n)).mpr ⟨ha,hn⟩,rfl⟩
 rcases r with ⟨b,w,e1,_⟩ | ⟨sg,e1,_⟩ | ⟨n,s1,x1,s2,x2,e1,h1,h2,hn,l1,l2⟩ | ⟨n,e1,hn⟩ | ⟨q,e1,_⟩
 . exact .oth "add" _ _ e1 (by decide) (by decide)
 . exact .oth "drop" _ _ e1 (by decide) (by decide)
 . exact .mark n _ _ e1 hn.l (an _ _ h1 l1) (an _ _ h2 l2)
 . exact .unm n e1 hn.l
 . exact .oth "undo" _ _ e1 (by decide) (by decide)
noncomputable def T0 (d:xC):Option Str:=match d with
 | .tuple (.str k::_::.str n::_)=>if k = "mark" \/ k = "unmark" then some n else none
 | _=>none
theorem Hb {k:Str} {i x:xC} {xs:List xC} (h1:k ≠ "mark") (h2:k ≠ "unmark"):T0 (.tuple (.str k::i::x::xs))=none:=by
 unfold T0;split
 . rename_i heq
   injection heq with heq
   injection heq with h _
   injection h with h
   rw [<- h,if_neg (by rintro (z | z); exact h1 z; exact h2 z)]
 . rfl
noncomputable def X0 (o:List IdP) (e:Dp) (kvs:Kvs):Kvs:=match T0 e.1 with
 | some n=>if e.2∈o then kvs else N4 kvs (.str n) e.1
 | none=>kvs
noncomputable def Ba (o:List IdP):List Dp->Kvs->Kvs
 | [],kvs=>kvs
 | e::r,kvs=>Ba o r (X0 o e kvs)
noncomputable def cMk:Dn->Res Bool:=B8 (b2 (b2 (A0 3) (vC (.int 0)) dIx) (D3 (A1 (vC (.str "mark")) (A1 (vC (.str "unmark")) A6))) (dIn false))
theorem inMk (k:Str):dIn false (.str k) (.tuple [.str "mark",.str "unmark"])=some (.bool (decide (k = "mark" \/ k = "unmark"))):=by
 have h:([zM "mark",.str "unmark"].any fun y=>xX y (.str k))=decide (k = "mark" \/ k = "unmark"):=by
   show ((("mark" : Str)==k)||((("unmark" : Str)==k)||false))=_;rw [DV,l3,GY,beq_iff_eq,beq_iff_eq,decide_eq_true_iff]; exact ⟨fun h=>h.elim (fun z=>.inl z.symm) fun z=>.inr z.symm,fun h=>h.elim (fun z=>.inl z.symm) fun z=>.inr z.symm⟩
 rw [<- h];unfold dIn;simp only [];rw [if_pos (yA (p0 _ _) (by simp [zR])),if_neg (by decide)]
theorem gG {O:List As} {e:Dp} (h:Md O e) (o:List IdP) (c:Dn->Res Bool) (x0 x1:Sl) (kvs:Kvs) (hl:kvs.length<=900) (hc:c [x0,x1,oN kvs,.sh e.1]=.ok (!decide (e.2∈o))) :
   sIf (O0 cMk c) (W4 2 (b2 (A0 3) (vC (.int 2)) dIx) (A0 3)) E6 [x0,x1,oN kvs,.sh e.1]=.nx [x0,x1,oN (X0 o e kvs),.sh e.1]/\(X0 o e kvs).length<=kvs.length+1:=by
 have go:∀ k n xs,e.1=.tuple (.str k::idP e.2::.str n::xs)->(k = "mark" \/ k = "unmark")->sIf (O0 cMk c) (W4 2 (b2 (A0 3) (vC (.int 2)) dIx) (A0 3)) E6 [x0,x1,oN kvs,.sh e.1]=.nx [x0,x1,oN (X0 o e kvs),.sh e.1]/\(X0 o e kvs).length<=kvs.length+1:=fun k n xs e1 hk=>by
   have c1:cMk [x0,x1,oN kvs,.sh e.1]=.ok true:=by
     unfold cMk; refine C0 (B1 (x:=.str k) (y:=.tuple [.str "mark",.str "unmark"]) (B1 (x:=e.1) (y:=.int 0) rfl rfl (by rw [e1]; exact X3 _ _)) rfl ?_);rw [inMk,decide_eq_true hk]
   have hn:T0 e.1=some n:=by rw [e1]; unfold T0; exact if_pos hk
   unfold X0; rw [hn];by_cases ho:e.2∈o
   . rw [decide_eq_true ho] at hc
     rw [O6 (Z4 c1 hc)]; show _=Out.nx [x0,x1,oN (if e.2∈o then kvs else _),_]/\(if e.2∈o then kvs else _).length<=_;rw [if_pos ho]; exact ⟨rfl,by lia⟩
   . rw [decide_eq_false ho] at hc
     rw [W5 (Ds c1 hc),Em (kvs:=kvs) (kd:=.str n) (v:=e.1) rfl rfl (B1 (x:=e.1) (y:=.int 2) rfl rfl (by rw [e1]; exact eG _ _ _ _)) rfl (by lia)];show _=Out.nx [x0,x1,oN (if e.2∈o then kvs else _),_]/\(if e.2∈o then kvs else _).length<=_;rw [if_neg ho]; exact ⟨rfl,Eo kvs⟩
 cases h with
 | mark n a1 a2 e1 _ _ _=>exact go _ n _ e1 (.inl rfl)
 | unm n e1 _=>exact go _ n _ e1 (.inr rfl)
 | oth k x xs e1 h1 h2 =>
   have c1:cMk [x0,x1,oN kvs,.sh e.1]=.ok false:=by
     unfold cMk; refine C0 (B1 (x:=.str k) (y:=.tuple [.str "mark",.str "unmark"]) (B1 (x:=e.1) (y:=.int 0) rfl rfl (by rw [e1]; exact X3 _ _)) rfl ?_);rw [inMk,decide_eq_false (by rintro (z | z); exact h1 z; exact h2 z)]
   have hn:T0 e.1=none:=by rw [e1]; exact Hb h1 h2
   unfold X0; rw [hn,O6 (Fa c1)]; exact ⟨rfl,AK _⟩
theorem Sg {O:List As} (o:List IdP) (c:Dn->Res Bool) (x0 x1:Sl):∀ (M:List Dp),(∀ e∈M,Md O e)->(∀ e∈M,∀ kvs,c [x0,x1,oN kvs,.sh e.1]=.ok (!decide (e.2∈o)))->∀ (kvs:Kvs) (s3:Sl),kvs.length+M.length<=900 ->
   ∃ t3,E2 (st1 3) (sIf (O0 cMk c) (W4 2 (b2 (A0 3) (vC (.int 2)) dIx) (A0 3)) E6) (M.map (·.1)) [x0,x1,oN kvs,s3]=.nx [x0,x1,oN (Ba o M kvs),t3]/\(Ba o M kvs).length<=kvs.length+M.length
 | [],_,_,kvs,s3,_=>⟨s3,rfl,xN _⟩
 | e::M,h,hc,kvs,s3,hl=>by
   rw [xU] at hl ⊢;obtain ⟨e1,l1⟩:=gG (h e (.head _)) o c x0 x1 kvs (by lia) (hc e (.head _) kvs);obtain ⟨t3,e2,l2⟩:=Sg o c x0 x1 M (fun d hd=>h d (.tail _ hd)) (fun d hd=>hc d (.tail _ hd)) (X0 o e kvs) (.sh e.1) (by lia);refine ⟨t3,(P5 rfl e1).trans e2,?_⟩; show (Ba o M (X0 o e kvs)).length<=_;lia
def LastOk (O:List As) (kvs:Kvs):Prop:=∀ p∈kvs,∃ n,p.1=.str n/\nmL n/\((∃ i a1 a2,p.2=.tuple [.str "mark",i,.str n,a1,a2]/\Hv O a1/\Hv O a2)\/∃ i,p.2=.tuple [.str "unmark",i,.str n])
theorem Rz {O:List As} {kvs:Kvs} (h:LastOk O kvs) {n:Str} {d:xC} (hn:nmL n) (hd:(∃ i a1 a2,d=.tuple [.str "mark",i,.str n,a1,a2]/\Hv O a1/\Hv O a2)\/∃ i,d=.tuple [.str "unmark",i,.str n]):LastOk O (N4 kvs (.str n) d):=by
 induction kvs with
 | nil=>intro p hp; rw [xS.mp hp]; exact ⟨n,rfl,hn,hd⟩
 | cons q r ih =>
   unfold N4;split
   . rename_i c
     obtain ⟨m,hm,_⟩:=h q (.head _); intro p hp; rcases xG.mp hp with rfl | hp
     . have : m = n := by
         rw [hm] at c; exact j6 (show (m==n)=true from c)
       exact ⟨n,by rw [hm,this],hn,hd⟩
     . exact h p (.tail _ hp)
   . intro p hp
     rcases xG.mp hp with rfl | hp
     . exact h p (.head _)
     . exact ih (fun x hx=>h x (.tail _ hx)) p hp
theorem Yb {O:List As} (o:List IdP):∀ (M:List Dp),(∀ e∈M,Md O e)->∀ kvs,LastOk O kvs->LastOk O (Ba o M kvs)
 | [],_,kvs,h=>h
 | e::M,hM,kvs,h=>by
   refine Yb o M (fun d hd=>hM d (.tail _ hd)) _ ?_;cases hM e (.head _) with
   | mark n a1 a2 e1 hn h1 h2 =>
     unfold X0; rw [e1,show T0 (.tuple [.str "mark",idP e.2,.str n,a1,a2])=some n by unfold T0; exact if_pos (.inl rfl)];show LastOk O (if e.2∈o then kvs else _);split
     . exact h
     . exact Rz h hn (.inl ⟨_,_,_,rfl,h1,h2⟩)
   | unm n e1 hn =>
     unfold X0; rw [e1,show T0 (.tuple [.str "unmark",idP e.2,.str n])=some n by unfold T0; exact if_pos (.inr rfl)];show LastOk O (if e.2∈o then kvs else _);split
     . exact h
     . exact Rz h hn (.inr ⟨_,rfl⟩)
   | oth k x xs e1 h1 h2 =>
     unfold X0; rw [e1,Hb h1 h2]; exact h
theorem LastOk.texts {O:List As}:∀ {kvs:Kvs},LastOk O kvs->∃ ss,M4 (kvs.map (·.1))=some ss/\ss.length=kvs.length/\(∀ x∈ss,nmL x)/\∀ x∈ss,∃ d,F1 kvs (.str x)=some d
 | [],_=>⟨[],rfl,rfl,(fun _ h=>nomatch h),(fun _ h=>nomatch h)⟩
 | p::r,h=>by
   obtain ⟨ss,e1,e2,e3,e4⟩:=LastOk.texts (kvs:=r) fun q hq=>h q (.tail _ hq);obtain ⟨n,hn,ho,_⟩:=h p (.head _); refine ⟨n::ss,?_,by simp [e2],fun x hx=>?_,fun x hx=>?_⟩
   . rw [xL,hn]
     show (M4 (r.map (·.1))).map (n::·)=_;rw [e1]; rfl
   . rcases xG.mp hx with rfl | hx
     . exact ho
     . exact e3 x hx
   . unfold F1
     rw [yN];cases c:xX p.1 (.str x) with
     | true=>exact ⟨_,rfl⟩
     | false =>
       rcases xG.mp hx with rfl | hx
       . rw [hn] at c
         exact absurd (show (x==x)=false from c) (by rw [beq_self_eq_true]; decide)
       . exact e4 x hx
theorem LastOk.get {O:List As} {kvs:Kvs} (h:LastOk O kvs) {x:Str} {d:xC} (e:F1 kvs (.str x)=some d):(∃ i a1 a2,d=.tuple [.str "mark",i,.str x,a1,a2]/\Hv O a1/\Hv O a2)\/∃ i,d=.tuple [.str "unmark",i,.str x]:=by
 unfold F1 at e;obtain ⟨p,e1,e2⟩:=yT.mp e;have hp:=IC e1;have hq:=List.find?_some e1;obtain ⟨n,hn,_,hd⟩:=h p hp;rw [hn] at hq;have:n=x:=j6 (show (n==x)=true from hq);subst this;rw [<- e2];exact hd
noncomputable def bef (f:As->Bool):List As->As->Nat
 | [],_=>0
 | v::r,u=>if sgn v=sgn u then 0 else b1n (f v)+bef f r u
theorem Za (f:As->Bool) (v:As) (X:List As):cnt f (v::X)=b1n (f v)+cnt f X:=by
 unfold cnt b1n;rw [yL];cases f v <;> simp <;> lia
theorem Kk {f:As->Bool}:∀ {O:List As} {u:As},u∈O->(O.map sgn).Nodup->∃ X Y,O=X++u::Y/\bef f O u=cnt f X
 | v::r,u,h,nd=>by
   rw [xL,zS] at nd; unfold bef;by_cases c:sgn v=sgn u
   . rw [if_pos c]
     have:v=u:=by
       rcases xG.mp h with e | h
       . exact e.symm
       . exact absurd (zA (f:=sgn) h) (by rw [<- c]; exact nd.1)
     exact ⟨[],r,by rw [this]; rfl,rfl⟩
   . rw [if_neg c]
     have hu:u∈r:=by
       rcases xG.mp h with e | h
       . exact absurd (by rw [e]) c
       . exact h
     obtain ⟨X,Y,e1,e2⟩:=Kk hu nd.2; exact ⟨v::X,Y,by rw [e1]; rfl,by rw [e2,Za]⟩
theorem Zk {f:As->Bool} {O:List As} (nd:(O.map sgn).Nodup) {d:xC} (h:Hv O d):∃ n:Nat,D9 [fN (plN f O),.sh d]=.ok (.int (n:Int))/\n<=cnt f O:=by
 obtain ⟨s,x,rfl,hx,hs⟩:=h;rcases hs with rfl | ⟨u,hu,rfl⟩
 . rcases hx with rfl | rfl
   . exact ⟨0,Bn rfl (Ix f O) cX (X3 _ _),zY _⟩
   . exact ⟨cnt f O,Bn rfl (Ix f O) cW (Ef _ _ _),xN _⟩
 . obtain ⟨X,Y,e1,_⟩:=Kk (f:=f) hu nd
   have hc:cnt f O=cnt f X+(b1n (f u)+cnt f Y):=by
     rw [e1,<- Za]; unfold cnt; rw [CU,yB]
   rcases hx with rfl | rfl
   . exact ⟨cnt f X+b1n (f u),Bn (Dt (some (sgn u))) (Iw nd e1) cX (X3 _ _),by lia⟩
   . exact ⟨cnt f X,Bn (Dt (some (sgn u))) (Iw nd e1) cW (Ef _ _ _),by lia⟩
noncomputable def sel (kvs:Kvs) (n:Str):xC:=(F1 kvs (.str n)).getD .none
noncomputable def isM (kvs:Kvs) (n:Str):Bool:=match sel kvs n with
 | .tuple (.str k::_)=>k == "mark"
 | _=>false
abbrev C2 (t:Str×Nat×Nat):xC:=.tuple [.str t.1,.int (t.2.1:Int),.int (t.2.2:Int)]
inductive Rows (kvs:Kvs) (O:List As) (f:As->Bool):List Str->List (Str×Nat×Nat)->Prop where
 | nil:Rows kvs O f [] []
 | mark {n:Str} {i a1 a2:xC} {b c:Nat} {ns:List Str} {rs:List (Str×Nat×Nat)}:F1 kvs (.str n)=some (.tuple [.str "mark",i,.str n,a1,a2])->D9 [fN (plN f O),.sh a1]=.ok (.int (b:Int))->D9 [fN (plN f O),.sh a2]=.ok (.int (c:Int))->b<=cnt f O->c<=cnt f O->Rows kvs O f ns rs->Rows kvs O f (n::ns) ((n,b,if b < c then c else b)::rs)
 | skip {n:Str} {i:xC} {ns:List Str} {rs:List (Str×Nat×Nat)}:F1 kvs (.str n)=some (.tuple [.str "unmark",i,.str n])->Rows kvs O f ns rs->Rows kvs O f (n::ns) rs
theorem cA {kvs:Kvs} {O:List As} {f:As->Bool} (nd:(O.map sgn).Nodup) (h:LastOk O kvs):∀ ns:List Str,(∀ x∈ns,∃ d,F1 kvs (.str x)=some d)->∃ rs,Rows kvs O f ns rs
 | [],_=>⟨[],.nil⟩
 | n::ns,hn=>by
   obtain ⟨rs,hr⟩:=cA (f:=f) nd h ns fun x hx=>hn x (.tail _ hx);obtain ⟨d,hd⟩:=hn n (.head _); rcases h.get hd with ⟨i,a1,a2,rfl,h1,h2⟩ | ⟨i,rfl⟩
   . obtain ⟨b,b1,b2⟩:=Zk (f:=f) nd h1
     obtain ⟨c,c1,c2⟩:=Zk (f:=f) nd h2; exact ⟨_,.mark hd b1 c1 b2 c2 hr⟩
   . exact ⟨rs,.skip hd hr⟩
theorem Rows.ok {kvs:Kvs} {O:List As} {f:As->Bool} {ns:List Str} {rs:List (Str×Nat×Nat)} (h:Rows kvs O f ns rs):rs.length<=ns.length/\(∀ t∈rs,t.1∈ns/\t.2.1<=t.2.2/\t.2.2<=cnt f O)/\(ns.Nodup->(rs.map (·.1)).Nodup):=by
 induction h with
 | nil=>exact ⟨xN _,(fun _ h=>nomatch h),fun _=>.nil⟩
 | @mark n i a1 a2 b c ns rs _ _ _ hb hc _ ih =>
   refine ⟨ED ih.1,fun t ht=>?_,fun nd=>?_⟩
   . rcases xG.mp ht with rfl | ht
     . refine ⟨.head _,?_,?_⟩
       . show b<=(if b < c then c else b)
         split <;> lia
       . show (if b < c then c else b)<=_
         split <;> lia
     . obtain ⟨k1,k2⟩:=ih.2.1 t ht
       exact ⟨.tail _ k1,k2⟩
   . rw [zS] at nd
     rw [xL,zS]; refine ⟨fun z=>?_,ih.2.2 nd.2⟩;obtain ⟨t,ht,e⟩:=yH.mp z; have:=(ih.2.1 t ht).1; rw [e] at this; exact nd.1 this
 | skip _ _ ih =>
   refine ⟨AB ih.1,fun t ht=>?_,fun nd=>?_⟩
   . obtain ⟨k1,k2⟩:=ih.2.1 t ht
     exact ⟨.tail _ k1,k2⟩
   . exact ih.2.2 (zS.mp nd).2
theorem Yd {kvs:Kvs} {n:Str} {xs:List xC} (h:F1 kvs (.str n)=some (.tuple (.str "mark" :: xs))):isM kvs n=true:=by
 unfold isM sel; rw [h]; exact beq_self_eq_true _
theorem lW {kvs:Kvs} {n:Str} {xs:List xC} (h:F1 kvs (.str n)=some (.tuple (.str "unmark" :: xs))):isM kvs n=false:=by
 unfold isM sel; rw [h]; exact Dz (by decide)
theorem pZ {kvs:Kvs} {O:List As} {f:As->Bool} {ns:List Str} {rs:List (Str×Nat×Nat)} (h:Rows kvs O f ns rs):C8 F2 [oN kvs] (B8 (b2 (b2 (Pt 1 (A0 0)) (vC (.int 0)) dIx) (vC (.str "mark")) dEq)) (Pt 1 (A0 0)) (ns.map .str)=.ok ((ns.filter (isM kvs)).map (sel kvs)):=by
 have get:∀ {n:Str} {d:xC},F1 kvs (.str n)=some d->(Pt 1 (A0 0)) ([.sh (.str n)]++[oN kvs])=.ok d:=fun {n d} e=>by
   show Res.bind (Res.ok (zM n)) (fun kd'=>if nkD kd'=true then ofO (F1 kvs kd') else Res.no)=_;rw [C4,if_pos (show nkD (.str n)=true from rfl),e]; rfl
 induction h with
 | nil=>rfl
 | @mark n i a1 a2 b c ns rs hg _ _ _ _ _ ih =>
   rw [yL,Yd hg,if_pos rfl,xL,xL,show sel kvs n=.tuple [.str "mark",i,.str n,a1,a2] by unfold sel; rw [hg]; rfl];exact wN (C0 (B1 (x:=.str "mark") (y:=.str "mark") (B1 (get hg) rfl (X3 _ _)) rfl (by rw [Ft,Ig]))) (get hg) ih
 | @skip n i ns rs hg _ ih =>
   rw [yL,lW hg,if_neg (by decide),xL]; exact wO (C0 (B1 (x:=.str "unmark") (y:=.str "mark") (B1 (get hg) rfl (X3 _ _)) rfl (by rw [Ft,Dz (by decide)]))) ih
noncomputable def nA:Dn->Out:=(B6 (D2 4 (Be 1 (b2 (A0 3) (vC (.int 3)) dIx) D9)) (Ci 2 (D3 (A1 (b2 (A0 3) (vC (.int 2)) dIx) (A1 (A0 4) (A1 (vFn (A1 (A0 4) (A1 (Be 1 (b2 (A0 3) (vC (.int 4)) dIx) D9) A6)) bA) A6))))))
theorem tix4 (x y z u v:xC) (xs:List xC):dIx (.tuple (x::y::z::u::v::xs)) (.int 4)=some v:=K5 (xs:=x::y::z::u::v::xs) (j:=4) (by simp)
theorem Td {i:Nat} {f:Dn->Res xC} {m:List Sl->Res xC} {δ:Dn} {kvs:Kvs} {d v:xC} (h1:δ[i]? = some (.fd kvs)) (h2:f δ=.ok d) (h3:m [.fd kvs,.sh d]=.ok v):Be i f m δ=.ok v:=by
 unfold Be;rw [h1];show (f δ).bind _=_;rw [h2,C4,h3]
theorem mx (b c:Nat):bA [.int (b:Int),.int (c:Int)]=some (.int ((if b < c then c else b:Nat):Int)):=by
 show some (xV (if (b:Int) < (c:Int) then (c:Int) else (b:Int)))=_;by_cases h:b < c
 . rw [if_pos h,if_pos (by lia)]
 . rw [if_neg h,if_neg (by lia)]
theorem pW {kvs:Kvs} {O:List As} {f:As->Bool} (b:xC) {ns:List Str} {rs:List (Str×Nat×Nat)} (h:Rows kvs O f ns rs):∀ (T:List xC) (s3 s4:Sl),T.length+ns.length<=800->∃ t3 t4,E2 (st1 3) nA ((ns.filter (isM kvs)).map (sel kvs)) [.sh b,fN (plN f O),.ow (.list T),s3,s4]=.nx [.sh b,fN (plN f O),.ow (.list (T++rs.map C2)),t3,t4]:=by
 induction h with
 | nil=>intro T s3 s4 _; rw [l9,zN]; exact ⟨s3,s4,rfl⟩
 | @mark n i a1 a2 bb c ns rs hg p1 p2 _ _ _ ih =>
   intro T s3 s4 hl; rw [xU] at hl; rw [yL,Yd hg,if_pos rfl,xL,show sel kvs n=.tuple [.str "mark",i,.str n,a1,a2] by unfold sel; rw [hg]; rfl];obtain ⟨t3,t4,e2⟩:=ih (T++[C2 (n,bb,if bb < c then c else bb)]) (.sh (.tuple [.str "mark",i,.str n,a1,a2])) (.sh (.int (bb:Int))) (by simp; lia);rw [zU] at e2; refine ⟨t3,t4,(P5 rfl ?_).trans e2⟩; unfold nA; rw [B2 (C6 (d:=.int (bb:Int)) (Td rfl (B1 (x:=.tuple [.str "mark",i,.str n,a1,a2]) (y:=.int 3) rfl rfl (iS _ _ _ _ _)) p1))];simp only [yF,yG]; exact Fk rfl (M3 (A5 (B1 (x:=.tuple [.str "mark",i,.str n,a1,a2]) (y:=.int 2) rfl rfl (eG _ _ _ _)) (A5 (d:=.int (bb:Int)) rfl (A5 (K0 (A5 (d:=.int (bb:Int)) rfl (A5 (Td rfl (B1 (x:=.tuple [.str "mark",i,.str n,a1,a2]) (y:=.int 4) rfl rfl (tix4 _ _ _ _ _ _)) p2) rfl)) (mx bb c)) rfl)))) (by lia)
 | @skip n i ns rs hg _ ih =>
   intro T s3 s4 hl; rw [xU] at hl; rw [yL,lW hg,if_neg (by decide)]; exact ih T s3 s4 (by lia)
theorem vH {x:Str} (h:nmL x):(yP x&&decide (x.length<=1000))=true:=by
 obtain ⟨_,h2,h3⟩:=h;rw [yE];refine ⟨?_,decide_eq_true (by lia)⟩;unfold yP;have:∀ c∈x.cps.toList,97<=c/\c<=122:=h3;first
   | (rw [o9]; intro c hc; have:=this c hc; simp; lia)
   | (rw [GA]; intro c hc; have:=this c (by simpa using hc); simp; lia)
   | (simp; intro c hc; have:=this c (by simpa using hc); lia)
theorem Jr {k v:xC}:∀ {kvs:Kvs} {q:xC×xC},q∈N4 kvs k v->q.1=k\/∃ q'∈kvs,q.1=q'.1
 | [],q,h=>by rw [xS.mp h]; exact .inl rfl
 | p::r,q,h=>by
   unfold N4 at h;split at h
   . rcases xG.mp h with rfl | h
     . exact .inr ⟨p,.head _,rfl⟩
     . exact .inr ⟨q,.tail _ h,rfl⟩
   . rcases xG.mp h with rfl | h
     . exact .inr ⟨_,.head _,rfl⟩
     . rcases Jr h with z | ⟨q',h',z⟩
       . exact .inl z
       . exact .inr ⟨q',.tail _ h',z⟩
abbrev Kpw (kvs:Kvs):Prop:=kvs.Pairwise fun p q=>xX p.1 q.1=false
theorem cD {k v:xC}:∀ {kvs:Kvs},Kpw kvs->Kpw (N4 kvs k v)
 | [],_=>u7 _ _
 | p::r,h=>by
   rw [Kpw,yK] at h; unfold N4;split
   . exact yK.mpr ⟨h.1,h.2⟩
   . rename_i c
     refine yK.mpr ⟨fun q hq=>?_,cD h.2⟩;rcases Jr hq with z | ⟨q',h',z⟩
     . rw [z]; simpa using c
     . rw [z]; exact h.1 q' h'
theorem Ya (o:List IdP):∀ (M:List Dp) (kvs:Kvs),Kpw kvs->Kpw (Ba o M kvs)
 | [],_,h=>h
 | e::M,kvs,h=>by
   refine Ya o M _ ?_; unfold X0;split
   . split
     . exact h
     . exact cD h
   . exact h
theorem Vr:∀ {kvs:Kvs} {ss:List Str},M4 (kvs.map (·.1))=some ss->Kpw kvs->ss.Nodup
 | [],ss,e,_=>by cases e; exact .nil
 | p::r,ss,e,h=>by
   rw [Kpw,yK] at h; have e':=Gu e;cases ss with
   | nil=>cases e'
   | cons x ss =>
     rw [xL,xL] at e';injection e' with e1 e2
     have e1:p.1=.str x:=e1; refine zS.mpr ⟨fun z=>?_,Vr (kvs:=r) ?_ h.2⟩
     . have:zM x∈r.map (·.1):=by rw [e2]; exact zA z
       obtain ⟨q,hq,eq⟩:=yH.mp this; have hh:=h.1 q hq; rw [e1,show q.1=_ from eq] at hh; exact absurd (show (x==x)=false from hh) (by rw [beq_self_eq_true]; decide)
     . have : ∀ (l : List Str), M4 (l.map zM) = some l := fun l => by
         induction l with
         | nil=>rfl
         | cons y l ih=>show (M4 (l.map zM)).map (y::·)=_; rw [ih]; rfl
       rw [e2]; exact this ss
abbrev Row:=Str×Nat×Nat
def ltW (a b:Row):Prop:=leX a.1 b.1/\a.1≠b.1
theorem Rows.sub {kvs:Kvs} {O:List As} {f:As->Bool} {ns:List Str} {rs:List Row} (h:Rows kvs O f ns rs):(rs.map (·.1)).Sublist ns:=by
 induction h with
 | nil=>exact .slnil
 | mark _ _ _ _ _ _ ih=>exact ih.cons_cons _
 | skip _ _ ih=>exact ih.cons _
def sY (kvs:Kvs):Prop:=∀ p∈kvs,∃ x:Str,p.1=.str x
theorem Sw {n:Str} {d:xC}:∀ {kvs:Kvs},sY kvs->∀ m:Str,F1 (N4 kvs (.str n) d) (.str m)=if n=m then some d else F1 kvs (.str m)
 | [],_,m=>by
   show ((HR (fun p=>xX p.1 (.str m)) [((.str n:xC),d)]).map (·.2))=_;rw [yN,show xX ((zM n,d):xC×xC).1 (.str m)=(n==m) from rfl];by_cases c:n=m
   . rw [if_pos c,c,Ig]; rfl
   . rw [if_neg c,Dz c]; rfl
 | p::r,h,m=>by
   obtain ⟨x,hx⟩:=h p (.head _); have ih:=Sw (n:=n) (d:=d) (kvs:=r) (fun q hq=>h q (.tail _ hq)) m;unfold N4; rw [hx,show xX (.str x) (.str n)=(x==n) from rfl];by_cases c:x=n
   . subst c
     rw [Ig,if_pos rfl]; unfold F1; rw [yN,yN,hx,show xX (.str x) (.str m)=(x==m) from rfl];by_cases c2:x=m
     . rw [if_pos c2,c2,Ig]; rfl
     . rw [if_neg c2,Dz c2]
   . rw [Dz c,if_neg (by decide)]
     unfold F1 at ih ⊢;rw [yN,yN,hx,show xX (.str x) (.str m)=(x==m) from rfl];by_cases c2:x=m
     . rw [c2,Ig,if_neg (by rw [<- c2]; exact fun z=>c z.symm)]
     . rw [Dz c2]; exact ih
def GR (O:List As) (f:As->Bool) (look:Str->Option xC) (t:Row):Prop:=∃ i a1 a2,∃ c:Nat,look t.1=some (.tuple [.str "mark",i,.str t.1,a1,a2])/\D9 [fN (plN f O),.sh a1]=.ok (.int (t.2.1:Int))/\D9 [fN (plN f O),.sh a2]=.ok (.int (c:Int))/\t.2.2=(if t.2.1 < c then c else t.2.1)
theorem Yl:∀ {l l':List Row},l.Pairwise ltW->l'.Pairwise ltW->(∀ x,x∈l↔x∈l')->l=l'
 | [],[],_,_,_=>rfl
 | [],b::m,_,_,h=>nomatch (h b).mpr (.head _)
 | a::l,[],_,_,h=>nomatch (h a).mp (.head _)
 | a::l,b::m,h1,h2,h=>by
   rw [yK] at h1 h2; have e:a=b:=by
     rcases xG.mp ((h a).mp (.head _)) with e | e
     . exact e
     . rcases xG.mp ((h b).mpr (.head _)) with e' | e'
       . exact e'.symm
       . exact absurd ((h1.1 b e').1.anti (h2.1 a e).1) (h1.1 b e').2
   subst e; have:l=m:=Yl h1.2 h2.2 fun x=>⟨fun hx=>by
     rcases xG.mp ((h x).mp (.tail _ hx)) with z | z
     . exact absurd (by rw [z]) (h1.1 x hx).2
     . exact z,fun hx=>by
     rcases xG.mp ((h x).mpr (.tail _ hx)) with z | z
     . exact absurd (by rw [z]) (h2.1 x hx).2
     . exact z⟩
   rw [this]
theorem Ui {a b:Nat} {r:Res xC} (h1:r=.ok (.int (a:Int))) (h2:r=.ok (.int (b:Int))):a=b:=by
 rw [h1] at h2;injection h2 with h2
 injection h2 with h2
 lia
theorem Rows.mem {kvs:Kvs} {O:List As} {f:As->Bool} {ns:List Str} {rs:List Row} (h:Rows kvs O f ns rs):∀ t:Row,t∈rs↔t.1∈ns/\GR O f (fun n=>F1 kvs (.str n)) t:=by
 induction h with
 | nil=>intro t; exact ⟨fun h=>(nomatch h),fun h=>(nomatch h.1)⟩
 | @mark n i a1 a2 b c ns rs hg p1 p2 hb hc _ ih =>
   intro t;constructor
   . intro ht
     rcases xG.mp ht with rfl | ht
     . exact ⟨.head _,i,a1,a2,c,hg,p1,p2,rfl⟩
     . obtain ⟨z1,z2⟩:=(ih t).mp ht
       exact ⟨.tail _ z1,z2⟩
   . rintro ⟨h1,h2⟩
     rcases xG.mp h1 with e | h1
     . obtain ⟨t1,t2,t3⟩:=t
       have e:t1=n:=e; subst e; obtain ⟨i',b1,b2,c',g1,g2,g3,g4⟩:=h2; have g1:F1 kvs (.str t1)=some (.tuple [.str "mark",i',.str t1,b1,b2]):=g1; rw [hg] at g1;injection g1 with g1
       injection g1 with g1
       injection g1 with _ g1
       injection g1 with _ g1
       injection g1 with _ g1
       injection g1 with z1 g1
       injection g1 with z2 _
       subst z1; subst z2; have k1:t2=b:=Ui g2 p1; have k2:c'=c:=Ui g3 p2; subst k1; subst k2; have g4:t3=_:=g4; rw [g4]; exact .head _
     . exact .tail _ ((ih t).mpr ⟨h1,h2⟩)
 | @skip n i ns rs hg _ ih =>
   intro t;constructor
   . intro ht
     obtain ⟨z1,z2⟩:=(ih t).mp ht; exact ⟨.tail _ z1,z2⟩
   . rintro ⟨h1,h2⟩
     refine (ih t).mpr ⟨?_,h2⟩; rcases xG.mp h1 with e | h1
     . obtain ⟨i',b1,b2,c',g1,_⟩:=h2
       have g1:F1 kvs (.str t.1)=_:=g1; rw [e,hg] at g1;injection g1 with g1
       injection g1 with g1
       injection g1 with g1 _
       injection g1 with g1
       exact absurd g1 (by decide)
     . exact h1
theorem Uy {f:As->Bool}:∀ {O:List As} {k:Nat} {u:As},(O.map sgn).Nodup->(O.filter f)[k]? = some u->u∈O/\f u=true/\bef f O u=k
 | [],k,u,_,h=>by simp at h
 | v::r,k,u,nd,h=>by
   rw [xL,zS] at nd; rw [yL] at h; have ne:u∈r->¬ sgn v=sgn u:=fun hu z=>nd.1 (by rw [z]; exact zA hu);cases c:f v with
   | false =>
     rw [c,if_neg (by decide)] at h; obtain ⟨h1,h2,h3⟩:=Uy nd.2 h; refine ⟨.tail _ h1,h2,?_⟩; unfold bef; rw [if_neg (ne h1),c,h3]; show 0+k=k;lia
   | true =>
     rw [c,if_pos rfl] at h;cases k with
     | zero =>
       simp at h;subst h; refine ⟨.head _,c,?_⟩; unfold bef; rw [if_pos rfl]
     | succ k =>
       rw [BJ] at h; obtain ⟨h1,h2,h3⟩:=Uy nd.2 h; refine ⟨.tail _ h1,h2,?_⟩; unfold bef; rw [if_neg (ne h1),c,h3]; show 1+k=k+1;lia
abbrev lkL (L:List Dp) (n:Str):Option xC:=F1 (Ba (off L) L []) (.str n)
theorem lM {L:List Dp} {B:List Ad} {ku kd:Kvs} (A:BkA L B) (kdL:∀ e∈L,Kd e) (mdL:∀ e∈L,Md (ord B) e) (hl:L.length<=11) (P:Pq L ku kd):∃ ts:List Row,D4 [bkD L]=.ok (.list (ts.map C2))/\ts.Pairwise ltW/\ts.length<=11/\(∀ t∈ts,t.2.1<=t.2.2/\t.2.2<=((ord B).filter (E4 ku kd)).length)/\∀ t,t∈ts↔GR (ord B) (E4 ku kd) (lkL L) t:=by
 unfold lkL;have hol:=Dj A;have nd:=Fl A.bk;obtain ⟨t3,g1,g2⟩:=Sg (O:=ord B) (off L) (B8 (Y7 true 1 (b2 (A0 3) (vC (.int 1)) dIx))) (.sh (bkD L)) (oN ku) L mdL (fun e he kvs=>by
   refine C0 ?_; rw [Ia (kvs:=ku) (kd:=idP e.2) rfl (B1 (x:=e.1) (y:=.int 1) rfl rfl (kdL e he).tid) (Oz _),bne_true]; exact congrArg (fun z=>Res.ok (CA (!z))) (P.o e.2)) [] .un (by simp; lia)
 have hlast:=Yb (O:=ord B) (off L) L mdL [] (fun _ h=>nomatch h);have hpw:=Ya (off L) L [] .nil;generalize hkv:Ba (off L) L []=kvs at *;have hkl:kvs.length<=11:=by simp at g2; lia
 obtain ⟨ss,s1,s2,s3,s4⟩:=hlast.texts;have hsort:∀ (δ:Dn) (i:Nat),kvN δ i=some kvs->Mn i δ=.ok (.list ((Q3 ss).map .str)):=fun δ i h=>by
   unfold Mn; rw [h]; show (match M4 (kvs.map (·.1)) with | some ss=>_ | none=>_)=_;rw [s1]; show (if _ then _ else _)=_;rw [if_pos ⟨by lia,o9.mpr fun x hx=>vH (s3 x hx)⟩]
 have hnl:(Q3 ss).length<=11:=by rw [(L8 ss).length_eq]; lia
 obtain ⟨rs,R⟩:=cA (f:=E4 ku kd) nd hlast (Q3 ss) fun x hx=>s4 x ((L8 ss).mem_iff.mp hx);have hmd:P7 [bkD L]=.ok (.list (((Q3 ss).filter (isM kvs)).map (sel kvs))):=by
   unfold P7 Au L6; refine U4 ?_; show B6 _ _ [.sh (bkD L),.un,.un,.un]=_;rw [B2 (δ':=[.sh (bkD L),oN ku,.un,.un]) (by unfold X6 Eb Hw; simp_arith [P.P.u])];rw [B2 (δ':=[.sh (bkD L),oN ku,oN [],.un]) (by rfl)];rw [B2 (δ':=[.sh (bkD L),oN ku,oN kvs,t3]) (by
     unfold X5 M8; rw [E1 (d:=bkD L) (ds:=L.map (·.1)) rfl rfl,D1]; exact g1)]
   unfold X4; exact K4 (P2 (E9 (E1 (d:=.list ((Q3 ss).map .str)) (hsort _ _ rfl) rfl) (by rw [xJ]; lia) rfl (pZ R)))
 obtain ⟨v3,v4,q1⟩:=pW (bkD L) R [] .un .un (by simp; lia);obtain ⟨r1,r2,_⟩:=R.ok;have hnd:(Q3 ss).Nodup:=(L8 ss).nodup_iff.mpr (Vr s1 hpw);have hss:∀ n d,F1 kvs (.str n)=some d->n∈ss:=fun n d h=>by
   unfold F1 at h; obtain ⟨p,e1,_⟩:=yT.mp h; have hp:=IC e1; have hq:=List.find?_some e1; have e2:=Gu s1; have:p.1∈ss.map zM:=by rw [<- e2]; exact zA hp
   obtain ⟨x,hx,e3⟩:=yH.mp this; rw [<- e3] at hq; have:x=n:=j6 (show (x==n)=true from hq);rw [<- this]; exact hx
 refine ⟨rs,?_,?_,by lia,fun t ht=>⟨(r2 t ht).2.1,(r2 t ht).2.2⟩,fun t=>?_⟩
 . unfold D4
   refine U4 ?_; show B6 _ _ [.sh (bkD L),.un,.un,.un,.un]=_;rw [B2 (δ':=[.sh (bkD L),oN (plN (E4 ku kd) (ord B)),.un,.un,.un]) (by unfold Bz Eb Hw; simp_arith [fL A hl P.P])];rw [B2 (δ':=[.sh (bkD L),oN (plN (E4 ku kd) (ord B)),.ow (.list []),.un,.un]) (by rfl)];rw [B2 (δ':=[.sh (bkD L),fN (plN (E4 ku kd) (ord B)),.ow (.list ([]++rs.map C2)),v3,v4]) (by
     unfold Bx jV; show M8 _ _ _ [.sh (bkD L),fN (plN (E4 ku kd) (ord B)),.ow (.list []),.un,.un]=_;unfold M8; rw [E1 (d:=.list (((Q3 ss).filter (isM kvs)).map (sel kvs))) (ds:=((Q3 ss).filter (isM kvs)).map (sel kvs)) (B4 (A5 (d:=bkD L) rfl rfl) hmd) rfl,D1]; exact q1)]
   rfl
 . have h1:=(((Nq ss).and hnd).sublist R.sub)
   rw [z8] at h1; exact h1
 . rw [R.mem t]
   refine ⟨fun h=>h.2,fun h=>⟨?_,h⟩⟩;obtain ⟨i,a1,a2,c,g,_⟩:=h; exact (L8 ss).mem_iff.mpr (hss t.1 _ g)
noncomputable def mk (l:List Nat):Str:=⟨l.toArray⟩
noncomputable def cp (u:As):Nat:=u.1.w.cps.toList.getD u.2 0
def Ok (l:List Nat):Prop:=∀ c∈l,32<=c/\c<=126
theorem lL (a b:List Nat):mk a++mk b=mk (a++b):=by
 show (⟨a.toArray++b.toArray⟩:Str)=⟨(a++b).toArray⟩;simp
theorem Cl (l:List Nat):(mk l).length=l.length:=by rw [Zy]; rfl
theorem pY (us:List As):k9 "" (us.map ltr)=mk (us.map cp):=by
 have one:∀ (x:Str) (r:List Str),k9 "" (x::r)=x++k9 "" r:=fun x r=>by
   cases r with
   | nil =>
     show x=x++(⟨#[]⟩:Str);show x=(⟨x.cps ++ #[]⟩:Str);cases x; simp
   | cons y r =>
     show x++("" : Str)++k9 "" (y::r)=_;have:x++("" : Str)=x:=by
       show (⟨x.cps ++ #[]⟩:Str)=x;cases x; simp
     rw [this]
 induction us with
 | nil=>rfl
 | cons u us ih =>
   rw [xL,one,ih,xL]; exact lL [cp u] _
theorem sJ {α:Type} (l:List α):∀ (n a:Nat),a+n<=l.length->((c8 n).map fun k=>a+k).filterMap (l[·]?)=(l.drop a).take n
 | 0,a,_=>by simp
 | n+1,a,h=>by
   have hlt:a+n < l.length:=by lia
   rw [List.range_succ,yV,List.filterMap_append,sJ l n a (by lia),List.take_add_one,List.getElem?_drop]; simp [hlt]
theorem rF {l:List Nat} {lo hi:Option Int} {a b:Nat} (e:zZ lo hi 1 l.length=zZ (some (a:Int)) (some (b:Int)) 1 l.length) (hab:a<=b) (hb:b<=l.length):Vb (mk l) lo hi=mk ((l.drop a).take (b - a)):=by
 unfold Vb;rw [Cl,e,PySem.StrLaws.strSliceIndices_plain hab hb];have p:=sJ l (b - a) a (by lia);have p':((c8 (b - a)).map fun k=>a+k).filterMap ((mk l).cps[·]?)=(l.drop a).take (b - a):=by
   rw [<- p,show (fun k=>(mk l).cps[k]?)=(fun k=>l[k]?) from funext fun k=>by show l.toArray[k]? = l[k]?; simp]
 split
 . rename_i h
   simp only [xJ,List.length_range,beq_iff_eq] at h; have ha:a=0:=by lia
   have hb:b=l.length:=by lia
   subst ha hb; simp
 . rw [p']; rfl
theorem bJ {c c':Dn->Res Bool} {δ:Dn} (h1:c δ=.ok false) (h2:c' δ=.ok false):cOr c c' δ=.ok false:=by unfold cOr; rw [h1,C4,if_neg (by decide),h2]
theorem fG {st:xC->Dn->Option Dn} {body:Dn->Out} {d r:xC} {ds:List xC} {δ δ1:Dn} (h1:st d δ=some δ1) (h2:body δ1=.rt r):E2 st body (d::ds) δ=.rt r:=by
 conv=>lhs; unfold E2
 rw [h1];show (match body δ1 with | .nx δ'=>_ | .ct δ'=>_ | .bk δ'=>_ | o=>_)=_;rw [h2]
def Rf (n:Nat) (d:xC):Prop:=xX d d=true/\d.depth<=n
theorem Rf.all {n:Nat}:∀ {xs:List xC},(∀ x∈xs,Rf n x)->AR xs xs=true/\zW xs<=n:=by
 intro xs;induction xs with
 | nil=>intro _; exact ⟨rfl,zY _⟩
 | cons x xs ih =>
   intro h; obtain ⟨i1,i2⟩:=ih fun y hy=>h y (.tail _ hy);obtain ⟨j1,j2⟩:=h x (.head _); rw [AR,zW,i1,j1]; exact ⟨rfl,by lia⟩
theorem Rf.list {n:Nat} {xs:List xC} (h:∀ x∈xs,Rf n x):Rf (n+1) (.list xs):=by
 obtain ⟨h1,h2⟩:=Rf.all h;exact ⟨h1,by rw [zR]; lia⟩
theorem Rf.tup {n:Nat} {xs:List xC} (h:∀ x∈xs,Rf n x):Rf (n+1) (.tuple xs):=by
 obtain ⟨h1,h2⟩:=Rf.all h;exact ⟨h1,by rw [zR]; lia⟩
theorem Rf.ne {n:Nat} {d:xC} (h:Rf n d) (hn:n<=62):dNe d d=some (.bool false):=by
 unfold dNe;rw [if_pos (yA (CO _ _) (yA h.2 (yA hn (by decide)))),h.1]; rfl
theorem Rf.str {n:Nat} (x:Str):Rf n (.str x):=⟨by simp [xX],by simp [zR]⟩
theorem sV (a b:Int):D7 .LtE (.int a) (.int b)=some (.bool (decide (a<=b))):=rfl
theorem cmpLt (a b:Int):D7 .Lt (.int a) (.int b)=some (.bool (decide (a < b))):=rfl
theorem dR {W:List xC} {x:xC}:dIx (.list (W++[x])) (.int (-1))=some x:=by
 show atI (W++[x]) (-1)=_;unfold atI ixN;rw [yB,if_neg (by lia),if_pos (by simp; lia)];show (W++[x])[_]? = _;rw [show (-1+((W.length+[x].length:Nat):Int)).toNat=W.length by simp; lia];simp
theorem Si:∀ ns:List Int,Gn (ns.map .int)=some ns
 | []=>rfl
 | n::ns=>by show (Gn (ns.map .int)).map (n::·)=_; rw [Si ns]; rfl
theorem oB (ns:List Int) (h:ns.length < 64):Ev [.list (ns.map .int)]=some (.list ((Ei (Y9 ns)).map .int)):=by
 show (if (ns.map xV).length < 64 then (match Gn (ns.map .int) with | some ns=>some (IP ((Ei (Y9 ns)).map .int)) | none=>_) else none)=_;rw [if_pos (by simpa using h),Si]
theorem aY {K:Type} [DecidableEq K] (l:List K):(Y9 l).Nodup:=by
 have:∀ (l m:List K),m.Nodup->(l.foldl U9 m).Nodup:=fun l=>by
   induction l with
   | nil=>exact fun m h=>h
   | cons y l ih =>
     intro m h; refine ih _ ?_; unfold U9;split
     . exact h
     . rename_i hy
       rw [z9]; exact ⟨h,by simp,fun a ha b hb e=>by rw [xS.mp hb] at e; exact hy (e▸ha)⟩
 exact this l [] List.nodup_nil
theorem fH {lo hi:Int} (h:lo < hi):W6 lo hi=.int lo::W6 (lo+1) hi:=by
 unfold W6;obtain ⟨k,hk⟩:∃ k:Nat,(hi - lo).toNat=k+1:=⟨(hi - lo).toNat - 1,by lia⟩;rw [hk,show (hi - (lo+1)).toNat=k by lia,List.range_succ_eq_map,xL,i6];congr 1
 . simp
 . refine FL fun i _=>?_
   show xV _=xV _;congr 1;simp;lia
theorem jX {lo hi:Int} (h:hi<=lo):W6 lo hi=[]:=by
 unfold W6;rw [show (hi - lo).toNat=0 by lia]; rfl
theorem fmax:∀ (l:List Int) (a:Int),a<=l.foldl max a/\(∀ x∈l,x<=l.foldl max a)/\(l.foldl max a=a\/l.foldl max a∈l):=by
 intro l;induction l with
 | nil=>intro a; exact ⟨Int.le_refl _,fun _ h=>(nomatch h),.inl rfl⟩
 | cons x l ih =>
   intro a; obtain ⟨h1,h2,h3⟩:=ih (max a x); rw [s0]; refine ⟨by lia,fun y hy=>?_,?_⟩
   . rcases xG.mp hy with rfl | hy
     . lia
     . exact h2 y hy
   . rcases h3 with z | z
     . by_cases c:a<=x
       . exact .inr (by rw [z,Int.max_eq_right c]; exact .head _)
       . exact .inl (by rw [z,Int.max_eq_left (by lia)])
     . exact .inr (.tail _ z)
theorem Hg:∀ ns:List Int,Cm (ns.map .int)=some ns:=by
 intro ns;induction ns with
 | nil=>rfl
 | cons n ns ih=>show (Cm (ns.map .int)).map (n::·)=_; rw [ih]; rfl
theorem Vi {c c':Dn->Res Bool} {δ:Dn} {a b:Bool} (h1:c δ=.ok a) (h2:c' δ=.ok b):O0 c c' δ=.ok (a&&b):=by
 unfold O0;rw [h1,C4];cases a with
 | true=>exact h2
 | false=>rfl
theorem kZ {l:List Nat} (h:Ok l) (hl:l.length<=1000):okS (mk l)=true:=by
 unfold okS yP;rw [decide_eq_true (by rw [Cl]; exact yA hl Kr),IG,GA];intro c hc;have:=(h c (by simpa [mk] using hc)).2;exact decide_eq_true (by lia)
noncomputable def sl (T:List Nat) (a b:Nat):List Nat:=(T.drop a).take (b - a)
theorem tX (T:List Nat) {a b:Nat} (h:b<=a):sl T a b=[]:=by unfold sl; rw [Nat.sub_eq_zero_of_le h]; rfl
theorem tY (T:List Nat) {a b c:Nat} (h1:a<=b) (h2:b<=c):sl T a b++sl T b c=sl T a c:=by
 unfold sl;rw [show c - a=(b - a)+(c - b) by lia,List.take_add,List.drop_drop,show a+(b - a)=b by lia]
theorem Zz (T:List Nat) {a b:Nat} (h:b<=T.length):(sl T a b).length=b - a:=by
 unfold sl;rw [CC,EC]; lia
theorem aA (T:List Nat):sl T 0 T.length=T:=by unfold sl; simp
theorem sl_ok {T:List Nat} (h:Ok T) (a b:Nat):Ok (sl T a b):=fun c hc=>h c (FC (JR hc))
theorem wL {T:List Nat} (h:Ok T) (hl:T.length<=44) {a b:Nat} (h1:a<=b) (h2:b<=T.length) {f:Dn->Res xC} {fa fb:Dn->Res xC} {δ:Dn} (e0:f δ=.ok (.str (mk T))) (e1:fa δ=.ok (.int (a:Int))) (e2:fb δ=.ok (.int (b:Int))) :
   iJ f (Bj fa) (Bj fb) δ=.ok (.str (mk (sl T a b))):=by
 unfold iJ Bj;rw [e0,C4,e1,C4];show Res.bind (Res.ok (some (a:Int))) _=_;rw [C4,e2,C4];show Res.bind (Res.ok (some (b:Int))) _=_;rw [C4];have e:Vb (mk T) (some (a:Int)) (some (b:Int))=mk (sl T a b):=rF rfl h1 h2;show ofO (if okS (Vb (mk T) (some (a:Int)) (some (b:Int)))=true then _ else _)=_;rw [e,if_pos (kZ (sl_ok h a b) (by rw [Zz T h2]; lia))]; rfl
theorem qE (xs:List (List Nat)) (h:Ok xs.flatten) (hl:xs.flatten.length<=1000):Le "" (.list (xs.map fun x=>.str (mk x)))=some (.str (mk xs.flatten)):=by
 have one:∀ (x:Str) (r:List Str),k9 "" (x::r)=x++k9 "" r:=fun x r=>by
   cases r with
   | nil =>
     show x=(⟨x.cps ++ #[]⟩:Str);cases x; simp
   | cons y r =>
     show x++("" : Str)++k9 "" (y::r)=_;have:x++("" : Str)=x:=by
       show (⟨x.cps ++ #[]⟩:Str)=x;cases x; simp
     rw [this]
 have hj:∀ xs:List (List Nat),k9 "" (xs.map mk)=mk xs.flatten/\((xs.map mk).map (·.length)).sum=xs.flatten.length:=fun xs=>by
   induction xs with
   | nil=>exact ⟨rfl,rfl⟩
   | cons x xs ih =>
     rw [xL,one,ih.1,lL,xL,List.sum_cons,ih.2,j0,yB,Cl]; exact ⟨rfl,rfl⟩
 obtain ⟨j1,j2⟩:=hj xs;obtain ⟨o1,o2⟩:=okS.out (kZ h hl);show (Cb (xs.map fun x=>zM (mk x))).bind _=_;rw [Gw];show (if _ then _ else _)=_;rw [j1,if_pos ⟨by rw [j2,show ("" : Str).length=0 from rfl,Nat.mul_zero]; lia,o1,o2⟩]
inductive Chn:Nat->List (Nat×Nat)->Nat->Prop where
 | nil {a:Nat}:Chn a [] a
 | cons {a b c:Nat} {r:List (Nat×Nat)}:a < b->Chn b r c->Chn a ((a,b)::r) c
theorem Chn.le {a c:Nat} {P:List (Nat×Nat)} (h:Chn a P c):a<=c/\∀ p∈P,a<=p.1/\p.1 < p.2/\p.2<=c:=by
 induction h with
 | nil=>exact ⟨xN _,fun _ h=>nomatch h⟩
 | cons hab _ ih =>
   refine ⟨by lia,fun p hp=>?_⟩;rcases xG.mp hp with rfl | hp
   . exact ⟨xN _,hab,ih.1⟩
   . have:=ih.2 p hp
     lia
theorem Chn.join (T:List Nat) {a c:Nat} {P:List (Nat×Nat)} (h:Chn a P c):(P.map fun p=>sl T p.1 p.2).flatten=sl T a c:=by
 induction h with
 | nil=>exact (tX T (xN _)).symm
 | cons hab k ih=>rw [xL,j0,ih,tY T (CQ hab) k.le.1]
theorem mW {α:Type} {δc:Dn} {tt:Dn->Res Bool} {el:Dn->Res xC} (g1 g2 h:α->xC) (f:α->Bool):∀ xs:List α,(∀ x∈xs,tt ([.sh (g1 x),.sh (g2 x)]++δc)=.ok (f x))->(∀ x∈xs,el ([.sh (g1 x),.sh (g2 x)]++δc)=.ok (h x))->C8 V0 δc tt el (xs.map fun x=>.tuple [g1 x,g2 x])=.ok ((xs.filter f).map h):=by
 intro xs;induction xs with
 | nil=>intro _ _; rfl
 | cons x xs ih =>
   intro ht he; have i:=ih (fun y hy=>ht y (.tail _ hy)) fun y hy=>he y (.tail _ hy);have h1:=ht x (.head _); have h2:=he x (.head _); rw [xL]; unfold C8;cases c:f x with
   | true =>
     rw [c] at h1; simp only [V0,h1,h2,i]; rw [yL,c,if_pos rfl,xL]
   | false =>
     rw [c] at h1; simp only [V0,h1,i]; rw [yL,c,if_neg (by decide)]
structure K3 (L:List Dp) (T:List Nat) (ts:List Row):Prop where
 t:O2 [bkD L]=.ok (.str (mk T))
 m:D4 [bkD L]=.ok (.list (ts.map C2))
 up:ts.Pairwise ltW
 ln:ts.length<=11
 ok:∀ t∈ts,t.2.1<=t.2.2/\t.2.2<=T.length
 ch:Ok T
 tl:T.length<=44
theorem sO {L:List Dp} {B:List Ad} {ku kd:Kvs} (A:BkA L B) (kdL:∀ e∈L,Kd e) (mdL:∀ e∈L,Md (ord B) e) (hl:L.length<=11) (P:Pq L ku kd):∃ ts,K3 L (((ord B).filter (E4 ku kd)).map cp) ts/\∀ t,t∈ts↔GR (ord B) (E4 ku kd) (lkL L) t:=by
 obtain ⟨ts,m1,m2,m3,m4,m5⟩:=lM A kdL mdL hl P;have hol:=Dj A;have hf:=BY (E4 ku kd) (ord B);refine ⟨ts,⟨?_,m1,m2,m3,fun t ht=>?_,?_,by rw [xJ]; lia⟩,m5⟩
 . rw [nS A hl P.P,pY]
 . rw [xJ]; exact m4 t ht
 . intro c hc
   obtain ⟨u,hu,rfl⟩:=yH.mp hc; have:=(Di A.bk u).mp (j4.mp hu).1; exact (lO (A.wd _ this.1) this.2).2.2 _ (.head _)
theorem aL {ts:List Row} (up:ts.Pairwise ltW) {t u:Row} (ht:t∈ts) (hu:u∈ts) (h:t.1=u.1):t=u:=by
 induction ts with
 | nil=>cases ht
 | cons x ts ih =>
   rw [yK] at up; rcases xG.mp ht with e1 | h1
   . rcases xG.mp hu with e2 | h2
     . rw [e1,e2]
     . exact absurd (by rw [<- e1,h]) (up.1 u h2).2
   . rcases xG.mp hu with e2 | h2
     . exact absurd (by rw [<- e2,h]) (up.1 t h1).2
     . exact ih up.2 h1 h2
theorem qK (b:Bool) (x:Str) (xs:List Str):dIn b (.str x) (.list (xs.map .str))=some (.bool (b != decide (x∈xs))):=by
 show (if _ then _ else _)=_;rw [if_pos (yA (p0 _ _) (by simp [zR]))];have:((xs.map zM).any fun y=>xX y (.str x))=decide (x∈xs):=by
   rw [IT,l3,w5,decide_eq_true_iff];constructor
   . rintro ⟨y,hy,e⟩
     have e:(y==x)=true:=e; rw [<- j6 e]; exact hy
   . intro h; exact ⟨x,h,by show (x==x)=true; exact beq_self_eq_true x⟩
 rw [this];cases b <;> cases decide (x∈xs) <;> rfl
abbrev hb (t:Row) (p:Nat×Nat):Bool:=decide (t.2.1<=p.1)&&decide (p.2<=t.2.2)
abbrev Er (ts:List Row) (p:Nat×Nat):List Str:=(ts.filter fun t=>hb t p).map (·.1)
abbrev Hh (ts:List Row) (p:Nat×Nat):xC:=.list ((Er ts p).map .str)
theorem qA {ts:List Row} (up:ts.Pairwise ltW) {t:Row} (ht:t∈ts) (f:Row->Bool):decide (t.1∈(ts.filter f).map (·.1))=f t:=by
 rw [l3,decide_eq_true_iff,yH];constructor
 . rintro ⟨u,hu,e⟩
   obtain ⟨h1,h2⟩:=j4.mp hu; rw [aL up ht h1 e.symm]; exact h2
 . intro h; exact ⟨t,j4.mpr ⟨ht,h⟩,rfl⟩
theorem Ue (t:Row):dIx (C2 t) (.int 0)=some (.str t.1):=X3 _ _
theorem Ud (t:Row):dIx (C2 t) (.int 1)=some (.int (t.2.1:Int)):=Ef _ _ _
theorem Uc (t:Row):dIx (C2 t) (.int 2)=some (.int (t.2.2:Int)):=eG _ _ _ _
theorem leN (a b:Nat):D7 .LtE (.int (a:Int)) (.int (b:Int))=some (.bool (decide (a<=b))):=by
 rw [sV]; congr 2; exact decide_eq_decide.mpr (by lia)
theorem ltN (a b:Nat):D7 .Lt (.int (a:Int)) (.int (b:Int))=some (.bool (decide (a < b))):=by
 rw [cmpLt]; congr 2; exact decide_eq_decide.mpr (by lia)
theorem qL {ts:List Row} (hl:ts.length<=11) (a b:Nat):K8 [.list (ts.map C2),.int (a:Int),.int (b:Int)]=.ok (Hh ts (a,b)):=by
 have c:=Z0 (δc:=[.sh (.int (a:Int)),.sh (.int (b:Int))]) (tt:=O0 (B8 (b2 (b2 (A0 0) (vC (.int 1)) dIx) (A0 1) (D7 .LtE))) (B8 (b2 (A0 2) (b2 (A0 0) (vC (.int 2)) dIx) (D7 .LtE)))) (el:=b2 (A0 0) (vC (.int 0)) dIx) C2 (fun t=>.str t.1) (fun t=>hb t (a,b)) ts (fun t _=>Vi (C0 (B1 (x:=.int (t.2.1:Int)) (y:=.int (a:Int)) (B1 (x:=C2 t) (y:=.int 1) rfl rfl (Ud t)) rfl (leN _ _))) (C0 (B1 (x:=.int (b:Int)) (y:=.int (t.2.2:Int)) rfl (B1 (x:=C2 t) (y:=.int 2) rfl rfl (Uc t)) (leN _ _)))) fun t _=>B1 (x:=C2 t) (y:=.int 0) rfl rfl (Ue t);unfold Hh Er;rw [i6];exact U4 (K4 (P2 (E9 (δc:=[.sh (.int (a:Int)),.sh (.int (b:Int))]) (E1 (d:=.list (ts.map C2)) rfl rfl) (by rw [xJ]; lia) rfl c)))
noncomputable section
variable {L:List Dp} {T:List Nat} {ts:List Row} {P:List (Nat×Nat)}
noncomputable def csZ (T:List Nat) (ts:List Row):List Int:=Ei (Y9 ((0:Int)::(T.length:Int)::((ts.map fun t=>(t.2.1:Int))++ts.map fun t=>(t.2.2:Int))))
noncomputable def cs (T:List Nat) (ts:List Row):List Nat:=(csZ T ts).map Int.toNat
theorem Vc {x:Int}:x∈csZ T ts↔x=0\/x=T.length\/(∃ t∈ts,(t.2.1:Int)=x)\/∃ t∈ts,(t.2.2:Int)=x:=by
 unfold csZ;rw [(V4 _).mem_iff,Yp,xG,xG,xY,yH,yH]
theorem Fo (K:K3 L T ts):∀ x∈csZ T ts,0<=x/\x<=T.length:=fun x hx=>by
 rcases Vc.mp hx with z | z | ⟨t,ht,z⟩ | ⟨t,ht,z⟩
 . lia
 . lia
 . have:=K.ok t ht; lia
 . have:=K.ok t ht; lia
theorem rG (K:K3 L T ts):(cs T ts).map (fun c:Nat=>xV (c:Int))=(csZ T ts).map .int:=by
 unfold cs;rw [i6];refine FL fun x hx=>?_;have:=Fo K x hx;show xV ((x.toNat:Nat):Int)=.int x;rw [show ((x.toNat:Nat):Int)=x by lia]
theorem dF (K:K3 L T ts):(cs T ts).Pairwise (· < ·):=by
 have h2:(csZ T ts).Nodup:=(V4 _).nodup_iff.mpr (aY _);have h1:(csZ T ts).Pairwise (· < ·):=((Wr _).and h2).imp fun {a b} h=>by have:=h.1; have:=h.2; lia
 unfold cs;rw [z8];refine h1.imp_of_mem fun {a b} ha hb h=>?_;have:=Fo K a ha;have:=Fo K b hb;lia
theorem Hm (K:K3 L T ts) {x:Nat}:x∈cs T ts↔x=0\/x=T.length\/(∃ t∈ts,t.2.1=x)\/∃ t∈ts,t.2.2=x:=by
 unfold cs;rw [yH];constructor
 . rintro ⟨z,hz,rfl⟩
   have hn:=Fo K z hz; rcases Vc.mp hz with h | h | ⟨t,ht,h⟩ | ⟨t,ht,h⟩
   . exact .inl (by lia)
   . exact .inr (.inl (by lia))
   . exact .inr (.inr (.inl ⟨t,ht,by lia⟩))
   . exact .inr (.inr (.inr ⟨t,ht,by lia⟩))
 . intro h
   refine ⟨(x:Int),Vc.mpr ?_,by lia⟩;rcases h with h | h | ⟨t,ht,h⟩ | ⟨t,ht,h⟩
   . exact .inl (by lia)
   . exact .inr (.inl (by lia))
   . exact .inr (.inr (.inl ⟨t,ht,by lia⟩))
   . exact .inr (.inr (.inr ⟨t,ht,by lia⟩))
theorem rD (K:K3 L T ts):Cs [.str (mk T),.list (ts.map C2)]=.ok (.list ((cs T ts).map fun c:Nat=>xV (c:Int))):=by
 have hn:=K.ln;have c1:=Z0 (δc:=[]) (tt:=K7) (el:=b2 (A0 0) (vC (.int 1)) dIx) C2 (fun t=>xV (t.2.1:Int)) (fun _=>true) ts (fun _ _=>rfl) fun t _=>B1 (x:=C2 t) (y:=.int 1) rfl rfl (Ud t);have c2:=Z0 (δc:=[]) (tt:=K7) (el:=b2 (A0 0) (vC (.int 2)) dIx) C2 (fun t=>xV (t.2.2:Int)) (fun _=>true) ts (fun _ _=>rfl) fun t _=>B1 (x:=C2 t) (y:=.int 2) rfl rfl (Uc t);rw [AT.mpr fun _ _=>rfl] at c1 c2;rw [rG K];refine U4 ?_;show B6 _ _ [.sh (.str (mk T)),.sh (.list (ts.map C2)),.un,.un]=_;refine (B2 (δ':=[.sh (.str (mk T)),.sh (.list (ts.map C2)),.sh (.list (ts.map fun t=>xV (t.2.1:Int))),.un]) ?_).trans ?_
 . unfold Gx
   rw [E9 (δc:=[]) (E1 (d:=.list (ts.map C2)) rfl rfl) (by rw [xJ]; lia) rfl c1]; rfl
 refine (B2 (δ':=[.sh (.str (mk T)),.sh (.list (ts.map C2)),.sh (.list (ts.map fun t=>xV (t.2.1:Int))),.sh (.list (ts.map fun t=>xV (t.2.2:Int)))]) ?_).trans ?_
 . unfold Gx
   rw [E9 (δc:=[]) (E1 (d:=.list (ts.map C2)) rfl rfl) (by rw [xJ]; lia) rfl c2]; rfl
 refine K4 (K0 (ds:=[.list (((0:Int)::(T.length:Int)::((ts.map fun t=>(t.2.1:Int))++ts.map fun t=>(t.2.2:Int))).map .int)]) (A5 (B1 (x:=.list ([.int 0,.int (T.length:Int)]++ts.map fun t=>xV (t.2.1:Int))) (y:=.list (ts.map fun t=>xV (t.2.2:Int))) (B1 (x:=.list [.int 0,.int (T.length:Int)]) (y:=.list (ts.map fun t=>xV (t.2.1:Int))) (P2 (A5 rfl (A5 (K0 (A5 rfl rfl) (by rw [Qx,Cl])) rfl))) rfl (Zm (by simp; lia))) rfl ?_) rfl) (oB _ (by simp; lia)));rw [Zm (by simp; lia),zU,xL,xL,yV,i6,i6];rfl
noncomputable def pcs:List Nat->List (Nat×Nat)
 | a::b::r=>(a,b)::pcs (b::r)
 | _=>[]
theorem vA:∀ (r:List Nat) (a:Nat),(a::r).Pairwise (· < ·)->∃ z∈a::r,(∀ x∈a::r,x<=z)/\Chn a (pcs (a::r)) z/\∀ p∈pcs (a::r),∀ c∈a::r,c<=p.1\/p.2<=c:=by
 intro r;induction r with
 | nil=>intro a _; exact ⟨a,.head _,fun x hx=>by rw [xS.mp hx]; exact xN _,.nil,fun _ h=>nomatch h⟩
 | cons b r ih =>
   intro a h; rw [yK] at h; obtain ⟨z,z1,z2,z3,z4⟩:=ih b h.2; have hab:=h.1 b (.head _); refine ⟨z,.tail _ z1,fun x hx=>?_,.cons hab z3,fun p hp c hc=>?_⟩
   . rcases xG.mp hx with rfl | hx
     . have:=z2 b (.head _); lia
     . exact z2 x hx
   . rcases xG.mp hp with rfl | hp
     . rcases xG.mp hc with rfl | hc
       . exact .inl (xN _)
       . rcases xG.mp hc with rfl | hc
         . exact .inr (xN _)
         . exact .inr (CQ ((yK.mp h.2).1 c hc))
     . rcases xG.mp hc with e | hc
       . have:=(z3.le.2 p (show p∈pcs (b::r) from hp)).1; exact .inl (by rw [e]; lia)
       . exact z4 p hp c hc
structure Pcs (T:List Nat) (ts:List Row) (P:List (Nat×Nat)):Prop where
 ch:Chn 0 P T.length
 cut:∀ p∈P,∀ t∈ts,(t.2.1<=p.1\/p.2<=t.2.1)/\(t.2.2<=p.1\/p.2<=t.2.2)
theorem aK (K:K3 L T ts):Pcs T ts (pcs (cs T ts)):=by
 have up:=dF K;have m0:0∈cs T ts:=(Hm K).mpr (.inl rfl);have mT:T.length∈cs T ts:=(Hm K).mpr (.inr (.inl rfl));have mb:∀ t∈ts,t.2.1∈cs T ts/\t.2.2∈cs T ts:=fun t ht=>⟨(Hm K).mpr (.inr (.inr (.inl ⟨t,ht,rfl⟩))),(Hm K).mpr (.inr (.inr (.inr ⟨t,ht,rfl⟩)))⟩;have hle:∀ x∈cs T ts,x<=T.length:=fun x hx=>by
   obtain ⟨z,hz,rfl⟩:=yH.mp hx; have:=Fo K z hz;lia
 cases h:cs T ts with
 | nil=>rw [h] at m0; cases m0
 | cons a r =>
   rw [h] at up m0 mT mb hle; obtain ⟨z,z1,z2,z3,z4⟩:=vA r a up; have ha:a=0:=by
     rcases xG.mp m0 with e | e
     . exact e.symm
     . have:=(yK.mp up).1 0 e; lia
   have hz:z=T.length:=by
     have:=hle z z1; have:=z2 _ mT;lia
   rw [ha,hz] at z3; subst ha; exact ⟨z3,fun p hp t ht=>⟨z4 p hp _ (mb t ht).1,z4 p hp _ (mb t ht).2⟩⟩
abbrev pD1 (T:List Nat) (p:Nat×Nat):xC:=.str (mk (sl T p.1 p.2))
abbrev pD (T:List Nat) (ts:List Row) (p:Nat×Nat):xC:=.tuple [pD1 T p,Hh ts p]
noncomputable def bM:Dn->Out:=(B6 (D2 6 (b2 (A0 3) (A0 5) dIx)) (B6 (D2 7 (b2 (A0 3) (b2 (A0 5) (vC (.int 1)) C5) dIx)) (Ci 4 (D3 (A1 (iJ (A0 1) (Bj (A0 6)) (Bj (A0 7))) (A1 (B5 (A1 (A0 2) (A1 (A0 6) (A1 (A0 7) A6))) K8) A6))))))
theorem pH (K:K3 L T ts) {C:List Nat} (hC:C.length<=30) (hle:C.Pairwise (· < ·)/\∀ x∈C,x<=T.length):∀ (m k:Nat),k+m+1=C.length->∀ (W:List xC) (s5 s6 s7:Sl),W.length=k->∃ t5 t6 t7,
   E2 (st1 5) bM (W6 (k:Int) ((C.length:Int) - 1)) [.sh (bkD L),.sh (.str (mk T)),.sh (.list (ts.map C2)),.sh (.list (C.map fun c:Nat=>xV (c:Int))),.ow (.list W),s5,s6,s7]=.nx [.sh (bkD L),.sh (.str (mk T)),.sh (.list (ts.map C2)),.sh (.list (C.map fun c:Nat=>xV (c:Int))),.ow (.list (W++(pcs (C.drop k)).map (pD T ts))),t5,t6,t7]:=by
 intro m;induction m with
 | zero =>
   intro k hk W s5 s6 s7 _; have e:pcs (C.drop k)=[]:=by
     cases h:C.drop k with
     | nil=>rfl
     | cons a r =>
       cases r with
       | nil=>rfl
       | cons b r =>
         have:=congrArg BI h; simp at this;lia
   exact ⟨s5,s6,s7,by rw [jX (by lia),e]; show Out.nx _=Out.nx [_,_,_,_,.ow (.list (W++[])),_,_,_]; rw [zN]⟩
 | succ m ih =>
   intro k hk W s5 s6 s7 hW; have g1:C.drop k=C[k]::C[k+1]::C.drop (k+2):=by rw [c7 (by lia),c7 (by lia)]
   have g2:C.drop (k+1)=C[k+1]::C.drop (k+2):=c7 (by lia);have hlt:C[k] < C[k+1]:=IB.mp hle.1 k (k+1) (by lia) (by lia) (by lia);have hT:=hle.2 C[k+1] (AN _); have i1:dIx (.list (C.map fun c:Nat=>xV (c:Int))) (.int (k:Int))=some (.int (C[k]:Int)):=by
     have:=K5 (xs:=C.map fun c:Nat=>xV (c:Int)) (j:=k) (by rw [xJ]; lia);rw [GO] at this; exact this
   have i2:dIx (.list (C.map fun c:Nat=>xV (c:Int))) (.int ((k:Int)+1))=some (.int (C[k+1]:Int)):=by
     have:=K5 (xs:=C.map fun c:Nat=>xV (c:Int)) (j:=k+1) (by rw [xJ]; lia);rw [GO] at this; exact this
   have e:bM [.sh (bkD L),.sh (.str (mk T)),.sh (.list (ts.map C2)),.sh (.list (C.map fun c:Nat=>xV (c:Int))),.ow (.list W),.sh (.int (k:Int)),s6,s7]=.nx [.sh (bkD L),.sh (.str (mk T)),.sh (.list (ts.map C2)),.sh (.list (C.map fun c:Nat=>xV (c:Int))),.ow (.list (W++[pD T ts (C[k],C[k+1])])),.sh (.int (k:Int)),.sh (.int (C[k]:Int)),.sh (.int (C[k+1]:Int))]:=by
     unfold bM; refine (B2 (C6 (B1 (x:=.list (C.map fun c:Nat=>xV (c:Int))) (y:=.int (k:Int)) rfl rfl i1))).trans ?_;refine (B2 (C6 (B1 (x:=.list (C.map fun c:Nat=>xV (c:Int))) (y:=.int ((k:Int)+1)) rfl (B1 (x:=.int (k:Int)) (y:=.int 1) rfl rfl Q7) i2))).trans ?_;exact Fk rfl (M3 (A5 (wL K.ch K.tl (CQ hlt) hT rfl rfl rfl) (A5 (B4 (A5 (d:=.list (ts.map C2)) rfl (A5 (d:=.int (C[k]:Int)) rfl (A5 (d:=.int (C[k+1]:Int)) rfl rfl))) (qL K.ln _ _)) rfl))) (by lia)
   obtain ⟨t5,t6,t7,e'⟩:=ih (k+1) (by lia) (W++[pD T ts (C[k],C[k+1])]) (.sh (.int (k:Int))) (.sh (.int (C[k]:Int))) (.sh (.int (C[k+1]:Int))) (by rw [yB,hW]; rfl);rw [show ((k+1:Nat):Int)=(k:Int)+1 by lia] at e';refine ⟨t5,t6,t7,?_⟩; rw [fH (by lia),g1]; refine (P5 rfl e).trans (e'.trans ?_); rw [g2,zU]; rfl
theorem mU (K:K3 L T ts):1<=(cs T ts).length/\(cs T ts).length<=30:=by
 have hn:=K.ln;refine ⟨IR ((Hm K).mpr (.inl rfl)),?_⟩;unfold cs csZ;have:∀ l:List Int,(Y9 l).length<=l.length:=fun l=>by
   have g:∀ (l m:List Int),(l.foldl U9 m).length<=m.length+l.length:=fun l=>by
     induction l with
     | nil=>intro m; exact xN _
     | cons x l ih =>
       intro m; have h1:=ih (U9 m x); have h2:(U9 m x).length<=m.length+1:=by
         unfold U9;split
         . lia
         . simp
       rw [s0,xU];lia
   have:=g l [];simpa [Y9] using this
 have h:=this ((0:Int)::(T.length:Int)::((ts.map fun t=>(t.2.1:Int))++ts.map fun t=>(t.2.2:Int)));rw [xJ,(V4 _).length_eq];simp at h;lia
theorem Sd (K:K3 L T ts):E7 [bkD L]=.ok (.list ((pcs (cs T ts)).map (pD T ts))):=by
 obtain ⟨n1,n2⟩:=mU K;obtain ⟨t5,t6,t7,e⟩:=pH K n2 ⟨dF K,fun x hx=>by
   obtain ⟨z,hz,rfl⟩:=yH.mp hx; have:=Fo K z hz;lia⟩ ((cs T ts).length - 1) 0 (by lia) [] .un .un .un rfl
 unfold E7;refine U4 ?_;show B6 _ _ [.sh (bkD L),.un,.un,.un,.un,.un,.un,.un]=_;refine (B2 (C6 (B4 (A5 (d:=bkD L) rfl rfl) K.t))).trans ?_;refine (B2 (C6 (B4 (A5 (d:=bkD L) rfl rfl) K.m))).trans ?_;refine (B2 (C6 (B4 (A5 (d:=.str (mk T)) rfl (A5 (d:=.list (ts.map C2)) rfl rfl)) (rD K)))).trans ?_;refine (B2 (δ':=[.sh (bkD L),.sh (.str (mk T)),.sh (.list (ts.map C2)),.sh (.list ((cs T ts).map fun c:Nat=>xV (c:Int))),.ow (.list []),.un,.un,.un]) rfl).trans ?_;refine (B2 (δ':=[.sh (bkD L),.sh (.str (mk T)),.sh (.list (ts.map C2)),.sh (.list ((cs T ts).map fun c:Nat=>xV (c:Int))),.ow (.list ([]++(pcs (cs T ts)).map (pD T ts))),t5,t6,t7]) ?_).trans rfl
 have hs:=Tp (fs:=A1 (b2 (vFn (A1 (A0 3) A6) M9) (vC (.int 1)) Hk) A6) (δ:=[.sh (bkD L),.sh (.str (mk T)),.sh (.list (ts.map C2)),.sh (.list ((cs T ts).map fun c:Nat=>xV (c:Int))),.ow (.list []),.un,.un,.un]) (n:=((cs T ts).length:Int) - 1) (A5 (B1 (x:=.int ((cs T ts).length:Int)) (y:=.int 1) (K0 (A5 rfl rfl) (show some (xV ((List.map _ _).length:Int))=_ by rw [xJ])) rfl rfl) rfl) (by lia) (by lia);unfold Eg M8;rw [hs,D1];exact e
end
noncomputable section
variable {L:List Dp} {T:List Nat} {ts:List Row}
noncomputable def wT:Dn->Out:=(sIf (B8 (b2 (b2 (A0 2) (vC (.int 0)) dIx) (A0 1) dEq)) (F8 (A0 2)) E6)
theorem pX (d:xC) {t:Row}:∀ us:List Row,t∈us->(∀ u∈us,u.1=t.1->u=t)->∀ s2,E2 (st1 2) wT (us.map C2) [.sh d,.sh (.str t.1),s2]=.rt (C2 t):=by
 intro us;induction us with
 | nil=>intro h; cases h
 | cons u us ih =>
   intro h hn s2; have c:(B8 (b2 (b2 (A0 2) (vC (.int 0)) dIx) (A0 1) dEq)) [.sh d,.sh (.str t.1),.sh (C2 u)]=.ok (u.1==t.1):=C0 (B1 (x:=.str u.1) (y:=.str t.1) (B1 (x:=C2 u) (y:=.int 0) rfl rfl (Ue u)) rfl (Ft _ _)); rw [xL];by_cases e:u.1=t.1
   . rw [beq_iff_eq.mpr e] at c
     have:=hn u (.head _) e; subst this; exact fG (δ1:=[.sh d,.sh (.str u.1),.sh (C2 u)]) rfl ((W5 c).trans rfl)
   . rw [Dz e] at c
     exact (P5 (δ1:=[.sh d,.sh (.str t.1),.sh (C2 u)]) rfl ((O6 c).trans rfl)).trans (ih ((xG.mp h).resolve_left fun z=>e (by rw [z])) (fun v hv=>hn v (.tail _ hv)) _)
theorem lF (up:ts.Pairwise ltW) {t:Row} (ht:t∈ts):U2 [.list (ts.map C2),.str t.1]=.ok (C2 t):=by
 refine U4 ?_;show B6 _ _ [.sh (.list (ts.map C2)),.sh (.str t.1),.un]=_;refine Bh ?_;unfold M8;rw [E1 (d:=.list (ts.map C2)) (ds:=ts.map C2) rfl rfl,D1];exact pX _ ts ht (fun u hu e=>aL up hu ht e) .un
noncomputable def Y6 (t u:Row):Bool:=decide (u.2.1 < u.2.2)&&(decide (t.2.1<=u.2.1)&&decide (u.2.2<=t.2.2))
noncomputable def U5 (t u:Row):Bool := !(Y6 t u||Y6 u t)&&decide ((if t.2.1 < u.2.1 then u.2.1 else t.2.1) < (if u.2.2 < t.2.2 then u.2.2 else t.2.2))
theorem Pa (t u:Row):U3 [C2 t,C2 u]=.ok (.bool (Y6 t u)) :=
 U4 (K4 (Me (B1 (x:=.int (u.2.1:Int)) (y:=.int (u.2.2:Int)) (B1 (x:=C2 u) (y:=.int 1) rfl rfl (Ud u)) (B1 (x:=C2 u) (y:=.int 2) rfl rfl (Uc u)) (ltN _ _)) (Me (B1 (x:=.int (t.2.1:Int)) (y:=.int (u.2.1:Int)) (B1 (x:=C2 t) (y:=.int 1) rfl rfl (Ud t)) (B1 (x:=C2 u) (y:=.int 1) rfl rfl (Ud u)) (leN _ _)) (B1 (x:=.int (u.2.2:Int)) (y:=.int (t.2.2:Int)) (B1 (x:=C2 u) (y:=.int 2) rfl rfl (Uc u)) (B1 (x:=C2 t) (y:=.int 2) rfl rfl (Uc t)) (leN _ _)))))
theorem mn (b c:Nat):mS [.int (b:Int),.int (c:Int)]=some (.int ((if c < b then c else b:Nat):Int)):=by
 show some (xV (if (c:Int) < (b:Int) then (c:Int) else (b:Int)))=_;by_cases h:c < b
 . rw [if_pos h,if_pos (by lia)]
 . rw [if_neg h,if_neg (by lia)]
theorem wS {c c':Dn->Res Bool} {δ:Dn} {a b:Bool} (h1:c δ=.ok a) (h2:c' δ=.ok b):cOr c c' δ=.ok (a||b):=by
 unfold cOr;rw [h1,C4];cases a with
 | true=>rfl
 | false=>rw [if_neg (by decide),h2]; rfl
theorem mV (t u:Row):Dm [C2 t,C2 u]=.ok (.bool (U5 t u)):=by
 have c:cOr (B8 (B5 (A1 (A0 0) (A1 (A0 1) A6)) U3)) (B8 (B5 (A1 (A0 1) (A1 (A0 0) A6)) U3)) [.sh (C2 t),.sh (C2 u)]=.ok (Y6 t u||Y6 u t):=wS (C0 (B4 (A5 (d:=C2 t) rfl (A5 (d:=C2 u) rfl rfl)) (Pa t u))) (C0 (B4 (A5 (d:=C2 u) rfl (A5 (d:=C2 t) rfl rfl)) (Pa u t)));refine U4 ?_;show B6 _ _ [.sh (C2 t),.sh (C2 u)]=_;unfold U5;cases h:(Y6 t u||Y6 u t) with
 | true =>
   rw [h] at c; exact Bh ((W5 c).trans rfl)
 | false =>
   rw [h] at c; refine (M7 c).trans (K4 (B1 (K0 (A5 (B1 (x:=C2 t) (y:=.int 1) rfl rfl (Ud t)) (A5 (B1 (x:=C2 u) (y:=.int 1) rfl rfl (Ud u)) rfl)) (mx _ _)) (K0 (A5 (B1 (x:=C2 t) (y:=.int 2) rfl rfl (Uc t)) (A5 (B1 (x:=C2 u) (y:=.int 2) rfl rfl (Uc u)) rfl)) (mn _ _)) (ltN _ _)))
abbrev ltB (x y:Str):Bool:=Xd .Lt x y
theorem vN (x y:Str):D7 .Lt (.str x) (.str y)=some (.bool (ltB x y)):=by
 unfold D7;rw [if_pos (by simp [zR])]; rfl
abbrev prD (t u:Row):xC:=.tuple [.str t.1,.str u.1]
noncomputable def Ey (ts us:List Row):List xC:=(us.map fun t=>(ts.filter fun u=>ltB t.1 u.1&&U5 t u).map (prD t)).flatten
noncomputable def nB:Dn->Out:=(Xc 2 (E8 (fun δ=>((A0 1) δ).bind D5) F2 [3] (O0 (B8 (b2 (b2 (A0 1) (vC (.int 0)) dIx) (b2 (A0 0) (vC (.int 0)) dIx) (D7 .Lt))) (B8 (B5 (A1 (A0 1) (A1 (A0 0) A6)) Dm))) (D3 (A1 (b2 (A0 1) (vC (.int 0)) dIx) (A1 (b2 (A0 0) (vC (.int 0)) dIx) A6)))))
theorem rH (d:xC) (hl:ts.length<=11):∀ (us:List Row) (W:List xC) (s3:Sl),W.length+11*us.length<=900->∃ t3,E2 (st1 3) nB (us.map C2) [.sh d,.sh (.list (ts.map C2)),.ow (.list W),s3]=.nx [.sh d,.sh (.list (ts.map C2)),.ow (.list (W++Ey ts us)),t3]:=by
 intro us;induction us with
 | nil=>intro W s3 _; exact ⟨s3,by show Out.nx _=Out.nx [_,_,.ow (.list (W++[])),_]; rw [zN]⟩
 | cons t us ih =>
   intro W s3 hW; rw [xU] at hW; have c:=Z0 (δc:=[.sh (C2 t)]) (tt:=O0 (B8 (b2 (b2 (A0 1) (vC (.int 0)) dIx) (b2 (A0 0) (vC (.int 0)) dIx) (D7 .Lt))) (B8 (B5 (A1 (A0 1) (A1 (A0 0) A6)) Dm))) (el:=D3 (A1 (b2 (A0 1) (vC (.int 0)) dIx) (A1 (b2 (A0 0) (vC (.int 0)) dIx) A6))) C2 (prD t) (fun u=>ltB t.1 u.1&&U5 t u) ts (fun u _=>Vi (C0 (B1 (x:=.str t.1) (y:=.str u.1) (B1 (x:=C2 t) (y:=.int 0) rfl rfl (Ue t)) (B1 (x:=C2 u) (y:=.int 0) rfl rfl (Ue u)) (vN _ _))) (C0 (B4 (A5 (d:=C2 t) rfl (A5 (d:=C2 u) rfl rfl)) (mV t u)))) fun u _=>M3 (A5 (B1 (x:=C2 t) (y:=.int 0) rfl rfl (Ue t)) (A5 (B1 (x:=C2 u) (y:=.int 0) rfl rfl (Ue u)) rfl));have hf:=BY (fun u=>ltB t.1 u.1&&U5 t u) ts
   have e:nB [.sh d,.sh (.list (ts.map C2)),.ow (.list W),.sh (C2 t)]=.nx [.sh d,.sh (.list (ts.map C2)),.ow (.list (W++(ts.filter fun u=>ltB t.1 u.1&&U5 t u).map (prD t))),.sh (C2 t)] :=
     bX rfl (E9 (δc:=[.sh (C2 t)]) (E1 (d:=.list (ts.map C2)) rfl rfl) (by rw [xJ]; lia) rfl c) (by rw [xJ]; lia)
   obtain ⟨t3,e'⟩:=ih (W++(ts.filter fun u=>ltB t.1 u.1&&U5 t u).map (prD t)) (.sh (C2 t)) (by rw [yB,xJ]; lia);refine ⟨t3,(P5 rfl e).trans (e'.trans ?_)⟩; rw [zU]; rfl
theorem Bm (K:K3 L T ts):L9 [bkD L]=.ok (.list (Ey ts ts)):=by
 have hn:=K.ln;obtain ⟨t3,e⟩:=rH (bkD L) K.ln ts [] .un (by simp; lia);unfold L9;refine U4 ?_;show B6 _ _ [.sh (bkD L),.un,.un,.un]=_;refine (B2 (C6 (B4 (A5 (d:=bkD L) rfl rfl) K.m))).trans ?_;refine (B2 (δ':=[.sh (bkD L),.sh (.list (ts.map C2)),.ow (.list []),.un]) rfl).trans ?_;refine (B2 (δ':=[.sh (bkD L),.sh (.list (ts.map C2)),.ow (.list ([]++Ey ts ts)),t3]) ?_).trans rfl;unfold Ca M8;rw [E1 (d:=.list (ts.map C2)) (ds:=ts.map C2) rfl rfl,D1];exact e
noncomputable def inn (ts:List Row) (t:Row):List Str:=(ts.filter fun m => !(m.1==t.1)&&Y6 t m).map (·.1)
theorem neS (x y:Str):dNe (.str x) (.str y)=some (.bool (!(x==y))):=by
 unfold dNe;rw [if_pos (yA (CO _ _) (by simp [zR]))]; rfl
theorem Yh (K:K3 L T ts) {t:Row} (ht:t∈ts):O8 [bkD L,.str t.1]=.ok (.list ((inn ts t).map .str)):=by
 have hn:=K.ln;have c:=Z0 (δc:=[.sh (.str t.1),.sh (C2 t)]) (tt:=O0 (B8 (b2 (b2 (A0 0) (vC (.int 0)) dIx) (A0 1) dNe)) (B8 (B5 (A1 (A0 2) (A1 (A0 0) A6)) U3))) (el:=b2 (A0 0) (vC (.int 0)) dIx) C2 (fun m=>zM m.1) (fun m => !(m.1==t.1)&&Y6 t m) ts (fun m _=>Vi (C0 (B1 (x:=.str m.1) (y:=.str t.1) (B1 (x:=C2 m) (y:=.int 0) rfl rfl (Ue m)) rfl (neS _ _))) (C0 (B4 (A5 (d:=C2 t) rfl (A5 (d:=C2 m) rfl rfl)) (Pa t m)))) fun m _=>B1 (x:=C2 m) (y:=.int 0) rfl rfl (Ue m);unfold inn;rw [i6];unfold O8;refine U4 ?_;show B6 _ _ [.sh (bkD L),.sh (.str t.1),.un,.un]=_;refine (B2 (C6 (B4 (A5 (d:=bkD L) rfl rfl) K.m))).trans ?_
 refine (B2 (δ':=[.sh (bkD L),.sh (.str t.1),.sh (.list (ts.map C2)),.sh (C2 t)]) (C6 (B4 (A5 (d:=.list (ts.map C2)) rfl (A5 (d:=.str t.1) rfl rfl)) (lF K.up ht)))).trans ?_;exact K4 (P2 (E9 (δc:=[.sh (.str t.1),.sh (C2 t)]) (E1 (d:=.list (ts.map C2)) rfl rfl) (by rw [xJ]; lia) rfl c))
theorem dY (K:K3 L T ts):(ts=[]->W7 [bkD L]=.ok .none)/\(ts≠[]->∃ t∈ts,W7 [bkD L]=.ok (.str t.1)/\∀ u∈ts,u.2.2 - u.2.1<=t.2.2 - t.2.1):=by
 have hn:=K.ln;have c0:(Ez (B8 (A0 1))) [.sh (bkD L),.sh (.list (ts.map C2)),.un]=.ok ts.isEmpty:=by
   unfold Ez; have:(B8 (A0 1)) [.sh (bkD L),.sh (.list (ts.map C2)),.un]=.ok (!ts.isEmpty):=by
     cases ts <;> rfl
   rw [this];cases ts.isEmpty <;> rfl
 refine ⟨fun h=>?_,fun h=>?_⟩
 . subst h
   unfold W7; refine U4 ?_; show B6 _ _ [.sh (bkD L),.un,.un]=_;refine (B2 (C6 (B4 (A5 (d:=bkD L) rfl rfl) K.m))).trans (Bh ((W5 c0).trans rfl))
 . have c1:=Z0 (δc:=[]) (tt:=K7) (el:=b2 (b2 (A0 0) (vC (.int 2)) dIx) (b2 (A0 0) (vC (.int 1)) dIx) Hk) C2 (fun t=>xV ((t.2.2:Int) - (t.2.1:Int))) (fun _=>true) ts (fun _ _=>rfl) fun t _=>B1 (x:=.int (t.2.2:Int)) (y:=.int (t.2.1:Int)) (B1 (x:=C2 t) (y:=.int 2) rfl rfl (Uc t)) (B1 (x:=C2 t) (y:=.int 1) rfl rfl (Ud t)) rfl
   rw [AT.mpr fun _ _=>rfl] at c1;obtain ⟨t0,r,rfl⟩:=List.exists_cons_of_ne_nil h; obtain ⟨f1,f2,f3⟩:=fmax (r.map fun t=>(t.2.2:Int) - (t.2.1:Int)) ((t0.2.2:Int) - t0.2.1);generalize hM:(r.map fun t=>(t.2.2:Int) - (t.2.1:Int)).foldl max ((t0.2.2:Int) - t0.2.1)=M at f1 f2 f3;have c2:=Z0 (δc:=[.sh (.int M)]) (tt:=B8 (b2 (b2 (b2 (A0 0) (vC (.int 2)) dIx) (b2 (A0 0) (vC (.int 1)) dIx) Hk) (A0 1) dEq)) (el:=b2 (A0 0) (vC (.int 0)) dIx) C2 (fun t=>zM t.1) (fun t=>(t.2.2:Int) - (t.2.1:Int)==M) (t0::r) (fun t _=>C0 (B1 (x:=.int ((t.2.2:Int) - (t.2.1:Int))) (y:=.int M) (B1 (x:=.int (t.2.2:Int)) (y:=.int (t.2.1:Int)) (B1 (x:=C2 t) (y:=.int 2) rfl rfl (Uc t)) (B1 (x:=C2 t) (y:=.int 1) rfl rfl (Ud t)) rfl) rfl (gV _ _))) fun t _=>B1 (x:=C2 t) (y:=.int 0) rfl rfl (Ue t)
   have hmem:∃ t∈t0::r,(t.2.2:Int) - t.2.1=M:=by
     rcases f3 with z | z
     . exact ⟨t0,.head _,z.symm⟩
     . obtain ⟨t,ht,e⟩:=yH.mp z
       exact ⟨t,.tail _ ht,e⟩
   have hge:∀ u∈t0::r,(u.2.2:Int) - u.2.1<=M:=fun u hu=>by
     rcases xG.mp hu with rfl | hu
     . exact f1
     . exact f2 _ (yH.mpr ⟨u,hu,rfl⟩)
   cases hF:(t0::r).filter (fun t=>(t.2.2:Int) - (t.2.1:Int)==M) with
   | nil =>
     obtain ⟨t,ht,e⟩:=hmem; exact absurd (beq_iff_eq.mpr e) (x6.mp hF t ht)
   | cons t F =>
     have ht:=j4.mp (show t∈(t0::r).filter (fun t=>(t.2.2:Int) - (t.2.1:Int)==M) by rw [hF]; exact .head _);rw [hF] at c2; have hk:=K.ok t ht.1; refine ⟨t,ht.1,?_,fun u hu=>?_⟩
     . unfold W7
       refine U4 ?_; show B6 _ _ [.sh (bkD L),.un,.un]=_;refine (B2 (δ':=[.sh (bkD L),.sh (.list ((t0::r).map C2)),.un]) (C6 (B4 (A5 (d:=bkD L) rfl rfl) K.m))).trans ?_; refine (B2 ((O6 c0).trans rfl)).trans ?_; refine (B2 (δ':=[.sh (bkD L),.sh (.list ((t0::r).map C2)),.sh (.int M)]) (C6 (K0 (ds:=[.list (((t0::r).map fun t=>(t.2.2:Int) - (t.2.1:Int)).map .int)]) (A5 (P2 (E9 (δc:=[]) (E1 (d:=.list ((t0::r).map C2)) rfl rfl) (by rw [xJ]; lia) rfl (by rw [i6]; exact c1))) rfl) ?_))).trans ?_
       . show ((Cm (((t0::r).map fun t=>(t.2.2:Int) - (t.2.1:Int)).map .int)).bind qB).map xV=_
         rw [Hg]; show some (xV ((r.map fun t=>(t.2.2:Int) - (t.2.1:Int)).foldl max _))=_;rw [hM]
       . have hi:dIx (.list ((t::F).map fun t:Row=>zM t.1)) (.int 0)=some (.str t.1):=K5 (xs:=(t::F).map fun t:Row=>zM t.1) (j:=0) (by simp)
         exact K4 (B1 (x:=.list ((t::F).map fun t:Row=>zM t.1)) (y:=.int 0) (P2 (E9 (δc:=[.sh (.int M)]) (E1 (d:=.list ((t0::r).map C2)) rfl rfl) (by rw [xJ]; lia) rfl c2)) rfl hi)
     . have h1:=hge u hu
       have h2:=j6 ht.2; have h3:=K.ok u hu;lia
end
noncomputable section
variable {L:List Dp} {T:List Nat} {ts:List Row} {P:List (Nat×Nat)}
abbrev brD (r:Nat×Nat):xC:=.tuple [.int (r.1:Int),.int (r.2:Int)]
abbrev fe (ts:List Row) (p:Nat×Nat):Bool:=(Er ts p).isEmpty
noncomputable def brS (R:List (Nat×Nat)) (p:Nat×Nat):List (Nat×Nat):=match R.getLast? with
 | some x=>if x.2=p.1 then R.dropLast++[(x.1,p.2)] else R++[p]
 | none=>[p]
theorem Cw (A:List (Nat×Nat)) (x p:Nat×Nat):brS (A++[x]) p=if x.2=p.1 then A++[(x.1,p.2)] else A++[x]++[p]:=by
 unfold brS;rw [List.getLast?_append];simp
theorem Vq (p:Nat×Nat) {f:Dn->Res xC} {δ:Dn} (h:f δ=.ok (Hh ts p)):Ez (B8 f) δ=.ok (fe ts p):=by
 have:B8 f δ=.ok (!fe ts p):=by
   unfold B8; rw [h,C4]; show ofO (Jg (.list ((Er ts p).map .str)))=_;unfold fe;cases Er ts p <;> rfl
 unfold Ez;rw [this,C4,Bool.not_not]
theorem oS {i:Nat} {fk fv:Dn->Res xC} {δ:Dn} {A:List xC} {x v:xC} (h:δ[i]? = some (.ow (.list (A++[x])))) (hv:fv δ=.ok v) (hk:fk δ=.ok (.int (-1))):Rw i fk fv δ=.nx (δ.set i (.ow (.list (A++[v])))):=by
 have hi:ixN (A++[x]).length (-1)=some A.length:=by
   unfold ixN; rw [yB,if_neg (by lia),if_pos (by simp; lia)];congr 1;simp;lia
 unfold Rw;rw [h];show M5 (fv δ) _=_;rw [hv,D1,hk,D1];show (match ixN (A++[x]).length (-1) with | some j=>_ | none=>_)=_;rw [hi];show Out.nx (δ.set i (.ow (.list ((A++[x]).set A.length v))))=_;rw [List.set_append_right _ _ (xN _),Nat.sub_self]; rfl
noncomputable def bN:Dn->Out:=(B6 (D2 4 (b2 (A0 2) (vFn (A1 (b2 (A0 3) (vC (.int 0)) dIx) A6) M9) C5)) (B6 (sIf (cFz 1 (O0 (Ez (B8 (b2 (A0 3) (vC (.int 1)) dIx))) (O0 (B8 (A0 1)) (B8 (b2 (b2 (b2 (A0 1) (b1 (vC (.int 1)) Ke) dIx) (vC (.int 1)) dIx) (A0 2) dEq))))) (Rw 1 (b1 (vC (.int 1)) Ke) (iK 1 (D3 (A1 (b2 (b2 (A0 1) (b1 (vC (.int 1)) Ke) dIx) (vC (.int 0)) dIx) (A1 (A0 4) A6))))) (sIf (Ez (B8 (b2 (A0 3) (vC (.int 1)) dIx))) (Ci 1 (D3 (A1 (A0 2) (A1 (A0 4) A6)))) E6)) (D2 2 (A0 4))))
theorem rL (d:xC) (R:List (Nat×Nat)) (hR:R.length<=900) {p:Nat×Nat} (h1:p.1 < p.2) (h2:p.2<=T.length) (s4:Sl):bN [.sh d,.ow (.list (R.map brD)),.sh (.int (p.1:Int)),.sh (pD T ts p),s4]=.nx [.sh d,.ow (.list ((if fe ts p=true then brS R p else R).map brD)),.sh (.int (p.2:Int)),.sh (pD T ts p),.sh (.int (p.2:Int))]:=by
 have i0:dIx (pD T ts p) (.int 0)=some (pD1 T p):=X3 _ _;have i1:dIx (pD T ts p) (.int 1)=some (Hh ts p):=Ef _ _ _;unfold bN;refine (B2 (δ':=[.sh d,.ow (.list (R.map brD)),.sh (.int (p.1:Int)),.sh (pD T ts p),.sh (.int (p.2:Int))]) (C6 (B1 (x:=.int (p.1:Int)) (y:=.int ((p.2 - p.1:Nat):Int)) rfl (K0 (A5 (B1 (x:=pD T ts p) (y:=.int 0) rfl rfl i0) rfl) (by rw [Qx,Cl,Zz T h2])) (by rw [Q7,show (p.1:Int)+((p.2 - p.1:Nat):Int)=p.2 by lia])))).trans ?_;refine (B2 (δ':=[.sh d,.ow (.list ((if fe ts p=true then brS R p else R).map brD)),.sh (.int (p.1:Int)),.sh (pD T ts p),.sh (.int (p.2:Int))]) ?_).trans rfl
 have t1:(Ez (B8 (b2 (A0 3) (vC (.int 1)) dIx))) [.sh d,.sh (.list (R.map brD)),.sh (.int (p.1:Int)),.sh (pD T ts p),.sh (.int (p.2:Int))]=.ok (fe ts p):=Vq p (B1 (x:=pD T ts p) (y:=.int 1) rfl rfl i1);have t2:(Ez (B8 (b2 (A0 3) (vC (.int 1)) dIx))) [.sh d,.ow (.list (R.map brD)),.sh (.int (p.1:Int)),.sh (pD T ts p),.sh (.int (p.2:Int))]=.ok (fe ts p):=Vq p (B1 (x:=pD T ts p) (y:=.int 1) rfl rfl i1);have new:fe ts p=true->sIf (Ez (B8 (b2 (A0 3) (vC (.int 1)) dIx))) (Ci 1 (D3 (A1 (A0 2) (A1 (A0 4) A6)))) E6 [.sh d,.ow (.list (R.map brD)),.sh (.int (p.1:Int)),.sh (pD T ts p),.sh (.int (p.2:Int))]=.nx [.sh d,.ow (.list ((R++[p]).map brD)),.sh (.int (p.1:Int)),.sh (pD T ts p),.sh (.int (p.2:Int))]:=fun h=>by
   rw [h] at t2; rw [W5 t2,yV]; exact Fk rfl rfl (by rw [xJ]; lia)
 cases hf:fe ts p with
 | false =>
   rw [hf] at t1 t2; rw [if_neg (by decide)]; exact (O6 (Vh rfl (Fa t1))).trans ((O6 t2).trans rfl)
 | true =>
   have hn:=new hf; rw [hf] at t1; rw [if_pos rfl];by_cases hz:R=[]
   . subst hz
     exact (O6 (Vh rfl (Z4 t1 (Fa rfl)))).trans hn
   . obtain ⟨A,x,rfl⟩:∃ A x,R=A++[x]:=⟨R.dropLast,R.getLast hz,(y4 hz).symm⟩
     rw [Cw]; have mA:(A++[x]).map brD=A.map brD++[brD x]:=by rw [yV]; rfl
     rw [mA] at t1 hn ⊢;have t3:(B8 (A0 1)) [.sh d,.sh (.list (A.map brD++[brD x])),.sh (.int (p.1:Int)),.sh (pD T ts p),.sh (.int (p.2:Int))]=.ok true:=by
       show ofO (Jg (.list (A.map brD++[brD x])))=_;cases A <;> rfl
     have t4:(B8 (b2 (b2 (b2 (A0 1) (b1 (vC (.int 1)) Ke) dIx) (vC (.int 1)) dIx) (A0 2) dEq)) [.sh d,.sh (.list (A.map brD++[brD x])),.sh (.int (p.1:Int)),.sh (pD T ts p),.sh (.int (p.2:Int))]=.ok (decide (x.2=p.1)):=by
       refine C0 (B1 (x:=.int (x.2:Int)) (y:=.int (p.1:Int)) (B1 (x:=brD x) (y:=.int 1) (B1 (x:=.list (A.map brD++[brD x])) (y:=.int (-1)) rfl rfl dR) rfl (Ef _ _ _)) rfl ?_); rw [gV];congr 2;rw [l3,beq_iff_eq,decide_eq_true_iff];lia
     by_cases c:x.2=p.1
     . rw [decide_eq_true c] at t4
       rw [if_pos c,yV]; refine (W5 (Vh (δ':=[.sh d,.sh (.list (A.map brD++[brD x])),.sh (.int (p.1:Int)),.sh (pD T ts p),.sh (.int (p.2:Int))]) rfl (Ds t1 (Ds t3 t4)))).trans (oS (v:=brD (x.1,p.2)) rfl ?_ rfl); unfold iK; have:(D3 (A1 (b2 (b2 (A0 1) (b1 (vC (.int 1)) Ke) dIx) (vC (.int 0)) dIx) (A1 (A0 4) A6))) [.sh d,.sh (.list (A.map brD++[brD x])),.sh (.int (p.1:Int)),.sh (pD T ts p),.sh (.int (p.2:Int))]=.ok (brD (x.1,p.2)):=M3 (A5 (B1 (x:=brD x) (y:=.int 0) (B1 (x:=.list (A.map brD++[brD x])) (y:=.int (-1)) rfl rfl dR) rfl (X3 _ _)) rfl); show Res.bind (D3 _ [.sh d,.sh (.list (A.map brD++[brD x])),.sh (.int (p.1:Int)),.sh (pD T ts p),.sh (.int (p.2:Int))]) _=_;rw [this,C4]; rfl
     . rw [decide_eq_false c] at t4
       rw [if_neg c]; exact (O6 (Vh (δ':=[.sh d,.sh (.list (A.map brD++[brD x])),.sh (.int (p.1:Int)),.sh (pD T ts p),.sh (.int (p.2:Int))]) rfl (Z4 t1 (Z4 t3 t4)))).trans hn
theorem gO (Q:Pcs T ts P) {p:Nat×Nat} (hp:p∈P) {y:Nat} (h1:p.1<=y) (h2:y < p.2):Er ts (y,y+1)=Er ts p:=by
 unfold Er;congr 1;refine DL fun v hv=>?_;have h:=Q.cut p hp v hv;unfold hb;rw [show decide (v.2.1<=(y,y+1).1)=decide (v.2.1<=p.1) from decide_eq_decide.mpr (by show v.2.1<=y↔_; lia),show decide ((y,y+1).2<=v.2.2)=decide (p.2<=v.2.2) from decide_eq_decide.mpr (by show y+1<=_↔_; lia)]
theorem pG:∀ l:List Nat,(pcs l).length<=l.length:=by
 intro l;induction l with
 | nil=>exact xN _
 | cons a r ih =>
   cases r with
   | nil=>exact zY _
   | cons b r=>exact ED ih
theorem Pj {R:List (Nat×Nat)} (p:Nat×Nat):(R=[]/\brS R p=[p])\/∃ A x,R=A++[x]/\brS R p=if x.2=p.1 then A++[(x.1,p.2)] else A++[x]++[p]:=by
 by_cases hz:R=[]
 . subst hz; exact .inl ⟨rfl,rfl⟩
 . exact .inr ⟨R.dropLast,R.getLast hz,(y4 hz).symm,(congrArg (fun z=>brS z p) (y4 hz).symm).trans (Cw _ _ _)⟩
theorem dJ (R:List (Nat×Nat)) (p:Nat×Nat):(brS R p).length<=R.length+1:=by
 rcases Pj (R:=R) p with ⟨rfl,e⟩ | ⟨A,x,rfl,e⟩ <;> rw [e]
 . exact xN _
 . split <;> simp
theorem hJ (R:List (Nat×Nat)) (a c b:Nat):brS (brS R (a,c)) (c,b)=brS R (a,b):=by
 rcases Pj (R:=R) (a,c) with ⟨rfl,e⟩ | ⟨A,x,rfl,e⟩
 . rw [e,show [(a,c)]=[]++[(a,c)] from rfl,Cw,if_pos rfl]; rfl
 . rw [e,Cw]
   split
   . rw [Cw,if_pos rfl]
   . rw [Cw,if_pos rfl]
abbrev szR (R:List (Nat×Nat)):Int:=(R.map fun r=>(r.2:Int) - (r.1:Int)).sum
theorem Y8 (A B:List (Nat×Nat)):szR (A++B)=szR A+szR B:=by
 unfold szR;rw [yV,List.sum_append]
theorem V8 (p:Nat×Nat):szR [p]=(p.2:Int) - p.1:=by
 show (p.2:Int) - p.1+0=_;rw [GM]
theorem rN (R:List (Nat×Nat)) (p:Nat×Nat):szR (brS R p)=szR R+((p.2:Int) - p.1):=by
 rcases Pj (R:=R) p with ⟨rfl,e⟩ | ⟨A,x,rfl,e⟩ <;> rw [e]
 . rw [V8]; exact (JN _).symm
 . split
   . rename_i h
     rw [Y8,Y8,V8,V8,<- h]; show _+((p.2:Int) - x.1)=_;lia
   . rw [Y8,V8]
noncomputable def Cz (ts:List Row):List (Nat×Nat)->List (Nat×Nat)->List (Nat×Nat)
 | [],R=>R
 | p::P,R=>Cz ts P (if fe ts p=true then brS R p else R)
theorem iD:∀ (P R:List (Nat×Nat)),(Cz ts P R).length<=R.length+P.length:=by
 intro P;induction P with
 | nil=>intro R; exact xN _
 | cons p P ih =>
   intro R; have h1:=ih (if fe ts p=true then brS R p else R);have h2:(if fe ts p=true then brS R p else R).length<=R.length+1:=by
     split
     . exact dJ R p
     . lia
   rw [xU]; show (Cz ts P _).length<=_;lia
theorem iC:∀ (P R:List (Nat×Nat)),szR (Cz ts P R)=szR R+szR (P.filter fun p=>fe ts p):=by
 intro P;induction P with
 | nil=>intro R; exact (GM _).symm
 | cons p P ih =>
   intro R; show szR (Cz ts P _)=_;rw [ih,yL];split
   . rw [rN,show szR (p::P.filter fun p=>fe ts p)=szR ([p]++P.filter fun p=>fe ts p) from rfl,Y8,V8]; lia
   . rfl
theorem rM (d:xC) {a c:Nat} (h:Chn a P c):c<=T.length->∀ (R:List (Nat×Nat)) (s3 s4:Sl),R.length+P.length<=900->∃ t3 t4:Sl,E2 (st1 3) bN (P.map (pD T ts)) [.sh d,.ow (.list (R.map brD)),.sh (.int (a:Int)),s3,s4]=.nx [.sh d,.ow (.list ((Cz ts P R).map brD)),.sh (.int (c:Int)),t3,t4]:=by
 induction h with
 | nil=>intro _ R s3 s4 _; exact ⟨s3,s4,rfl⟩
 | @cons a b c r hab k ih =>
   intro hc R s3 s4 hl; rw [xU] at hl; have e:=rL (T:=T) (ts:=ts) d R (by lia) (p:=(a,b)) hab (yA k.le.1 hc) s4;obtain ⟨t3,t4,e'⟩:=ih hc (if fe ts (a,b)=true then brS R (a,b) else R) (.sh (pD T ts (a,b))) (.sh (.int (b:Int))) (by
     split
     . have:=dJ R (a,b); lia
     . lia)
   exact ⟨t3,t4,(P5 rfl e).trans e'⟩
theorem rS (Q:Pcs T ts P) (hp:E7 [bkD L]=.ok (.list (P.map (pD T ts)))) (hP:P.length<=900):Y4 [bkD L]=.ok (.list ((Cz ts P []).map brD)):=by
 obtain ⟨t3,t4,e⟩:=rM (T:=T) (ts:=ts) (bkD L) Q.ch (xN _) [] .un .un (by simpa using hP);unfold Y4;refine U4 ?_;show B6 _ _ [.sh (bkD L),.un,.un,.un,.un]=_;refine (B2 (δ':=[.sh (bkD L),.ow (.list []),.un,.un,.un]) rfl).trans ?_;refine (B2 (δ':=[.sh (bkD L),.ow (.list []),.sh (.int 0),.un,.un]) rfl).trans ?_;refine (B2 (δ':=[.sh (bkD L),.ow (.list ((Cz ts P []).map brD)),.sh (.int (T.length:Int)),t3,t4]) ?_).trans rfl;unfold Ji M8;rw [E1 (d:=.list (P.map (pD T ts))) (ds:=P.map (pD T ts)) (B4 (A5 (d:=bkD L) rfl rfl) hp) rfl,D1];exact e
noncomputable def uF (f:Nat->Bool):Nat->Nat->List (Nat×Nat)->List (Nat×Nat)
 | 0,_,R=>R
 | m+1,a,R=>uF f m (a+1) (if f a=true then brS R (a,a+1) else R)
theorem tH (f:Nat->Bool) (k:Nat):∀ (m a:Nat) (R:List (Nat×Nat)),uF f (m+k) a R=uF f k (a+m) (uF f m a R):=by
 intro m;induction m with
 | zero=>intro a R; rw [JI]; rfl
 | succ m ih =>
   intro a R; rw [show m+1+k=(m+k)+1 by lia];show uF f (m+k) (a+1) _=uF f k (a+(m+1)) (uF f m (a+1) _);rw [ih,show a+1+m=a+(m+1) by lia]
theorem iM (f:Nat->Bool) (v:Bool):∀ (m a:Nat) (R:List (Nat×Nat)),(∀ x,a<=x->x < a+(m+1)->f x=v)->uF f (m+1) a R=if v=true then brS R (a,a+(m+1)) else R:=by
 intro m;induction m with
 | zero =>
   intro a R h; show (if f a=true then brS R (a,a+1) else R)=_;rw [h a (xN _) (by lia)]
 | succ m ih =>
   intro a R h; show uF f (m+1) (a+1) (if f a=true then brS R (a,a+1) else R)=_;rw [ih (a+1) _ fun x h1 h2=>h x (by lia) (by lia),h a (xN _) (by lia),show a+1+(m+1)=a+(m+1+1) by lia];cases v with
   | true=>exact hJ R a (a+1) _
   | false=>rfl
theorem bO (f:Nat->Bool) {a c:Nat} (h:Chn a P c):(∀ p∈P,∀ x,p.1<=x->x < p.2->f x=fe ts p)->∀ R,Cz ts P R=uF f (c - a) a R:=by
 induction h with
 | @nil a=>intro _ R; rw [Nat.sub_self]; rfl
 | @cons a b c r hab k ih =>
   intro hf R; have hk:=k.le.1; obtain ⟨m,hm⟩:∃ m,b=a+(m+1):=⟨b - a - 1,by lia⟩;rw [show c - a=(m+1)+(c - b) by lia,tH,iM f (fe ts (a,b)) m a R fun x h1 h2=>hf _ (.head _) x h1 (by show x < b; lia),<- hm];show Cz ts r _=_;exact ih (fun p hp=>hf p (.tail _ hp)) _
abbrev fB (ts:List Row) (x:Nat):Bool := !(ts.any fun t=>hb t (x,x+1))
theorem wE (ts:List Row) (p:Nat×Nat):fe ts p = !(ts.any fun t=>hb t p):=by
 unfold fe Er;induction ts with
 | nil=>rfl
 | cons t ts ih =>
   rw [yL,DR];cases hb t p with
   | true=>rfl
   | false=>rw [if_neg (by decide)]; exact ih
theorem dQ (Q:Pcs T ts P):Cz ts P []=uF (fB ts) T.length 0 []:=by
 have:=bO (ts:=ts) (fB ts) Q.ch (fun p hp x h1 h2=>by
   show (!(ts.any fun t=>hb t (x,x+1)))=_;rw [<- wE ts (x,x+1)]; unfold fe; rw [gO Q hp h1 h2]) []
 rw [Nat.sub_zero] at this;exact this
theorem Chn.sum {a c:Nat} (h:Chn a P c):szR P=(c:Int) - a:=by
 induction h with
 | nil=>rw [Int.sub_self]; rfl
 | @cons a b c r hab k ih =>
   rw [show szR ((a,b)::r)=szR ([(a,b)]++r) from rfl,Y8,V8,ih];show (b:Int) - a+_=_;lia
theorem iW (f:Nat×Nat->Bool):∀ P:List (Nat×Nat),szR (P.filter f)+szR (P.filter fun p => !f p)=szR P:=by
 intro P;induction P with
 | nil=>rfl
 | cons p P ih =>
   rw [yL,yL,show szR (p::P)=szR ([p]++P) from rfl,Y8,V8];cases f p with
   | true =>
     rw [if_pos rfl,if_neg (by decide),show szR (p::P.filter f)=szR ([p]++P.filter f) from rfl,Y8,V8]; lia
   | false =>
     rw [if_neg (by decide),if_pos (show (!false)=true from rfl),show szR (p::P.filter fun p => !f p)=szR ([p]++P.filter fun p => !f p) from rfl,Y8,V8]; lia
end
noncomputable section
variable {L:List Dp} {B:List Ad} {ku kd:Kvs}
theorem an_at (A:BkA L B) (hl:L.length<=11) (P:Pr L ku kd) {x:Nat} (hx:x<=((ord B).filter (E4 ku kd)).length) {side:Str} (hs:aQ side):∃ a,F9 [bkD L,.int (x:Int),.str side]=.ok a/\Hv (ord B) a/\D9 [fN (plN (E4 ku kd) (ord B)),.sh a]=.ok (.int (x:Int)):=by
 have nd:=Fl A.bk;have hsh:=Wt A hl P;have hcnt:cnt (E4 ku kd) (ord B)=((ord B).filter (E4 ku kd)).length:=rfl;generalize hF:(ord B).filter (E4 ku kd)=F at hsh hx hcnt;have num:∀ (k:Int),(vIf (B8 (b2 (A0 2) (vC (.str "l")) dEq)) (b2 (A0 1) (vC (.int 1)) Hk) (A0 1)) [.sh (bkD L),.sh (.int (x:Int)),.sh (.str side),.sh (.list (F.map tl)),.un]=.ok (.int k)->(∀ c:Bool,(decide (0<=k)&&decide (k < (F.length:Int)))=c->F9 [bkD L,.int (x:Int),.str side]=if c=true then (F8 (D3 (A1 (b2 (b2 (A0 3) (A0 4) dIx) (vC (.int 0)) dIx) (A1 (A0 2) A6))) [.sh (bkD L),.sh (.int (x:Int)),.sh (.str side),.sh (.list (F.map tl)),.sh (.int k)]).fin else .ok (.tuple [.none,.str side])):=fun k hk c hc=>by
   have ch:∀ (o:m9) (v:Sl) (i:Nat) (z:Int) (δ:Dn) (r:Bool),A0 i δ=.ok (.int z)->A0 3 δ=.ok (.list (F.map tl))->(∀ a b:Int,D7 o (.int a) (.int b)=some (.bool (if o=.Lt then decide (a < b) else decide (a<=b))))->(decide (0<=z)&&(if o=.Lt then decide (z < (F.length:Int)) else decide (z<=(F.length:Int))))=r->(Ez (B8 (Da (vC (.int 0)) (A0 i) (vFn (A1 (A0 3) A6) M9) (D7 .LtE) (D7 o)))) δ=.ok (!r):=fun o v i z δ r h1 h2 h3 h4=>by
     have hv:(Da (vC (.int 0)) (A0 i) (vFn (A1 (A0 3) A6) M9) (D7 .LtE) (D7 o)) δ=.ok (.bool r):=by
       unfold Da; show Res.bind (Res.ok (xV 0)) _=_;rw [C4,h1,C4,sV,Xr,C4,<- h4];cases hd:decide (0<=z) with
       | false=>rfl
       | true =>
         show Res.bind (vFn (A1 (A0 3) A6) M9 δ) _=_;rw [K0 (d:=.int (F.length:Int)) (A5 h2 rfl) (show some (xV ((F.map tl).length:Int))=_ by rw [xJ]),C4,h3]; rfl
     unfold Ez; rw [C0 hv]; rfl
   unfold F9; rw [Jz]; show (B6 _ _ [.sh (bkD L),.sh (.int (x:Int)),.sh (.str side),.un,.un]).fin=_;rw [show B6 Af _ [.sh (bkD L),.sh (.int (x:Int)),.sh (.str side),.un,.un]=_ from B2 (C6 (B4 (A5 (d:=bkD L) rfl rfl) hsh))];show (B6 _ _ [.sh (bkD L),.sh (.int (x:Int)),.sh (.str side),.sh (.list (F.map tl)),.un]).fin=_;rw [show B6 Ae _ [.sh (bkD L),.sh (.int (x:Int)),.sh (.str side),.sh (.list (F.map tl)),.un]=_ from M7 (ch .LtE .un 1 (x:Int) _ true rfl rfl (fun a b=>rfl) (by rw [decide_eq_true (by lia),if_neg (by decide),decide_eq_true (by lia)]; rfl))];rw [show B6 Ac _ [.sh (bkD L),.sh (.int (x:Int)),.sh (.str side),.sh (.list (F.map tl)),.un]=_ from B2 (C6 hk)]
   show (B6 O5 _ [.sh (bkD L),.sh (.int (x:Int)),.sh (.str side),.sh (.list (F.map tl)),.sh (.int k)]).fin=_;have c3:=ch .Lt .un 4 k [.sh (bkD L),.sh (.int (x:Int)),.sh (.str side),.sh (.list (F.map tl)),.sh (.int k)] c rfl rfl (fun a b=>rfl) (by rw [if_pos rfl]; exact hc);cases c with
   | true =>
     rw [if_pos rfl,show B6 O5 _ [.sh (bkD L),.sh (.int (x:Int)),.sh (.str side),.sh (.list (F.map tl)),.sh (.int k)]=_ from M7 c3]; rfl
   | false =>
     rw [if_neg (by decide),show B6 O5 _ [.sh (bkD L),.sh (.int (x:Int)),.sh (.str side),.sh (.list (F.map tl)),.sh (.int k)]=_ from Bh ((W5 c3).trans (K4 (M3 (A5 rfl (A5 (d:=.str side) rfl rfl)))))]; rfl
 have sign:∀ (k:Nat) (h:k < F.length),(F8 (D3 (A1 (b2 (b2 (A0 3) (A0 4) dIx) (vC (.int 0)) dIx) (A1 (A0 2) A6))) [.sh (bkD L),.sh (.int (x:Int)),.sh (.str side),.sh (.list (F.map tl)),.sh (.int (k:Int))]).fin=.ok (.tuple [sgA F[k],.str side])/\F[k]∈ord B/\∃ X Y,ord B=X++F[k]::Y/\cnt (E4 ku kd) X=k/\E4 ku kd F[k]=true:=fun k h=>by
   have hi:dIx (.list (F.map tl)) (.int (k:Int))=some (tl F[k]):=by
     have:=K5 (xs:=F.map tl) (j:=k) (by rw [xJ]; exact h);rw [GO] at this; exact this
   obtain ⟨f1,f2,f3⟩:=Uy (f:=E4 ku kd) (O:=ord B) (k:=k) (u:=F[k]) nd (by rw [hF]; exact yW h);obtain ⟨X,Y,e1,e2⟩:=Kk (f:=E4 ku kd) f1 nd; refine ⟨?_,f1,X,Y,e1,by rw [<- e2,f3],f2⟩;rw [K4 (d:=.tuple [sgA F[k],.str side]) (M3 (A5 (B1 (x:=tl F[k]) (y:=.int 0) (B1 (x:=.list (F.map tl)) (y:=.int (k:Int)) rfl rfl hi) rfl (X3 _ _)) (A5 (d:=.str side) rfl rfl)))]; rfl
 rcases hs with rfl | rfl
 . have hn:=num ((x:Int) - 1) (by unfold vIf; rw [C0 (b:=true) (B1 (x:=.str "l") (y:=.str "l") rfl rfl (by rw [Ft,Ig])),C4,if_pos rfl]; rfl)
   by_cases h0:x=0
   . have e:=hn false (by rw [decide_eq_false (by lia)]; rfl)
     rw [if_neg (by decide)] at e; exact ⟨_,e,⟨.none, "l",rfl,.inl rfl,.inl rfl⟩,by rw [h0]; exact Bn rfl (Ix _ _) cX (X3 _ _)⟩
   . have e:=hn true (by rw [decide_eq_true (by lia),decide_eq_true (by lia)]; rfl)
     obtain ⟨s1,s2,X,Y,s3,s4,s5⟩:=sign (x - 1) (by lia);rw [if_pos rfl,show (x:Int) - 1=((x - 1:Nat):Int) by lia,s1] at e;refine ⟨_,e,⟨_, "l",rfl,.inl rfl,.inr ⟨_,s2,rfl⟩⟩,?_⟩; have:=Bn (Dt (some (sgn F[x - 1]))) (Iw (f:=E4 ku kd) nd s3) cX (X3 _ _); rw [s4,s5,show x - 1+b1n true=x by unfold b1n; rw [if_pos rfl]; lia] at this;exact this
 . have hn:=num (x:Int) (by unfold vIf; rw [C0 (b:=false) (B1 (x:=.str "r") (y:=.str "l") rfl rfl (by rw [Ft,Dz (by decide)])),C4,if_neg (by decide)]; rfl)
   by_cases h0:x=F.length
   . have e:=hn false (by rw [decide_eq_false (p:=(x:Int) < _) (by lia),CY])
     rw [if_neg (by decide)] at e; refine ⟨_,e,⟨.none, "r",rfl,.inr rfl,.inl rfl⟩,?_⟩; have:=Bn rfl (Ix (E4 ku kd) (ord B)) cW (Ef _ _ _); rw [hcnt,<- h0] at this; exact this
   . have e:=hn true (by rw [decide_eq_true (by lia),decide_eq_true (by lia)]; rfl)
     obtain ⟨s1,s2,X,Y,s3,s4,s5⟩:=sign x (by lia);rw [if_pos rfl,s1] at e; refine ⟨_,e,⟨_, "r",rfl,.inr rfl,.inr ⟨_,s2,rfl⟩⟩,?_⟩; have:=Bn (Dt (some (sgn F[x]))) (Iw (f:=E4 ku kd) nd s3) cW (Ef _ _ _); rw [s4] at this; exact this
abbrev mkE (m:Str) (a1 a2:xC):Dp:=(.tuple [.str "mark",idP (60, "d"),.str m,a1,a2],(60, "d"))
theorem gF (o:List IdP) (e:Dp):∀ (M:List Dp) (kvs:Kvs),Ba o (M++[e]) kvs=X0 o e (Ba o M kvs):=by
 intro M;induction M with
 | nil=>intro kvs; rfl
 | cons d M ih=>intro kvs; exact ih _
theorem lA {Q:IdP->Prop}:∀ (M:List Dp) (o:List IdP),(∀ e∈M,∀ q,Gs e.1=some q->Q q)->(∀ q∈o,Q q)->∀ q∈fQ M o,Q q:=by
 intro M;induction M with
 | nil=>intro o _ h; exact h
 | cons e M ih =>
   intro o h ho; refine ih _ (fun d hd=>h d (.tail _ hd)) fun q hq=>?_;unfold Uj at hq;cases hu:Gs e.1 with
   | none=>rw [hu] at hq; exact ho q hq
   | some z =>
     rw [hu] at hq; dsimp only at hq;split at hq
     . exact ho q hq
     . rcases xY.mp hq with k | k
       . exact ho q k
       . rw [xS.mp k]; exact h e (.head _) z hu
theorem pR (W:BkW L):∀ q∈off L,q.1<=11:=by
 refine lA L.reverse [] (fun e he q hq=>?_) (fun _ h=>nomatch h);have he:=List.mem_reverse.mp he;obtain ⟨o,r⟩:=(show Wf _ _ _ _ from W.1 e he);have no:∀ {k:Str} {i x:xC} {xs:List xC},e.1=.tuple (.str k::i::x::xs)->k ≠ "undo" -> False:=fun e1 hk=>by rw [e1,Mq hk] at hq; cases hq
 rcases r with ⟨b,w,e1,_⟩ | ⟨sg,e1,_⟩ | ⟨n,s1,x1,s2,x2,e1,_⟩ | ⟨n,e1,_⟩ | ⟨z,e1,hz⟩
 . exact (no e1 (by decide)).elim
 . exact (no e1 (by decide)).elim
 . exact (no e1 (by decide)).elim
 . exact (no e1 (by decide)).elim
 . rw [e1,Kp] at hq
   cases hq; obtain ⟨⟨e',he',z1⟩,_⟩:=hz; have:=(show Wf _ _ _ _ from W.1 e' he').1;rw [z1] at this; exact this.2.1
theorem aS {Q:Str->Prop} (o:List IdP):∀ (M:List Dp) (kvs:Kvs),(∀ e∈M,∀ n,T0 e.1=some n->Q n)->(∀ p∈kvs,∃ n,p.1=.str n/\Q n)->∀ p∈Ba o M kvs,∃ n,p.1=.str n/\Q n:=by
 intro M;induction M with
 | nil=>intro kvs _ h; exact h
 | cons e M ih =>
   intro kvs h hk; refine ih _ (fun d hd=>h d (.tail _ hd)) fun p hp=>?_;unfold X0 at hp;cases hu:T0 e.1 with
   | none=>rw [hu] at hp; exact hk p hp
   | some z =>
     rw [hu] at hp; dsimp only at hp;split at hp
     . exact hk p hp
     . rcases Jr hp with k | ⟨q,hq,k⟩
       . exact ⟨z,k,h e (.head _) z hu⟩
       . rw [k]; exact hk q hq
theorem Ju {k n:Str} {i:xC} {xs:List xC} (h:k = "mark" \/ k = "unmark"):T0 (.tuple (.str k::i::.str n::xs))=some n:=by
 unfold T0;exact if_pos h
theorem Xw (W:BkW L):∀ p∈Ba (off L) L [],∃ n:Str,p.1=.str n/\n.length<=2:=by
 refine aS _ L [] (fun e he n hn=>?_) (fun _ h=>nomatch h);obtain ⟨o,r⟩:=(show Wf _ _ _ _ from W.1 e he);have no:∀ {k:Str} {i x:xC} {xs:List xC},e.1=.tuple (.str k::i::x::xs)->k ≠ "mark" -> k ≠ "unmark" -> False:=fun e1 h1 h2=>by rw [e1,Hb h1 h2] at hn; cases hn
 rcases r with ⟨b,w,e1,_⟩ | ⟨sg,e1,_⟩ | ⟨n',s1,x1,s2,x2,e1,_,_,hm,_⟩ | ⟨n',e1,hm⟩ | ⟨z,e1,hz⟩
 . exact (no e1 (by decide) (by decide)).elim
 . exact (no e1 (by decide) (by decide)).elim
 . rw [e1,Ju (.inl rfl)] at hn
   cases hn; exact hm.2.1
 . rw [e1,Ju (.inr rfl)] at hn
   cases hn; exact hm.2.1
 . exact (no e1 (by decide) (by decide)).elim
theorem gD {kvs:Kvs} (h:∀ p∈kvs,∃ n:Str,p.1=.str n/\n.length<=2) {m:Str} (hm:2 < m.length):F1 kvs (.str m)=none:=by
 unfold F1;rw [List.find?_eq_none.mpr fun p hp z=>?_]; · rfl
 obtain ⟨n,e,hn⟩:=h p hp;rw [e] at z;have:n=m:=j6 (show (n==m)=true from z);rw [this] at hn;lia
theorem U8 (A:BkA L B) (W:BkW L) (hl:L.length<=10) (P:Pq L ku kd) {ts:List Row} (hts:∀ t,t∈ts↔GR (ord B) (E4 ku kd) (lkL L) t) {m:Str} (hm:nmL m) (hm2:2 < m.length) {a1 a2:xC} (h1:Hv (ord B) a1) (h2:Hv (ord B) a2) {b c:Nat} (g1:D9 [fN (plN (E4 ku kd) (ord B)),.sh a1]=.ok (.int (b:Int))) (g2:D9 [fN (plN (E4 ku kd) (ord B)),.sh a2]=.ok (.int (c:Int))) :
   ∃ ts',K3 (L++[mkE m a1 a2]) (((ord B).filter (E4 ku kd)).map cp) ts'/\(∀ t,t∈ts'↔t∈ts\/t=(m,b,if b < c then c else b))/\∀ t∈ts,t.1≠m:=by
 have e1:(mkE m a1 a2).1=.tuple (.str "mark" :: idP (mkE m a1 a2).2::.str m::[a1,a2]):=rfl;have A':BkA (L++[mkE m a1 a2]) B:=⟨A.ad.snocO "mark" _ _ e1 (by decide),A.bk,A.wd,A.id,fun a ha=>xY.mpr (.inl (A.inL a ha)),by have:=A.len; rw [yB]; lia⟩;have kdE:∀ e∈L++[mkE m a1 a2],Kd e:=fun e he=>by
   rcases xY.mp he with k | k
   . exact (W.1 e k).kd
   . rw [xS.mp k]; exact .oth "mark" _ _ e1 (by decide) (by decide)
 have mdE:∀ e∈L++[mkE m a1 a2],Md (ord B) e:=fun e he=>by
   rcases xY.mp he with k | k
   . exact (W.1 e k).md A
   . rw [xS.mp k]; exact .mark m a1 a2 e1 hm h1 h2
 have hl':(L++[mkE m a1 a2]).length<=11:=by rw [yB]; exact ED hl
 obtain ⟨ku',kd',P'⟩:=sI kdE hl';have ho:off (L++[mkE m a1 a2])=off L:=by
   show fQ (L++[mkE m a1 a2]).reverse []=_;rw [AS]; show fQ L.reverse (Uj (mkE m a1 a2) [])=_;rw [Xq e1 (by decide)]
 have hu:un ku'=un ku:=funext fun p=>by rw [P'.o,P.o,ho]
 have hp:E4 ku' kd'=E4 ku kd:=funext fun u=>by
   have hd:has kd' (some (sgn u))=has kd (some (sgn u)):=by
     rw [P'.P.h,P.P.h,List.any_append,show ([mkE m a1 a2].any fun e=>Et (fun p=>(F1 ku' (idP p)).isSome) e (sgn u))=false by rw [DR,Sx e1 (by decide)]; rfl,DV];show (L.any fun e=>Et (un ku') e (sgn u))=_;rw [hu]; rfl
   unfold E4; rw [hu,hd]
 obtain ⟨ts',K',k'⟩:=sO A' kdE mdE hl' P';rw [hp] at K' k';have hk:=Xw W;have hT:sY (Ba (off L) L []):=fun p q=>by obtain ⟨n,e,_⟩:=hk p q; exact ⟨n,e⟩
 have hlk:∀ n,lkL (L++[mkE m a1 a2]) n=if m=n then some (mkE m a1 a2).1 else lkL L n:=fun n=>by
   unfold lkL; have hno:((60, "d"):IdP)∉off L:=fun z=>absurd (pR W _ z) (show ¬ (60:Int)<=11 by decide);rw [ho,gF,show X0 (off L) (mkE m a1 a2) (Ba (off L) L [])=N4 (Ba (off L) L []) (.str m) (mkE m a1 a2).1 by
     unfold X0; rw [show T0 (mkE m a1 a2).1=some m from Ju (.inl rfl)]; exact if_neg hno,Sw hT]
 have hne:∀ t∈ts,t.1≠m:=fun t ht z=>by
   obtain ⟨i,x1,x2,c',g,_⟩:=(hts t).mp ht; rw [z] at g; unfold lkL at g; rw [gD hk hm2] at g; cases g
 refine ⟨ts',K',fun t=>?_,hne⟩;rw [k' t];by_cases hq:t.1=m
 . constructor
   . rintro ⟨i,x1,x2,c',z1,z2,z3,z4⟩
     rw [hlk,if_pos hq.symm] at z1;injection z1 with z1
     injection z1 with z1
     injection z1 with _ z1
     injection z1 with _ z1
     injection z1 with _ z1
     injection z1 with y1 z1
     injection z1 with y2 _
     subst y1; subst y2; have i1:=Ui z2 g1; have i2:=Ui z3 g2; obtain ⟨t1,t2,t3⟩:=t; exact .inr (by rw [show t1=m from hq,show t2=b from i1,show t3=_ from z4]; rw [i2,show ((t1,t2,t3):Row).2.1=b from i1])
   . rintro (k | rfl)
     . exact absurd hq (hne t k)
     . exact ⟨_,a1,a2,c,by rw [hlk,if_pos rfl],g1,g2,rfl⟩
 . have : GR (ord B) (E4 ku kd) (lkL (L ++ [mkE m a1 a2])) t ↔ GR (ord B) (E4 ku kd) (lkL L) t := by
     unfold GR; rw [hlk,if_neg fun z=>hq z.symm]
   rw [this,<- hts t]; exact ⟨.inl,fun z=>z.elim id fun z=>absurd (by rw [z]) hq⟩
end
structure Mo (ts ts':List Row) (w:Row):Prop where
 up:ts.Pairwise ltW
 up':ts'.Pairwise ltW
 mem:∀ t,t∈ts'↔t∈ts\/t=w
 ne:∀ t∈ts,t.1≠w.1
noncomputable section
variable {ts ts':List Row} {w:Row}
theorem Mo.has (M:Mo ts ts' w):w∈ts':=(M.mem w).mpr (.inr rfl)
theorem Mo.rest (M:Mo ts ts' w):ts'.filter (fun t => !(t.1==w.1))=ts:=by
 refine Yl (M.up'.filter _) M.up fun t=>?_;rw [j4,M.mem t,BR,beq_eq_false_iff_ne];constructor
 . rintro ⟨h | h,k⟩
   . exact h
   . exact absurd (by rw [h]) k
 . intro h; exact ⟨.inl h,M.ne t h⟩
theorem Mo.filt (M:Mo ts ts' w) (F:Row->Bool) (h:F w=false):ts'.filter F=ts.filter F:=by
 rw [<- M.rest,List.filter_filter];refine DL fun t ht=>?_;rcases (M.mem t).mp ht with k | k
 . rw [Dz (M.ne t k)]; simp
 . rw [k,h]; rfl
theorem Mo.any (M:Mo ts ts' w) (F:Row->Bool) (h:F w=false):ts'.any F=ts.any F:=by
 rw [l3,w5,w5];constructor
 . rintro ⟨t,ht,e⟩
   rcases (M.mem t).mp ht with k | k
   . exact ⟨t,k,e⟩
   . rw [k,h] at e; cases e
 . rintro ⟨t,ht,e⟩; exact ⟨t,(M.mem t).mpr (.inl ht),e⟩
theorem Mo.inn (M:Mo ts ts' w):Sm.inn ts' w=(ts.filter (Y6 w)).map (·.1):=by
 unfold Sm.inn;rw [<- M.rest,List.filter_filter];congr 1;exact DL fun t _=>Bool.and_comm _ _
theorem gR {N:Row->Bool} {g:Row->List xC}:∀ l:List Row,(∀ a∈l,N a=false->g a=[])->(l.map g).flatten=((l.filter N).map g).flatten:=by
 intro l;induction l with
 | nil=>intro _; rfl
 | cons a l ih =>
   intro h; have i:=ih fun b hb=>h b (.tail _ hb);rw [yL,xL,j0];cases c:N a with
   | true=>rw [if_pos rfl,xL,j0,i]
   | false=>rw [if_neg (by decide),h a (.head _) c]; exact i
theorem Mo.cross (M:Mo ts ts' w) (h:∀ t∈ts',U5 t w=false/\U5 w t=false):Ey ts' ts'=Ey ts ts:=by
 unfold Ey;rw [gR (N:=fun t => !(t.1==w.1)) ts' fun a ha hn=>?_,M.rest]
 . congr 1
   refine FL fun t ht=>?_;rw [M.filt (fun u=>ltB t.1 u.1&&U5 t u) (by rw [(h t ((M.mem t).mpr (.inl ht))).1,CY])]
 . have e:a.1=w.1:=by simpa using hn
   have:a=w:=aL M.up' ha M.has e; rw [this,x6.mpr fun u hu=>by rw [(h u hu).2,CY]; decide]; rfl
theorem tE:∀ {l l':List Nat},l.Pairwise (· < ·)->l'.Pairwise (· < ·)->(∀ x,x∈l↔x∈l')->l=l':=by
 intro l;induction l with
 | nil =>
   intro l' _ _ h;cases l' with
   | nil=>rfl
   | cons b m=>exact nomatch (h b).mpr (.head _)
 | cons a l ih =>
   intro l' h1 h2 h;cases l' with
   | nil=>exact nomatch (h a).mp (.head _)
   | cons b m =>
     rw [yK] at h1 h2; have e:a=b:=by
       rcases xG.mp ((h a).mp (.head _)) with e | e
       . exact e
       . rcases xG.mp ((h b).mpr (.head _)) with e' | e'
         . exact e'.symm
         . exact absurd (EQ (h1.1 b e') (h2.1 a e)) (e9 _)
     subst e; rw [ih h1.2 h2.2 fun x=>⟨fun hx=>?_,fun hx=>?_⟩]
     . rcases xG.mp ((h x).mp (.tail _ hx)) with z | z
       . exact absurd (h1.1 x hx) (by rw [z]; exact e9 _)
       . exact z
     . rcases xG.mp ((h x).mpr (.tail _ hx)) with z | z
       . exact absurd (h2.1 x hx) (by rw [z]; exact e9 _)
       . exact z
theorem kP:∀ (r:List Nat) (a:Nat),(pcs (a::r)).length=r.length:=by
 intro r;induction r with
 | nil=>intro a; rfl
 | cons b r ih=>intro a; exact congrArg (· + 1) (ih b)
theorem iL (f:Nat->Bool):∀ (m a:Nat) (R:List (Nat×Nat)),(∀ x,a<=x->x < a+m->f x=false)->uF f m a R=R:=by
 intro m;induction m with
 | zero=>intro a R _; rfl
 | succ m ih =>
   intro a R h; show uF f m (a+1) (if f a=true then _ else R)=R;rw [h a (xN _) (by lia),if_neg (by decide)]; exact ih _ _ fun x h1 h2=>h x (by lia) (by lia)
end
theorem sU {α:Type} {δc:Dn} {tt:Dn->Res Bool} {el:Dn->Res xC} (g1 g2 g3 h:α->xC) (f:α->Bool):∀ xs:List α,(∀ x∈xs,tt ([.sh (g1 x),.sh (g2 x),.sh (g3 x)]++δc)=.ok (f x))->(∀ x∈xs,el ([.sh (g1 x),.sh (g2 x),.sh (g3 x)]++δc)=.ok (h x))->C8 Ps δc tt el (xs.map fun x=>.tuple [g1 x,g2 x,g3 x])=.ok ((xs.filter f).map h):=by
 intro xs;induction xs with
 | nil=>intro _ _; rfl
 | cons x xs ih =>
   intro ht he; have i:=ih (fun y hy=>ht y (.tail _ hy)) fun y hy=>he y (.tail _ hy);have h1:=ht x (.head _); have h2:=he x (.head _); rw [xL]; unfold C8;cases c:f x with
   | true =>
     rw [c] at h1; simp only [Ps,h1,h2,i]; rw [yL,c,if_pos rfl,xL]
   | false =>
     rw [c] at h1; simp only [Ps,h1,i]; rw [yL,c,if_neg (by decide)]
theorem Rf.strs (xs:List Str):Rf 1 (.list (xs.map .str)):=Rf.list fun x hx=>by
 obtain ⟨y,_,rfl⟩:=yH.mp hx;exact .str y
theorem Rf.cr (ts us:List Row):Rf 2 (.list (Ey ts us)):=Rf.list fun x hx=>by
 unfold Ey at hx;obtain ⟨l,hl,hx⟩:=List.mem_flatten.mp hx;obtain ⟨t,_,rfl⟩:=yH.mp hl;obtain ⟨u,_,rfl⟩:=yH.mp hx;refine Rf.tup fun y hy=>?_;rcases xG.mp hy with rfl | hy
 . exact .str _
 . rw [xS.mp hy]; exact .str _
theorem Rf.int {n:Nat} (x:Int):Rf n (.int x):=⟨by simp [xX],by simp [zR]⟩
theorem Rf.eq {n:Nat} {d:xC} (h:Rf n d) (hn:n<=62):dEq d d=some (.bool true):=by
 unfold dEq;rw [if_pos (yA (CO _ _) (yA h.2 (yA hn (by decide)))),h.1]
theorem gtI (a b:Int):Bl .Gt (.int a) (.int b)=some (.bool (decide (b < a))):=rfl
abbrev wh (T:List Nat):Row:=(("whole" : Str),0,T.length)
abbrev nn (x:Nat):Row:=(("none" : Str),x,x)
abbrev dl (v0 v1 v2 v3 v4 v5 v6 v7 v8 v9 v10 v11 v12:Sl):Dn:=[v0,v1,v2,v3,v4,v5,v6,v7,v8,v9,v10,v11,v12]
noncomputable section
variable {L:List Dp} {T:List Nat} {ts:List Row} {P:List (Nat×Nat)} {v0 v1 v2 v3 v5 v6 v7 v8 v9 v10 v11 v12:Sl}
noncomputable def sW:Dn->Out:=(D2 4 (b2 (A0 4) (b2 (vFn (A1 (A0 5) A6) M9) (vFn (A1 (b2 (A0 6) (I0 A6) dNe) A6) Lf) N9) C5))
theorem loop5 (hT:T.length<=44):∀ (R:List (Nat×Nat)),(∀ p∈R,p.1 < p.2/\p.2<=T.length)->∀ (h:Int) (v5 v6:Sl),∃ t5 t6,E2 (st2 5 6) sW (R.map (pD T ts)) (dl v0 v1 v2 v3 (.sh (.int h)) v5 v6 v7 v8 v9 v10 v11 v12)=.nx (dl v0 v1 v2 v3 (.sh (.int (h+szR (R.filter fun p => !fe ts p)))) t5 t6 v7 v8 v9 v10 v11 v12):=by
 intro R;induction R with
 | nil=>intro _ h v5 v6; exact ⟨v5,v6,by show Out.nx _=Out.nx (dl _ _ _ _ (.sh (.int (h+0))) _ _ _ _ _ _ _ _); rw [GM]⟩
 | cons p R ih =>
   intro hR h v5 v6; obtain ⟨p1,p2⟩:=hR p (.head _); have e1:(b2 (A0 6) (I0 A6) dNe) (dl v0 v1 v2 v3 (.sh (.int h)) (.sh (pD1 T p)) (.sh (Hh ts p)) v7 v8 v9 v10 v11 v12)=.ok (.bool (!fe ts p)):=B1 (x:=Hh ts p) (y:=.list []) rfl rfl (by rw [wK]; unfold fe; cases Er ts p <;> rfl)
   have e:sW (dl v0 v1 v2 v3 (.sh (.int h)) (.sh (pD1 T p)) (.sh (Hh ts p)) v7 v8 v9 v10 v11 v12)=.nx (dl v0 v1 v2 v3 (.sh (.int (h+((p.2 - p.1:Nat):Int)*(if (!fe ts p)=true then 1 else 0)))) (.sh (pD1 T p)) (.sh (Hh ts p)) v7 v8 v9 v10 v11 v12) :=
     C6 (B1 (x:=.int h) (y:=.int (((p.2 - p.1:Nat):Int)*(if (!fe ts p)=true then 1 else 0))) rfl (B1 (x:=.int ((p.2 - p.1:Nat):Int)) (y:=.int (if (!fe ts p)=true then 1 else 0)) (K0 (A5 rfl rfl) (by rw [Qx,Cl,Zz T p2])) (K0 (A5 e1 rfl) rfl) (Uo (.inl ⟨by lia,by lia⟩))) Q7)
   obtain ⟨t5,t6,e'⟩:=ih (fun q hq=>hR q (.tail _ hq)) (h+((p.2 - p.1:Nat):Int)*(if (!fe ts p)=true then 1 else 0)) (.sh (pD1 T p)) (.sh (Hh ts p));refine ⟨t5,t6,(P5 (δ1:=dl v0 v1 v2 v3 (.sh (.int h)) (.sh (pD1 T p)) (.sh (Hh ts p)) v7 v8 v9 v10 v11 v12) rfl e).trans (e'.trans ?_)⟩; have:h+((p.2 - p.1:Nat):Int)*(if (!fe ts p)=true then 1 else 0)+szR (R.filter fun p => !fe ts p)=h+szR ((p::R).filter fun p => !fe ts p):=by
     rw [yL];split
     . rw [show szR (p::R.filter fun p => !fe ts p)=szR ([p]++R.filter fun p => !fe ts p) from rfl,Y8,V8,Int.mul_one]; lia
     . rw [Int.mul_zero,GM]
   rw [this]
structure Bo (L:List Dp) (T:List Nat) (ts:List Row) (P:List (Nat×Nat)):Prop where
 K:K3 L T ts
 Q:Pcs T ts P
 e:E7 [bkD L]=.ok (.list (P.map (pD T ts)))
 n:P.length<=900
 b:Y4 [bkD L]=.ok (.list ((uF (fB ts) T.length 0 []).map brD))
theorem nC (K:K3 L T ts):Bo L T ts (pcs (cs T ts)):=by
 have hP:(pcs (cs T ts)).length<=900:=by
   have:=pG (cs T ts); have:=(mU K).2;lia
 have hb:=rS (aK K) (Sd K) hP;rw [dQ (aK K)] at hb;exact ⟨K,aK K,Sd K,hP,hb⟩
theorem Bo.texts (b:Bo L T ts P) {i:Nat} {δ:Dn} (h:A0 i δ=.ok (bkD L)):I0 (E8 (fun δ=>((B5 (A1 (A0 i) A6) E7) δ).bind D5) V0 [] K7 (A0 0)) δ=.ok (.list (P.map (pD1 T))):=by
 have hn:=b.n;have c1:=mW (δc:=[]) (tt:=K7) (el:=A0 0) (pD1 T) (Hh ts) (pD1 T) (fun _=>true) P (fun _ _=>rfl) fun p _=>rfl;rw [AT.mpr fun _ _=>rfl] at c1;exact P2 (E9 (δc:=[]) (E1 (d:=.list (P.map (pD T ts))) (ds:=P.map (pD T ts)) (B4 (A5 h rfl) b.e) rfl) (by rw [xJ]; lia) rfl c1)
end
theorem Zl {L:List Dp} (hl:L.length<=10) {m:Str} {a1 a2:xC} {i:Nat} {δ:Dn} (h1:A0 1 δ=.ok (bkD L)) (h7:A0 7 δ=.ok (.tuple [a1,a2])):b2 (A0 1) (D3 (A1 (b2 (D3 (A1 (vC (.str "mark")) (A1 (D3 (A1 (vC (.int 60)) (A1 (vC (.str "d")) A6))) (A1 (vC (.str m)) A6)))) (A0 7) C5) A6)) C5 δ=.ok (bkD (L++[mkE m a1 a2])) :=
 B1 (x:=bkD L) (y:=.tuple [(mkE m a1 a2).1]) h1 (M3 (A5 (B1 (x:=.tuple [.str "mark",idP (60, "d"),.str m]) (y:=.tuple [a1,a2]) rfl h7 (rV (by simp))) rfl)) (by rw [rV (by rw [xJ]; simp; lia),<- List.map_singleton,<- yV])
noncomputable section
variable {L L1:List Dp} {T:List Nat} {ts ts1:List Row} {P P1:List (Nat×Nat)} {v0 v1 v2 v3 v4 v5 v6 v7 v8 v9 v10 v11 v12:Sl}
theorem law3 (b:Bo L T ts (pcs (cs T ts))):Ie (dl v0 (.sh (bkD L)) v2 (.sh (.list (ts.map C2))) v4 v5 v6 v7 v8 v9 v10 v11 v12)=.nx (dl v0 (.sh (bkD L)) v2 (.sh (.list (ts.map C2))) v4 v5 v6 v7 v8 v9 v10 v11 v12):=by
 have hc:(cs T ts).length<=2*ts.length+2:=by
   unfold cs csZ; have:∀ l:List Int,(Y9 l).length<=l.length:=fun l=>by
     have g:∀ (l m:List Int),(l.foldl U9 m).length<=m.length+l.length:=fun l=>by
       induction l with
       | nil=>intro m; exact xN _
       | cons x l ih =>
         intro m; have h1:=ih (U9 m x); have h2:(U9 m x).length<=m.length+1:=by
           unfold U9;split
           . lia
           . simp
         rw [s0,xU];lia
     have:=g l [];simpa [Y9] using this
   have h:=this ((0:Int)::(T.length:Int)::((ts.map fun t=>(t.2.1:Int))++ts.map fun t=>(t.2.2:Int)));rw [xJ,(V4 _).length_eq]; simp at h;lia
 have hp:(pcs (cs T ts)).length<=2*ts.length+1:=by
   cases h:cs T ts with
   | nil=>exact zY _
   | cons a r=>rw [kP]; rw [h,xU] at hc; lia
 unfold Ie;refine (O6 (C0 (B1 (x:=.int ((pcs (cs T ts)).length:Int)) (y:=.int (2*(ts.length:Int)+1)) (K0 (A5 (B4 (A5 (d:=bkD L) rfl rfl) b.e) rfl) (show some (xV ((List.map _ _).length:Int))=_ by rw [xJ])) (B1 (x:=.int (2*(ts.length:Int))) (y:=.int 1) (B1 (x:=.int 2) (y:=.int (ts.length:Int)) rfl (K0 (A5 rfl rfl) (show some (xV ((List.map _ _).length:Int))=_ by rw [xJ])) mul2) rfl Q7) ?_))).trans rfl;rw [gtI,decide_eq_false (by lia)]
theorem law6 (b:Bo L T ts P) (hT:T.length<=44):Ic (dl v0 (.sh (bkD L)) (.sh (.str (mk T))) v3 (.sh (.int (0+szR (P.filter fun p => !fe ts p)))) v5 v6 v7 v8 v9 v10 v11 v12)=.nx (dl v0 (.sh (bkD L)) (.sh (.str (mk T))) v3 (.sh (.int (0+szR (P.filter fun p => !fe ts p)))) v5 v6 v7 v8 v9 v10 v11 v12):=by
 have hs:szR (Cz ts P [])=szR (P.filter fun p=>fe ts p):=by
   rw [iC]; show (0:Int)+_=_;rw [JN]
 have h1:=iW (fe ts) P;rw [b.Q.ch.sum] at h1;have hlen:(Cz ts P []).length<=900:=by have h1:=iD (ts:=ts) P []; have h2:=b.n; rw [zT] at h1; lia
 rw [dQ b.Q] at hs hlen;generalize hR:uF (fB ts) T.length 0 []=R at hs hlen;have eb:=b.b;rw [hR] at eb;have c:=mW (δc:=[]) (tt:=K7) (el:=b2 (A0 1) (A0 0) Hk) (fun r:Nat×Nat=>xV (r.1:Int)) (fun r=>.int (r.2:Int)) (fun r=>xV ((r.2:Int) - (r.1:Int))) (fun _=>true) R (fun _ _=>rfl) fun r _=>B1 (x:=.int (r.2:Int)) (y:=.int (r.1:Int)) rfl rfl rfl;rw [AT.mpr fun _ _=>rfl] at c;have hsum:Yw [.list (R.map fun r=>xV ((r.2:Int) - (r.1:Int)))]=some (.int (szR R)):=by
   show (Cm (R.map fun r=>xV ((r.2:Int) - (r.1:Int)))).map (fun is=>xV is.sum)=_;rw [show (R.map fun r=>xV ((r.2:Int) - (r.1:Int)))=(R.map fun r=>(r.2:Int) - (r.1:Int)).map .int by rw [i6]; rfl,Hg]; rfl
 unfold Ic;refine (O6 (C0 (B1 (x:=.int (T.length:Int)) (y:=.int (T.length:Int)) (B1 (x:=.int (0+szR (P.filter fun p => !fe ts p))) (y:=.int (szR R)) rfl (K0 (A5 (P2 (E9 (δc:=[]) (E1 (d:=.list (R.map brD)) (ds:=R.map brD) (B4 (A5 (d:=bkD L) rfl rfl) eb) rfl) (by rw [xJ]; lia) rfl c)) rfl) hsum) ?_) (K0 (A5 rfl rfl) (by rw [Qx,Cl])) ((Rf.int (n:=0) _).ne (by decide))))).trans rfl;rw [Q7,hs,show (0:Int)+szR (P.filter fun p => !fe ts p)+szR (P.filter fun p=>fe ts p)=T.length by lia]
theorem sQ {n:Nat} (m:Str) {t:Row} (h:t.2.1<=t.2.2/\t.2.2<=n):Y6 (m,0,n) t=decide (t.2.1 < t.2.2):=by
 unfold Y6;rw [decide_eq_true (p:=(m,0,n).2.1<=t.2.1) (zY _),decide_eq_true (p:=t.2.2<=(m,0,n).2.2) h.2,IG,IG]
theorem Cu {t w:Row} (h:Y6 t w=true\/Y6 w t=true\/¬ ((if t.2.1 < w.2.1 then w.2.1 else t.2.1) < (if w.2.2 < t.2.2 then w.2.2 else t.2.2))):U5 t w=false:=by
 unfold U5;rcases h with h | h | h
 . rw [h,Bool.true_or]; rfl
 . rw [h,Bool.or_true]; rfl
 . rw [decide_eq_false h,CY]
theorem Fp {t w:Row} (h:t.2.2<=t.2.1\/w.2.2<=w.2.1):¬ ((if t.2.1 < w.2.1 then w.2.1 else t.2.1) < (if w.2.2 < t.2.2 then w.2.2 else t.2.2)):=by
 split <;> split <;> lia
theorem wM {n:Nat} (m:Str) {t:Row} (h:t.2.1<=t.2.2/\t.2.2<=n):U5 t (m,0,n)=false/\U5 (m,0,n) t=false:=by
 by_cases c:t.2.1 < t.2.2
 . have hh:Y6 (m,0,n) t=true:=by rw [sQ m h,decide_eq_true c]
   exact ⟨Cu (.inr (.inl hh)),Cu (.inl hh)⟩
 . exact ⟨Cu (.inr (.inr (Fp (.inl (by lia))))),Cu (.inr (.inr (Fp (.inr (by lia)))))⟩
theorem law9 (K:K3 L T ts):Ib (dl v0 v1 v2 (.sh (.list (ts.map C2))) v4 v5 v6 v7 v8 v9 v10 v11 v12)=.nx (dl v0 v1 v2 (.sh (.list (ts.map C2))) v4 v5 v6 v7 v8 (.sh (.list (((ts.filter fun t=>decide (t.2.1 < t.2.2)).map (·.1)).map .str))) v10 v11 v12):=by
 have hn:=K.ln;have c:=sU (δc:=[]) (tt:=B8 (b2 (A0 1) (A0 2) (D7 .Lt))) (el:=A0 0) (fun t:Row=>zM t.1) (fun t=>.int (t.2.1:Int)) (fun t=>.int (t.2.2:Int)) (fun t=>zM t.1) (fun t=>decide (t.2.1 < t.2.2)) ts (fun t _=>C0 (B1 (x:=.int (t.2.1:Int)) (y:=.int (t.2.2:Int)) rfl rfl (ltN _ _))) fun t _=>rfl;unfold Ib Gx;rw [E9 (δc:=[]) (E1 (d:=.list (ts.map C2)) (ds:=ts.map C2) rfl rfl) (by rw [xJ]; lia) rfl c,i6]; rfl
theorem law10 (b:Bo L T ts P) (b1:Bo L1 T ts1 P) (M:Mo ts ts1 (wh T)):Fi (dl v0 (.sh (bkD L)) v2 v3 v4 v5 v6 v7 (.sh (bkD L1)) (.sh (.list (((ts.filter fun t=>decide (t.2.1 < t.2.2)).map (·.1)).map .str))) v10 v11 v12)=.nx (dl v0 (.sh (bkD L)) v2 v3 v4 v5 v6 v7 (.sh (bkD L1)) (.sh (.list (((ts.filter fun t=>decide (t.2.1 < t.2.2)).map (·.1)).map .str))) v10 v11 v12):=by
 have hi:=Yh b1.K M.has;rw [M.inn,DL (q:=fun t=>decide (t.2.1 < t.2.2)) fun t ht=>sQ "whole" (b.K.ok t ht)] at hi;have hc:=Bm b1.K;rw [M.cross fun t ht=>wM "whole" (b1.K.ok t ht)] at hc;have hbar:=b1.b;rw [iL (fB ts1) T.length 0 [] fun x _ h2=>by
   show (!(ts1.any fun t=>hb t (x,x+1)))=false;rw [w5.mpr ⟨_,M.has,by rw [yE]; exact ⟨decide_eq_true (zY _),decide_eq_true (by show x+1<=T.length; lia)⟩⟩]; rfl] at hbar
 unfold Fi;exact (O6 (bJ (C0 (B1 (B4 (A5 (d:=bkD L1) rfl (A5 (d:=.str "whole") rfl rfl)) hi) rfl ((Rf.strs _).ne (by decide)))) (bJ (C0 (B1 (B4 (A5 (d:=bkD L1) rfl rfl) hc) (B4 (A5 (d:=bkD L) rfl rfl) (Bm b.K)) ((Rf.cr _ _).ne (by decide)))) (C0 (B1 (x:=.list []) (y:=.list []) (B4 (A5 (d:=bkD L1) rfl rfl) hbar) rfl rfl))))).trans rfl
theorem Rf.pcs (T:List Nat) (P:List (Nat×Nat)):Rf 1 (.list (P.map (pD1 T))):=Rf.list fun x hx=>by
 obtain ⟨y,_,rfl⟩:=yH.mp hx;exact .str _
theorem law11 (b:Bo L T ts P) (b1:Bo L1 T ts1 P):Fh (dl v0 (.sh (bkD L)) v2 v3 v4 v5 v6 v7 (.sh (bkD L1)) v9 v10 v11 v12)=.nx (dl v0 (.sh (bkD L)) v2 v3 v4 v5 v6 v7 (.sh (bkD L1)) v9 v10 v11 v12):=by
 unfold Fh;exact (O6 (C0 (B1 (b1.texts rfl) (b.texts rfl) ((Rf.pcs T P).ne (by decide))))).trans rfl
theorem law12 (b1:Bo L1 T ts1 P) (h:∀ p∈P,wh T∈ts1):Fg (dl v0 v1 v2 v3 v4 v5 v6 v7 (.sh (bkD L1)) v9 v10 v11 v12)=.nx (dl v0 v1 v2 v3 v4 v5 v6 v7 (.sh (bkD L1)) v9 v10 v11 v12):=by
 have hn:=b1.n;have c:=mW (δc:=[]) (tt:=B8 (b2 (vC (.str "whole")) (A0 1) (dIn true))) (el:=A0 1) (pD1 T) (Hh ts1) (Hh ts1) (fun _=>false) P (fun p hp=>C0 (B1 (x:=.str "whole") (y:=Hh ts1 p) rfl rfl (by
   have hm:=qA b1.K.up (h p hp) fun t=>hb t p;have hh:hb (wh T) p=true:=by
     rw [yE]; exact ⟨decide_eq_true (zY _),decide_eq_true (b1.Q.ch.le.2 p hp).2.2⟩
   rw [qK,show decide (("whole" : Str)∈Er ts1 p)=true from hm.trans hh]; rfl))) fun p _=>rfl
 rw [x6.mpr fun _ _=>by decide] at c;unfold Fg;exact (O6 (C0 (B1 (x:=.list []) (y:=.list []) (P2 (E9 (δc:=[]) (E1 (d:=.list (P.map (pD T ts1))) (ds:=P.map (pD T ts1)) (B4 (A5 (d:=bkD L1) rfl rfl) b1.e) rfl) (by rw [xJ]; lia) rfl c)) rfl rfl))).trans rfl
theorem law13 (K:K3 L T ts):Ff (dl v0 v1 v2 (.sh (.list (ts.map C2))) v4 v5 v6 v7 v8 v9 v10 v11 v12)=.nx (dl v0 v1 v2 (.sh (.list (ts.map C2))) v4 v5 v6 v7 v8 v9 (.sh (.list (ts.map fun t=>xV ((t.2.2:Int) - (t.2.1:Int))))) v11 v12):=by
 have hn:=K.ln;have c:=sU (δc:=[]) (tt:=K7) (el:=b2 (A0 2) (A0 1) Hk) (fun t:Row=>zM t.1) (fun t=>.int (t.2.1:Int)) (fun t=>.int (t.2.2:Int)) (fun t=>xV ((t.2.2:Int) - (t.2.1:Int))) (fun _=>true) ts (fun t _=>rfl) fun t _=>B1 (x:=.int (t.2.2:Int)) (y:=.int (t.2.1:Int)) rfl rfl rfl;rw [AT.mpr fun _ _=>rfl] at c;unfold Ff Gx;rw [E9 (δc:=[]) (E1 (d:=.list (ts.map C2)) (ds:=ts.map C2) rfl rfl) (by rw [xJ]; lia) rfl c]; rfl
theorem law14 (K:K3 L T ts) (K1:K3 L1 T ts1) (M:Mo ts ts1 (wh T)):Fe (dl v0 v1 (.sh (.str (mk T))) v3 v4 v5 v6 v7 (.sh (bkD L1)) v9 (.sh (.list (ts.map fun t=>xV ((t.2.2:Int) - (t.2.1:Int))))) v11 v12)=.nx (dl v0 v1 (.sh (.str (mk T))) v3 v4 v5 v6 v7 (.sh (bkD L1)) v9 (.sh (.list (ts.map fun t=>xV ((t.2.2:Int) - (t.2.1:Int))))) v11 v12):=by
 have hn:=K.ln;obtain ⟨f1,f2,_⟩:=fmax (ts.map fun t=>(t.2.2:Int) - (t.2.1:Int)) 0;have hM:Pg [.list ([.int 0]++ts.map fun t=>xV ((t.2.2:Int) - (t.2.1:Int)))]=some (.int ((ts.map fun t=>(t.2.2:Int) - (t.2.1:Int)).foldl max 0)):=by
   show ((Cm (xV 0::ts.map fun t=>xV ((t.2.2:Int) - (t.2.1:Int)))).bind qB).map xV=_;rw [show (xV 0::ts.map fun t=>xV ((t.2.2:Int) - (t.2.1:Int)))=((0:Int)::ts.map fun t=>(t.2.2:Int) - (t.2.1:Int)).map .int by rw [xL,i6]; rfl,Hg]; rfl
 generalize (ts.map fun t=>(t.2.2:Int) - (t.2.1:Int)).foldl max 0=m at f1 f2 hM;have c1:(B8 (b2 (vFn (A1 (A0 2) A6) M9) (vFn (A1 (b2 (I0 (A1 (vC (.int 0)) A6)) (A0 10) C5) A6) Pg) (Bl .Gt))) (dl v0 v1 (.sh (.str (mk T))) v3 v4 v5 v6 v7 (.sh (bkD L1)) v9 (.sh (.list (ts.map fun t=>xV ((t.2.2:Int) - (t.2.1:Int))))) v11 v12)=.ok (decide (m < (T.length:Int))):=C0 (B1 (x:=.int (T.length:Int)) (y:=.int m) (K0 (A5 rfl rfl) (by rw [Qx,Cl])) (K0 (A5 (B1 (x:=.list [.int 0]) (y:=.list (ts.map fun t:Row=>xV ((t.2.2:Int) - (t.2.1:Int)))) rfl rfl (Zm (by rw [xJ]; simp; lia))) rfl) hM) (gtI _ _))
 unfold Fe;refine (O6 ?_).trans rfl;by_cases h:m < (T.length:Int)
 . rw [decide_eq_true h] at c1
   obtain ⟨t,ht,hw,hm⟩:=(dY K1).2 (List.ne_nil_of_mem M.has); have e:t=(wh T):=by
     rcases (M.mem t).mp ht with k | k
     . have h1:=f2 _ (yH.mpr ⟨t,k,rfl⟩)
       have h2:T.length - 0<=t.2.2 - t.2.1:=hm _ M.has; have h3:=(K.ok t k).1;lia
     . exact k
   rw [e] at hw; exact Z4 c1 (C0 (B1 (B4 (A5 (d:=bkD L1) rfl rfl) hw) rfl ((Rf.str (n:=0) _).ne (by decide))))
 . rw [decide_eq_false h] at c1
   exact Fa c1
theorem law18 (b:Bo L T ts P) (b1:Bo L1 T ts1 P1) {x:Nat} (M:Mo ts ts1 (nn x)):Fd (dl v0 (.sh (bkD L)) (.sh (.str (mk T))) v3 v4 v5 v6 v7 v8 v9 v10 v11 (.sh (bkD L1)))=.nx (dl v0 (.sh (bkD L)) (.sh (.str (mk T))) v3 v4 v5 v6 v7 v8 v9 v10 v11 (.sh (bkD L1))):=by
 have hT:=b.K.tl;have hc:=Bm b1.K;rw [M.cross fun t ht=>⟨Cu (.inr (.inr (Fp (.inr (xN _))))),Cu (.inr (.inr (Fp (.inl (xN _)))))⟩] at hc;have hj:=qE (P1.map fun p=>sl T p.1 p.2) (by rw [b1.Q.ch.join T,aA]; exact b.K.ch) (by rw [b1.Q.ch.join T,aA]; lia);rw [b1.Q.ch.join T,aA,i6] at hj;have hj:Le "" (.list (P1.map (pD1 T)))=some (.str (mk T)):=hj;unfold Fd;refine (O6 (bJ (C0 (B1 (x:=.str (mk T)) (y:=.str (mk T)) ?_ rfl ((Rf.str (n:=0) _).ne (by decide)))) (C0 (B1 (B4 (A5 (d:=bkD L1) rfl rfl) hc) (B4 (A5 (d:=bkD L) rfl rfl) (Bm b.K)) ((Rf.cr _ _).ne (by decide)))))).trans rfl
 unfold Ko;rw [b1.texts rfl,C4,hj]; rfl
theorem Rf.br (R:List (Nat×Nat)):Rf 2 (.list (R.map brD)):=Rf.list fun x hx=>by
 obtain ⟨y,_,rfl⟩:=yH.mp hx;refine Rf.tup fun z hz=>?_;rcases xG.mp hz with rfl | hz
 . exact .int _
 . rw [xS.mp hz]; exact .int _
theorem law19 (b:Bo L T ts P) (b1:Bo L1 T ts1 P1) {x:Nat} (M:Mo ts ts1 (nn x)):Fc (dl v0 (.sh (bkD L)) v2 v3 v4 v5 v6 v7 v8 v9 v10 v11 (.sh (bkD L1)))=.rt (.bool true):=by
 have hbar:=b1.b;rw [show fB ts1=fB ts from funext fun y=>by
   show (!(ts1.any fun t=>hb t (y,y+1))) = !(ts.any fun t=>hb t (y,y+1));rw [M.any (fun t=>hb t (y,y+1)) (by
     show (decide (x<=y)&&decide (y+1<=x))=false;rw [Bool.and_eq_false_iff,decide_eq_false_iff_not,decide_eq_false_iff_not];lia)]] at hbar
 have hi:=Yh b1.K M.has;rw [M.inn,x6.mpr fun t ht=>by
   unfold Y6; rw [yE,yE,decide_eq_true_iff,decide_eq_true_iff,decide_eq_true_iff]; show ¬ (t.2.1 < t.2.2/\x<=t.2.1/\t.2.2<=x);lia] at hi
 unfold Fc;exact K4 (Me (a:=true) (b:=true) (B1 (B4 (A5 (d:=bkD L1) rfl rfl) hbar) (B4 (A5 (d:=bkD L) rfl rfl) b.b) ((Rf.br _).eq (by decide))) (B1 (x:=.list []) (y:=.list []) (B4 (A5 (d:=bkD L1) rfl (A5 (d:=.str "none") rfl rfl)) hi) rfl rfl))
end
theorem lB:nmL "whole" /\ 2 < ("whole" : Str).length/\nmL "none" /\ 2 < ("none" : Str).length:=by
 unfold nmL chOk;decide +kernel
theorem kD (ns:List Int) (hns:ns.length<=63):cR [.list (ns.map xV)]=.ok (.bool true):=by
 obtain ⟨x,y,z,hxyz,en⟩:=lE ns hns 0;obtain ⟨L,eb,hl,W⟩:=rQ ns hns x y z hxyz;obtain ⟨B,A⟩:=bka' W;have hk:∀ e∈L,Kd e:=fun e he=>(W.1 e he).kd;have hl1:L.length<=11:=AB hl;obtain ⟨ku,kd,Pq⟩:=sI hk hl1;obtain ⟨ts,K,hts⟩:=sO A hk (fun e he=>(W.1 e he).md A) hl1 Pq;have at_:=fun (x:Nat) (hx:x<=((ord B).filter (E4 ku kd)).length) (side:Str) (hs:aQ side)=>an_at A hl1 Pq.P hx hs;have mo:=fun (m:Str) (h1:nmL m) (h2:2 < m.length) (a1 a2:xC) (k1:Hv (ord B) a1) (k2:Hv (ord B) a2) (b c:Nat) (g1:_) (g2:_)=>U8 A W hl Pq hts (m:=m) h1 h2 (a1:=a1) (a2:=a2) k1 k2 (b:=b) (c:=c) g1 g2;have hTl:(((ord B).filter (E4 ku kd)).map cp).length=((ord B).filter (E4 ku kd)).length:=xJ _
 rw [<- hTl] at at_;generalize ((ord B).filter (E4 ku kd)).map cp=T at K at_ mo;obtain ⟨n1,n2,n3,n4⟩:=lB;obtain ⟨a1,ea1,ok1,pl1⟩:=at_ 0 (zY _) "l" (.inl rfl);obtain ⟨a2,ea2,ok2,pl2⟩:=at_ T.length (xN _) "r" (.inr rfl);obtain ⟨ts1,K1,m1,ne1⟩:=mo "whole" n1 n2 a1 a2 ok1 ok2 0 T.length pl1 pl2;have hw:((("whole" : Str),0,if 0 < T.length then T.length else 0):Row)=wh T:=by
   have:(if 0 < T.length then T.length else 0)=T.length:=by
     split
     . rfl
     . lia
   rw [this]
 rw [hw] at m1;have M1:Mo ts ts1 (wh T):=⟨K.up,K1.up,m1,ne1⟩;have hcs:cs T ts1=cs T ts:=tE (dF K1) (dF K) fun q=>by
   rw [Hm K1,Hm K]; have sp:∀ f:Row->Nat,(∃ t∈ts1,f t=q)↔(∃ t∈ts,f t=q)\/f (wh T)=q:=fun f=>by
     constructor
     . rintro ⟨t,ht,e⟩
       rcases (m1 t).mp ht with k | k
       . exact .inl ⟨t,k,e⟩
       . exact .inr (by rw [<- k]; exact e)
     . rintro (⟨t,ht,e⟩ | e)
       . exact ⟨t,(m1 t).mpr (.inl ht),e⟩
       . exact ⟨_,M1.has,e⟩
   rw [sp fun t=>t.2.1,sp fun t=>t.2.2];constructor
   . rintro (h | h | (h | h) | h | h)
     . exact .inl h
     . exact .inr (.inl h)
     . exact .inr (.inr (.inl h))
     . exact .inl h.symm
     . exact .inr (.inr (.inr h))
     . exact .inr (.inl h.symm)
   . rintro (h | h | h | h)
     . exact .inl h
     . exact .inr (.inl h)
     . exact .inr (.inr (.inl (.inl h)))
     . exact .inr (.inr (.inr (.inl h)))
 have bo:=nC K;have bo1:=nC K1;rw [hcs] at bo1;have hT:=K.tl;obtain ⟨r,dr,r0,r1⟩:=I8 ns hns 620 ((T.length:Int)+1) (by lia);obtain ⟨j,rfl⟩:∃ j:Nat,r=(j:Int):=⟨r.toNat,by lia⟩;obtain ⟨b1,eb1,okb1,plb1⟩:=at_ j (by lia) "r" (.inr rfl);obtain ⟨b2',eb2,okb2,plb2⟩:=at_ j (by lia) "l" (.inl rfl);obtain ⟨ts2,K2,m2,ne2⟩:=mo "none" n3 n4 b1 b2' okb1 okb2 j j plb1 plb2;rw [if_neg (e9 _)] at m2;have M2:Mo ts ts2 (nn j):=⟨K.up,K2.up,m2,ne2⟩;have bo2:=nC K2;refine U4 ?_;show B6 _ _ (dl (.sh (scr ns)) .un .un .un .un .un .un .un .un .un .un .un .un)=_;refine (B2 (δ':=dl (.sh (scr ns)) (.sh (bkD L)) .un .un .un .un .un .un .un .un .un .un .un) (C6 (B4 (A5 rfl (A5 rfl (A5 rfl (A5 (B4 (A5 rfl (A5 rfl rfl)) en) rfl)))) eb))).trans ?_
 refine (B2 (δ':=dl (.sh (scr ns)) (.sh (bkD L)) (.sh (.str (mk T))) .un .un .un .un .un .un .un .un .un .un) (C6 (B4 (A5 (d:=bkD L) rfl rfl) K.t))).trans ?_;refine (B2 (δ':=dl (.sh (scr ns)) (.sh (bkD L)) (.sh (.str (mk T))) (.sh (.list (ts.map C2))) .un .un .un .un .un .un .un .un .un) (C6 (B4 (A5 (d:=bkD L) rfl rfl) K.m))).trans ?_;refine (B2 (law3 bo)).trans ?_;refine (B2 (δ':=dl (.sh (scr ns)) (.sh (bkD L)) (.sh (.str (mk T))) (.sh (.list (ts.map C2))) (.sh (.int 0)) .un .un .un .un .un .un .un .un) rfl).trans ?_;obtain ⟨t5,t6,e5⟩:=loop5 (ts:=ts) (v0:=.sh (scr ns)) (v1:=.sh (bkD L)) (v2:=.sh (.str (mk T))) (v3:=.sh (.list (ts.map C2))) (v7:=.un) (v8:=.un) (v9:=.un) (v10:=.un) (v11:=.un) (v12:=.un) hT (pcs (cs T ts)) (fun p hp=>(bo.Q.ch.le.2 p hp).2) 0 .un .un
 refine (B2 (δ':=dl (.sh (scr ns)) (.sh (bkD L)) (.sh (.str (mk T))) (.sh (.list (ts.map C2))) (.sh (.int (0+szR ((pcs (cs T ts)).filter fun p => !fe ts p)))) t5 t6 .un .un .un .un .un .un) ?_).trans ?_
 . unfold Ms M8
   rw [E1 (d:=.list ((pcs (cs T ts)).map (pD T ts))) (ds:=(pcs (cs T ts)).map (pD T ts)) (B4 (A5 (d:=bkD L) rfl rfl) bo.e) rfl,D1]; exact e5
 refine (B2 (law6 bo hT)).trans ?_;generalize (.sh (.int (0+szR ((pcs (cs T ts)).filter fun p => !fe ts p))):Sl)=v4;refine (B2 (δ':=dl (.sh (scr ns)) (.sh (bkD L)) (.sh (.str (mk T))) (.sh (.list (ts.map C2))) v4 t5 t6 (.sh (.tuple [a1,a2])) .un .un .un .un .un) (C6 (M3 (A5 (B4 (A5 (d:=bkD L) rfl (A5 (d:=.int 0) rfl (A5 (d:=.str "l") rfl rfl))) ea1) (A5 (B4 (A5 (d:=bkD L) rfl (A5 (d:=.int (T.length:Int)) (K0 (A5 rfl rfl) (by rw [Qx,Cl])) (A5 (d:=.str "r") rfl rfl))) ea2) rfl))))).trans ?_;refine (B2 (δ':=dl (.sh (scr ns)) (.sh (bkD L)) (.sh (.str (mk T))) (.sh (.list (ts.map C2))) v4 t5 t6 (.sh (.tuple [a1,a2])) (.sh (bkD (L++[mkE "whole" a1 a2]))) .un .un .un .un) (C6 (Zl (i:=0) hl rfl rfl))).trans ?_
 refine (B2 (law9 K)).trans ((B2 (law10 bo bo1 M1)).trans ((B2 (law11 bo bo1)).trans ((B2 (law12 bo1 fun _ _=>M1.has)).trans ((B2 (law13 K)).trans ((B2 (law14 K K1 M1)).trans ?_)))));refine (B2 (C6 (d:=.int (j:Int)) (B4 (A5 (d:=scr ns) rfl (A5 (d:=.int 620) rfl (A5 (d:=.int ((T.length:Int)+1)) (B1 (x:=.int (T.length:Int)) (y:=.int 1) (K0 (A5 rfl rfl) (by rw [Qx,Cl])) rfl Q7) rfl))) dr))).trans ?_;refine (B2 (C6 (d:=.tuple [b1,b2']) (M3 (A5 (B4 (A5 (d:=bkD L) rfl (A5 (d:=.int (j:Int)) rfl (A5 (d:=.str "r") rfl rfl))) eb1) (A5 (B4 (A5 (d:=bkD L) rfl (A5 (d:=.int (j:Int)) rfl (A5 (d:=.str "l") rfl rfl))) eb2) rfl))))).trans ?_
 refine (B2 (C6 (Zl (m := "none") (a1:=b1) (a2:=b2') (i:=0) hl rfl rfl))).trans ?_;exact (B2 (law18 bo bo2 M2)).trans (law19 bo bo2 M2)
end Sm
end
namespace Sm
open PySem PySem.Spec PyProof.Rows L2
noncomputable def F5 (P:FG) (x:Str) (t:Nat) (v:xF):zO:=⟨PyData.keyHash P x,.str x t,v⟩
noncomputable def pI (i:Nat):Str:=match top i with | .FunctionDef n _ _ _ _ _ _ _ _ _=>n | _ => ""
noncomputable def Q4 (i:Nat) (m:xF) (c:Nat):Obj:=⟨.type "function",none,.func (zQ (pI i) (pI i) (L4 (top i)) (B3 (top i)) (A4 (top i)) .none .none .none m none (.ref c) .none),#[]⟩
noncomputable def Q5 (i t:Nat) (l a:Int) (r:Nat) (u v w:xF) (n:Nat):Obj:=⟨.type "code",none,.fields #[.str (pI i) t,.str (pI i) (t+1),.str "/claim/cut.py" (t+2),.int l 0,.int a 0,.int 0 0,.int 0 0,.int 3 0,.ref r,.bool true,.int 181 0,.ref (r+1),.none,u,v,w,.int n 0,.int l 0,.str "/claim/cut.py" (n+1)],#[]⟩
noncomputable def owM0 (P:FG):List zO:=[F5 P "__name__" 165 (.str "law_staymark_k32_whole_counts" 441),F5 P "__doc__" 166 .none,F5 P "__package__" 167 .none,F5 P "__loader__" 168 (.builtin "__main__.__loader__#opaque"),F5 P "__spec__" 169 .none,F5 P "__annotations__" 170 (.ref 6),F5 P "__builtins__" 171 (.ref 4),F5 P "__file__" 173 (.str "/claim/cut.py" 172),F5 P "__cached__" 174 .none,F5 P "SIDES" 190 (.str "lr" 189),F5 P "signs_added" 197 (.ref 21)]
noncomputable def owM1 (P:FG):List zO:=[F5 P "MarkError" 217 (.ref 31),F5 P "NoPlace" 233 (.ref 44),F5 P "NoName" 249 (.ref 56),F5 P "adds_behind" 260 (.ref 65),F5 P "signs_of" 266 (.ref 70),F5 P "undone_in" 275 (.ref 77),F5 P "dropped_in" 286 (.ref 84),F5 P "presence_in" 297 (.ref 91),F5 P "shown_in" 303 (.ref 96),F5 P "text_of" 309 (.ref 101),F5 P "places_in" 322 (.ref 108)]
noncomputable def owM2 (P:FG):List zO:=[F5 P "anchored" 330 (.ref 115),F5 P "anchor_at" 341 (.ref 122),F5 P "mark_deeds" 347 (.ref 127),F5 P "marks_of" 358 (.ref 134),F5 P "mark_named" 367 (.ref 141),F5 P "names_holding" 373 (.ref 146),F5 P "cuts_of" 381 (.ref 151),F5 P "pieces" 395 (.ref 158),F5 P "bare" 406 (.ref 165),F5 P "holds" 414 (.ref 172),F5 P "cross" 422 (.ref 179)]
noncomputable def owM3 (P:FG):List zO:=[F5 P "crossing" 428 (.ref 184),F5 P "inner_of" 434 (.ref 189),F5 P "widest" 440 (.ref 194),F5 P "_law_cell" 450 (.ref 201),F5 P "_law_drawn" 460 (.ref 208),F5 P "_law_names" 471 (.ref 215),F5 P "_law_words" 477 (.ref 220),F5 P "_law_signs" 483 (.ref 225),F5 P "_law_anchor" 493 (.ref 232),F5 P "_law_deed" 499 (.ref 237),F5 P "_law_book" 505 (.ref 242)]
noncomputable def owM4 (P:FG):List zO:=[F5 P "law" 511 (.ref 247)]
noncomputable def ownK (P:FG):xI :=
 (nat_lit 3,⟨.type "dict",none,.dict (owM0 P++owM1 P++owM2 P++owM3 P++owM4 P).toArray 45,#[]⟩) ::
 (nat_lit 20,Q5 2 191 3 1 15 (.ref 17) (.ref 18) (.ref 19) 195) ::
 (nat_lit 21,Q4 2 (.str "staymark.deeds" 187) 20) ::
 (nat_lit 30,⟨.type "dict",none,.dict #[F5 P "__module__" 207 (.str "staymark.errors" 198),F5 P "__firstlineno__" 211 (.int 6 210),F5 P "__static_attributes__" 212 (.ref 29),F5 P "__weakref__" 214 (.ref 32),F5 P "__doc__" 215 .none] 3,#[]⟩) ::
 (nat_lit 31,⟨.type "type",none,.cls { name := "MarkError",qualname := "MarkError",bases:=[.type "ValueError"],mro:=[.ref 31,.type "ValueError",.type "Exception",.type "BaseException",.type "object"],ns:=30,hasDict:=true,subclasses:=[.ref 44,.ref 56],abstract:=false,hasDel:=false },#[some (.ref 22),none,some (.str "MarkError" 200),some (.str "MarkError" 208),some (.builtin "ValueError.__new__"),some (.bool true)]⟩) ::
 (nat_lit 43,⟨.type "dict",none,.dict #[F5 P "__module__" 225 (.str "staymark.errors" 198),F5 P "__firstlineno__" 229 (.int 8 228),F5 P "__static_attributes__" 230 (.ref 42),F5 P "__doc__" 231 .none] 2,#[]⟩) ::
 (nat_lit 44,⟨.type "type",none,.cls { name := "NoPlace",qualname := "NoPlace",bases:=[.ref 31],mro:=[.ref 44,.ref 31,.type "ValueError",.type "Exception",.type "BaseException",.type "object"],ns:=43,hasDict:=true,subclasses:=[],abstract:=false,hasDel:=false },#[some (.ref 35),none,some (.str "NoPlace" 218),some (.str "NoPlace" 226),some (.builtin "ValueError.__new__"),some (.bool true)]⟩) ::
 (nat_lit 55,⟨.type "dict",none,.dict #[F5 P "__module__" 241 (.str "staymark.errors" 198),F5 P "__firstlineno__" 245 (.int 10 244),F5 P "__static_attributes__" 246 (.ref 54),F5 P "__doc__" 247 .none] 2,#[]⟩) ::
 (nat_lit 56,⟨.type "type",none,.cls { name := "NoName",qualname := "NoName",bases:=[.ref 31],mro:=[.ref 56,.ref 31,.type "ValueError",.type "Exception",.type "BaseException",.type "object"],ns:=55,hasDict:=true,subclasses:=[],abstract:=false,hasDel:=false },#[some (.ref 47),none,some (.str "NoName" 234),some (.str "NoName" 242),some (.builtin "ValueError.__new__"),some (.bool true)]⟩) ::
 (nat_lit 64,Q5 8 252 13 1 59 (.ref 61) (.ref 62) (.ref 63) 258) ::
 (nat_lit 65,Q4 8 (.str "staymark.orders" 250) 64) ::
 (nat_lit 69,Q5 9 261 19 1 66 .none .none (.ref 68) 264) ::
 (nat_lit 70,Q4 9 (.str "staymark.orders" 250) 69) ::
 (nat_lit 76,Q5 10 267 33 1 71 (.ref 73) (.ref 74) (.ref 75) 273) ::
 (nat_lit 77,Q4 10 (.str "staymark.orders" 250) 76) ::
 (nat_lit 83,Q5 11 276 39 2 78 (.ref 80) (.ref 81) (.ref 82) 284) ::
 (nat_lit 84,Q4 11 (.str "staymark.orders" 250) 83) ::
 (nat_lit 90,Q5 12 287 46 1 85 (.ref 87) (.ref 88) (.ref 89) 295) ::
 (nat_lit 91,Q4 12 (.str "staymark.orders" 250) 90) ::
 (nat_lit 95,Q5 13 298 53 1 92 .none .none (.ref 94) 301) ::
 (nat_lit 96,Q4 13 (.str "staymark.orders" 250) 95) ::
 (nat_lit 100,Q5 14 304 55 1 97 .none .none (.ref 99) 307) ::
 (nat_lit 101,Q4 14 (.str "staymark.orders" 250) 100) ::
 (nat_lit 107,Q5 16 312 58 1 102 (.ref 104) (.ref 105) (.ref 106) 320) ::
 (nat_lit 108,Q4 16 (.str "staymark.marks" 310) 107) ::
 (nat_lit 114,Q5 17 323 68 2 109 (.ref 111) (.ref 112) (.ref 113) 328) ::
 (nat_lit 115,Q4 17 (.str "staymark.marks" 310) 114) ::
 (nat_lit 121,Q5 18 331 70 3 116 (.ref 118) (.ref 119) (.ref 120) 339) ::
 (nat_lit 122,Q4 18 (.str "staymark.marks" 310) 121) ::
 (nat_lit 126,Q5 19 342 78 1 123 .none .none (.ref 125) 345) ::
 (nat_lit 127,Q4 19 (.str "staymark.marks" 310) 126) ::
 (nat_lit 133,Q5 20 348 85 1 128 (.ref 130) (.ref 131) (.ref 132) 356) ::
 (nat_lit 134,Q4 20 (.str "staymark.marks" 310) 133) ::
 (nat_lit 140,Q5 21 359 92 2 135 (.ref 137) (.ref 138) (.ref 139) 365) ::
 (nat_lit 141,Q4 21 (.str "staymark.marks" 310) 140) ::
 (nat_lit 145,Q5 22 368 97 3 142 .none .none (.ref 144) 371) ::
 (nat_lit 146,Q4 22 (.str "staymark.marks" 310) 145) ::
 (nat_lit 150,Q5 24 376 100 2 147 .none .none (.ref 149) 379) ::
 (nat_lit 151,Q4 24 (.str "staymark.stretches" 374) 150) ::
 (nat_lit 157,Q5 25 382 104 1 152 (.ref 154) (.ref 155) (.ref 156) 393) ::
 (nat_lit 158,Q4 25 (.str "staymark.stretches" 374) 157) ::
 (nat_lit 164,Q5 26 396 114 1 159 (.ref 161) (.ref 162) (.ref 163) 404) ::
 (nat_lit 165,Q4 26 (.str "staymark.stretches" 374) 164) ::
 (nat_lit 171,Q5 27 407 125 2 166 (.ref 168) (.ref 169) (.ref 170) 412) ::
 (nat_lit 172,Q4 27 (.str "staymark.stretches" 374) 171) ::
 (nat_lit 178,Q5 28 415 127 2 173 (.ref 175) (.ref 176) (.ref 177) 420) ::
 (nat_lit 179,Q4 28 (.str "staymark.stretches" 374) 178) ::
 (nat_lit 183,Q5 29 423 131 1 180 .none .none (.ref 182) 426) ::
 (nat_lit 184,Q4 29 (.str "staymark.stretches" 374) 183) ::
 (nat_lit 188,Q5 30 429 137 2 185 .none .none (.ref 187) 432) ::
 (nat_lit 189,Q4 30 (.str "staymark.stretches" 374) 188) ::
 (nat_lit 193,Q5 31 435 141 1 190 .none .none (.ref 192) 438) ::
 (nat_lit 194,Q4 31 (.str "staymark.stretches" 374) 193) ::
 (nat_lit 200,Q5 33 443 148 2 195 (.ref 197) (.ref 198) (.ref 199) 448) ::
 (nat_lit 201,Q4 33 (.str "law_staymark_k32_whole_counts" 441) 200) ::
 (nat_lit 207,Q5 34 451 152 3 202 (.ref 204) (.ref 205) (.ref 206) 458) ::
 (nat_lit 208,Q4 34 (.str "law_staymark_k32_whole_counts" 441) 207) ::
 (nat_lit 214,Q5 35 461 156 2 209 (.ref 211) (.ref 212) (.ref 213) 469) ::
 (nat_lit 215,Q4 35 (.str "law_staymark_k32_whole_counts" 441) 214) ::
 (nat_lit 219,Q5 36 472 162 2 216 .none .none (.ref 218) 475) ::
 (nat_lit 220,Q4 36 (.str "law_staymark_k32_whole_counts" 441) 219) ::
 (nat_lit 224,Q5 37 478 164 1 221 .none .none (.ref 223) 481) ::
 (nat_lit 225,Q4 37 (.str "law_staymark_k32_whole_counts" 441) 224) ::
 (nat_lit 231,Q5 38 484 170 3 226 (.ref 228) (.ref 229) (.ref 230) 491) ::
 (nat_lit 232,Q4 38 (.str "law_staymark_k32_whole_counts" 441) 231) ::
 (nat_lit 236,Q5 39 494 173 5 233 .none .none (.ref 235) 497) ::
 (nat_lit 237,Q4 39 (.str "law_staymark_k32_whole_counts" 441) 236) ::
 (nat_lit 241,Q5 40 500 188 4 238 .none .none (.ref 240) 503) ::
 (nat_lit 242,Q4 40 (.str "law_staymark_k32_whole_counts" 441) 241) ::
 (nat_lit 246,Q5 41 506 200 1 243 .none .none (.ref 245) 509) ::
 (nat_lit 247,Q4 41 (.str "law_staymark_k32_whole_counts" 441) 246)::[]
end Sm
set_option maxRecDepth 100000 in
set_option maxHeartbeats 0 in
theorem PySem.Challenge.cw_staymark_k32_whole_counts_holds : PySem.Challenge.rw_staymark_k32_whole_counts.Holds := by
 w_on; o_law; o_head (PySem.W.kHook Sm.ownK [3,20,21,30,31,43,44,55,56,64,65,69,70,76,77,83,84,90,91,95,96,100,101,107,108,114,115,121,122,126,127,133,134,140,141,145,146,150,151,157,158,164,165,171,172,178,179,183,184,188,189,193,194,200,201,207,208,214,215,219,220,224,225,231,232,236,237,241,242,246,247] (fun _=>by kernel_rfl)); (case hw=>w_witness2)
 k_fill
 refine Sm.walkD (l:=PySem.Challenge.rw_staymark_k32_whole_counts) rfl rfl rfl (fun w h Y=>PySem.W.kIn_of Y) (fun w=>?hK) ?F Sm.kD
 case hK=>kernel_rfl
 case F =>
   intro w mg h KX G; refine' ⟨⟨?b0,?b1,?b2,?b3,?b4,?b5,?b6,?b7,?b8,?b9,?b10,?c0⟩,⟨?d31,?d0,?d1,?d2,?d3,?d4,?d5,?d6,?d7,?d8,?d9,?d10,?d11,?d12,?d13,?d14,?d15,?d16,?d17,?d18,?d19,?d20,?d21,?d22,?d23,?d24,?d25,?d26,?d27,?d28,?d29,?d30⟩⟩
   case b0 | b1 | b2 | b3 | b4 | b5 | b6 | b7 | b8 | b9 | b10=>exact PySem.W.mg_none_of KX G (by k_is)
   case c0=>exact ⟨_,(PySem.W.mg_of KX G (by k_is)).trans rfl⟩
   case d0 | d1 | d2 | d3 | d5 | d6 | d7 | d8 | d11 | d12 | d16 | d17 | d20 | d22 | d27 | d31=>exact Sm.qX KX G (by k_is) (by k_is) (by k_is) (by k_is) (fun _ _ _ _ _ _ _=>rfl) rfl
   case d4 | d9 | d13 | d15 | d18 | d19 | d21 | d23 | d25 | d26=>exact Sm.qW KX G (by k_is) (by k_is) (by k_is) (by k_is) (fun _ _ _ _ _ _ _ _=>rfl) rfl
   case d10 | d14 | d24 | d28=>exact Sm.qV KX G (by k_is) (by k_is) (by k_is) (by k_is) (fun _ _ _ _ _ _ _ _ _=>rfl) rfl
   case d29=>exact Sm.qT KX G (by k_is) (by k_is) (by k_is) (by k_is) (fun _ _ _ _ _ _ _ _ _ _ _=>rfl) rfl
   case d30=>exact Sm.qU KX G (by k_is) (by k_is) (by k_is) (by k_is) (fun _ _ _ _ _ _ _ _ _ _=>rfl) rfl
